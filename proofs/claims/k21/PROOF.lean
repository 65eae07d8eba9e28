import PyProof.Rows.All
import Wide.All
import OpenK.AllK
import Wide.FinOn
import Lean
import PyProof.EqAt
import PyProof.EqKinds
import PyProof.TupleCall
import PySem.Challenge.RW_playboard_k21_by_followers
set_option Elab.async false
set_option linter.all false
set_option maxRecDepth 100000
set_option maxHeartbeats 4000000
namespace L2
open PySem PySem.Spec PyProof.Rows
abbrev Key := Sum Int Str
def keyIs : Key → Value → Bool
  | .inl k, v => Value.isInt k v
  | .inr x, v => Value.isStrOf x v
def keyH (w : World) : Key → Int
  | .inl k => hashInt k
  | .inr x => hashStr w x
theorem keyIs_shape : ∀ {k : Key} {v : Value}, keyIs k v = true → (∃ i t, k = Sum.inl i ∧ v = Value.int i t) ∨ (∃ x t, k = Sum.inr x ∧ v = Value.str x t)
  | .inl i, v, h => by
    obtain ⟨t, e⟩ := Value.isInt_shape (k := i) (v := v) h
    exact .inl ⟨i, t, rfl, e⟩
  | .inr x, v, h => by
    obtain ⟨t, e⟩ := Value.isStrOf_shape (x := x) (v := v) h
    exact .inr ⟨x, t, rfl, e⟩
theorem keyIs_int (i : Int) (t : Tok) : keyIs (.inl i) (.int i t) = true := by simp [keyIs, Value.isInt]
theorem keyIs_str (x : Str) (t : Tok) : keyIs (.inr x) (.str x t) = true := by simp [keyIs, Value.isStrOf]
theorem key_ll (a b : Int) : decide ((Sum.inl a : Key) = Sum.inl b) = (a == b) := by
  by_cases e : a = b
  · subst e; simp
  · have h : ¬ (Sum.inl a : Key) = Sum.inl b := fun q => e (Sum.inl.inj q)
    rw [decide_eq_false h]
    exact (beq_eq_false_iff_ne.mpr e).symm
theorem key_rr (a b : Str) : decide ((Sum.inr a : Key) = Sum.inr b) = decide (a = b) := by
  by_cases e : a = b
  · subst e; simp
  · have h : ¬ (Sum.inr a : Key) = Sum.inr b := fun q => e (Sum.inr.inj q)
    rw [decide_eq_false h, decide_eq_false e]
theorem key_lr (a : Int) (b : Str) : decide ((Sum.inl a : Key) = Sum.inr b) = false := decide_eq_false (fun q => nomatch q)
theorem key_rl (a : Str) (b : Int) : decide ((Sum.inr a : Key) = Sum.inl b) = false := decide_eq_false (fun q => nomatch q)
def mixKind (prog : Program) (w : World) : PySem.KeyKind prog w Key where
  is := keyIs
  hash := keyH w
  inj := fun v a b ha hb => by
    rcases keyIs_shape ha with ⟨i, t, rfl, rfl⟩ | ⟨x, t, rfl, rfl⟩
    · rcases keyIs_shape hb with ⟨j, u, rfl, e⟩ | ⟨y, u, rfl, e⟩
      · injection e with e1 _; rw [e1]
      · exact nomatch e
    · rcases keyIs_shape hb with ⟨j, u, rfl, e⟩ | ⟨y, u, rfl, e⟩
      · exact nomatch e
      · injection e with e1 _; rw [e1]
  byValue := fun k v h => by
    rcases keyIs_shape h with ⟨i, t, rfl, rfl⟩ | ⟨x, t, rfl, rfl⟩ <;> rfl
  pyHash := fun hv h => by
    rcases keyIs_shape hv with ⟨i, t, rfl, rfl⟩ | ⟨x, t, rfl, rfl⟩
    · exact wpAny_pyHash_int h
    · exact wpAny_pyHash_str h
  eqBool := fun hu hv h => by
    rcases keyIs_shape hu with ⟨i, t, rfl, rfl⟩ | ⟨x, t, rfl, rfl⟩
    · rcases keyIs_shape hv with ⟨j, u, rfl, rfl⟩ | ⟨y, u, rfl, rfl⟩
      · rw [key_ll] at h; exact wpAny_eqBool_int h
      · rw [key_lr] at h; exact SeqAt.EqAt.int_str i t y u _ _ _ _ h
    · rcases keyIs_shape hv with ⟨j, u, rfl, rfl⟩ | ⟨y, u, rfl, rfl⟩
      · rw [key_rl] at h; exact SeqAt.EqAt.str_int x t j u _ _ _ _ h
      · rw [key_rr] at h; exact wpAny_eqBool_str h
  «strs» := fun k x t v h => by
    rcases keyIs_shape h with ⟨i, u, rfl, e⟩ | ⟨y, u, rfl, e⟩
    · exact nomatch e
    · injection e with e1 _
      subst e1
      cases v <;> rfl
theorem mixKind_int (prog : Program) (w : World) (i : Int) (t : Tok) : (mixKind prog w).is (.inl i) (.int i t) = true := keyIs_int i t
theorem mixKind_str (prog : Program) (w : World) (x : Str) (t : Tok) : (mixKind prog w).is (.inr x) (.str x t) = true := keyIs_str x t
end L2
namespace L2
open PySem PySem.Spec PyProof.Rows
inductive V where
  | non | bl (b : Bool) | int (i : Int) | str (x : Str) | byt (b : Array UInt8) | flt (b : UInt64) | ref (a : Addr) | ty (n : String)
  deriving DecidableEq
def RelV : V → Value → Prop
  | .non, u => u = Value.none
  | .bl b, u => u = Value.bool b
  | .int i, u => ∃ t, u = Value.int i t
  | .str x, u => ∃ t, u = Value.str x t
  | .byt b, u => ∃ t, u = Value.bytes b t
  | .flt b, u => ∃ t, u = Value.float b t
  | .ref a, u => u = Value.ref a
  | .ty n, u => u = Value.type n
abbrev Vals : List V → List Value → Prop := Paired RelV
theorem Vals.length {xs : List V} {us : List Value} (r : Vals xs us) : xs.length = us.length := Paired.length r
theorem Vals.get : ∀ {xs : List V} {us : List Value} {i : Nat} {x : V}, Vals xs us → xs[i]? = some x → ∃ u, us[i]? = some u ∧ RelV x u
  | _, _, _, _, .nil, e => by simp at e
  | _, _, 0, _, .cons r _, e => by simp at e; subst e; exact ⟨_, rfl, r⟩
  | _, _, i + 1, x, .cons _ t, e => by
    obtain ⟨u, h1, h2⟩ := Vals.get (i := i) (x := x) t (by simpa using e)
    exact ⟨u, by simpa using h1, h2⟩
theorem Vals.set {x : V} {u : Value} (r : RelV x u) : ∀ {xs : List V} {us : List Value} (i : Nat), Vals xs us → Vals (xs.set i x) (us.set i u)
  | _, _, _, .nil => .nil
  | _, _, 0, .cons _ t => .cons r t
  | _, _, i + 1, .cons q t => .cons q (Vals.set r i t)
theorem Vals.append : ∀ {xs ys : List V} {us ws : List Value}, Vals xs us → Vals ys ws → Vals (xs ++ ys) (us ++ ws)
  | _, _, _, _, .nil, s => s
  | _, _, _, _, .cons r t, s => .cons r (Vals.append t s)
theorem Vals.take : ∀ {xs : List V} {us : List Value} (n : Nat), Vals xs us → Vals (xs.take n) (us.take n)
  | _, _, 0, _ => .nil
  | _, _, _ + 1, .nil => .nil
  | _, _, n + 1, .cons r t => .cons r (Vals.take n t)
theorem Vals.drop : ∀ {xs : List V} {us : List Value} (n : Nat), Vals xs us → Vals (xs.drop n) (us.drop n)
  | _, _, 0, r => r
  | _, _, _ + 1, .nil => .nil
  | _, _, n + 1, .cons _ t => Vals.drop n t
theorem Vals.none_of : ∀ {xs : List V} {us : List Value} {i : Nat}, Vals xs us → xs[i]? = none → us[i]? = none := fun {xs us i} r e => by
  have h1 := r.length
  have h2 : xs.length ≤ i := List.getElem?_eq_none_iff.mp e
  exact List.getElem?_eq_none_iff.mpr (by omega)
def RelO : Option V → Option Value → Prop
  | some v, some u => RelV v u
  | none, none => True
  | _, _ => False
def KV {κ : Type} : List (κ × V) → List (κ × Value) → Prop := Paired fun (p : κ × V) (q : κ × Value) => p.1 = q.1 ∧ RelV p.2 q.2
def kV : Key → V
  | .inl i => .int i
  | .inr x => .str x
inductive HO where
  | lst (xs : List V)
  | tup (xs : List V)
  | dK (kvs : List (Key × V)) | dT (kvs : List (List Key × V))
  | set (S : Int → Bool) (n : Nat)
  | ins (C dx : Addr) (fs : List (Str × V))
  | own (x : Addr)
  | xd (fs : List (Str × V))
  | met (f x : Addr)
  | rng (lo hi : Int)
  | frz (o : Obj) (u : HO)
  | tbl (ps : Array Value)
  | ext (φ : Heap → Prop)
abbrev Hp := Addr → Option HO
def upd (H : Hp) (a : Addr) (o : HO) : Hp := fun b => if b = a then some o else H b
theorem upd_same {H : Hp} {a : Addr} {o : HO} : upd H a o a = some o := by unfold upd; rw [if_pos rfl]
theorem upd_ne {H : Hp} {a b : Addr} {o : HO} (h : b ≠ a) : upd H a o b = H b := by unfold upd; rw [if_neg h]
theorem upd_upd {H : Hp} {a : Addr} {o u : HO} : upd (upd H a o) a u = upd H a u := by
  funext b; unfold upd; split <;> rfl
theorem ne_of_none {H : Hp} {a b : Addr} {o : HO} (h : H a = some o) (h' : H b = none) : a ≠ b := by
  intro e; subst e; rw [h] at h'; cases h'
section
variable (P : Program) (w : World)
def ObjOk (H : Hp) (h : Heap) (a : Addr) : HO → Prop
  | .lst xs => xs.length ≤ sizeLine ∧ ∃ (its : List Value) (n : Nat), Vals xs its ∧ h.get? a = some { cls := .type "list", data := .seq its.toArray n }
  | .tup xs => xs.length ≤ sizeLine ∧ ∃ its : List Value, Vals xs its ∧ IsTup h a its.toArray
  | .dK kvs => kvs.length ≤ sizeLine ∧ (a == sysModules) = false ∧ ∃ vs, KV kvs vs ∧ h.DictOf (mixKind P w) a vs
  | .dT kvs => kvs.length ≤ sizeLine ∧ (a == sysModules) = false ∧ ∃ xs : List (List Key × Addr × Value),
      Paired (fun (p : List Key × V) (q : List Key × Addr × Value) => p.1 = q.1 ∧ H q.2.1 = some (.tup (p.1.map kV)) ∧ RelV p.2 q.2.2) kvs xs ∧
      ∃ o es ep, h.get? a = some o ∧ o.ExactDict ∧ o.data = .dict es ep ∧ es.toList = xs.map (entryOfKey (tupleKind (mixKind P w))) ∧ (xs.map (·.1)).Nodup
  | .set S n => h.SetOf (intKind P w) a S n
  | .ins C dx fs => H dx = some (.own a) ∧ fs.length ≤ 1000 ∧ dx ≠ a ∧ h.get? a = some (PySem.W.instObj C dx) ∧
      ∃ mA, h.Ns1 dx mA ∧ (∀ f, RelO (fs.lookup f) (mA f)) ∧ PySem.Within mA (fs.map (·.1))
  | .own _ => ∃ o, h.get? a = some o
  | .xd fs => ∃ mA, h.Ns1 a mA ∧ ∀ f, RelO (fs.lookup f) (mA f)
  | .rng lo hi => ∃ t u v, h.get? a = some { cls := .type "range", data := .fields #[.int lo t, .int hi u, .int 1 v] }
  | .frz o u => h.get? a = some o ∧ ObjOk H h a u
  | .tbl ps => h.get? a = some { cls := .none, data := .fields ps }
  | .met f x => h.get? a = some (PySem.W.methodObj (.ref f) (.ref x))
  | .ext φ => φ h ∧ (∃ o, h.get? a = some o) ∧ ∀ h1 h2 : Heap, φ h1 → (∀ o, h1.get? a = some o → h2.get? a = some o) → φ h2
def HOk (H : Hp) (h : Heap) : Prop := ∀ a o, H a = some o → ObjOk P w H h a o
end
section
variable {P : Program} {w : World} {H H' : Hp} {h h' : Heap} {a : Addr} {o : HO}
theorem ObjOk.lt (x : ObjOk P w H h a o) : a < h.objs.size := by
  cases o with
  | lst xs => obtain ⟨_, _, _, _, e⟩ := x; exact Heap.lt_size e
  | tup xs => obtain ⟨_, _, _, p⟩ := x; exact p.lt
  | dK kvs => obtain ⟨_, _, _, _, o, _, _, e, _⟩ := x; exact Heap.lt_size e
  | dT kvs => obtain ⟨_, _, _, _, o, _, _, e, _⟩ := x; exact Heap.lt_size e
  | set S n => obtain ⟨o, _, _, _, e, _⟩ := x; exact Heap.lt_size e
  | ins C dx fs => obtain ⟨_, _, _, e, _⟩ := x; exact Heap.lt_size e
  | own y => obtain ⟨_, e⟩ := x; exact Heap.lt_size e
  | xd fs => obtain ⟨_, ⟨_, _, _, e, _⟩, _⟩ := x; exact Heap.lt_size e
  | rng lo hi => obtain ⟨_, _, _, e⟩ := x; exact Heap.lt_size e
  | frz ob u => obtain ⟨e, _⟩ := x; exact Heap.lt_size e
  | tbl ps => exact Heap.lt_size (show h.get? a = some _ from x)
  | met f y => exact Heap.lt_size (show h.get? a = some _ from x)
  | ext φ => obtain ⟨_, ⟨_, e⟩, _⟩ := x; exact Heap.lt_size e
theorem Paired.mapP {α β : Type} {F G : α → β → Prop} : ∀ {l₁ : List α} {l₂ : List β}, Paired F l₁ l₂ → (∀ a b, F a b → G a b) → Paired G l₁ l₂
  | _, _, .nil, _ => .nil
  | _, _, .cons r t, f => .cons (f _ _ r) (Paired.mapP t f)
theorem ObjOk.stay (x : ObjOk P w H h a o) (k : ∀ b u, (b = a ∨ H b = some (.own a)) → h.get? b = some u → h'.get? b = some u)
    (ho : ∀ b, H b = some (.own a) → H' b = some (.own a)) (ht : ∀ b xs, H b = some (.tup xs) → H' b = some (.tup xs)) : ObjOk P w H' h' a o := by
  induction o with
  | lst xs => obtain ⟨z, its, n, r, e⟩ := x; exact ⟨z, its, n, r, k _ _ (.inl rfl) e⟩
  | tup xs => obtain ⟨z, its, r, ob, e, c⟩ := x; exact ⟨z, its, r, ob, k _ _ (.inl rfl) e, c⟩
  | dK kvs => obtain ⟨z, y, vs, r, ob, es, ep, e, c⟩ := x; exact ⟨z, y, vs, r, ob, es, ep, k _ _ (.inl rfl) e, c⟩
  | dT kvs =>
    obtain ⟨z, y, xs, r, ob, es, ep, e, c⟩ := x
    exact ⟨z, y, xs, Paired.mapP r fun p q z => ⟨z.1, ht _ _ z.2.1, z.2.2⟩, ob, es, ep, k _ _ (.inl rfl) e, c⟩
  | set S n => obtain ⟨ob, es, ep, t, e, c⟩ := x; exact ⟨ob, es, ep, t, k _ _ (.inl rfl) e, c⟩
  | ins C dx fs =>
    obtain ⟨d, z, ne, e, mA, ⟨od, es, ep, e2, c⟩, r⟩ := x
    exact ⟨ho _ d, z, ne, k _ _ (.inl rfl) e, mA, ⟨od, es, ep, k _ _ (.inr d) e2, c⟩, r⟩
  | own y => obtain ⟨ob, e⟩ := x; exact ⟨ob, k _ _ (.inl rfl) e⟩
  | xd fs => obtain ⟨mA, ⟨od, es, ep, e, c⟩, r⟩ := x; exact ⟨mA, ⟨od, es, ep, k _ _ (.inl rfl) e, c⟩, r⟩
  | rng lo hi => obtain ⟨t, u, v, e⟩ := x; exact ⟨t, u, v, k _ _ (.inl rfl) e⟩
  | frz ob u ih => obtain ⟨e, q⟩ := x; exact ⟨k _ _ (.inl rfl) e, ih q⟩
  | tbl ps =>
    have e : h.get? a = some { cls := .none, data := .fields ps } := x
    show h'.get? a = some { cls := .none, data := .fields ps }
    exact k a _ (.inl rfl) e
  | met f y =>
    have e : h.get? a = some (PySem.W.methodObj (.ref f) (.ref y)) := x
    show h'.get? a = some (PySem.W.methodObj (.ref f) (.ref y))
    exact k a _ (.inl rfl) e
  | ext φ => obtain ⟨p, ⟨o, e⟩, st⟩ := x; exact ⟨st _ _ p fun o q => k _ _ (.inl rfl) q, ⟨o, k _ _ (.inl rfl) e⟩, st⟩
theorem HOk.lt (x : HOk P w H h) (e : H a = some o) : a < h.objs.size := (x a o e).lt
theorem HOk.fresh (x : HOk P w H h) (e : h.objs.size ≤ a) : H a = none := by
  cases q : H a with
  | none => rfl
  | some u => exact absurd (Nat.lt_of_lt_of_le (x.lt q) e) (Nat.lt_irrefl _)
theorem HOk.kept (x : HOk P w H h) (k : ∀ b u, h.get? b = some u → h'.get? b = some u) : HOk P w H h' := fun a o e =>
  (x a o e).stay (fun b u _ q => k b u q) (fun _ q => q) fun _ _ q => q
theorem HOk.laid (x : HOk P w H h) (k : ∀ b u, h.get? b = some u → h'.get? b = some u) (hp : h.objs.size ≤ a) (new : ObjOk P w (upd H a o) h' a o) : HOk P w (upd H a o) h' := fun b u e => by
  have hn := x.fresh hp
  by_cases hb : b = a
  · subst hb; rw [upd_same] at e; cases e; exact new
  · rw [upd_ne hb] at e
    exact (x b u e).stay (fun c v _ q => k c v q) (fun c q => by rw [upd_ne (ne_of_none q hn)]; exact q) fun c xs q => by rw [upd_ne (ne_of_none q hn)]; exact q
end
def Rd (H : Hp) (a : Addr) (u : HO) : Prop := H a = some u ∨ ∃ o, H a = some (.frz o u)
theorem Rd.of {H : Hp} {a : Addr} {u : HO} (h : H a = some u) : Rd H a u := .inl h
theorem Rd.ok {P : Program} {w : World} {H : Hp} {h : Heap} {a : Addr} {u : HO} (r : Rd H a u) (x : HOk P w H h) : ObjOk P w H h a u := by
  rcases r with r | ⟨o, r⟩
  · exact x a u r
  · obtain ⟨_, q⟩ := x a _ r
    exact q
def Mut : Option HO → Prop
  | some (.lst _) => True
  | some (.dK _) => True
  | some (.dT _) => True
  | some (.set _ _) => True
  | some (.ins _ _ _) => True
  | some (.ext _) => True
  | _ => False
section
variable {P : Program} {w : World} {H : Hp} {h h' : Heap} {x e : Addr} {o' : HO}
theorem HOk.write (ok : HOk P w H h) (mu : Mut (H x)) (he : e = x ∨ H e = some (.own x)) (k : ∀ b u, b ≠ e → h.get? b = some u → h'.get? b = some u) (heo : ∃ u, h'.get? e = some u)
    (new : ObjOk P w (upd H x o') h' x o') : HOk P w (upd H x o') h' := fun b u q => by
  have nown : ∀ c y, H c = some (.own y) → c ≠ x := fun c y r z => by subst z; rw [r] at mu; exact mu
  have ntup : ∀ c xs, H c = some (.tup xs) → c ≠ x := fun c xs r z => by subst z; rw [r] at mu; exact mu
  by_cases hb : b = x
  · subst hb; rw [upd_same] at q; cases q; exact new
  · rw [upd_ne hb] at q
    by_cases hbe : b = e
    · have q' : H b = some (.own x) := by
        rcases he with z | z
        · exact absurd (hbe.trans z) hb
        · rw [hbe]; exact z
      rw [q] at q'; cases q'
      obtain ⟨v, hv⟩ := heo
      exact ⟨v, by rw [hbe]; exact hv⟩
    · refine (ok b u q).stay (fun c v hc r => k c v ?_ r) (fun c r => by rw [upd_ne (nown c b r)]; exact r) fun c xs r => by rw [upd_ne (ntup c xs r)]; exact r
      rcases hc with rfl | hc
      · exact hbe
      · rintro rfl
        rcases he with z | z
        · exact nown c b hc z
        · rw [hc] at z; cases z; exact hb rfl
end
structure Un (fs ex : List Addr) (H H' : Hp) (h h' : Heap) : Prop where
  keep : ∀ b o, h.get? b = some o → H b = none → b ∉ fs → b ∉ ex → h'.get? b = some o
  slot : ∀ b o, h.get? b = some o → H b = none → b ∈ fs → b ∉ ex → ∃ sl, h'.get? b = some { o with slots := sl }
  free : ∀ b o, h.get? b = some o → H b = none → b ∉ ex → H' b = none
  there : ∀ b o, h.get? b = some o → b ∉ ex → ∃ o', h'.get? b = some o'
  tups : ∀ b xs, H b = some (.tup xs) → H' b = some (.tup xs)
  frzs : ∀ b o u, H b = some (.frz o u) → H' b = some (.frz o u)
  tbls : ∀ b ps, H b = some (.tbl ps) → ∃ more, H' b = some (.tbl (ps ++ more))
section
variable {fs fs' ex ex' : List Addr} {H H1 H2 : Hp} {h h1 h2 h' : Heap} {a x e : Addr} {o : HO}
theorem Un.any (u : Un fs ex H H1 h h1) {b : Addr} {ob : Obj} (q : h.get? b = some ob) (n : H b = none) (hx : b ∉ ex) : ∃ sl, h1.get? b = some { ob with slots := sl } := by
  by_cases hb : b ∈ fs
  · exact u.slot b ob q n hb hx
  · exact ⟨ob.slots, u.keep b ob q n hb hx⟩
theorem Un.trans (a : Un fs ex H H1 h h1) (b : Un fs ex H1 H2 h1 h2) : Un fs ex H H2 h h2 where
  keep := fun c ob q n hc hx => b.keep c ob (a.keep c ob q n hc hx) (a.free c ob q n hx) hc hx
  slot := fun c ob q n hc hx => by
    obtain ⟨sl, e1⟩ := a.slot c ob q n hc hx
    obtain ⟨sl', e2⟩ := b.slot c _ e1 (a.free c ob q n hx) hc hx
    exact ⟨sl', e2⟩
  free := fun c ob q n hx => by
    obtain ⟨o', e1⟩ := a.there c ob q hx
    exact b.free c o' e1 (a.free c ob q n hx) hx
  there := fun c ob q hx => by
    obtain ⟨o', e1⟩ := a.there c ob q hx
    exact b.there c o' e1 hx
  tups := fun c xs q => b.tups c xs (a.tups c xs q)
  frzs := fun c ob xs q => b.frzs c ob xs (a.frzs c ob xs q)
  tbls := fun c ps q => by
    obtain ⟨m1, e1⟩ := a.tbls c ps q
    obtain ⟨m2, e2⟩ := b.tbls c _ e1
    exact ⟨m1 ++ m2, by rw [e2, Array.append_assoc]⟩
theorem Un.kept (k : ∀ b u, h.get? b = some u → h'.get? b = some u) : Un fs ex H H h h' :=
  ⟨fun b ob q _ _ _ => k b ob q, fun b ob q _ _ _ => ⟨ob.slots, k b ob q⟩, fun _ _ _ n _ => n, fun b ob q _ => ⟨ob, k b ob q⟩, fun _ _ q => q, fun _ _ _ q => q, fun _ ps q => ⟨#[], by rw [q]; simp⟩⟩
theorem Un.refl : Un fs ex H H h h := Un.kept fun _ _ q => q
theorem Un.laid (k : ∀ b u, h.get? b = some u → h'.get? b = some u) (hp : h.objs.size ≤ a) (hn : H a = none) : Un fs ex H (upd H a o) h h' where
  keep := fun b u q _ _ _ => k b u q
  slot := fun b u q _ _ _ => ⟨u.slots, k b u q⟩
  free := fun b u q n _ => by rw [upd_ne (Nat.ne_of_lt (Nat.lt_of_lt_of_le (Heap.lt_size q) hp))]; exact n
  there := fun b u q _ => ⟨u, k b u q⟩
  tups := fun b xs q => by rw [upd_ne (ne_of_none q hn)]; exact q
  frzs := fun b u xs q => by rw [upd_ne (ne_of_none q hn)]; exact q
  tbls := fun b ps q => ⟨#[], by rw [upd_ne (ne_of_none q hn), q]; simp⟩
theorem Un.write (mu : Mut (H x)) (he : e = x ∨ H e = some (.own x)) (k : ∀ b u, b ≠ e → h.get? b = some u → h'.get? b = some u) (heo : ∃ u, h'.get? e = some u) : Un fs ex H (upd H x o) h h' := by
  have hx : ∀ b, H b = none → b ≠ x := fun b n z => by subst z; rw [n] at mu; exact mu
  have hb : ∀ b, H b = none → b ≠ e := fun b n z => by
    subst z
    rcases he with r | r
    · exact hx b n r
    · rw [n] at r; cases r
  have hm : ∀ b u, H b = some u → ¬ Mut (some u) → b ≠ x := fun b u q nm z => by subst z; rw [q] at mu; exact nm mu
  refine ⟨fun b u q n _ _ => k b u (hb b n) q, fun b u q n _ _ => ⟨u.slots, k b u (hb b n) q⟩, fun b u q n _ => by rw [upd_ne (hx b n)]; exact n, fun b u q _ => ?_,
    fun b xs q => by rw [upd_ne (hm b _ q fun z => z)]; exact q, fun b u xs q => by rw [upd_ne (hm b _ q fun z => z)]; exact q, fun b ps q => ⟨#[], by rw [upd_ne (hm b _ q fun z => z), q]; simp⟩⟩
  by_cases hbe : b = e
  · subst hbe; exact heo
  · exact ⟨u, k b u hbe q⟩
theorem Un.mono (u : Un fs ex H H1 h h1) (hs : ∀ b ∈ fs, b ∈ fs') (hx : ∀ b ∈ ex, b ∈ ex') : Un fs' ex' H H1 h h1 :=
  ⟨fun b ob q n hb he => u.keep b ob q n (fun z => hb (hs b z)) fun z => he (hx b z), fun _ _ q n _ he => u.any q n fun z => he (hx _ z), fun b ob q n he => u.free b ob q n fun z => he (hx b z), fun b ob q he => u.there b ob q fun z => he (hx b z), u.tups, u.frzs, u.tbls⟩
end
def trk (h : Heap) (H : Hp) : List Addr := (List.range h.objs.size).filter fun a => (H a).isSome
def hidT (h : Heap) (H : Hp) : Heap := PySem.W.hideAll h (trk h H)
theorem hidT_size (h : Heap) (H : Hp) : (hidT h H).objs.size = h.objs.size := PySem.W.hideAll_size _ _
theorem hidT_get {h : Heap} {H : Hp} {b : Addr} {o : Obj} (e : h.get? b = some o) (n : H b = none) : (hidT h H).get? b = some o :=
  PySem.W.hideAll_get _ e fun hm => by
    have q : (H b).isSome = true := (List.mem_filter.mp hm).2
    rw [n] at q; simp at q
theorem of_hidT {h : Heap} {H : Hp} {b : Addr} {o : Obj} (e : (hidT h H).get? b = some o) : h.get? b = some o ∧ H b = none := by
  have e' : h.get? b = some o := PySem.W.of_hideAll (trk h H) e
  refine ⟨e', ?_⟩
  cases q : H b with
  | none => rfl
  | some x =>
    have hm : b ∈ trk h H := List.mem_filter.mpr ⟨List.mem_range.mpr (Heap.lt_size e'), by simp [q]⟩
    have z : (hidT h H).get? b = none := PySem.W.hideAll_none (trk h H) hm
    rw [z] at e; cases e
def allNews (g h : Heap) (L : Addr) : List (Addr × Obj) := (List.range h.objs.size).filterMap fun a => if a = L ∨ (g.get? a).isSome = true then none else (h.get? a).map fun o => (a, o)
def rest (g h : Heap) (L d : Addr) : List (Addr × Obj) := (allNews g h L).filter fun p => decide (p.1 ≠ d)
end L2
namespace L2
open PySem PySem.Spec PyProof.Rows
structure Mod (K : PySem.W.Frag) (mg : Str → Option Value) (base : Heap) : Prop where
  kin : K.In base
  glob : base.Ns mainGlobals mg
  blt : ∃ mb, base.Ns builtinsNs mb ∧ ∀ x : Str, x ≠ "__name__" → mb x = bootBuiltins x
  nolimit : base.NoLimit
structure Cx where
  prog : Program
  w : World
  K : PySem.W.Frag
  mg : Str → Option Value
  base : Heap
  A : Around
  N : List Str
  s₀ : Shared
  H₀ : Hp
  env : Env
  outer : List Env
  stack : List Env
  ex : List Addr
  fn : Str → Bool
  calm : Bool
  pn : List (Addr × Obj)
  xe : Value → Shared → Prop
def frs (l : List Env) : List Addr := l.filterMap (·.frame)
abbrev Cx.fs (X : Cx) : List Addr := frs X.outer
def Vis (sc : Scope) (x : Str) : Prop := sc.names.lookup x = some .local ∨ sc.names.lookup x = some .cell ∨ sc.names.lookup x = some .free
def Loc (sc : Scope) (x : Str) : Prop := sc.names.lookup x = some .local ∨ sc.names.lookup x = some .cell
def Look (env : Env) (h : Heap) (m : Str → Option Value) (x : Str) (u : Value) : Prop :=
  (env.kindOf x = some .local ∧ m x = some u) ∨ ((env.kindOf x = some .cell ∨ env.kindOf x = some .free) ∧ ∃ c, env.cells.lookup x = some c ∧ h.IsCell c (some u))
structure Cx.Ok (X : Cx) : Prop where
  mod : Mod X.K X.mg X.base
  kind : X.env.scope.kind = .function
  glob : X.env.globals = mainGlobals
  blt : X.env.builtins = builtinsNs
  above : X.s₀.heap.objs.size ≤ X.env.locals
  inj : ∀ x y c, X.env.cells.lookup x = some c → X.env.cells.lookup y = some c → x = y
  has : ∀ x, (X.env.kindOf x = some .cell ∨ X.env.kindOf x = some .free) → ∃ c, X.env.cells.lookup x = some c
  cab : ∀ x c, X.fn x = true → X.env.cells.lookup x = some c → X.s₀.heap.objs.size ≤ c
  hd : X.calm = true → X.A.handled = none
  frames : X.A.frames = some X.stack
  stk : X.stack = X.outer ∨ (X.stack = X.env :: X.outer ∧ X.env.frame = some X.env.locals)
  exf : ∀ b ∈ X.ex, b ≠ X.env.locals ∧ ∀ x c, X.env.cells.lookup x = some c → c ≠ b
  bs : ∀ b o, X.base.get? b = some o → X.s₀.heap.get? b = some o ∧ X.H₀ b = none
  bsz : X.base.objs.size ≤ X.s₀.heap.objs.size
  noex : ∀ b o, X.base.get? b = some o → b ∉ X.ex
  exfs : ∀ b ∈ X.ex, b ∉ X.fs
  funs : X.s₀.heap.FunFrames X.base X.outer
  frf : ∀ b ∈ X.fs, X.H₀ b = none
structure Inv (X : Cx) (pins : List (Addr × Obj)) (σ : List (Option V)) (H : Hp) (s : Shared) : Prop where
  ok : X.Ok
  os : s.os = X.s₀.os
  bare : AllBare s.gens
  base : Un X.fs X.ex X.H₀ H X.s₀.heap s.heap
  loc : ∃ m, s.heap.Ns X.env.locals m ∧ ∀ (i : Nat) (x : Str) (v : V), X.N[i]? = some x → σ[i]? = some (some v) → Vis X.env.scope x → ∃ u, RelV v u ∧ Look X.env s.heap m x u
  cell : ∀ x c, X.env.cells.lookup x = some c → ∃ v, s.heap.IsCell c v
  free : H X.env.locals = none
  freeC : ∀ x c, X.env.cells.lookup x = some c → H c = none
  pin : ∀ p ∈ X.pn ++ pins, s.heap.get? p.1 = some p.2 ∧ H p.1 = none ∧ p.1 ≠ X.env.locals ∧ p.1 ∉ X.fs ∧ ∀ v, p.2.data ≠ .cell v
  hok : HOk X.prog X.w H s.heap
  len : σ.length = X.N.length
section
variable {X : Cx} {pins : List (Addr × Obj)} {σ : List (Option V)} {H H' : Hp} {s : Shared} {h' : Heap}
theorem Cx.Ok.nofr (ok : X.Ok) {b : Addr} {o : Obj} (e : X.base.get? b = some o) : b ∉ X.fs := fun hb => by
  have := (ok.funs.mem hb).1
  rw [e] at this; cases this
theorem Inv.bs (I : Inv X pins σ H s) : ∀ b o, X.base.get? b = some o → s.heap.get? b = some o ∧ H b = none := fun b o e =>
  ⟨I.base.keep b o (I.ok.bs b o e).1 (I.ok.bs b o e).2 (I.ok.nofr e) (I.ok.noex b o e), I.base.free b o (I.ok.bs b o e).1 (I.ok.bs b o e).2 (I.ok.noex b o e)⟩
theorem Inv.bk (I : Inv X pins σ H s) : ∀ b o, X.base.get? b = some o → s.heap.get? b = some o := fun b o e => (I.bs b o e).1
theorem Inv.mod (I : Inv X pins σ H s) : Mod X.K X.mg X.base := I.ok.mod
theorem Inv.kIn (I : Inv X pins σ H s) : X.K.In s.heap := I.ok.mod.kin.keeps I.bk
theorem Inv.nolimit (I : Inv X pins σ H s) : s.heap.NoLimit := I.ok.mod.nolimit.keeps I.bk
theorem Inv.lt (I : Inv X pins σ H s) : X.env.locals < s.heap.objs.size := let ⟨_, hn, _⟩ := I.loc; hn.lt
theorem Inv.sz (I : Inv X pins σ H s) : X.s₀.heap.objs.size ≤ s.heap.objs.size := Nat.le_trans I.ok.above (Nat.le_of_lt I.lt)
theorem Inv.nofs (I : Inv X pins σ H s) {a : Addr} (h : s.heap.objs.size ≤ a) : a ∉ X.fs := fun hb => by
  obtain ⟨_, o, ho, _⟩ := I.ok.funs.mem hb
  exact absurd (Nat.lt_of_lt_of_le (Heap.lt_size ho) (Nat.le_trans I.sz h)) (Nat.lt_irrefl _)
theorem Inv.cne (I : Inv X pins σ H s) : ∀ x c, X.env.cells.lookup x = some c → c ≠ X.env.locals := fun x c e z => by
  obtain ⟨v, o, ho, hd⟩ := I.cell x c e
  obtain ⟨m, ⟨o', es, ep, ho', hd', _⟩, _⟩ := I.loc
  rw [z, ho'] at ho; cases ho; rw [hd'] at hd; cases hd
theorem Inv.funs (I : Inv X pins σ H s) : s.heap.FunFrames X.base X.outer := by
  have all : ∀ (l : List Env), (∀ b ∈ frs l, b ∈ X.fs) → X.s₀.heap.FunFrames X.base l → s.heap.FunFrames X.base l := by
    intro l
    induction l with
    | nil => intro _ _; trivial
    | cons env r ih =>
      intro hs hl
      obtain ⟨hk, ⟨L, o, hf, hn, ho, hd⟩, hr⟩ := hl
      have hL : L ∈ X.fs := hs L (by unfold frs; rw [List.filterMap_cons, hf]; exact List.mem_cons_self)
      obtain ⟨sl, e⟩ := I.base.slot L o ho (I.ok.frf L hL) hL fun z => I.ok.exfs L z hL
      exact ⟨hk, ⟨L, _, hf, hn, e, hd⟩, ih (fun b hb => hs b (by unfold frs; rw [List.filterMap_cons, hf]; exact List.mem_cons_of_mem _ hb)) hr⟩
  exact all X.outer (fun _ hb => hb) I.ok.funs
theorem Inv.stack (I : Inv X pins σ H s) : s.heap.FunFrames X.base X.stack := by
  rcases I.ok.stk with e | ⟨e, hf⟩
  · rw [e]; exact I.funs
  · rw [e]
    obtain ⟨m, hn, _⟩ := I.loc
    refine .cons (by rw [I.ok.kind]; decide) hf hn ?_ I.funs
    exact Heap.get?_none_of_le (Nat.le_trans I.ok.bsz I.ok.above)
theorem Inv.stkSub (I : Inv X pins σ H s) : ∀ b ∈ frs X.stack, b ∈ X.env.locals :: X.fs := fun b hb => by
  rcases I.ok.stk with e | ⟨e, hf⟩
  · rw [e] at hb; exact List.mem_cons_of_mem _ hb
  · rw [e] at hb
    unfold frs at hb
    rw [List.filterMap_cons, hf] at hb
    exact hb
theorem Inv.stkFree (I : Inv X pins σ H s) : ∀ b ∈ frs X.stack, H b = none := fun b hb => by
  rcases List.mem_cons.mp (I.stkSub b hb) with e | hb
  · rw [e]; exact I.free
  · obtain ⟨_, o, ho, _⟩ := I.ok.funs.mem hb
    exact I.base.free b o ho (I.ok.frf b hb) fun z => I.ok.exfs b z hb
theorem Inv.step {g' : Array GenState} {t' : Nat} {d' : Drawn} {ch : List Addr} (I : Inv X pins σ H s)
    (hch : ∀ b ∈ ch, (b ∈ X.ex ∨ X.s₀.heap.objs.size ≤ b) ∧ b ≠ X.env.locals ∧ (∀ x c, X.env.cells.lookup x = some c → c ≠ b) ∧ ∀ p ∈ X.pn ++ pins, p.1 ≠ b)
    (keep : ∀ b o, b ≠ X.env.locals → b ∉ X.fs → b ∉ ch → s.heap.get? b = some o → H b = none → h'.get? b = some o)
    (slot : ∀ b o, b ≠ X.env.locals → b ∈ X.fs → b ∉ ch → s.heap.get? b = some o → H b = none → ∃ sl, h'.get? b = some { o with slots := sl }) (free : ∀ b o, b ∉ ch → s.heap.get? b = some o → H b = none → H' b = none)
    (there : ∀ b o, b ∉ ch → s.heap.get? b = some o → ∃ o', h'.get? b = some o')
    (tups : ∀ b xs, H b = some (.tup xs) → H' b = some (.tup xs)) (frzs : ∀ b o u, H b = some (.frz o u) → H' b = some (.frz o u)) (tbls : ∀ b ps, H b = some (.tbl ps) → ∃ more, H' b = some (.tbl (ps ++ more)))
    (ns : ∀ m, s.heap.Ns X.env.locals m → h'.Ns X.env.locals m) (hok : HOk X.prog X.w H' h') (hg : AllBare g') :
    Inv X pins σ H' { s with heap := h', gens := g', drawn := d', toks := t' } := by
  have neL : ∀ b o, X.s₀.heap.get? b = some o → b ≠ X.env.locals := fun b o e => Nat.ne_of_lt (Nat.lt_of_lt_of_le (Heap.lt_size e) I.ok.above)
  have neC : ∀ b o, X.s₀.heap.get? b = some o → b ∉ X.ex → b ∉ ch := fun b o e hx hb => by
    rcases (hch b hb).1 with z | z
    · exact hx z
    · exact absurd (Nat.lt_of_lt_of_le (Heap.lt_size e) z) (Nat.lt_irrefl _)
  have cellK : ∀ x c, X.env.cells.lookup x = some c → ∀ v, s.heap.IsCell c v → h'.IsCell c v := fun x c e v ⟨o, ho, hd⟩ => by
    have nch : c ∉ ch := fun z => (hch c z).2.2.1 x c e rfl
    by_cases hc : c ∈ X.fs
    · obtain ⟨sl, q⟩ := slot c o (I.cne x c e) hc nch ho (I.freeC x c e)
      exact ⟨_, q, hd⟩
    · exact ⟨o, keep c o (I.cne x c e) hc nch ho (I.freeC x c e), hd⟩
  refine ⟨I.ok, I.os, hg, ⟨fun b o e n hb hx => ?_, fun b o e n hb hx => ?_, fun b o e n hx => ?_, fun b o e hx => ?_, fun b xs e => tups b xs (I.base.tups b xs e), fun b o xs e => frzs b o xs (I.base.frzs b o xs e), fun b ps e => ?_⟩, ?_, fun x c e => ?_, ?_, fun x c e => ?_, fun p hp => ?_, hok, I.len⟩
  · exact keep b o (neL b o e) hb (neC b o e hx) (I.base.keep b o e n hb hx) (I.base.free b o e n hx)
  · obtain ⟨sl, e1⟩ := I.base.slot b o e n hb hx
    obtain ⟨sl', e2⟩ := slot b _ (neL b o e) hb (neC b o e hx) e1 (I.base.free b o e n hx)
    exact ⟨sl', e2⟩
  · obtain ⟨o', e1⟩ := I.base.there b o e hx
    exact free b o' (neC b o e hx) e1 (I.base.free b o e n hx)
  · obtain ⟨o', e1⟩ := I.base.there b o e hx
    exact there b o' (neC b o e hx) e1
  · obtain ⟨m1, e1⟩ := I.base.tbls b ps e
    obtain ⟨m2, e2⟩ := tbls b _ e1
    exact ⟨m1 ++ m2, by rw [e2, Array.append_assoc]⟩
  · obtain ⟨m, hn, hl⟩ := I.loc
    refine ⟨m, ns m hn, fun i x v e1 e2 e3 => ?_⟩
    obtain ⟨u, r, l⟩ := hl i x v e1 e2 e3
    refine ⟨u, r, ?_⟩
    rcases l with l | ⟨k, c, e, z⟩
    · exact .inl l
    · exact .inr ⟨k, c, e, cellK x c e _ z⟩
  · obtain ⟨v, z⟩ := I.cell x c e
    exact ⟨v, cellK x c e v z⟩
  · obtain ⟨m, ⟨o, _, _, ho, _⟩, _⟩ := I.loc
    exact free _ o (fun z => (hch _ z).2.1 rfl) ho I.free
  · obtain ⟨v, o, ho, hd⟩ := I.cell x c e
    exact free c o (fun z => (hch c z).2.2.1 x c e rfl) ho (I.freeC x c e)
  · obtain ⟨e, n, ne, nf, d⟩ := I.pin p hp
    have nch : p.1 ∉ ch := fun z => (hch p.1 z).2.2.2 p hp rfl
    exact ⟨keep p.1 p.2 ne nf nch e n, free p.1 p.2 nch e n, ne, nf, d⟩
theorem Inv.un {t' : Nat} (I : Inv X pins σ H s) (u : Un X.fs [] H H' s.heap h') (hok : HOk X.prog X.w H' h') : Inv X pins σ H' { s with heap := h', toks := t' } := by
  obtain ⟨m, ⟨o, es, ep, ho, r⟩, _⟩ := id I.loc
  obtain ⟨sl, hL⟩ := u.any ho I.free (by simp)
  exact I.step (g' := s.gens) (d' := s.drawn) (ch := []) (fun _ z => nomatch z) (fun b o _ hb _ e n => u.keep b o e n hb (by simp)) (fun b o _ hb _ e n => u.slot b o e n hb (by simp)) (fun b o _ e n => u.free b o e n (by simp)) (fun b o _ e => u.there b o e (by simp)) u.tups u.frzs u.tbls (fun m' hm => by
    obtain ⟨o', es', ep', ho', r'⟩ := hm
    rw [ho] at ho'; cases ho'
    exact ⟨_, es', ep', hL, r'⟩) hok I.bare
theorem Inv.call {g' : Array GenState} {t' : Nat} {d' : Drawn} {ch : List Addr} (I : Inv X pins σ H s) (u : Un (frs X.stack) ch H H' s.heap h') (hok : HOk X.prog X.w H' h') (hg : AllBare g')
    (hch : ∀ b ∈ ch, (b ∈ X.ex ∨ X.s₀.heap.objs.size ≤ b) ∧ b ≠ X.env.locals ∧ (∀ x c, X.env.cells.lookup x = some c → c ≠ b) ∧ ∀ p ∈ X.pn ++ pins, p.1 ≠ b) :
    Inv X pins σ H' { s with heap := h', gens := g', drawn := d', toks := t' } := by
  obtain ⟨m, ⟨o, es, ep, ho, r⟩, _⟩ := id I.loc
  obtain ⟨sl, hL⟩ := u.any ho I.free fun z => (hch _ z).2.1 rfl
  exact I.step (ch := ch) hch (fun b o hL hb hc e n => u.keep b o e n (fun z => (List.mem_cons.mp (I.stkSub b z)).elim hL hb) hc) (fun b o _ _ hc e n => u.any e n hc) (fun b o hc e n => u.free b o e n hc) (fun b o hc e => u.there b o e hc) u.tups u.frzs u.tbls (fun m' hm => by
    obtain ⟨o', es', ep', ho', r'⟩ := hm
    rw [ho] at ho'; cases ho'
    exact ⟨_, es', ep', hL, r'⟩) hok hg
theorem Inv.turned {t' : Nat} {it : Addr} (I : Inv X pins σ H s) (k : ∀ b o, b ≠ it → s.heap.get? b = some o → h'.get? b = some o) (hn : H it = none) (hL : it ≠ X.env.locals)
    (h1 : it ∈ X.ex ∨ X.s₀.heap.objs.size ≤ it) (h2 : ∀ x c, X.env.cells.lookup x = some c → c ≠ it) (h3 : ∀ p ∈ X.pn ++ pins, p.1 ≠ it) : Inv X pins σ H { s with heap := h', toks := t' } := by
  have nit : ∀ b u, H b = some u → b ≠ it := fun b u e z => by rw [z, hn] at e; cases e
  refine I.step (g' := s.gens) (d' := s.drawn) (ch := [it]) (fun b hb => ?_) (fun b o _ _ hc e _ => k b o (fun z => hc (by simp [z])) e) (fun b o _ _ hc e _ => ⟨o.slots, k b o (fun z => hc (by simp [z])) e⟩) (fun _ _ _ _ n => n)
    (fun b o hc e => ⟨o, k b o (fun z => hc (by simp [z])) e⟩) (fun _ _ e => e) (fun _ _ _ e => e) (fun b ps e => ⟨#[], by rw [e]; simp⟩) (fun m hm => ?_) (fun b u e => ?_) I.bare
  · have e : b = it := by simpa using hb
    subst e
    exact ⟨h1, hL, h2, h3⟩
  · obtain ⟨o, es, ep, ho, r⟩ := hm
    exact ⟨o, es, ep, k _ o (Ne.symm hL) ho, r⟩
  · refine (I.hok b u e).stay (fun c v hc q => k c v ?_ q) (fun _ q => q) fun _ _ q => q
    rcases hc with z | z
    · rw [z]; exact nit b u e
    · exact nit c _ z
theorem Inv.tok (I : Inv X pins σ H s) (t : Nat) : Inv X pins σ H { s with toks := t } := I.un (h' := s.heap) (t' := t) Un.refl I.hok
theorem Inv.kept {t' : Nat} (I : Inv X pins σ H s) (k : ∀ b u, s.heap.get? b = some u → h'.get? b = some u) : Inv X pins σ H { s with heap := h', toks := t' } := I.un (Un.kept k) (I.hok.kept k)
theorem Inv.laid {a : Addr} {o : HO} {t' : Nat} (I : Inv X pins σ H s) (k : ∀ b u, s.heap.get? b = some u → h'.get? b = some u) (hp : s.heap.objs.size ≤ a) (new : ObjOk X.prog X.w (upd H a o) h' a o) :
    Inv X pins σ (upd H a o) { s with heap := h', toks := t' } := I.un (Un.laid k hp (I.hok.fresh hp)) (I.hok.laid k hp new)
theorem Inv.write {x e : Addr} {o : HO} {t' : Nat} (I : Inv X pins σ H s) (mu : Mut (H x)) (he : e = x ∨ H e = some (.own x)) (k : ∀ b u, b ≠ e → s.heap.get? b = some u → h'.get? b = some u) (heo : ∃ u, h'.get? e = some u)
    (new : ObjOk X.prog X.w (upd H x o) h' x o) : Inv X pins σ (upd H x o) { s with heap := h', toks := t' } := I.un (Un.write mu he k heo) (I.hok.write mu he k heo new)
theorem Inv.pins_of {pins' : List (Addr × Obj)} (I : Inv X pins σ H s) (h : ∀ p ∈ pins', s.heap.get? p.1 = some p.2 ∧ H p.1 = none ∧ p.1 ≠ X.env.locals ∧ p.1 ∉ X.fs ∧ ∀ v, p.2.data ≠ .cell v) : Inv X pins' σ H s :=
  ⟨I.ok, I.os, I.bare, I.base, I.loc, I.cell, I.free, I.freeC, fun p hp => (List.mem_append.mp hp).elim (fun z => I.pin p (List.mem_append_left _ z)) (h p), I.hok, I.len⟩
theorem nodup_ix {N : List Str} (hN : N.Nodup) {i j : Nat} {x : Str} (a : N[i]? = some x) (b : N[j]? = some x) : i = j := by
  obtain ⟨h1, e1⟩ := List.getElem?_eq_some_iff.mp a
  obtain ⟨h2, e2⟩ := List.getElem?_eq_some_iff.mp b
  exact (List.getElem_inj hN).mp (e1.trans e2.symm)
theorem store_ok2 {M : Model} {A : Around} {E : Value → Shared → Prop} {i : Nat} {x : Str} {v : V} {u : Value} {Q : Unit → Shared → Prop} (I : Inv X pins σ H s) (hN : X.N.Nodup) (hi : X.N[i]? = some x) (hx : Loc X.env.scope x) (r : RelV v u)
    (h : ∀ s', Inv X pins (σ.set i (some v)) H s' → (∃ a, Heap.SameBut a s.heap s'.heap ∧ (a = X.env.locals ∨ X.env.cells.lookup x = some a)) → Q () s') (hf : X.fn x = true ∨ X.env.scope.names.lookup x = some .local := by first | exact .inl rfl | exact .inr rfl | assumption) : wpAny M A (storeName X.env x u) Q E s := by
  obtain ⟨m, hn, hl⟩ := id I.loc
  have hcls : (X.env.scope.kind == .class || (X.env.scope.kind == .module && X.env.locals != X.env.globals)) = false := by rw [I.ok.kind]; rfl
  have hiσ : i < σ.length := by rw [I.len]; exact (List.getElem?_eq_some_iff.mp hi).1
  have cne := I.cne
  have tracked : ∀ {a : Addr} {h' : Heap}, (∃ o, s.heap.get? a = some o ∧ H a = none) → Heap.SameBut a s.heap h' → HOk X.prog X.w H h' := fun {a h'} ha hs b ob e => by
    obtain ⟨_, _, hfree⟩ := ha
    refine (I.hok b ob e).stay (fun c w' hc q => (hs.2 c ?_).trans q) (fun _ q => q) fun _ _ q => q
    rintro rfl
    rcases hc with rfl | hc
    · rw [hfree] at e; cases e
    · rw [hfree] at hc; cases hc
  rcases hx with hk | hk
  · refine wpAny_storeName_local hk hn (fun h' hn' hs => ?_) hcls
    obtain ⟨oL, _, _, hoL, _⟩ := id hn
    refine h _ ⟨I.ok, I.os, I.bare, ⟨fun b o e n hb hx => ?_, fun b o e n hb hx => ?_, I.base.free, fun b o e hx => ?_, I.base.tups, I.base.frzs, I.base.tbls⟩, ⟨_, hn', fun j y v' e1 e2 e3 => ?_⟩, fun y c e => ?_, I.free, I.freeC, fun p hp => ?_, tracked ⟨oL, hoL, I.free⟩ hs, by simpa using I.len⟩ ⟨_, hs, .inl rfl⟩
    · exact (hs.2 b (Nat.ne_of_lt (Nat.lt_of_lt_of_le (Heap.lt_size e) I.ok.above))).trans (I.base.keep b o e n hb hx)
    · obtain ⟨sl, e1⟩ := I.base.slot b o e n hb hx
      exact ⟨sl, (hs.2 b (Nat.ne_of_lt (Nat.lt_of_lt_of_le (Heap.lt_size e) I.ok.above))).trans e1⟩
    · obtain ⟨o', e1⟩ := I.base.there b o e hx
      exact ⟨o', (hs.2 b (Nat.ne_of_lt (Nat.lt_of_lt_of_le (Heap.lt_size e) I.ok.above))).trans e1⟩
    · by_cases hj : j = i
      · subst hj
        rw [hi] at e1; cases e1
        rw [List.getElem?_set_self hiσ] at e2
        cases e2
        exact ⟨u, r, .inl ⟨hk, by simp⟩⟩
      · rw [List.getElem?_set_ne (Ne.symm hj)] at e2
        obtain ⟨u', r', q⟩ := hl j y v' e1 e2 e3
        refine ⟨u', r', ?_⟩
        rcases q with ⟨k, e⟩ | ⟨k, c, e, z⟩
        · refine .inl ⟨k, ?_⟩
          have : y ≠ x := fun e => hj (nodup_ix hN e1 (e ▸ hi))
          simp [this, e]
        · exact .inr ⟨k, c, e, z.sameBut hs (cne y c e)⟩
    · obtain ⟨w', z⟩ := I.cell y c e
      exact ⟨w', z.sameBut hs (cne y c e)⟩
    · obtain ⟨e, n, ne, nf, d⟩ := I.pin p hp
      exact ⟨(hs.2 p.1 ne).trans e, n, ne, nf, d⟩
  · have hfn : X.fn x = true := by
      rcases hf with z | z
      · exact z
      · rw [z] at hk; cases hk
    obtain ⟨c, hc⟩ := I.ok.has x (.inl hk)
    obtain ⟨w', z⟩ := I.cell x c hc
    refine wpAny_storeName_cell I.ok.kind hk hc z (fun h' hc' hs => ?_)
    obtain ⟨oc, hoc, hocd⟩ := id z
    refine h { s with heap := h' } ⟨I.ok, I.os, I.bare, ⟨fun b o e n hb hx => ?_, fun b o e n hb hx => ?_, I.base.free, fun b o e hx => ?_, I.base.tups, I.base.frzs, I.base.tbls⟩, ⟨m, hn.sameBut hs (Ne.symm (cne x c hc)), fun j y v' e1 e2 e3 => ?_⟩, fun y c' e => ?_, I.free, I.freeC, fun p hp => ?_, tracked ⟨oc, hoc, I.freeC x c hc⟩ hs, by simpa using I.len⟩ ⟨c, hs, .inr hc⟩
    · exact (hs.2 b (Nat.ne_of_lt (Nat.lt_of_lt_of_le (Heap.lt_size e) (I.ok.cab x c hfn hc)))).trans (I.base.keep b o e n hb hx)
    · obtain ⟨sl, e1⟩ := I.base.slot b o e n hb hx
      exact ⟨sl, (hs.2 b (Nat.ne_of_lt (Nat.lt_of_lt_of_le (Heap.lt_size e) (I.ok.cab x c hfn hc)))).trans e1⟩
    · obtain ⟨o', e1⟩ := I.base.there b o e hx
      exact ⟨o', (hs.2 b (Nat.ne_of_lt (Nat.lt_of_lt_of_le (Heap.lt_size e) (I.ok.cab x c hfn hc)))).trans e1⟩
    · by_cases hj : j = i
      · subst hj
        rw [hi] at e1; cases e1
        rw [List.getElem?_set_self hiσ] at e2
        cases e2
        exact ⟨u, r, .inr ⟨.inl hk, c, hc, hc'⟩⟩
      · rw [List.getElem?_set_ne (Ne.symm hj)] at e2
        obtain ⟨u', r', q⟩ := hl j y v' e1 e2 e3
        refine ⟨u', r', ?_⟩
        rcases q with q | ⟨k, c', e, z'⟩
        · exact .inl q
        · refine .inr ⟨k, c', e, z'.sameBut hs ?_⟩
          rintro rfl
          exact hj (nodup_ix hN e1 (I.ok.inj _ _ _ e hc ▸ hi))
    · by_cases hcc : c' = c
      · subst hcc; exact ⟨_, hc'⟩
      · obtain ⟨w2, z2⟩ := I.cell y c' e
        exact ⟨w2, z2.sameBut hs hcc⟩
    · obtain ⟨e, n, ne, nf, d⟩ := I.pin p hp
      refine ⟨(hs.2 p.1 ?_).trans e, n, ne, nf, d⟩
      intro q
      rw [q, hoc] at e
      have q' : oc = p.2 := Option.some.inj e
      exact d w' (by rw [← q']; exact hocd)
theorem store_ok {M : Model} {A : Around} {E : Value → Shared → Prop} {i : Nat} {x : Str} {v : V} {u : Value} {Q : Unit → Shared → Prop} (I : Inv X pins σ H s) (hN : X.N.Nodup) (hi : X.N[i]? = some x) (hx : Loc X.env.scope x) (r : RelV v u)
    (h : ∀ s', Inv X pins (σ.set i (some v)) H s' → Q () s') (hf : X.fn x = true ∨ X.env.scope.names.lookup x = some .local := by first | exact .inl rfl | exact .inr rfl | assumption) : wpAny M A (storeName X.env x u) Q E s :=
  store_ok2 I hN hi hx r (fun s' I' _ => h s' I') hf
theorem Inv.call' {s' : Shared} {ch : List Addr} (I : Inv X pins σ H s) (ho : s'.os = s.os) (u : Un (frs X.stack) ch H H' s.heap s'.heap) (hok : HOk X.prog X.w H' s'.heap) (hg : AllBare s'.gens)
    (hch : ∀ b ∈ ch, (b ∈ X.ex ∨ X.s₀.heap.objs.size ≤ b) ∧ b ≠ X.env.locals ∧ (∀ x c, X.env.cells.lookup x = some c → c ≠ b) ∧ ∀ p ∈ X.pn ++ pins, p.1 ≠ b) : Inv X pins σ H' s' := by
  obtain ⟨h', g', d', t', o'⟩ := s'
  have e : o' = s.os := ho
  subst e
  exact I.call (g' := g') (t' := t') (d' := d') u hok hg hch
end
abbrev XK := Value → Option Addr → Hp → Prop
abbrev St := List (Option V)
abbrev VK := V → Hp → Prop
abbrev TE := St → Hp → VK → Prop
abbrev TT := St → Hp → (Bool → Hp → Prop) → Prop
abbrev TA := St → Hp → (List V → Hp → Prop) → Prop
structure Ends where
  nx : St → Hp → Prop
  rt : VK
  bk : St → Hp → Prop := fun _ _ => False
  ct : St → Hp → Prop := fun _ _ => False
abbrev TS := Ends → St → Hp → Prop
def EP (X : Cx) (pins : List (Addr × Obj)) (σ : St) (Q : VK) (u : Value) (s' : Shared) : Prop := ∃ v H', Inv X pins σ H' s' ∧ RelV v u ∧ Q v H'
def TP (X : Cx) (pins : List (Addr × Obj)) (σ : St) (Q : Bool → Hp → Prop) (b : Bool) (s' : Shared) : Prop := ∃ H', Inv X pins σ H' s' ∧ Q b H'
def AP (X : Cx) (pins : List (Addr × Obj)) (σ : St) (Q : List V → Hp → Prop) (us : List Value) (s' : Shared) : Prop := ∃ vs H', Inv X pins σ H' s' ∧ Vals vs us ∧ Q vs H'
def SP (X : Cx) (pins : List (Addr × Obj)) (D : Ends) (f : Flow) (s' : Shared) : Prop :=
  match f with
  | .next => ∃ σ' H', Inv X pins σ' H' s' ∧ D.nx σ' H'
  | .brk => ∃ σ' H', Inv X pins σ' H' s' ∧ D.bk σ' H'
  | .cont => ∃ σ' H', Inv X pins σ' H' s' ∧ D.ct σ' H'
  | .ret u => ∃ v σ' H', Inv X pins σ' H' s' ∧ RelV v u ∧ D.rt v H'
def PE (X : Cx) (e : Expr) (t : TE) : Prop :=
  ∀ (pins : List (Addr × Obj)) (s : Shared) (σ : St) (H : Hp) (Q : VK), Inv X pins σ H s → t σ H Q → wpAny (model X.prog X.w) X.A (eval e X.env) (EP X pins σ Q) X.xe s
def PT (X : Cx) (e : Expr) (t : TT) : Prop :=
  ∀ (pins : List (Addr × Obj)) (s : Shared) (σ : St) (H : Hp) (Q : Bool → Hp → Prop), Inv X pins σ H s → t σ H Q → wpAny (model X.prog X.w) X.A (isTrue e X.env (eval e X.env)) (TP X pins σ Q) X.xe s
def PW (X : Cx) (e : Expr) (t : TT) : Prop :=
  ∀ (whole : Sem Value) (pins : List (Addr × Obj)) (s : Shared) (σ : St) (H : Hp) (Q : Bool → Hp → Prop), Inv X pins σ H s → t σ H Q → wpAny (model X.prog X.w) X.A (isTrue e X.env whole) (TP X pins σ Q) X.xe s
theorem PW.pt {X : Cx} {e : Expr} {t : TT} (h : PW X e t) : PT X e t := h _
def PA (X : Cx) (es : List Expr) (t : TA) : Prop :=
  ∀ (pos : Pos) (pins : List (Addr × Obj)) (s : Shared) (σ : St) (H : Hp) (Q : List V → Hp → Prop), Inv X pins σ H s → t σ H Q → wpAny (model X.prog X.w) X.A (spliced (backTo pos (starEach es X.env))) (AP X pins σ Q) X.xe s
def PS (X : Cx) (st : Stmt) (t : TS) : Prop :=
  ∀ (pins : List (Addr × Obj)) (s : Shared) (σ : St) (H : Hp) (D : Ends), Inv X pins σ H s → t D σ H → wpAny (model X.prog X.w) X.A (exec st X.env) (SP X pins D) X.xe s
def PSs (X : Cx) (st : List Stmt) (t : TS) : Prop :=
  ∀ (pins : List (Addr × Obj)) (s : Shared) (σ : St) (H : Hp) (D : Ends), Inv X pins σ H s → t D σ H → wpAny (model X.prog X.w) X.A (execs st X.env) (SP X pins D) X.xe s
theorem thn {α : Type} {t : Sem α} {Q Q' : α → Shared → Prop} {M : Model} {A : Around} {E : Value → Shared → Prop} {s : Shared} (h : wpAny M A t Q E s) (hQ : ∀ a s, Q a s → Q' a s) : wpAny M A t Q' E s := wpAny_mono h hQ fun _ _ x => x
end L2
namespace L2
open PySem PySem.Spec PyProof.Rows
section
variable {X : Cx}
def tVar (i : Nat) : TE := fun σ H Q => ∃ v, σ[i]? = some (some v) ∧ Q v H
def tC (v : V) : TE := fun _ H Q => Q v H
theorem pe_var {i : Nat} {x : Str} {pos : Pos} (hN : X.N[i]? = some x) (hv : Vis X.env.scope x) (hd : (x == ("__debug__" : Str)) = false := by decide) (hcd : (x == ("__classdict__" : Str)) = false := by decide) : PE X (.Name x pos) (tVar i) := by
  intro pins s σ H Q I h
  obtain ⟨v, e, h⟩ := h
  obtain ⟨m, hn, hl⟩ := I.loc
  obtain ⟨u, r, l⟩ := hl i x v hN e hv
  have fin : EP X pins σ Q u s := ⟨v, H, I, r, h⟩
  rcases l with ⟨hk, hm⟩ | ⟨hk, c, hc, hcell⟩
  · exact wpAny_Name (wpAny_loadName_local I.ok.kind hk hn hm fin) hd
  · rcases hk with hk | hk
    · exact wpAny_Name (wpAny_loadName_cell I.ok.kind hk hc hcell fin) hd
    · exact wpAny_Name (wpAny_loadName_free I.ok.kind hk hc hcell fin hcd) hd
theorem pe_int {i j pos} : PE X (.Constant (.int i) j pos) (tC (.int i)) := fun _ _ _ H _ I h => wpAny_Constant_int ⟨.int i, H, I.tok _, ⟨_, rfl⟩, h⟩
theorem pe_bl {b j pos} : PE X (.Constant (.bool b) j pos) (tC (.bl b)) := fun _ _ _ H _ I h => Constant_bool ⟨.bl b, H, I, rfl, h⟩
theorem pe_non {j pos} : PE X (.Constant .none j pos) (tC .non) := fun _ _ _ H _ I h => Constant_none ⟨.non, H, I, rfl, h⟩
theorem pe_str {x j pos} : PE X (.Constant (.str x) j pos) (tC (.str x)) := fun _ _ _ H _ I h => Calls.Constant_str ⟨.str x, H, I.tok _, ⟨_, rfl⟩, h⟩
def Gl (X : Cx) (x : Str) : Prop := X.env.kindOf x = some .globalImplicit
theorem ld_glob {E : Value → Shared → Prop} {pins : List (Addr × Obj)} {s : Shared} {σ : St} {H : Hp} {x : Str} {u : Value} {pos : Pos} {Q : Value → Shared → Prop} (I : Inv X pins σ H s) (hg : Gl X x) (hm : X.mg x = some u) (h : Q u s)
    (hd : (x == ("__debug__" : Str)) = false := by decide) : wpAny (model X.prog X.w) X.A (eval (.Name x pos) X.env) Q E s :=
  Calls.Name_function_global I.ok.kind hg (Calls.loadGlobal_global (by rw [I.ok.glob]; exact I.mod.glob.keeps I.bk) hm h) hd
theorem ld_blt {E : Value → Shared → Prop} {pins : List (Addr × Obj)} {s : Shared} {σ : St} {H : Hp} {x : Str} {u : Value} {pos : Pos} {Q : Value → Shared → Prop} (I : Inv X pins σ H s) (hg : Gl X x) (hm : X.mg x = none) (hv : bootBuiltins x = some u) (h : Q u s)
    (hn : x ≠ "__name__" := by decide) (hd : (x == ("__debug__" : Str)) = false := by decide) : wpAny (model X.prog X.w) X.A (eval (.Name x pos) X.env) Q E s := by
  obtain ⟨mb, h1, h2⟩ := I.mod.blt
  exact Calls.Name_function_global I.ok.kind hg (Calls.loadGlobal_builtin (by rw [I.ok.glob]; exact I.mod.glob.keeps I.bk) hm (by rw [I.ok.blt]; exact h1.keeps I.bk) ((h2 x hn).trans hv) h) hd
theorem pe_glob {x : Str} {v : V} {u : Value} {pos : Pos} (hg : Gl X x) (hm : X.mg x = some u) (r : RelV v u) (hd : (x == ("__debug__" : Str)) = false := by decide) : PE X (.Name x pos) (tC v) :=
  fun _ _ _ H _ I h => ld_glob I hg hm ⟨v, H, I, r, h⟩ hd
theorem pe_bltn {x : Str} {v : V} {u : Value} {pos : Pos} (hg : Gl X x) (hm : X.mg x = none) (hv : bootBuiltins x = some u) (r : RelV v u) (hn : x ≠ "__name__" := by decide) (hd : (x == ("__debug__" : Str)) = false := by decide) : PE X (.Name x pos) (tC v) :=
  fun _ _ _ H _ I h => ld_blt I hg hm hv ⟨v, H, I, r, h⟩ hn hd
def t2I (ta tb : TE) (k : Int → Int → Hp → Prop) : St → Hp → Prop := fun σ H => ta σ H fun x H1 => tb σ H1 fun y H2 => ∃ i j, x = .int i ∧ y = .int j ∧ k i j H2
def tAdd (ta tb : TE) : TE := fun σ H Q => t2I ta tb (fun i j H2 => Q (.int (i + j)) H2) σ H
def tSub (ta tb : TE) : TE := fun σ H Q => t2I ta tb (fun i j H2 => Q (.int (i - j)) H2) σ H
def tMul (ta tb : TE) : TE := fun σ H Q => t2I ta tb (fun i j H2 => (-(2 ^ 64) < i ∧ i < 2 ^ 64) ∧ Q (.int (i * j)) H2) σ H
variable {a b : Expr} {ta tb : TE} {pos : Pos}
def PC (X : Cx) (op : CmpOp) (a b : Expr) (t : TE) : Prop :=
  ∀ (pins : List (Addr × Obj)) (s : Shared) (σ : St) (H : Hp) (Q : VK), Inv X pins σ H s → t σ H Q →
    wpAny (model X.prog X.w) X.A (eval a X.env) (fun v s₁ => wpAny (model X.prog X.w) X.A (eval b X.env) (fun u s₂ => wpAny (model X.prog X.w) X.A (compareOp op v u) (EP X pins σ Q) X.xe s₂) X.xe s₁) X.xe s
def tCmp (p : Int → Int → Bool) (ta tb : TE) : TE := fun σ H Q => t2I ta tb (fun i j H2 => Q (.bl (p i j)) H2) σ H
abbrev tLt : TE → TE → TE := tCmp fun i j => decide (i < j)
abbrev tLe : TE → TE → TE := tCmp fun i j => decide (i ≤ j)
abbrev tGt : TE → TE → TE := tCmp fun i j => decide (j < i)
abbrev tGe : TE → TE → TE := tCmp fun i j => decide (j ≤ i)
abbrev tEqI : TE → TE → TE := tCmp fun i j => decide (i = j)
abbrev tNeI : TE → TE → TE := tCmp fun i j => !decide (i = j)
def tIsN (ta : TE) : TE := fun σ H Q => ta σ H fun x H1 => Q (.bl (decide (x = .non))) H1
def tNotN (ta : TE) : TE := fun σ H Q => ta σ H fun x H1 => Q (.bl (!decide (x = .non))) H1
def tB (t : TE) : TT := fun σ H Q => t σ H fun x H1 => ∃ c, x = .bl c ∧ Q c H1
variable {tA tB' : TT} {rest : List Expr}
def tAnd (t u : TT) : TT := fun σ H Q => t σ H fun c H1 => if c = true then u σ H1 Q else Q false H1
def tOr (t u : TT) : TT := fun σ H Q => t σ H fun c H1 => if c = true then Q true H1 else u σ H1 Q
def tNot (t : TT) : TT := fun σ H Q => t σ H fun c H1 => Q (!c) H1
theorem pw_and1 (ha : PT X a tA) : PW X (.BoolOp .And [a] pos) tA := by
  intro wh pins s σ H Q I h
  refine isTrue_and (thn (ha pins s σ H Q I h) fun c s1 e => ?_)
  cases c with
  | true => exact isTrue_and_nil e
  | false => exact e
theorem pw_or1 (ha : PT X a tA) : PW X (.BoolOp .Or [a] pos) tA := by
  intro wh pins s σ H Q I h
  refine isTrue_or (thn (ha pins s σ H Q I h) fun c s1 e => ?_)
  cases c with
  | false => exact isTrue_or_nil e
  | true => exact e
theorem pw_and (ha : PT X a tA) (hb : PW X (.BoolOp .And (b :: rest) pos) tB') : PW X (.BoolOp .And (a :: b :: rest) pos) (tAnd tA tB') := by
  intro wh pins s σ H Q I h
  refine isTrue_and (thn (ha pins s σ H _ I h) fun c s1 ⟨H1, I1, q1⟩ => ?_)
  cases c with
  | true => exact hb wh pins s1 σ H1 Q I1 q1
  | false => exact ⟨H1, I1, q1⟩
theorem pw_or (ha : PT X a tA) (hb : PW X (.BoolOp .Or (b :: rest) pos) tB') : PW X (.BoolOp .Or (a :: b :: rest) pos) (tOr tA tB') := by
  intro wh pins s σ H Q I h
  refine isTrue_or (thn (ha pins s σ H _ I h) fun c s1 ⟨H1, I1, q1⟩ => ?_)
  cases c with
  | true => exact ⟨H1, I1, q1⟩
  | false => exact hb wh pins s1 σ H1 Q I1 q1
theorem pt_not (ha : PT X a tA) : PT X (.UnaryOp .Not a pos) (tNot tA) := by
  intro pins s σ H Q I h
  exact isTrue_not (ha pins s σ H (fun c H1 => Q (!c) H1) I h)
def tAndV (ta tb : TE) : TE := fun σ H Q => ta σ H fun x H1 => ∃ c, x = .bl c ∧ if c = true then tb σ H1 Q else Q (.bl false) H1
def tOrV (ta tb : TE) : TE := fun σ H Q => ta σ H fun x H1 => ∃ c, x = .bl c ∧ if c = true then Q (.bl true) H1 else tb σ H1 Q
def tNotV (ta : TE) : TE := fun σ H Q => ta σ H fun x H1 => ∃ c, x = .bl c ∧ Q (.bl (!c)) H1
theorem pe_one {op} {t : TE} (h : PE X a t) : PE X (.BoolOp op [a] pos) t := fun pins s σ H Q I hw => BoolOp_one (h pins s σ H Q I hw)
def tIf (t : TT) (ta tb : TE) : TE := fun σ H Q => t σ H fun c H1 => if c = true then ta σ H1 Q else tb σ H1 Q
end
end L2
namespace L2
open PySem PySem.Spec PyProof.Rows
def SqL (K : PySem.W.Frag) (H : Hp) (a : Addr) (xs : List V) : Prop :=
  Rd H a (.lst xs) ∨
    ∃ (o : Obj) (its : Array Value) (n : Nat), K.lookup a = some o ∧ o.cls = .type "list" ∧ o.dict = none ∧ o.data = .seq its n ∧ its.size ≤ sizeLine ∧ Vals xs its.toList
def SqT (K : PySem.W.Frag) (H : Hp) (a : Addr) (xs : List V) : Prop :=
  Rd H a (.tup xs) ∨
    ∃ (o : Obj) (its : Array Value) (n : Nat), K.lookup a = some o ∧ o.cls = .type "tuple" ∧ o.data = .seq its n ∧ its.size ≤ sizeLine ∧ Vals xs its.toList
def absV : Value → Option V
  | .none => some .non
  | .bool b => some (.bl b)
  | .int i _ => some (.int i)
  | .str x _ => some (.str x)
  | .bytes b _ => some (.byt b)
  | .float b _ => some (.flt b)
  | .ref a => some (.ref a)
  | .type n => some (.ty n)
  | _ => none
theorem RelV.abs {x : V} {u : Value} (r : RelV x u) : absV u = some x := by
  cases x with
  | non => cases r; rfl
  | bl _ => cases r; rfl
  | int _ => obtain ⟨t, rfl⟩ := r; rfl
  | str _ => obtain ⟨t, rfl⟩ := r; rfl
  | byt _ => obtain ⟨t, rfl⟩ := r; rfl
  | flt _ => obtain ⟨t, rfl⟩ := r; rfl
  | ref _ => cases r; rfl
  | ty _ => cases r; rfl
theorem RelV.inj {x y : V} {u : Value} (r : RelV x u) (q : RelV y u) : x = y := Option.some.inj (r.abs.symm.trans q.abs)
theorem Vals.inj : ∀ {xs ys : List V} {us : List Value}, Vals xs us → Vals ys us → xs = ys
  | _, _, _, .nil, .nil => rfl
  | _, _, _, .cons r t, .cons r' t' => by rw [r.inj r', Vals.inj t t']
section
variable {X : Cx} {pins : List (Addr × Obj)} {σ : St} {H : Hp} {s : Shared} {a : Addr} {xs ys : List V}
theorem SqL.of {K : PySem.W.Frag} (h : H a = some (.lst xs)) : SqL K H a xs := .inl (.inl h)
theorem SqT.of {K : PySem.W.Frag} (h : H a = some (.tup xs)) : SqT K H a xs := .inl (.inl h)
theorem Inv.list (I : Inv X pins σ H s) (h : SqL X.K H a xs) : ∃ its : List Value, Vals xs its ∧ PlainL s.heap a its.toArray ∧ xs.length ≤ sizeLine := by
  rcases h with h | ⟨o, its, n, hk, hc, hd, hs, hz, r⟩
  · obtain ⟨z, its, n, r, e⟩ := h.ok I.hok
    exact ⟨its, r, ⟨_, n, e, rfl, rfl, rfl⟩, z⟩
  · refine ⟨its.toList, r, ⟨o, n, I.kIn a o hk, hc, hd, by simpa using hs⟩, ?_⟩
    have e := r.length
    simp only [Array.length_toList] at e
    omega
theorem Inv.tuple (I : Inv X pins σ H s) (h : SqT X.K H a xs) : ∃ its : List Value, Vals xs its ∧ IsTup s.heap a its.toArray ∧ xs.length ≤ sizeLine := by
  rcases h with h | ⟨o, its, n, hk, hc, hs, hz, r⟩
  · obtain ⟨z, its, r, p⟩ := h.ok I.hok
    exact ⟨its, r, p, z⟩
  · refine ⟨its.toList, r, ⟨o, I.kIn a o hk, hc, n, by simpa using hs⟩, ?_⟩
    have e := r.length
    simp only [Array.length_toList] at e
    omega
theorem Inv.list_inj (I : Inv X pins σ H s) (h : SqL X.K H a xs) (h' : SqL X.K H a ys) : xs = ys := by
  obtain ⟨its, r, ⟨o, n, e, _, _, d⟩, _⟩ := I.list h
  obtain ⟨its', r', ⟨o', n', e', _, _, d'⟩, _⟩ := I.list h'
  rw [e] at e'; cases e'
  rw [d] at d'
  injection d' with d1 _
  have : its = its' := by simpa using congrArg Array.toList d1
  subst this
  exact r.inj r'
end
abbrev Cx.wish (X : Cx) (E : Value → Shared → Prop) : Cx := { X with xe := E }
abbrev Cx.nox (X : Cx) : Cx := X.wish fun _ _ => False
theorem Cx.Ok.wish {X : Cx} (ok : X.Ok) (E : Value → Shared → Prop) : (X.wish E).Ok :=
  ⟨ok.mod, ok.kind, ok.glob, ok.blt, ok.above, ok.inj, ok.has, ok.cab, ok.hd, ok.frames, ok.stk, ok.exf, ok.bs, ok.bsz, ok.noex, ok.exfs, ok.funs, ok.frf⟩
theorem Cx.Ok.unwish {X : Cx} {E : Value → Shared → Prop} (ok : (X.wish E).Ok) : X.Ok :=
  ⟨ok.mod, ok.kind, ok.glob, ok.blt, ok.above, ok.inj, ok.has, ok.cab, ok.hd, ok.frames, ok.stk, ok.exf, ok.bs, ok.bsz, ok.noex, ok.exfs, ok.funs, ok.frf⟩
section
variable {X : Cx} {pins : List (Addr × Obj)} {σ : St} {H : Hp} {s : Shared} {E : Value → Shared → Prop}
theorem Inv.wish (I : Inv X pins σ H s) (E : Value → Shared → Prop) : Inv (X.wish E) pins σ H s := ⟨I.ok.wish E, I.os, I.bare, I.base, I.loc, I.cell, I.free, I.freeC, I.pin, I.hok, I.len⟩
theorem Inv.unwish (I : Inv (X.wish E) pins σ H s) : Inv X pins σ H s := ⟨I.ok.unwish, I.os, I.bare, I.base, I.loc, I.cell, I.free, I.freeC, I.pin, I.hok, I.len⟩
theorem SP.unwish {D : Ends} {f : Flow} {s' : Shared} (h : SP (X.wish E) pins D f s') : SP X pins D f s' := by
  cases f with
  | next => obtain ⟨σ', H', I, q⟩ := h; exact ⟨σ', H', I.unwish, q⟩
  | brk => obtain ⟨σ', H', I, q⟩ := h; exact ⟨σ', H', I.unwish, q⟩
  | cont => obtain ⟨σ', H', I, q⟩ := h; exact ⟨σ', H', I.unwish, q⟩
  | ret u => obtain ⟨v, σ', H', I, r, q⟩ := h; exact ⟨v, σ', H', I.unwish, r, q⟩
theorem PE.nox {e : Expr} {t : TE} (h : PE X.nox e t) : PE X e t := fun pins s σ H Q I hw =>
  wpAny_mono (h pins s σ H Q (I.wish _) hw) (fun _ _ ⟨v, H', I', r, q⟩ => ⟨v, H', I'.unwish, r, q⟩) fun _ _ z => False.elim z
theorem PT.nox {e : Expr} {t : TT} (h : PT X.nox e t) : PT X e t := fun pins s σ H Q I hw =>
  wpAny_mono (h pins s σ H Q (I.wish _) hw) (fun _ _ ⟨H', I', q⟩ => ⟨H', I'.unwish, q⟩) fun _ _ z => False.elim z
theorem PSs.nox {st : List Stmt} {t : TS} (h : PSs X.nox st t) : PSs X st t := fun pins s σ H D I hw =>
  wpAny_mono (h pins s σ H D (I.wish _) hw) (fun _ _ q => q.unwish) fun _ _ z => False.elim z
end
section
variable {X : Cx} {st : Stmt} {rest : List Stmt} {t u : TS} {e : Expr} {te : TE} {pos : Pos}
def tNext : TS := fun D σ H => D.nx σ H
def tSeq (t u : TS) : TS := fun D σ H => t { D with nx := u D } σ H
theorem pss_nil : PSs X [] tNext := fun _ _ σ H _ I h => wpAny_execs_nil ⟨σ, H, I, h⟩
theorem pss_cons (h1 : PS X st t) (h2 : PSs X rest u) : PSs X (st :: rest) (tSeq t u) := by
  intro pins s σ H D I h
  refine wpAny_execs_cons (thn (h1 pins s σ H { D with nx := u D } I h) fun f s1 q => ?_)
  cases f with
  | next =>
    obtain ⟨σ', H', I', q⟩ := q
    exact h2 pins s1 σ' H' D I' q
  | ret v => exact q
  | brk => exact q
  | cont => exact q
theorem pss_one (h1 : PS X st t) : PSs X [st] t := by
  intro pins s σ H D I h
  refine wpAny_execs_cons (thn (h1 pins s σ H D I h) fun f s1 q => ?_)
  cases f with
  | next => exact wpAny_execs_nil q
  | ret v => exact q
  | brk => exact q
  | cont => exact q
def tBreak : TS := fun D σ H => D.bk σ H
def tCont : TS := fun D σ H => D.ct σ H
theorem Inv.quiet {pins : List (Addr × Obj)} {σ : St} {H : Hp} {s : Shared} (I : Inv X pins σ H s) : interactive X.env = false := by simp [interactive, I.ok.kind]
def tDrop (te : TE) : TS := fun D σ H => te σ H fun _ H1 => D.nx σ H1
theorem ps_expr (he : PE X e te) (hs : swapsWith e none pos.line X.env = pure false := by rfl) : PS X (.Expr e pos) (tDrop te) := by
  intro pins s σ H D I h
  exact wpAny_Expr_any (thn (he pins s σ H _ I h) fun v s1 ⟨x, H1, I1, r1, q1⟩ => ⟨σ, H1, I1, q1⟩) I.quiet hs
def tRet (te : TE) : TS := fun D σ H => te σ H D.rt
theorem ps_ret (he : PE X e te) : PS X (.Return (some e) pos) (tRet te) := by
  intro pins s σ H D I h
  exact wpAny_Return_some (thn (he pins s σ H _ I h) fun v s1 ⟨x, H1, I1, r1, q1⟩ => ⟨x, σ, H1, I1, r1, q1⟩)
def tRetN : TS := fun D _ H => D.rt .non H
def tIfS (c : TT) (t u : TS) : TS := fun D σ H => c σ H fun b H1 => if b = true then t D σ H1 else u D σ H1
theorem ps_if {c : Expr} {a b : List Stmt} {tc : TT} (hc : PT X c tc) (ha : PSs X a t) (hb : PSs X b u) : PS X (.If c a b pos) (tIfS tc t u) := by
  intro pins s σ H D I h
  refine wpAny_If (thn (hc pins s σ H _ I h) fun d s1 ⟨H1, I1, q1⟩ => ?_)
  cases d with
  | true => exact ha pins s1 σ H1 D I1 q1
  | false => exact hb pins s1 σ H1 D I1 q1
def tNever : TS := fun _ _ _ => False
theorem pss_never {sts : List Stmt} : PSs X sts tNever := fun _ _ _ _ _ _ h => h.elim
end
abbrev TG := V → St → Hp → (St → Hp → Prop) → Prop
abbrev TGs := List V → St → Hp → (St → Hp → Prop) → Prop
def PG (X : Cx) (target : Expr) (t : TG) : Prop :=
  ∀ (pins : List (Addr × Obj)) (s : Shared) (σ : St) (H : Hp) (v : V) (u : Value) (Q : St → Hp → Prop), Inv X pins σ H s → RelV v u → t v σ H Q →
    wpAny (model X.prog X.w) X.A (assign target X.env u) (fun _ s' => ∃ σ' H', Inv X pins σ' H' s' ∧ Q σ' H') X.xe s
def PGs (X : Cx) (ts : List Expr) (t : TGs) : Prop :=
  ∀ (pins : List (Addr × Obj)) (s : Shared) (σ : St) (H : Hp) (vs : List V) (us : List Value) (Q : St → Hp → Prop), Inv X pins σ H s → Vals vs us → t vs σ H Q →
    wpAny (model X.prog X.w) X.A (assignInOrder ((assignEach ts X.env).map (·.2)) us) (fun _ s' => ∃ σ' H', Inv X pins σ' H' s' ∧ Q σ' H') X.xe s
abbrev TSet := V → V → V → Hp → (Hp → Prop) → Prop
def PSet (X : Cx) (t : TSet) : Prop :=
  ∀ (pins : List (Addr × Obj)) (s : Shared) (σ : St) (H : Hp) (o i v : V) (ov iv u : Value) (Q : Hp → Prop), Inv X pins σ H s → RelV o ov → RelV i iv → RelV v u → t o i v H Q →
    wpAny (model X.prog X.w) X.A (setItem ov iv u) (fun _ s' => ∃ H', Inv X pins σ H' s' ∧ Q H') X.xe s
abbrev TIp := V → V → Hp → VK → Prop
def PIp (X : Cx) (op : Operator) (t : TIp) : Prop :=
  ∀ (pins : List (Addr × Obj)) (s : Shared) (σ : St) (H : Hp) (x y : V) (v u : Value) (Q : VK), Inv X pins σ H s → RelV x v → RelV y u → t x y H Q →
    wpAny (model X.prog X.w) X.A (inplaceOp op v u) (EP X pins σ Q) X.xe s
section
variable {X : Cx} {pos : Pos}
def gName (i : Nat) : TG := fun v σ H Q => Q (σ.set i (some v)) H
theorem pg_name {i : Nat} {x : Str} (hN : X.N.Nodup) (hi : X.N[i]? = some x) (hx : Loc X.env.scope x) (hf : X.fn x = true ∨ X.env.scope.names.lookup x = some .local := by first | exact .inl rfl | exact .inr rfl | assumption) : PG X (.Name x pos) (gName i) := by
  intro pins s σ H v u Q I r h
  exact wpAny_assign_Name (store_ok I hN hi hx r (fun s' I' => ⟨_, H, I', h⟩) hf)
def gNil : TGs := fun vs σ H Q => vs = [] ∧ Q σ H
def gCons (t : TG) (u : TGs) : TGs := fun vs σ H Q => ∃ v r, vs = v :: r ∧ t v σ H fun σ' H' => u r σ' H' Q
theorem pgs_nil : PGs X [] gNil := by
  intro pins s σ H vs us Q I r h
  obtain ⟨e, h⟩ := h
  subst e
  cases r
  exact assignInOrder_nil ⟨σ, H, I, h⟩
theorem pgs_cons {e : Expr} {es : List Expr} {t : TG} {u : TGs} (h1 : PG X e t) (h2 : PGs X es u)
    (hs : (assignEach (e :: es) X.env).map (·.2) = assign e X.env :: (assignEach es X.env).map (·.2) := by rfl) : PGs X (e :: es) (gCons t u) := by
  intro pins s σ H vs us Q I r h
  obtain ⟨v, vr, e1, h⟩ := h
  subst e1
  cases r with
  | cons r rr =>
    rw [hs]
    refine assignInOrder_cons (thn (h1 pins s σ H _ _ _ I r h) fun _ s1 ⟨σ1, H1, I1, q1⟩ => ?_)
    exact h2 pins s1 σ1 H1 _ _ Q I1 rr q1
def gTup (K : PySem.W.Frag) (n : Nat) (t : TGs) : TG := fun v σ H Q => ∃ a xs, v = .ref a ∧ SqT K H a xs ∧ xs.length = n ∧ t xs σ H Q
theorem pg_tup {es : List Expr} {k : Nat} {t : TGs} {n : Nat} (hc : X.calm = true) (h : PGs X es t)
    (hn : (assignEach es X.env).length = n := by rfl) (hst : (assignEach es X.env).findIdx? (·.1) = none := by rfl) : PG X (.Tuple es k pos) (gTup X.K n t) := by
  intro pins s σ H v u Q I r hw
  obtain ⟨a, xs, e1, hq, hl, hw⟩ := hw
  subst e1
  cases r
  obtain ⟨its, rv, ht, hz⟩ := I.tuple hq
  refine assign_Tuple_tuple (I.ok.hd hc) ht (by simp [hn, ← hl, rv.length]) hst fun h' hx => ?_
  have I1 : Inv X pins σ H { s with heap := h' } := I.kept (t' := s.toks) fun b o e => hx b o (Nat.ne_of_lt (Heap.lt_size e)) e
  exact h pins _ σ H xs _ Q I1 (by simpa using rv) hw
def gSub (to ti : TE) (t : TSet) : TG := fun v σ H Q => to σ H fun o H1 => ti σ H1 fun i H2 => t o i v H2 fun H3 => Q σ H3
def tAsg (te : TE) (g : TG) : TS := fun D σ H => te σ H fun x H1 => g x σ H1 D.nx
theorem ps_set {i : Nat} {x : Str} {e : Expr} {te : TE} {pos' : Pos} (hN : X.N.Nodup) (hi : X.N[i]? = some x) (hx : Loc X.env.scope x) (he : PE X e te) (hs : swapsWith e (some (.Name x pos')) pos.line X.env = pure false := by rfl) (hf : X.fn x = true ∨ X.env.scope.names.lookup x = some .local := by first | exact .inl rfl | exact .inr rfl | assumption) :
    PS X (.Assign [.Name x pos'] e pos) (tAsg te (gName i)) := by
  intro pins s σ H D I h
  refine wpAny_Assign_Name (thn (he pins s σ H _ I h) fun v s1 ⟨y, H1, I1, r1, q1⟩ => ?_) hs
  exact store_ok I1 hN hi hx r1 (fun s2 I2 => ⟨_, H1, I2, q1⟩) hf
def tPar (i j : Nat) (ta : TA) : TS := fun D σ H => ta σ H fun vs H1 => ∃ v w, vs = [v, w] ∧ D.nx ((σ.set i (some v)).set j (some w)) H1
def tAug (i : Nat) (te : TE) (ti : TIp) : TS := fun D σ H => ∃ x, σ[i]? = some (some x) ∧ te σ H fun y H1 => ti x y H1 fun z H2 => D.nx (σ.set i (some z)) H2
def tAugS (to ti te : TE) (tget : V → V → Hp → VK → Prop) (tip : TIp) (tset : TSet) : TS := fun D σ H => to σ H fun o H1 => ti σ H1 fun i H2 => tget o i H2 fun x H3 => te σ H3 fun y H4 => tip x y H4 fun z H5 => tset o i z H5 fun H6 => D.nx σ H6
def PGet (X : Cx) (t : V → V → Hp → VK → Prop) : Prop :=
  ∀ (pins : List (Addr × Obj)) (s : Shared) (σ : St) (H : Hp) (o i : V) (ov iv : Value) (Q : VK), Inv X pins σ H s → RelV o ov → RelV i iv → t o i H Q →
    wpAny (model X.prog X.w) X.A (getItem ov iv) (EP X pins σ Q) X.xe s
def ipI (f : Int → Int → Int) : TIp := fun x y H Q => ∃ i j, x = .int i ∧ y = .int j ∧ Q (.int (f i j)) H
end
section
variable {X : Cx} {pos : Pos}
def tWhile (c : TT) (tb : TS) : TS := fun D σ H => ∃ W : Nat → St → Hp → Prop, (∃ m, W m σ H) ∧ ∀ m σ H, W m σ H →
  c σ H fun b H1 => if b = true then ∃ N : St → Hp → Prop, (∀ σ' H', N σ' H' → ∃ m', m' < m ∧ W m' σ' H') ∧ tb { D with nx := N, ct := N, bk := D.nx } σ H1 else D.nx σ H1
theorem ps_while {c : Expr} {body : List Stmt} {tc : TT} {tb : TS} (hp : PassesOwn (model X.prog X.w) X.A X.env X.xe) (hc : PT X c tc) (hb : PSs X body tb) : PS X (.While c body [] pos) (tWhile tc tb) := by
  intro pins s σ H D I h
  obtain ⟨W, ⟨m0, w0⟩, turn⟩ := h
  refine wpAny_While (codeAny_whileLoop (fun n s' => ∃ σ' H', Inv X pins σ' H' s' ∧ W n σ' H') ?_ m0 ⟨σ, H, I, w0⟩)
  rintro n s1 ⟨σ1, H1, I1, w1⟩
  refine wpAny_passesOwn hp (thn (hc pins s1 σ1 H1 _ I1 (turn n σ1 H1 w1)) fun b s2 ⟨H2, I2, q2⟩ => ?_)
  cases b with
  | true =>
    obtain ⟨N, hN, q2⟩ := q2
    rw [if_pos rfl]
    refine wpAny_passesOwn hp (thn (hb pins s2 σ1 H2 _ I2 q2) fun f s3 q3 => ?_)
    cases f with
    | next =>
      obtain ⟨σ3, H3, I3, n3⟩ := q3
      obtain ⟨m', hm, w3⟩ := hN σ3 H3 n3
      exact ⟨m', hm, σ3, H3, I3, w3⟩
    | cont =>
      obtain ⟨σ3, H3, I3, n3⟩ := q3
      obtain ⟨m', hm, w3⟩ := hN σ3 H3 n3
      exact ⟨m', hm, σ3, H3, I3, w3⟩
    | brk => exact q3
    | ret v => exact q3
  | false =>
    rw [if_neg Bool.false_ne_true]
    exact wpAny_execs_nil ⟨σ1, H2, I2, q2⟩
end
structure It where
  go : Nat → Hp → Prop
  yld : Nat → Hp → V → Hp → Prop
  stop : Nat → Hp → Prop
def FpOk (X : Cx) (pins : List (Addr × Obj)) (H : Hp) (b : Addr) : Prop :=
  H b = none ∧ b ≠ X.env.locals ∧ b ∉ X.fs ∧ (b ∈ X.ex ∨ X.s₀.heap.objs.size ≤ b) ∧ (∀ x c, X.env.cells.lookup x = some c → c ≠ b) ∧ ∀ p ∈ X.pn ++ pins, p.1 ≠ b
theorem Inv.fpOk {X : Cx} {pins : List (Addr × Obj)} {σ : St} {H H' : Hp} {s : Shared} {b : Addr} (I : Inv X pins σ H s) (hb : s.heap.objs.size ≤ b) (hn : H' b = none) : FpOk X pins H' b := by
  refine ⟨hn, Nat.ne_of_gt (Nat.lt_of_lt_of_le I.lt hb), I.nofs hb, .inr (Nat.le_trans I.sz hb), fun x c e z => ?_, fun p hp z => ?_⟩
  · obtain ⟨v, q⟩ := I.cell x c e
    exact absurd (Nat.lt_of_lt_of_le q.lt (by rw [z]; exact hb)) (Nat.lt_irrefl _)
  · exact absurd (Nat.lt_of_lt_of_le (Heap.lt_size (I.pin p hp).1) (by rw [z]; exact hb)) (Nat.lt_irrefl _)
structure Turn (P : Program) (w : World) (K : PySem.W.Frag) (tg : Expr) (J : It) (fp : List Addr) (it : Addr) (tn : Nat → Heap → Prop) : Prop where
  mem : it ∈ fp
  obj : ∀ i h, tn i h → ∀ b ∈ fp, ∃ o, h.get? b = some o ∧ ∀ v, o.data ≠ .cell v
  keep : ∀ i h h', tn i h → (∀ b ∈ fp, ∀ o, h.get? b = some o → h'.get? b = some o) → tn i h'
  item : ∀ (X : Cx), X.prog = P → X.w = w → X.K = K → X.calm = true → ∀ (i : Nat) (pins : List (Addr × Obj)) (s : Shared) (σ : St) (H : Hp) (E : Value → Shared → Prop), Inv X pins σ H s → (∀ b ∈ fp, FpOk X pins H b) → tn i s.heap → J.go i H →
    wpAny (model P w) X.A (pyNext (.ref it)) (fun r s1 => ∃ u, r = some u ∧
      wpAny (model P w) X.A (letOwnedTupleGo tg (.ref it) u) (fun _ s2 => ∃ x H', Inv X pins σ H' s2 ∧ RelV x u ∧ J.yld i H x H' ∧ tn (i + 1) s2.heap ∧ ∀ b ∈ fp, H' b = none) E s1) E s
  done : ∀ (X : Cx), X.prog = P → X.w = w → X.K = K → X.calm = true → ∀ (i : Nat) (pins : List (Addr × Obj)) (s : Shared) (σ : St) (H : Hp) (E : Value → Shared → Prop), Inv X pins σ H s → (∀ b ∈ fp, FpOk X pins H b) → tn i s.heap → J.stop i H →
    wpAny (model P w) X.A (pyNext (.ref it)) (fun r s1 => r = none ∧ Inv X pins σ H s1) E s
  self : ∀ (A : Around) (i : Nat) (s : Shared) (Q : Value → Shared → Prop) (E : Value → Shared → Prop), tn i s.heap → Q (.ref it) s → wpAny (model P w) A (pyIter (.ref it)) Q E s
abbrev TI := St → Hp → (It → Hp → Prop) → Prop
def PIE (X : Cx) (pins : List (Addr × Obj)) (σ : St) (tg : Expr) (R : It → Hp → Prop) (itv : Value) (s2 : Shared) : Prop :=
  ∃ (it : Addr) (fp : List Addr) (tn : Nat → Heap → Prop) (J : It) (H' : Hp), itv = .ref it ∧ Inv X pins σ H' s2 ∧ Turn X.prog X.w X.K tg J fp it tn ∧ tn 0 s2.heap ∧ (∀ b ∈ fp, FpOk X pins H' b) ∧ R J H'
def PI (X : Cx) (tg iter : Expr) (wi : TI) : Prop :=
  ∀ (pins : List (Addr × Obj)) (s : Shared) (σ : St) (H : Hp) (R : It → Hp → Prop), Inv X pins σ H s → wi σ H R →
    wpAny (model X.prog X.w) X.A (eval iter X.env) (fun v s1 => wpAny (model X.prog X.w) X.A (pyIter v) (PIE X pins σ tg R) X.xe s1) X.xe s
theorem go_of {M : Model} {A : Around} {E : Value → Shared → Prop} {s : Shared} {tg : Expr} {it : Addr} {u : Value} {o : Obj} {n : String} {vs : Array Value} {Q : Unit → Shared → Prop} (ho : s.heap.get? it = some o) (hc : o.cls = .type n) (hd : o.data = .fields vs)
    (hn : ["enumerate", "zip", "dict_itemiterator", "dict_reverseitemiterator", "odict_iterator", "itertools.zip_longest", "itertools.pairwise"].contains n = false) (hQ : Q () s) : wpAny M A (letOwnedTupleGo tg (.ref it) u) Q E s := by
  unfold letOwnedTupleGo
  cases tg <;> first
    | exact wpAny_pure hQ
    | (cases u <;> first
        | exact wpAny_pure hQ
        | (refine wpAny_bind (wpAny_load ho ?_)
           rw [hc, hd]
           show wpAny M A (if (["enumerate", "zip", "dict_itemiterator", "dict_reverseitemiterator", "odict_iterator", "itertools.zip_longest", "itertools.pairwise"].contains n && vs[0]? == some (rawInt _)) = true then _ else _) Q E s
           rw [if_neg (by intro h; rw [hn, Bool.false_and] at h; cases h)]
           exact wpAny_pure hQ))
def Itl (K : PySem.W.Frag) (a : Addr) : It :=
  ⟨fun i H => ∃ xs x, SqL K H a xs ∧ xs[i]? = some x, fun i H x H' => H' = H ∧ ∀ xs, SqL K H a xs → xs[i]? = some x, fun i H => ∃ xs, SqL K H a xs ∧ xs.length ≤ i⟩
def Itt (K : PySem.W.Frag) (a : Addr) : It :=
  ⟨fun i H => ∃ xs x, SqT K H a xs ∧ xs[i]? = some x, fun i H x H' => H' = H ∧ ∀ xs, SqT K H a xs → xs[i]? = some x, fun i H => ∃ xs, SqT K H a xs ∧ xs.length ≤ i⟩
def Itr (lo : Int) (n : Nat) : It := ⟨fun i _ => i < n, fun i H x H' => H' = H ∧ x = .int (lo + i), fun i _ => n ≤ i⟩
theorem turn_list {P : Program} {w : World} {K : PySem.W.Frag} {tg : Expr} (a it : Addr) : Turn P w K tg (Itl K a) [it] it (fun i h => h.IsListIter it a i) where
  mem := by simp
  obj := fun i h st b hb => by
    have e : b = it := by simpa using hb
    subst e
    obtain ⟨o, e, c, d⟩ := st
    exact ⟨o, e, fun v z => by rw [d] at z; cases z⟩
  keep := fun i h h' st k => st.at fun o e => k it (by simp) o e
  item := by
    intro X hP hw hK hc i pins s σ H E I hf st hg
    subst hP hw hK
    obtain ⟨xs, x, hq, hx⟩ := hg
    obtain ⟨its, rv, p, hz⟩ := I.list hq
    obtain ⟨u, hu, ru⟩ := rv.get hx
    obtain ⟨f0, f1, f2, f3, f4, f5⟩ := hf it (by simp)
    refine wpAny_pyNext_list_item st p.isList (x := u) (by simpa using hu) fun h' st' sb => ?_
    have I1 : Inv X pins σ H { s with heap := h' } := I.turned (t' := s.toks) (fun b o hb e => (sb.2 b hb).trans e) f0 f1 f3 f4 f5
    obtain ⟨o, e, c, d⟩ := id st'
    exact ⟨u, rfl, go_of (s := { s with heap := h' }) e c d (by decide) ⟨x, H, I1, ru, ⟨rfl, fun ys hy => by rw [I.list_inj hy hq]; exact hx⟩, st', fun b hb => (hf b hb).1⟩⟩
  done := by
    intro X hP hw hK hc i pins s σ H E I hf st hg
    subst hP hw hK
    obtain ⟨xs, hq, hx⟩ := hg
    obtain ⟨its, rv, p, hz⟩ := I.list hq
    obtain ⟨f0, f1, f2, f3, f4, f5⟩ := hf it (by simp)
    have hl := rv.length
    exact wpAny_pyNext_list_end (I.ok.hd hc) st p.isList (by simp; omega) fun h' eb => ⟨rfl, I.turned (t' := s.toks) (fun b o hb e => eb b o hb e) f0 f1 f3 f4 f5⟩
  self := fun _ _ _ _ _ st h => wpAny_pyIter_listiter st h
theorem turn_range {P : Program} {w : World} {K : PySem.W.Frag} {tg : Expr} (it : Addr) (lo : Int) (n : Nat) : Turn P w K tg (Itr lo n) [it] it (fun i h => IsRangeIter h it (lo + (i : Nat) * 1) ((n : Int) - (i : Nat)) 1) where
  mem := by simp
  obj := fun i h st b hb => by
    have e : b = it := by simpa using hb
    subst e
    exact ⟨_, st, fun v z => by
      have z' : Data.fields _ = Data.cell v := z
      cases z'⟩
  keep := fun i h h' st k => k it (by simp) _ st
  item := by
    intro X hP hw hK hc i pins s σ H E I hf st hg
    subst hP hw hK
    obtain ⟨f0, f1, f2, f3, f4, f5⟩ := hf it (by simp)
    have W := Walks.range (prog := X.prog) (w := X.w) (I.ok.hd hc) it lo 1 n
    refine W.item i s _ _ hg st fun v h' tk hv st' kk => ?_
    obtain ⟨t, rfl⟩ := hv
    have I1 : Inv X pins σ H { s with heap := h', toks := tk } := I.turned (fun b o hb e => kk b o (by simpa using hb) e) f0 f1 f3 f4 f5
    refine ⟨_, rfl, go_of (s := { s with heap := h', toks := tk }) (n := "range_iterator") st' rfl rfl (by decide) ⟨.int (lo + i), H, I1, ⟨t, ?_⟩, ⟨rfl, rfl⟩, st', fun b hb => (hf b hb).1⟩⟩
    rw [Int.mul_one]
  done := by
    intro X hP hw hK hc i pins s σ H E I hf st hg
    subst hP hw hK
    obtain ⟨f0, f1, f2, f3, f4, f5⟩ := hf it (by simp)
    exact wpAny_pyNext_range_end (I.ok.hd hc) st (by have : n ≤ i := hg; omega) fun h' eb => ⟨rfl, I.turned (t' := s.toks) (fun b o hb e => eb b o hb e) f0 f1 f3 f4 f5⟩
  self := fun _ _ _ _ _ st h => wpAny_pyIter_rangeiter st h
end L2
namespace L2
open PySem PySem.Spec PyProof.Rows
section
variable {X : Cx} {tg : Expr}
def iList (K : PySem.W.Frag) (tl : TE) : TI := fun σ H R => tl σ H fun x H1 => ∃ a, x = .ref a ∧ (∃ xs, SqL K H1 a xs) ∧ R (Itl K a) H1
def iTup (K : PySem.W.Frag) (tl : TE) : TI := fun σ H R => tl σ H fun x H1 => ∃ a, x = .ref a ∧ (∃ xs, SqT K H1 a xs) ∧ R (Itt K a) H1
theorem pi_list {l : Expr} {tl : TE} (hl : PE X l tl) : PI X tg l (iList X.K tl) := by
  intro pins s σ H R I h
  refine thn (hl pins s σ H _ I h) fun v s1 ⟨x, H1, I1, r1, q1⟩ => ?_
  obtain ⟨a, e, ⟨xs, hq⟩, q⟩ := q1
  subst e
  cases r1
  obtain ⟨its, rv, p, hz⟩ := I1.list hq
  refine wpAny_pyIter_list p.isList ?_
  refine ⟨s1.heap.objs.size, [s1.heap.objs.size], _, _, H1, rfl, I1.kept (t' := s1.toks) fun b o e => Heap.get?_push_of_some _ e, turn_list a _, ⟨_, Heap.get?_push_size _ rfl, rfl, rfl⟩, fun b hb => ?_, q⟩
  have e : b = s1.heap.objs.size := by simpa using hb
  subst e
  exact I1.fpOk (Nat.le_refl _) (I1.hok.fresh (Nat.le_refl _))
theorem range_it {pins : List (Addr × Obj)} {σ : St} {H : Hp} {s : Shared} {R : It → Hp → Prop} {E : Value → Shared → Prop} {lo hi : Int} {t u v : Tok} {tk : Nat} (I : Inv X pins σ H s) (h1 : -(2 ^ 62) ≤ lo) (h2 : lo < 2 ^ 62) (h3 : -(2 ^ 62) ≤ hi) (h4 : hi < 2 ^ 62)
    (q : R (Itr lo (hi - lo).toNat) H) : wpAny (model X.prog X.w) X.A (pyIter (.ref s.heap.objs.size)) (PIE X pins σ tg R) E { s with heap := s.heap.push { cls := .type "range", data := .fields #[.int lo t, .int hi u, .int 1 v] }, toks := tk } := by
  refine wpAny_pyIter_range (IsRange.new ..) (small_one h1 h2 h3 h4) ?_
  have I1 : Inv X pins σ H { s with heap := s.heap.push { cls := .type "range", data := .fields #[.int lo t, .int hi u, .int 1 v] }, toks := tk } := I.kept fun b o e => Heap.get?_push_of_some _ e
  refine ⟨(s.heap.push { cls := .type "range", data := .fields #[.int lo t, .int hi u, .int 1 v] }).objs.size, [(s.heap.push { cls := .type "range", data := .fields #[.int lo t, .int hi u, .int 1 v] }).objs.size], _, _, H, rfl,
    I1.kept (t' := tk) fun b o e => Heap.get?_push_of_some _ e, turn_range _ lo (hi - lo).toNat, ?_, fun b hb => ?_, q⟩
  · have e1 : lo + ((0 : Nat) : Int) * 1 = lo := by simp
    have e2 : (((hi - lo).toNat : Nat) : Int) - ((0 : Nat) : Int) = Builtin.Range.rangeSize lo hi 1 := by rw [rangeSize_one]; split <;> omega
    show IsRangeIter _ _ (lo + ((0 : Nat) : Int) * 1) ((((hi - lo).toNat : Nat) : Int) - ((0 : Nat) : Int)) 1
    rw [e1, e2]
    exact Heap.get?_push_size _ rfl
  · have e : b = (s.heap.push { cls := .type "range", data := .fields #[.int lo t, .int hi u, .int 1 v] }).objs.size := by simpa using hb
    subst e
    exact I1.fpOk (Nat.le_refl _) (I1.hok.fresh (Nat.le_refl _))
def iRng1 (ta : TA) : TI := fun σ H R => ta σ H fun vs H1 => ∃ j : Int, vs = [.int j] ∧ -(2 ^ 62) ≤ j ∧ j < 2 ^ 62 ∧ R (Itr 0 j.toNat) H1
def iRng2 (ta : TA) : TI := fun σ H R => ta σ H fun vs H1 => ∃ i j : Int, vs = [.int i, .int j] ∧ (-(2 ^ 62) ≤ i ∧ i < 2 ^ 62 ∧ -(2 ^ 62) ≤ j ∧ j < 2 ^ 62) ∧ R (Itr i (j - i).toNat) H1
theorem pi_range1 {a : Expr} {ta : TA} {p pos : Pos} (hg : Gl X "range") (hm : X.mg "range" = none) (ha : PA X [a] ta) (hs : starEach [a] X.env = [(false, eval a X.env)] := by rfl) : PI X tg (.Call (.Name "range" p) [a] [] pos) (iRng1 ta) := by
  intro pins s σ H R I h
  refine Call_ (ld_blt I hg hm boot_range (PyProof.Rows.callWith_type1 (thn (ha pos pins s σ H _ I h) fun us s1 ⟨vs, H1, I1, r1, q1⟩ => ?_) hs rfl))
  obtain ⟨j, e, q1, q2, q⟩ := q1
  subst e
  cases r1 with
  | cons r rr =>
    cases rr
    obtain ⟨t, rfl⟩ := r
    exact call_range_1 (range_it I1 (by omega) (by omega) q1 q2 (by simpa using q))
def tFor (wi : TI) (g : TG) (tb : TS) : TS := fun D σ H => wi σ H fun J H1 => ∃ W : Nat → Nat → St → Hp → Prop, (∃ m, W 0 m σ H1) ∧ ∀ i m σ H, W i m σ H →
  (J.stop i H ∧ D.nx σ H) ∨ (J.go i H ∧ ∃ N : St → Hp → Prop, (∀ σ' H', N σ' H' → ∃ m', m' < m ∧ W (i + 1) m' σ' H') ∧ ∀ x H', J.yld i H x H' → g x σ H' fun σ2 H2 => tb { D with nx := N, ct := N, bk := D.nx } σ2 H2)
def pinsAt (fp : List Addr) (h : Heap) : List (Addr × Obj) := fp.filterMap fun b => (h.get? b).map fun o => (b, o)
theorem mem_pinsAt {fp : List Addr} {h : Heap} {b : Addr} {o : Obj} (hb : b ∈ fp) (e : h.get? b = some o) : (b, o) ∈ pinsAt fp h := List.mem_filterMap.mpr ⟨b, hb, by rw [e]; rfl⟩
theorem of_pinsAt {fp : List Addr} {h : Heap} {p : Addr × Obj} (hp : p ∈ pinsAt fp h) : p.1 ∈ fp ∧ h.get? p.1 = some p.2 := by
  obtain ⟨b, hb, e⟩ := List.mem_filterMap.mp hp
  cases q : h.get? b with
  | none => rw [q] at e; cases e
  | some o =>
    rw [q] at e
    have e' : (b, o) = p := Option.some.inj e
    subst e'
    exact ⟨hb, q⟩
theorem Inv.pinned {pins : List (Addr × Obj)} {σ : St} {H : Hp} {s : Shared} {fp : List Addr} (I : Inv X pins σ H s) (hf : ∀ b ∈ fp, FpOk X pins H b) (ho : ∀ b ∈ fp, ∃ o, s.heap.get? b = some o ∧ ∀ v, o.data ≠ .cell v) : Inv X (pins ++ pinsAt fp s.heap) σ H s :=
  I.pins_of fun p hp => (List.mem_append.mp hp).elim (fun z => I.pin p (List.mem_append_right _ z)) fun z => by
    obtain ⟨hb, e⟩ := of_pinsAt z
    obtain ⟨f0, f1, f2, _⟩ := hf p.1 hb
    obtain ⟨o, e', d⟩ := ho p.1 hb
    rw [e] at e'; cases e'
    exact ⟨e, f0, f1, f2, d⟩
theorem Inv.unpinned {pins pl : List (Addr × Obj)} {σ : St} {H : Hp} {s : Shared} (I : Inv X (pins ++ pl) σ H s) : Inv X pins σ H s := I.pins_of fun p hp => I.pin p (List.mem_append_right _ (List.mem_append_left _ hp))
theorem ps_for {iter : Expr} {body : List Stmt} {wi : TI} {g : TG} {tb : TS} {pos : Pos} (hp : PassesOwn (model X.prog X.w) X.A X.env X.xe) (hc : X.calm = true) (hi : PI X tg iter wi) (hg : PG X tg g) (hb : PSs X body tb)
    (hs : ∀ x, foldedSetIterable iter X.env x = pure x := by intro _; rfl) : PS X (.For tg iter body [] pos) (tFor wi g tb) := by
  intro pins s σ H D I h
  refine wpAny_For (thn (hi pins s σ H _ I h) fun v s1 h1 => thn h1 fun itv s2 h2 => ?_) hs
  obtain ⟨it, fp, tn, J, H2, e, I2, T, st2, f2, W, ⟨m0, w0⟩, turn⟩ := h2
  subst e
  have stat : ∀ {H' : Hp}, (∀ b ∈ fp, H' b = none) → ∀ b ∈ fp, FpOk X pins H' b := fun hn b hb => ⟨hn b hb, (f2 b hb).2⟩
  refine codeAny_forLoop_any (fun n s' => ∃ i σ' H', Inv X pins σ' H' s' ∧ tn i s'.heap ∧ (∀ b ∈ fp, H' b = none) ∧ W i n σ' H') ?_ m0 ⟨0, σ, H2, I2, st2, fun b hb => (f2 b hb).1, w0⟩
  rintro n s3 ⟨i, σ3, H3, I3, st3, fr3, w3⟩
  rcases turn i n σ3 H3 w3 with ⟨stop, qn⟩ | ⟨go, N, hN, step⟩
  · refine wpAny_passesOwn hp (thn (T.done X rfl rfl rfl hc i pins s3 σ3 H3 X.xe I3 (stat fr3) st3 stop) fun r s4 ⟨hr, I4⟩ => ?_)
    subst hr
    exact wpAny_execs_nil ⟨σ3, H3, I4, qn⟩
  · refine wpAny_passesOwn hp (thn (T.item X rfl rfl rfl hc i pins s3 σ3 H3 X.xe I3 (stat fr3) st3 go) fun r s4 ⟨u, hr, h4⟩ => ?_)
    subst hr
    refine wpAny_passesOwn hp (thn h4 fun _ s5 ⟨x, H5, I5, r5, y5, st5, fr5⟩ => ?_)
    have I5' := I5.pinned (stat fr5) (T.obj _ _ st5)
    refine wpAny_passesOwn hp (thn (hg _ s5 σ3 H5 x u _ I5' r5 (step x H5 y5)) fun _ s6 ⟨σ6, H6, I6, q6⟩ => ?_)
    refine wpAny_passesOwn hp (thn (hb _ s6 σ6 H6 _ I6 q6) fun f s7 q7 => ?_)
    have again : ∀ {σ7 : St} {H7 : Hp}, Inv X (pins ++ pinsAt fp s5.heap) σ7 H7 s7 → N σ7 H7 → ∃ m, m < n ∧ ∃ i σ' H', Inv X pins σ' H' s7 ∧ tn i s7.heap ∧ (∀ b ∈ fp, H' b = none) ∧ W i m σ' H' := fun {σ7 H7} I7 n7 => by
      obtain ⟨m', hm, w7⟩ := hN σ7 H7 n7
      refine ⟨m', hm, i + 1, σ7, H7, I7.unpinned, T.keep _ _ _ st5 fun b hb o e => (I7.pin (b, o) (List.mem_append_right _ (List.mem_append_right _ (mem_pinsAt hb e)))).1, fun b hb => ?_, w7⟩
      obtain ⟨o, e, d⟩ := T.obj _ _ st5 b hb
      exact (I7.pin (b, o) (List.mem_append_right _ (List.mem_append_right _ (mem_pinsAt hb e)))).2.1
    cases f with
    | next => obtain ⟨σ7, H7, I7, n7⟩ := q7; exact again I7 n7
    | cont => obtain ⟨σ7, H7, I7, n7⟩ := q7; exact again I7 n7
    | brk => obtain ⟨σ7, H7, I7, q7⟩ := q7; exact ⟨σ7, H7, I7.unpinned, q7⟩
    | ret v => obtain ⟨x7, σ7, H7, I7, r7, q7⟩ := q7; exact ⟨x7, σ7, H7, I7.unpinned, r7, q7⟩
end
theorem for_list {K : PySem.W.Frag} {a : Addr} {xs : List V} {g : TG} {tb : TS} {D : Ends} {σ : St} {H : Hp} (Pv : Nat → St → Hp → Prop) (h0 : Pv 0 σ H) (hl : ∀ i σ H, i ≤ xs.length → Pv i σ H → SqL K H a xs)
    (hs : ∀ i x σ H, xs[i]? = some x → Pv i σ H → g x σ H fun σ2 H2 => tb { D with nx := Pv (i + 1), ct := Pv (i + 1), bk := D.nx } σ2 H2) (hd : ∀ σ H, Pv xs.length σ H → D.nx σ H) :
    ∃ W : Nat → Nat → St → Hp → Prop, (∃ m, W 0 m σ H) ∧ ∀ i m σ H, W i m σ H →
      ((Itl K a).stop i H ∧ D.nx σ H) ∨ ((Itl K a).go i H ∧ ∃ N : St → Hp → Prop, (∀ σ' H', N σ' H' → ∃ m', m' < m ∧ W (i + 1) m' σ' H') ∧ ∀ x H', (Itl K a).yld i H x H' → g x σ H' fun σ2 H2 => tb { D with nx := N, ct := N, bk := D.nx } σ2 H2) := by
  refine ⟨fun i m σ H => m = xs.length - i ∧ i ≤ xs.length ∧ Pv i σ H, ⟨xs.length, by simp, Nat.zero_le _, h0⟩, ?_⟩
  rintro i m σ H ⟨rfl, hi, p⟩
  have q := hl i σ H hi p
  by_cases hlt : i < xs.length
  · refine .inr ⟨⟨xs, xs[i], q, by simp [hlt]⟩, Pv (i + 1), fun σ' H' p' => ⟨xs.length - (i + 1), by omega, rfl, hlt, p'⟩, fun x H' y => ?_⟩
    obtain ⟨e, y⟩ := y
    subst e
    exact hs i x σ _ (y xs q) p
  · have e : i = xs.length := by omega
    subst e
    exact .inl ⟨⟨xs, q, Nat.le_refl _⟩, hd σ H p⟩
end L2
namespace L2
open PySem PySem.Spec PyProof.Rows
abbrev R2 := V → V → Hp → VK → Prop
def OpR (X : Cx) (f : Value → Value → Sem Value) (r : R2) : Prop :=
  ∀ (pins : List (Addr × Obj)) (s : Shared) (σ : St) (H : Hp) (x y : V) (v u : Value) (Q : VK), Inv X pins σ H s → RelV x v → RelV y u → r x y H Q →
    wpAny (model X.prog X.w) X.A (f v u) (EP X pins σ Q) X.xe s
def UnR (X : Cx) (f : Value → Sem Value) (r : V → Hp → VK → Prop) : Prop :=
  ∀ (pins : List (Addr × Obj)) (s : Shared) (σ : St) (H : Hp) (x : V) (v : Value) (Q : VK), Inv X pins σ H s → RelV x v → r x H Q →
    wpAny (model X.prog X.w) X.A (f v) (EP X pins σ Q) X.xe s
def CallR (X : Cx) (f : Value) (r : List V → Hp → VK → Prop) : Prop :=
  ∀ (pins : List (Addr × Obj)) (s : Shared) (σ : St) (H : Hp) (xs : List V) (us : List Value) (Q : VK), Inv X pins σ H s → Vals xs us → r xs H Q →
    wpAny (model X.prog X.w) X.A (call f us) (EP X pins σ Q) X.xe s
def TruR (X : Cx) (r : V → Hp → (Bool → Hp → Prop) → Prop) : Prop :=
  ∀ (pins : List (Addr × Obj)) (s : Shared) (σ : St) (H : Hp) (x : V) (v : Value) (Q : Bool → Hp → Prop), Inv X pins σ H s → RelV x v → r x H Q →
    wpAny (model X.prog X.w) X.A (truthy v) (TP X pins σ Q) X.xe s
def tOp (r : R2) (ta tb : TE) : TE := fun σ H Q => ta σ H fun x H1 => tb σ H1 fun y H2 => r x y H2 Q
def tUn (r : V → Hp → VK → Prop) (ta : TE) : TE := fun σ H Q => ta σ H fun x H1 => r x H1 Q
def rI (C : Int → Int → Prop) (g : Int → Int → V) : R2 := fun x y H Q => ∃ i j, x = .int i ∧ y = .int j ∧ C i j ∧ Q (g i j) H
def rI0 (g : Int → Int → V) : R2 := fun x y H Q => ∃ i j, x = .int i ∧ y = .int j ∧ Q (g i j) H
def rU (g : Int → V) : V → Hp → VK → Prop := fun x H Q => ∃ i, x = .int i ∧ Q (g i) H
section
variable {X : Cx} {a b c : Expr} {ta tb tc : TE} {pos : Pos}
theorem binT (ha : PE X a ta) (hb : PE X b tb) {pins : List (Addr × Obj)} {s : Shared} {σ : St} {H : Hp} {R : V → V → Hp → Prop} (I : Inv X pins σ H s)
    (h : ta σ H fun x H1 => tb σ H1 fun y H2 => R x y H2) {Q : Value → Shared → Prop} {f : Value → Value → Sem Value}
    (hf : ∀ v u s2 x y H2, Inv X pins σ H2 s2 → RelV x v → RelV y u → R x y H2 → wpAny (model X.prog X.w) X.A (f v u) Q X.xe s2) :
    wpAny (model X.prog X.w) X.A (eval a X.env) (fun v s₁ => wpAny (model X.prog X.w) X.A (eval b X.env) (fun u s₂ => wpAny (model X.prog X.w) X.A (f v u) Q X.xe s₂) X.xe s₁) X.xe s := by
  refine thn (ha pins s σ H _ I h) fun v s1 ⟨x, H1, I1, r1, q1⟩ => ?_
  refine thn (hb pins s1 σ H1 _ I1 q1) fun u s2 ⟨y, H2, I2, r2, q2⟩ => ?_
  exact hf v u s2 x y H2 I2 r1 r2 q2
theorem pe_op {op : Operator} {r : R2} (ho : OpR X (binaryOp op) r) (ha : PE X a ta) (hb : PE X b tb) : PE X (.BinOp a op b pos) (tOp r ta tb) := by
  intro pins s σ H Q I h
  exact wpAny_BinOp (binT ha hb I h fun v u s2 x y H2 I2 rx ry q => ho pins s2 σ H2 x y v u Q I2 rx ry q)
theorem opI {f : Value → Value → Sem Value} {C : Int → Int → Prop} {g : Int → Int → Int}
    (rule : ∀ (i j : Int) (t u : Tok) (s : Shared) (Q : Value → Shared → Prop) (E : Value → Shared → Prop), C i j → Q (.int (g i j) s.toks) { s with toks := s.toks + 1 } → wpAny (model X.prog X.w) X.A (f (.int i t) (.int j u)) Q E s) :
    OpR X f (rI C fun i j => .int (g i j)) := by
  intro pins s σ H x y v u Q I rx ry h
  obtain ⟨i, j, rfl, rfl, hc, q⟩ := h
  obtain ⟨t, rfl⟩ := rx
  obtain ⟨t', rfl⟩ := ry
  exact rule i j t t' s _ _ hc ⟨.int (g i j), H, I.tok _, ⟨_, rfl⟩, q⟩
theorem opI0 {f : Value → Value → Sem Value} {g : Int → Int → Int}
    (rule : ∀ (i j : Int) (t u : Tok) (s : Shared) (Q : Value → Shared → Prop) (E : Value → Shared → Prop), Q (.int (g i j) s.toks) { s with toks := s.toks + 1 } → wpAny (model X.prog X.w) X.A (f (.int i t) (.int j u)) Q E s) :
    OpR X f (rI0 fun i j => .int (g i j)) := by
  intro pins s σ H x y v u Q I rx ry h
  obtain ⟨i, j, rfl, rfl, q⟩ := h
  obtain ⟨t, rfl⟩ := rx
  obtain ⟨t', rfl⟩ := ry
  exact rule i j t t' s _ _ ⟨.int (g i j), H, I.tok _, ⟨_, rfl⟩, q⟩
theorem opB0 {f : Value → Value → Sem Value} {g : Int → Int → Bool}
    (rule : ∀ (i j : Int) (t u : Tok) (s : Shared) (Q : Value → Shared → Prop) (E : Value → Shared → Prop), Q (.bool (g i j)) s → wpAny (model X.prog X.w) X.A (f (.int i t) (.int j u)) Q E s) :
    OpR X f (rI0 fun i j => .bl (g i j)) := by
  intro pins s σ H x y v u Q I rx ry h
  obtain ⟨i, j, rfl, rfl, q⟩ := h
  obtain ⟨t, rfl⟩ := rx
  obtain ⟨t', rfl⟩ := ry
  exact rule i j t t' s _ _ ⟨.bl (g i j), H, I, rfl, q⟩
def CDiv (i j : Int) : Prop := 0 < j ∧ j < 1073741824
def CDivN (i j : Int) : Prop := j ≠ 0 ∧ j.natAbs < 1073741824
def CPow (i j : Int) : Prop := 0 ≤ j ∧ j ≤ 1000000 ∧ i.natAbs < 2 ^ 64
def CMul (i j : Int) : Prop := (-(2 ^ 64) < i ∧ i < 2 ^ 64) ∨ (-(2 ^ 64) < j ∧ j < 2 ^ 64)
theorem CMul.ok {i j : Int} (h : CMul i j) : IntMulOk i j := by
  rcases h with ⟨h1, h2⟩ | ⟨h1, h2⟩
  · exact .of_left (intBits_le_64 h1 h2)
  · exact .of_right (intBits_le_64 h1 h2)
theorem op_add : OpR X (binaryOp .Add) (rI0 fun i j => .int (i + j)) := opI0 fun _ _ _ _ _ _ _ q => add_int q
theorem op_sub : OpR X (binaryOp .Sub) (rI0 fun i j => .int (i - j)) := opI0 fun _ _ _ _ _ _ _ q => sub_int q
theorem op_mul : OpR X (binaryOp .Mult) (rI CMul fun i j => .int (i * j)) := opI fun _ _ _ _ _ _ _ hc q => mul_int q hc.ok
theorem op_fdiv : OpR X (binaryOp .FloorDiv) (rI CDiv fun i j => .int (i / j)) := opI fun i j _ _ _ _ _ hc q => by
  have h1 : (0 : Int) < j := hc.1
  have h2 : j < 1073741824 := hc.2
  exact floordiv_int (by omega) (by rw [Int.fdiv_eq_ediv_of_nonneg i (by omega)]; exact q) (.inl (PyProof.noPylong_small (by omega)))
theorem op_mod : OpR X (binaryOp .Mod) (rI (fun _ j => 0 < j) fun i j => .int (i % j)) := opI fun i j _ _ _ _ _ hc q => by
  have h1 : (0 : Int) < j := hc
  exact mod_int' (by omega) (by rw [Int.fmod_eq_emod_of_nonneg i (by omega)]; exact q)
theorem op_pow : OpR X (binaryOp .Pow) (rI CPow fun i j => .int (i ^ j.toNat)) := opI fun _ _ _ _ _ _ _ hc q => pow_int_small hc.1 hc.2.1 hc.2.2 q
end
def scal : V → V → Bool
  | .non, .non => true | .non, .int _ => true | .int _, .non => true | .non, .bl _ => true | .bl _, .non => true | .non, .str _ => true | .str _, .non => true
  | .int _, .int _ => true | .bl _, .bl _ => true | .str _, .str _ => true | .byt _, .byt _ => true
  | .int _, .str _ => true | .str _, .int _ => true | .bl _, .str _ => true | .str _, .bl _ => true
  | _, _ => false
def rEq : R2 := fun x y H Q => scal x y = true ∧ Q (.bl (decide (x = y))) H
def rNe : R2 := fun x y H Q => scal x y = true ∧ Q (.bl (!decide (x = y))) H
theorem dec_int {i j : Int} : decide (V.int i = V.int j) = (i == j) := by
  rw [Bool.eq_iff_iff]
  simp
theorem dec_bl {i j : Bool} : decide (V.bl i = V.bl j) = (i == j) := by
  rw [Bool.eq_iff_iff]
  simp
theorem dec_str {i j : Str} : decide (V.str i = V.str j) = (i == j) := by
  rw [Bool.eq_iff_iff]
  simp
theorem dec_byt {i j : Array UInt8} : decide (V.byt i = V.byt j) = (i.toList == j.toList) := by
  rw [Bool.eq_iff_iff]
  cases i
  cases j
  simp
section
variable {X : Cx} {a b c : Expr} {ta tb tc : TE} {pos : Pos}
theorem fin_bl {pins : List (Addr × Obj)} {σ : St} {H : Hp} {s : Shared} {Q : VK} {k k' : Bool} (I : Inv X pins σ H s) (q : Q (.bl k) H) (e : k = k') : EP X pins σ Q (.bool k') s := by
  subst e
  exact ⟨.bl k, H, I, rfl, q⟩
theorem op_eq : OpR X (compareOp .Eq) rEq := by
  intro pins s σ H x y v u Q I rx ry h
  obtain ⟨hs, q⟩ := h
  cases x with
  | non =>
    cases rx
    cases y with
    | non => cases ry; exact PySem.EqNone.eq_none_none (fin_bl I q (by simp))
    | bl j => cases ry; exact PySem.EqNone.eq_none_bool (fin_bl I q (by simp))
    | int j => obtain ⟨t', rfl⟩ := ry; exact PySem.EqNone.eq_none_int (fin_bl I q (by simp))
    | str j => obtain ⟨t', rfl⟩ := ry; exact PySem.EqNone.eq_none_str (fin_bl I q (by simp))
    | _ => exact absurd (show false = true from hs) Bool.false_ne_true
  | bl i =>
    cases rx
    cases y with
    | non => cases ry; exact PySem.EqNone.eq_bool_none (fin_bl I q (by simp))
    | bl j => cases ry; exact eq_bool (fin_bl I q dec_bl)
    | str j => obtain ⟨t', rfl⟩ := ry; exact PySem.EqMixed.eq_bool_str (fin_bl I q (by simp))
    | _ => exact absurd (show false = true from hs) Bool.false_ne_true
  | int i =>
    obtain ⟨t, rfl⟩ := rx
    cases y with
    | non => cases ry; exact PySem.EqNone.eq_int_none (fin_bl I q (by simp))
    | int j => obtain ⟨t', rfl⟩ := ry; exact eq_int (fin_bl I q dec_int)
    | str j => obtain ⟨t', rfl⟩ := ry; exact PySem.EqMixed.eq_int_str (fin_bl I q (by simp))
    | _ => exact absurd (show false = true from hs) Bool.false_ne_true
  | str i =>
    obtain ⟨t, rfl⟩ := rx
    cases y with
    | non => cases ry; exact PySem.EqNone.eq_str_none (fin_bl I q (by simp))
    | bl j => cases ry; exact PySem.EqMixed.eq_str_bool (fin_bl I q (by simp))
    | int j => obtain ⟨t', rfl⟩ := ry; exact PySem.EqMixed.eq_str_int (fin_bl I q (by simp))
    | str j => obtain ⟨t', rfl⟩ := ry; exact eq_str (fin_bl I q dec_str)
    | _ => exact absurd (show false = true from hs) Bool.false_ne_true
  | byt i =>
    obtain ⟨t, rfl⟩ := rx
    cases y with
    | byt j => obtain ⟨t', rfl⟩ := ry; exact PySem.W.eq_bytes (fin_bl I q dec_byt)
    | _ => exact absurd (show false = true from hs) Bool.false_ne_true
  | _ => cases y <;> exact absurd (show false = true from hs) Bool.false_ne_true
theorem op_ne : OpR X (compareOp .NotEq) rNe := by
  intro pins s σ H x y v u Q I rx ry h
  obtain ⟨hs, q⟩ := h
  cases x with
  | non =>
    cases rx
    cases y with
    | non => cases ry; exact PySem.EqNone.ne_none_none (fin_bl I q (by simp))
    | bl j => cases ry; exact PySem.EqNone.ne_none_bool (fin_bl I q (by simp))
    | int j => obtain ⟨t', rfl⟩ := ry; exact PySem.EqNone.ne_none_int (fin_bl I q (by simp))
    | str j => obtain ⟨t', rfl⟩ := ry; exact PySem.EqNone.ne_none_str (fin_bl I q (by simp))
    | _ => exact absurd (show false = true from hs) Bool.false_ne_true
  | bl i =>
    cases rx
    cases y with
    | non => cases ry; exact PySem.EqNone.ne_bool_none (fin_bl I q (by simp))
    | bl j => cases ry; exact ne_bool (fin_bl I q (congrArg not dec_bl))
    | str j => obtain ⟨t', rfl⟩ := ry; exact PySem.EqMixed.ne_bool_str (fin_bl I q (by simp))
    | _ => exact absurd (show false = true from hs) Bool.false_ne_true
  | int i =>
    obtain ⟨t, rfl⟩ := rx
    cases y with
    | non => cases ry; exact PySem.EqNone.ne_int_none (fin_bl I q (by simp))
    | int j => obtain ⟨t', rfl⟩ := ry; exact ne_int (fin_bl I q (congrArg not dec_int))
    | str j => obtain ⟨t', rfl⟩ := ry; exact PySem.EqMixed.ne_int_str (fin_bl I q (by simp))
    | _ => exact absurd (show false = true from hs) Bool.false_ne_true
  | str i =>
    obtain ⟨t, rfl⟩ := rx
    cases y with
    | non => cases ry; exact PySem.EqNone.ne_str_none (fin_bl I q (by simp))
    | bl j => cases ry; exact PySem.EqMixed.ne_str_bool (fin_bl I q (by simp))
    | int j => obtain ⟨t', rfl⟩ := ry; exact PySem.EqMixed.ne_str_int (fin_bl I q (by simp))
    | str j => obtain ⟨t', rfl⟩ := ry; exact ne_str (fin_bl I q (congrArg not dec_str))
    | _ => exact absurd (show false = true from hs) Bool.false_ne_true
  | byt i =>
    obtain ⟨t, rfl⟩ := rx
    cases y with
    | byt j => obtain ⟨t', rfl⟩ := ry; exact PySem.W.ne_bytes (fin_bl I q (congrArg not dec_byt))
    | _ => exact absurd (show false = true from hs) Bool.false_ne_true
  | _ => cases y <;> exact absurd (show false = true from hs) Bool.false_ne_true
theorem op_lt : OpR X (compareOp .Lt) (rI0 fun i j => .bl (decide (i < j))) := opB0 fun _ _ _ _ _ _ _ q => lt_int q
theorem op_le : OpR X (compareOp .LtE) (rI0 fun i j => .bl (decide (i ≤ j))) := opB0 fun _ _ _ _ _ _ _ q => le_int q
theorem op_gt : OpR X (compareOp .Gt) (rI0 fun i j => .bl (decide (j < i))) := opB0 fun _ _ _ _ _ _ _ q => gt_int q
theorem op_ge : OpR X (compareOp .GtE) (rI0 fun i j => .bl (decide (j ≤ i))) := opB0 fun _ _ _ _ _ _ _ q => ge_int q
theorem op_lt_str : OpR X (compareOp .Lt) (fun x y H Q => ∃ i j, x = .str i ∧ y = .str j ∧ Q (.bl (decide (i.cps.toList < j.cps.toList))) H) := by
  intro pins s σ H x y v u Q I rx ry h
  obtain ⟨i, j, rfl, rfl, q⟩ := h
  obtain ⟨t, rfl⟩ := rx
  obtain ⟨t', rfl⟩ := ry
  exact lt_str (fin_bl I q rfl)
theorem op_in_str : OpR X (compareOp .In) (fun x y H Q => ∃ i j, x = .str i ∧ y = .str j ∧ Q (.bl (!(Builtin.Str.occurrences j i 0 j.length 1).isEmpty)) H) := by
  intro pins s σ H x y v u Q I rx ry h
  obtain ⟨i, j, rfl, rfl, q⟩ := h
  obtain ⟨t, rfl⟩ := rx
  obtain ⟨t', rfl⟩ := ry
  exact in_str (fin_bl I q rfl)
theorem op_isN : OpR X (compareOp .Is) (fun x y H Q => y = .non ∧ Q (.bl (decide (x = .non))) H) := by
  intro pins s σ H x y v u Q I rx ry h
  obtain ⟨rfl, q⟩ := h
  cases ry
  refine is_none_gen (fin_bl I q ?_)
  cases x <;> first
    | (cases rx; rfl)
    | (obtain ⟨t, rfl⟩ := rx; rfl)
theorem op_notN : OpR X (compareOp .IsNot) (fun x y H Q => y = .non ∧ Q (.bl (!decide (x = .non))) H) := by
  intro pins s σ H x y v u Q I rx ry h
  obtain ⟨rfl, q⟩ := h
  cases ry
  refine isnot_none_gen (fin_bl I q ?_)
  cases x <;> first
    | (cases rx; rfl)
    | (obtain ⟨t, rfl⟩ := rx; rfl)
theorem op_notin_str : OpR X (compareOp .NotIn) (fun x y H Q => ∃ i j, x = .str i ∧ y = .str j ∧ Q (.bl (!(!(Builtin.Str.occurrences j i 0 j.length 1).isEmpty))) H) := by
  intro pins s σ H x y v u Q I rx ry h
  obtain ⟨i, j, rfl, rfl, q⟩ := h
  obtain ⟨t, rfl⟩ := rx
  obtain ⟨t', rfl⟩ := ry
  exact notIn_str (fin_bl I q rfl)
def isObj : HO → Bool
  | .lst _ => true
  | .ins _ _ _ => true
  | _ => false
theorem OpR.or {f : Value → Value → Sem Value} {r r' : R2} (h : OpR X f r) (h' : OpR X f r') : OpR X f (fun x y H Q => r x y H Q ∨ r' x y H Q) := by
  intro pins s σ H x y v u Q I rx ry q
  rcases q with q | q
  · exact h pins s σ H x y v u Q I rx ry q
  · exact h' pins s σ H x y v u Q I rx ry q
theorem nomark (b : Expr) {op : CmpOp} (h : op ≠ .In := by decide) (h2 : op ≠ .NotIn := by decide) : behindInMarks op b = false := by
  have e1 : (op == CmpOp.In) = false := by cases op <;> first | rfl | exact absurd rfl h
  have e2 : (op == CmpOp.NotIn) = false := by cases op <;> first | rfl | exact absurd rfl h2
  cases b <;> simp [behindInMarks, e1, e2]
theorem pe_cmpR {op : CmpOp} {r : R2} (ho : OpR X (compareOp op) r) (ha : PE X a ta) (hb : PE X b tb) (hm : behindInMarks op b = false) : PE X (.Compare a [op] [b] pos) (tOp r ta tb) := by
  intro pins s σ H Q I h
  exact wpAny_Compare1 (binT ha hb I h fun v u s2 x y H2 I2 rx ry q => ho pins s2 σ H2 x y v u Q I2 rx ry q) hm
def tTest (t : TE) : TT := fun σ H Q => t σ H fun x H' => ∃ k, x = .bl k ∧ Q k H'
def tChain (r r' : R2) (ta tb tc : TE) : TE := fun σ H Q => ta σ H fun x H1 => tb σ H1 fun y H2 => r x y H2 fun z H3 => ∃ k, z = .bl k ∧
  (if k = true then tc σ H3 fun w' H4 => r' y w' H4 Q else Q (.bl false) H3)
def TruV (K : PySem.W.Frag) (x : V) (H : Hp) (k : Bool) : Prop :=
  match x with
  | .non => k = false
  | .bl b => k = b
  | .int i => k = (i != 0)
  | .str y => y.length ≤ sizeLine ∧ k = ((y.length : Int) != 0)
  | .byt y => y.size ≤ sizeLine ∧ k = ((y.size : Int) != 0)
  | .ref p => (∃ xs, SqL K H p xs ∧ k = !xs.isEmpty) ∨ (∃ xs, SqT K H p xs ∧ k = !xs.isEmpty) ∨ ∃ kvs, H p = some (.dK kvs) ∧ k = !kvs.isEmpty
  | _ => False
theorem isEmpty_kv {κ : Type} {kvs : List (κ × V)} {vs : List (κ × Value)} (r : KV kvs vs) : (!vs.isEmpty) = !kvs.isEmpty := by
  cases r <;> rfl
theorem isEmpty_of {xs : List V} {its : List Value} (r : Vals xs its) : (!its.toArray.isEmpty) = !xs.isEmpty := by
  cases r <;> simp
theorem line63 : (sizeLine : Nat) < 2 ^ 63 := by rw [sizeLine_eq]; decide
theorem tru_ok : TruR X (fun x H Q => ∃ k, TruV X.K x H k ∧ Q k H) := by
  intro pins s σ H x v Q I rx h
  obtain ⟨k, e, q⟩ := h
  have hl := line63
  have hs : sizeLine = 16777216 := sizeLine_eq
  cases x with
  | non =>
    cases rx
    have e' : k = false := e
    subst e'
    exact truthy_none ⟨H, I, q⟩
  | bl b =>
    cases rx
    have e' : k = b := e
    subst e'
    exact wpAny_truthy_bool ⟨H, I, q⟩
  | int i =>
    obtain ⟨t, rfl⟩ := rx
    have e' : k = (i != 0) := e
    subst e'
    exact PySem.P.truthy_int ⟨H, I, q⟩
  | str y =>
    obtain ⟨t, rfl⟩ := rx
    obtain ⟨hy, e'⟩ : y.length ≤ sizeLine ∧ k = ((y.length : Int) != 0) := e
    subst e'
    exact PySem.P.truthy_str (by omega) ⟨H, I.tok _, q⟩
  | byt y =>
    obtain ⟨t, rfl⟩ := rx
    obtain ⟨hy, e'⟩ : y.size ≤ sizeLine ∧ k = ((y.size : Int) != 0) := e
    subst e'
    exact PySem.W.truthy_bytes (by omega) ⟨H, I.tok _, q⟩
  | ref p =>
    cases rx
    have e' : (∃ xs, SqL X.K H p xs ∧ k = !xs.isEmpty) ∨ (∃ xs, SqT X.K H p xs ∧ k = !xs.isEmpty) ∨ ∃ kvs, H p = some (.dK kvs) ∧ k = !kvs.isEmpty := e
    rcases e' with ⟨xs, hx, e'⟩ | ⟨xs, hx, e'⟩ | ⟨kvs, hx, e'⟩
    · subst e'
      obtain ⟨its, r, pl, hz⟩ := I.list hx
      have hlen := r.length
      exact wpAny_truthy_list pl.isList (by simp only [List.size_toArray]; omega) ⟨H, I.tok _, by rw [isEmpty_of r]; exact q⟩
    · subst e'
      obtain ⟨its, r, pl, hz⟩ := I.tuple hx
      have hlen := r.length
      exact truthy_tuple pl (by simp only [List.size_toArray]; omega) ⟨H, I.tok _, by rw [isEmpty_of r]; exact q⟩
    · subst e'
      obtain ⟨hz, hS, vs, r, m⟩ : kvs.length ≤ sizeLine ∧ (p == sysModules) = false ∧ ∃ vs, KV kvs vs ∧ s.heap.DictOf (mixKind X.prog X.w) p vs := I.hok p _ hx
      have hlen : kvs.length = vs.length := Paired.length r
      exact wpAny_truthy_dict hS m (by omega) ⟨H, I.tok _, by rw [isEmpty_kv r]; exact q⟩
  | _ => exact (show False from e).elim
theorem pt_truth (ha : PE X a ta) (he : ∀ whole, isTrue a X.env whole = (do let v ← whole; standAt a.pos; holding [v] (truthy v))) :
    PT X a (fun σ H Q => ta σ H fun x H' => ∃ k, TruV X.K x H' k ∧ Q k H') := by
  intro pins s σ H Q I h
  exact isTrue_plain (thn (ha pins s σ H _ I h) fun v s1 ⟨x, H1, I1, r1, q1⟩ => tru_ok pins s1 σ H1 x v Q I1 r1 q1) (he _)
theorem op_add_str : OpR X (binaryOp .Add) (fun x y H Q => ∃ i j, x = .str i ∧ y = .str j ∧ i.length + j.length ≤ sizeLine ∧ Q (.str (i ++ j)) H) := by
  intro pins s σ H x y v u Q I rx ry h
  obtain ⟨i, j, rfl, rfl, hz, q⟩ := h
  obtain ⟨t, rfl⟩ := rx
  obtain ⟨t', rfl⟩ := ry
  exact add_str (fun t' tk => ⟨.str (i ++ j), H, I.tok _, ⟨_, rfl⟩, q⟩) hz
def PlainIxT (b : Expr) : Prop := ∀ o i, subscripted b false o i = operate [o, i] (getItem o i)
theorem vals1 {x : V} {us : List Value} (r : Vals [x] us) : ∃ u, us = [u] ∧ RelV x u := by
  cases r with
  | cons r1 r2 => cases r2; exact ⟨_, rfl, r1⟩
theorem vals2 {x y : V} {us : List Value} (r : Vals [x, y] us) : ∃ u w', us = [u, w'] ∧ RelV x u ∧ RelV y w' := by
  cases r with
  | cons r1 r2 =>
    cases r2 with
    | cons r3 r4 => cases r4; exact ⟨_, _, rfl, r1, r3⟩
theorem call_max2 (hc : X.calm = true) : CallR X (.builtin "max") (fun xs H Q => ∃ i j, xs = [.int i, .int j] ∧ Q (.int (if j > i then j else i)) H) := by
  intro pins s σ H xs us Q I r h
  obtain ⟨i, j, rfl, q⟩ := h
  obtain ⟨u, w', rfl, ⟨t, rfl⟩, ⟨t', rfl⟩⟩ := vals2 r
  refine max_two_ints (I.ok.hd hc) fun h' tk k => ⟨_, H, I.kept k, ?_, q⟩
  by_cases hj : j > i
  · rw [if_pos hj, if_pos hj]; exact ⟨_, rfl⟩
  · rw [if_neg hj, if_neg hj]; exact ⟨_, rfl⟩
theorem call_str_int : CallR X (.type "str") (fun xs H Q => ∃ i, xs = [.int i] ∧ i.natAbs.log2 < 1920 ∧ Q (.str (toString i)) H) := by
  intro pins s σ H xs us Q I r h
  obtain ⟨i, rfl, hz, q⟩ := h
  obtain ⟨u, rfl, t, rfl⟩ := vals1 r
  exact PySem.P.str_of_int hz ⟨.str _, H, I.tok _, ⟨_, rfl⟩, q⟩
def LenV (K : PySem.W.Frag) (x : V) (H : Hp) (n : Nat) : Prop :=
  match x with
  | .str y => y.length ≤ sizeLine ∧ n = y.length
  | .byt y => y.size ≤ sizeLine ∧ n = y.size
  | .ref p => (∃ xs, SqL K H p xs ∧ n = xs.length) ∨ ∃ xs, SqT K H p xs ∧ n = xs.length
  | _ => False
end
end L2
namespace L2
open PySem PySem.Spec PyProof.Rows
structure ObjM (h : Heap) (x dx C : Addr) (mA : Str → Option Value) : Prop where
  obj : h.get? x = some (PySem.W.instObj C dx)
  ns : h.Ns1 dx mA
  ne : dx ≠ x
theorem lookIn_ns {h : Heap} {dx : Addr} {mA : Str → Option Value} (n : h.Ns1 dx mA) : ∃ od, h.get? dx = some od ∧ ∀ name, PySem.W.lookIn name od = some (mA name) := by
  obtain ⟨o, es, ep, ho, hd, hk, _, hm⟩ := n
  refine ⟨o, ho, fun name => ?_⟩
  have e := hm name
  unfold nsFind findBy at e
  rw [← Array.find?_toList] at e
  unfold PySem.W.lookIn
  rw [hd]
  dsimp only
  split
  · rename_i y q
    rw [q] at e
    exact congrArg some e
  · rename_i q
    rw [q] at e
    have a : es.toList.any (·.refKey) = false := by
      rw [List.any_eq_false]
      intro y hy
      obtain ⟨z, t, hkey⟩ := hk y (Array.mem_toList_iff.mp hy)
      simp [DictEntry.refKey, hkey]
    have a' : ¬ es.toList.any (·.refKey) = true := by rw [a]; exact Bool.false_ne_true
    rw [if_neg a']
    exact congrArg some e
theorem ObjM.look {h : Heap} {x dx C : Addr} {mA : Str → Option Value} (I : ObjM h x dx C mA) : ∃ od, PySem.W.InstAt h x (PySem.W.instObj C dx) C (some od) ∧ ∀ name, PySem.W.lookIn name od = some (mA name) :=
  let ⟨od, ho, hl⟩ := lookIn_ns I.ns
  ⟨od, ⟨I.obj, rfl, rfl, ho⟩, hl⟩
section
variable {prog : Program} {w : World} {A : Around} {E : Value → Shared → Prop} {s : Shared} {K : PySem.W.Frag} {x dx C f : Addr} {mA : Str → Option Value} {name : Str} {v : Value}
end
def putF (f : Str) (v : V) : List (Str × V) → List (Str × V)
  | [] => [(f, v)]
  | (g, x) :: r => if g = f then (g, v) :: r else (g, x) :: putF f v r
theorem lookup_putF (f g : Str) (v : V) : ∀ fs : List (Str × V), (putF f v fs).lookup g = if g = f then some v else fs.lookup g
  | [] => by
    show List.lookup g [(f, v)] = _
    by_cases h : g = f
    · have hb : (g == f) = true := beq_iff_eq.mpr h
      simp only [List.lookup, hb, if_pos h]
    · have hb : (g == f) = false := beq_eq_false_iff_ne.mpr h
      simp only [List.lookup, hb, if_neg h]
  | (k, x) :: r => by
    have ih := lookup_putF f g v r
    rw [show putF f v ((k, x) :: r) = (if k = f then (k, v) :: r else (k, x) :: putF f v r) from rfl]
    by_cases hk : k = f
    · rw [if_pos hk]
      by_cases h : g = k
      · have hb : (g == k) = true := beq_iff_eq.mpr h
        simp only [List.lookup, hb, if_pos (h.trans hk)]
      · have hb : (g == k) = false := beq_eq_false_iff_ne.mpr h
        simp only [List.lookup, hb, if_neg (fun e : g = f => h (e.trans hk.symm))]
    · rw [if_neg hk]
      by_cases h : g = k
      · have hb : (g == k) = true := beq_iff_eq.mpr h
        simp only [List.lookup, hb, if_neg (fun e : g = f => hk (h.symm.trans e))]
      · have hb : (g == k) = false := beq_eq_false_iff_ne.mpr h
        simp only [List.lookup, hb]
        exact ih
theorem keys_putF (f : Str) (v : V) : ∀ fs : List (Str × V), f ∈ (putF f v fs).map (·.1) ∧ ∀ g, g ∈ fs.map (·.1) → g ∈ (putF f v fs).map (·.1)
  | [] => ⟨by simp [putF], fun g h => by simp at h⟩
  | (k, x) :: r => by
    obtain ⟨i1, i2⟩ := keys_putF f v r
    rw [show putF f v ((k, x) :: r) = (if k = f then (k, v) :: r else (k, x) :: putF f v r) from rfl]
    by_cases hk : k = f
    · rw [if_pos hk]
      subst hk
      exact ⟨by simp, fun g h => by simpa using h⟩
    · rw [if_neg hk]
      refine ⟨?_, fun g h => ?_⟩
      · rw [List.map_cons]
        exact List.mem_cons_of_mem _ i1
      · rw [List.map_cons] at h ⊢
        rcases List.mem_cons.mp h with e | e
        · exact List.mem_cons.mpr (.inl e)
        · exact List.mem_cons_of_mem _ (i2 g e)
theorem length_putF (f : Str) (v : V) : ∀ fs : List (Str × V), (putF f v fs).length ≤ fs.length + 1
  | [] => by simp [putF]
  | (k, x) :: r => by
    have ih := length_putF f v r
    rw [show putF f v ((k, x) :: r) = (if k = f then (k, v) :: r else (k, x) :: putF f v r) from rfl]
    by_cases hk : k = f
    · rw [if_pos hk, List.length_cons, List.length_cons]; omega
    · rw [if_neg hk, List.length_cons, List.length_cons]; omega
theorem RelO.none_of {o : Option Value} (r : RelO none o) : o = none := by
  cases o with
  | none => rfl
  | some u => exact (show False from r).elim
section
variable {P : Program} {w : World} {H H' : Hp} {h h' : Heap} {a C dx : Addr} {fs fs' : List (Str × V)}
theorem ins_get (hok : HOk P w H h) (e : H a = some (.ins C dx fs)) : ∃ mA, ObjM h a dx C mA ∧ (∀ f, RelO (fs.lookup f) (mA f)) ∧ PySem.Within mA (fs.map (·.1)) ∧ fs.length ≤ 1000 ∧ H dx = some (.own a) := by
  obtain ⟨d, z, ne, ob, mA, n, r, q⟩ := (show ObjOk P w H h a (.ins C dx fs) from hok a _ e)
  exact ⟨mA, ⟨ob, n, ne⟩, r, q, z, d⟩
end
structure Cls (K : PySem.W.Frag) (C : Addr) : Prop where
  pg : PySem.W.plainGet K C Str.empty = true
  hd : PySem.W.hasDictIn K C = true
  po : PySem.W.plainOver K C = true
  sa : PySem.W.findIn K (.ref C) "__setattr__" = some (some (.builtin "object.__setattr__"))
theorem Cls.get {K : PySem.W.Frag} {C : Addr} (c : Cls K C) (f : Str) : PySem.W.plainGet K C f = true := c.pg
def NoAttr (K : PySem.W.Frag) (C : Addr) (f : Str) : Prop := PySem.W.findIn K (.ref C) f = some none
structure Con (K : PySem.W.Frag) (C : Addr) (f : Str) (v : V) (u : Value) : Prop where
  at_ : PySem.W.findIn K (.ref C) f = some (some u)
  rel : RelV v u
  get : PySem.W.specialIn K u "__get__" = some none
  cp : PySem.W.copiedNames.contains f = false
structure Meth (K : PySem.W.Frag) (C : Addr) (m : Str) (f : Addr) : Prop where
  at_ : PySem.W.findIn K (.ref C) m = some (some (.ref f))
  fn : PySem.W.isFn K (.ref f) = true
  kp : PySem.W.keepIn K (.ref f) = true
section
variable {X : Cx} {pins : List (Addr × Obj)} {σ : St} {H : Hp} {s : Shared} {a C dx : Addr} {fs : List (Str × V)} {f : Str} {v : V} {A : Around} {E : Value → Shared → Prop}
end
def tFld (K : PySem.W.Frag) (ta : TE) (f : Str) : TE := fun σ H Q => ta σ H fun x H1 => ∃ a C dx fs v, x = .ref a ∧ H1 a = some (.ins C dx fs) ∧ Cls K C ∧ NoAttr K C f ∧ fs.lookup f = some v ∧ Q v H1
def tCon (K : PySem.W.Frag) (ta : TE) (f : Str) : TE := fun σ H Q => ta σ H fun x H1 => ∃ a C dx fs v u, x = .ref a ∧ H1 a = some (.ins C dx fs) ∧ Cls K C ∧ Con K C f v u ∧ fs.lookup f = none ∧ Q v H1
def sFld (K : PySem.W.Frag) (ta tv : TE) (f : Str) : TS := fun D σ H => tv σ H fun y H1 => ta σ H1 fun x H2 => ∃ a C dx fs, x = .ref a ∧ H2 a = some (.ins C dx fs) ∧ Cls K C ∧ NoAttr K C f ∧ fs.length < 1000 ∧
  D.nx σ (upd H2 a (.ins C dx (putF f y fs)))
def InOp (X : Cx) (op : Operator) (rd : V → V → Hp → VK → Prop) : Prop :=
  ∀ (pins : List (Addr × Obj)) (s : Shared) (σ : St) (H : Hp) (x y : V) (u v : Value) (Q : VK), Inv X pins σ H s → RelV x u → RelV y v → rd x y H Q → wpAny (model X.prog X.w) X.A (inplaceOp op u v) (EP X pins σ Q) X.xe s
def sFldAug (K : PySem.W.Frag) (ta tv : TE) (rd : V → V → Hp → VK → Prop) (f : Str) : TS := fun D σ H => ta σ H fun x H1 => ∃ a C dx fs v, x = .ref a ∧ H1 a = some (.ins C dx fs) ∧ Cls K C ∧ NoAttr K C f ∧ fs.lookup f = some v ∧
  tv σ H1 fun y H2 => rd v y H2 fun z H3 => ∃ dx' fs', H3 a = some (.ins C dx' fs') ∧ fs'.length < 1000 ∧ D.nx σ (upd H3 a (.ins C dx' (putF f z fs')))
section
variable {X : Cx} {o e value : Expr} {f : Str} {pos pos' tpos : Pos} {ta tv : TE}
def rAdd : V → V → Hp → VK → Prop := fun x y H Q => ∃ i j, x = .int i ∧ y = .int j ∧ Q (.int (i + j)) H
def rSub : V → V → Hp → VK → Prop := fun x y H Q => ∃ i j, x = .int i ∧ y = .int j ∧ Q (.int (i - j)) H
end
section
variable {X : Cx} {pins : List (Addr × Obj)} {σ : St} {H : Hp} {s : Shared} {A : Around} {E : Value → Shared → Prop} {Q : Value → Shared → Prop} {c : Value} {b : Bool}
inductive TyOf (K : PySem.W.Frag) (H : Hp) : V → Value → Prop where
  | non : TyOf K H .non (.type "NoneType")
  | bl (x : Bool) : TyOf K H (.bl x) (.type "bool")
  | int (i : Int) : TyOf K H (.int i) (.type "int")
  | str (x : Str) : TyOf K H (.str x) (.type "str")
  | flt (x : UInt64) : TyOf K H (.flt x) (.type "float")
  | lst {a : Addr} {xs : List V} (e : H a = some (.lst xs)) : TyOf K H (.ref a) (.type "list")
  | frz {a : Addr} {o : Obj} {xs : List V} (e : H a = some (.frz o (.lst xs))) : TyOf K H (.ref a) (.type "list")
  | tup {a : Addr} {xs : List V} (e : H a = some (.tup xs)) : TyOf K H (.ref a) (.type "tuple")
  | dK {a : Addr} {kvs : List (Key × V)} (e : H a = some (.dK kvs)) : TyOf K H (.ref a) (.type "dict")
  | dT {a : Addr} {kvs : List (List Key × V)} (e : H a = some (.dT kvs)) : TyOf K H (.ref a) (.type "dict")
  | ins {a C dx : Addr} {fs : List (Str × V)} (e : H a = some (.ins C dx fs)) (cl : Cls K C) (ha : PySem.W.findIn K (.ref C) "__class__" = some (some (.builtin "object.__class__")))
      (hn : PySem.W.specialIn K (.builtin "object.__class__") "__get__" = some (some (.builtin "getset_descriptor.__get__"))) (htk : PySem.W.takesIn K (.builtin "object.__class__") = some true)
      (hm : PySem.W.mroIn K C (.type "object") = some true) : TyOf K H (.ref a) (.ref C)
theorem isinst_ok {x : V} {u t : Value} (I : Inv X pins σ H s) (rx : RelV x u) (ty : TyOf X.K H x t) (e : PySem.W.kitOne X.K t c = some b) (h : ∀ tk, Q (.bool b) { s with toks := tk }) :
    wpAny (model X.prog X.w) A (call (.builtin "isinstance") [u, c]) Q E s := by
  cases ty with
  | non => cases (show u = Value.none from rx); exact PySem.W.kia_one PySem.W.kitx_none I.kIn True.intro e (fun z => nomatch z) h
  | bl y => cases (show u = Value.bool y from rx); exact PySem.W.kia_one PySem.W.kitx_bool I.kIn True.intro e (fun z => nomatch z) h
  | int i => obtain ⟨t, q⟩ := (show ∃ t, u = Value.int i t from rx); cases q; exact PySem.W.kia_one PySem.W.kitx_int I.kIn True.intro e (fun z => nomatch z) h
  | str y => obtain ⟨t, q⟩ := (show ∃ t, u = Value.str y t from rx); cases q; exact PySem.W.kia_one PySem.W.kitx_str I.kIn True.intro e (fun z => nomatch z) h
  | flt y => obtain ⟨t, q⟩ := (show ∃ t, u = Value.float y t from rx); cases q; exact PySem.W.kia_one PySem.W.kitx_float I.kIn True.intro e (fun z => nomatch z) h
  | @lst a xs ea =>
    cases (show u = Value.ref a from rx)
    obtain ⟨_, _, n, _, h1⟩ := (show ObjOk X.prog X.w H s.heap a (.lst xs) from I.hok a _ ea)
    exact PySem.W.kia_one PySem.W.kitx_list I.kIn ⟨_, h1, rfl⟩ e (fun z => nomatch z) h
  | @frz a ob xs ea =>
    cases (show u = Value.ref a from rx)
    obtain ⟨_, _, _, n, _, h1⟩ := (show ObjOk X.prog X.w H s.heap a (.frz ob (.lst xs)) from I.hok a _ ea)
    exact PySem.W.kia_one PySem.W.kitx_list I.kIn ⟨_, h1, rfl⟩ e (fun z => nomatch z) h
  | @tup a xs ea =>
    cases (show u = Value.ref a from rx)
    obtain ⟨_, _, _, p⟩ := (show ObjOk X.prog X.w H s.heap a (.tup xs) from I.hok a _ ea)
    obtain ⟨o, h1, h2, _⟩ := p
    exact PySem.W.kia_one PySem.W.kitx_tuple I.kIn ⟨o, h1, h2⟩ e (fun z => nomatch z) h
  | @dK a kvs ea =>
    cases (show u = Value.ref a from rx)
    obtain ⟨_, _, vs, _, p⟩ := (show ObjOk X.prog X.w H s.heap a (.dK kvs) from I.hok a _ ea)
    obtain ⟨o, es, ep, h1, h2, _⟩ := p
    exact PySem.W.kia_one PySem.W.kitx_dict I.kIn ⟨o, h1, h2.1⟩ e (fun z => nomatch z) h
  | @dT a kvs ea =>
    cases (show u = Value.ref a from rx)
    obtain ⟨_, _, xs, _, o, es, ep, h1, h2, _⟩ := (show ObjOk X.prog X.w H s.heap a (.dT kvs) from I.hok a _ ea)
    exact PySem.W.kia_one PySem.W.kitx_dict I.kIn ⟨o, h1, h2.1⟩ e (fun z => nomatch z) h
  | @ins a C dx fs ea cl ha hn htk hm =>
    cases (show u = Value.ref a from rx)
    obtain ⟨mA, O, _⟩ := ins_get I.hok ea
    obtain ⟨od, J, _⟩ := O.look
    exact PySem.W.kia_one (PySem.W.kitx_own (cl.get _) cl.hd ha hn htk hm) I.kIn J e (fun z => nomatch z) h
end
end L2
namespace L2
open PySem PySem.Spec PyProof.Rows
structure Room (k : Nat) (A : Around) : Prop where
  hd : A.handled = none
  dp : A.depth + 3 * k + 5 < recursionLimit
  un : A.units + 16 * k + 200 < cLine
theorem Room.mono {j k : Nat} {A : Around} (r : Room k A) (h : j ≤ k) : Room j A := ⟨r.hd, by have := r.dp; omega, by have := r.un; omega⟩
theorem Room.deeper {k : Nat} {A : Around} (r : Room (k + 1) A) (env : Env) : Room k (A.deeper env) :=
  ⟨r.hd, by have := r.dp; show A.depth + 1 + 3 * k + 5 < _; omega, by have := r.un; show A.units + 3 + 16 * k + 200 < _; omega⟩
theorem Room.in1 {k : Nat} {A : Around} (r : Room (k + 1) A) : Room k A.in1 :=
  ⟨r.hd, by have := r.dp; show A.depth + 3 * k + 5 < _; omega, by have := r.un; show A.units + 1 + 16 * k + 200 < _; omega⟩
theorem make_depth {A : Around} {C : Addr} {us : List Value} {kw : List (Str × Value)} : (A.under (.builtin "type.__call__" ⟨.ref C :: us, kw⟩)).depth = A.depth + 1 := by
  first | rfl | simp [Around.under, Code.weight, Code.isCreation, Code.isGuard, Code.isCaller, Code.frames, Code.isFrame, guardIds]
theorem make_units {A : Around} {C : Addr} {us : List Value} {kw : List (Str × Value)} : (A.under (.builtin "type.__call__" ⟨.ref C :: us, kw⟩)).units = A.units + 1 := by
  first | rfl | simp [Around.under, Code.cUnits, Code.frames, Code.isFrame]
theorem Room.make {k : Nat} {A : Around} (r : Room (k + 1) A) (C : Addr) (us : List Value) (kw : List (Str × Value)) : Room k (A.under (.builtin "type.__call__" ⟨.ref C :: us, kw⟩)) :=
  ⟨r.hd, by have := r.dp; rw [make_depth]; omega, by have := r.un; rw [make_units]; omega⟩
theorem Room.depth {k : Nat} {A : Around} (r : Room k A) : A.depth < recursionLimit := by have := r.dp; omega
theorem Room.units {k : Nat} {A : Around} (r : Room k A) : A.units + 64 < cLine := by have := r.un; omega
def tNil : TA := fun _ H Q => Q [] H
def tCons (ta : TE) (tr : TA) : TA := fun σ H Q => ta σ H fun x H1 => tr σ H1 fun xs H2 => Q (x :: xs) H2
section
variable {X : Cx} {e : Expr} {es : List Expr} {te : TE} {t : TA} {pos : Pos}
theorem pa_nil : PA X [] tNil := fun _ _ _ _ H Q I h => Calls.spliced_nil ⟨[], H, I, .nil, h⟩
theorem pa_cons (ha : PE X e te) (hr : PA X es t) (hs : starEach (e :: es) X.env = (false, eval e X.env) :: starEach es X.env := by rfl) : PA X (e :: es) (tCons te t) := by
  intro pos pins s σ H Q I h
  rw [hs]
  show wpAny _ _ (spliced ((false, eval e X.env) :: backTo pos (starEach es X.env))) _ _ s
  refine Calls.spliced_cons (thn (ha pins s σ H _ I h) fun u s1 ⟨x, H1, I1, r1, q1⟩ => ?_)
  exact thn (hr pos pins s1 σ H1 _ I1 q1) fun us s2 ⟨xs, H2, I2, r2, q2⟩ => ⟨x :: xs, H2, I2, .cons r1 r2, q2⟩
def tTup (t : TA) : TE := fun σ H Q => t σ H fun xs H1 => xs.length ≤ sizeLine ∧ ∀ p, H1 p = none → Q (.ref p) (upd H1 p (.tup xs))
def tLst (t : TA) : TE := fun σ H Q => t σ H fun xs H1 => xs.length ≤ sizeLine ∧ ∀ p, H1 p = none → Q (.ref p) (upd H1 p (.lst xs))
theorem pe_tup {x1} (h : PA X es t) : PE X (.Tuple es x1 pos) (tTup t) := by
  intro pins s σ H Q I hq
  refine wpAny_Tuple_spliced (thn (h pos pins s σ H _ I hq) fun us s1 ⟨xs, H1, I1, r, z, q⟩ => ⟨by rw [← r.length]; exact z, ?_⟩)
  have hf : H1 s1.heap.objs.size = none := I1.hok.fresh (Nat.le_refl _)
  refine ⟨.ref s1.heap.objs.size, upd H1 s1.heap.objs.size (.tup xs), I1.laid (t' := s1.toks) (fun b u e => Heap.get?_push_of_some _ e) (Nat.le_refl _) ?_, rfl, q _ hf⟩
  exact ⟨z, us, r, ⟨_, Heap.get?_push_size _ rfl, rfl, _, rfl⟩⟩
theorem pe_lst (h : PA X es t) : PE X (.List es pos) (tLst t) := by
  intro pins s σ H Q I hq
  refine wpAny_List_spliced (thn (h pos pins s σ H _ I hq) fun us s1 ⟨xs, H1, I1, r, z, q⟩ => ⟨by rw [← r.length]; exact z, ?_⟩)
  have hf : H1 s1.heap.objs.size = none := I1.hok.fresh (Nat.le_refl _)
  refine ⟨.ref s1.heap.objs.size, upd H1 s1.heap.objs.size (.lst xs), I1.laid (t' := s1.toks) (fun b u e => Heap.get?_push_of_some _ e) (Nat.le_refl _) ?_, rfl, q _ hf⟩
  exact ⟨z, us, 0, r, Heap.get?_push_size _ rfl⟩
end
abbrev Sp := List V → Hp → VK → XK → Prop
abbrev CXT := List Env → Hp → Shared → XK → Value → Shared → Prop
structure Env0 (P : Program) (w : World) (K : PySem.W.Frag) (mg : Str → Option Value) (base : Heap) (A : Around) (outer : List Env) (s : Shared) (H : Hp) : Prop where
  frames : A.frames = some outer
  mod : Mod K mg base
  bs : ∀ b o, base.get? b = some o → s.heap.get? b = some o ∧ H b = none
  bsz : base.objs.size ≤ s.heap.objs.size
  funs : s.heap.FunFrames base outer
  frf : ∀ b ∈ frs outer, H b = none
  hok : HOk P w H s.heap
  bare : AllBare s.gens
def CE (outer : List Env) (P : Program) (w : World) (H : Hp) (s : Shared) (Q : VK) (u : Value) (s' : Shared) : Prop :=
  ∃ v H', s'.os = s.os ∧ AllBare s'.gens ∧ Un (frs outer) [] H H' s.heap s'.heap ∧ HOk P w H' s'.heap ∧ RelV v u ∧ Q v H'
def CR (CX : CXT) (outer : List Env) (P : Program) (w : World) (H : Hp) (s : Shared) (Q : VK) (E : XK) (r : Result) (s' : Shared) : Prop :=
  match r with
  | .ok (.ret u) => CE outer P w H s Q u s'
  | .ok _ => False
  | .error e => CX outer H s E e s'
structure FnOk (P : Program) (w : World) (K : PySem.W.Frag) (mg : Str → Option Value) (base : Heap) (CX : CXT) (k : Nat) (f : Addr) (fd : FuncData) (ps : List Str) (sp : Sp) : Prop where
  len : ∀ vs H Q E, sp vs H Q E → vs.length = ps.length
  run : ∀ (A : Around) (outer : List Env) (s : Shared) (H : Hp) (args : Args) (us : List Value) (vs : List V) (Q : VK) (E : XK), Room k A → Env0 P w K mg base A outer s H → BindsTo s fd args (ps.zip us) → Vals vs us → sp vs H Q E →
    codeAny (model P w) A (.call (.ref f) args) (CR CX outer P w H s Q E) s
theorem FnOk.mono {P : Program} {w : World} {K : PySem.W.Frag} {mg : Str → Option Value} {base : Heap} {CX : CXT} {j k : Nat} {f : Addr} {fd : FuncData} {ps : List Str} {sp : Sp} (F : FnOk P w K mg base CX j f fd ps sp) (h : j ≤ k) :
    FnOk P w K mg base CX k f fd ps sp := ⟨F.len, fun A outer s H args us vs Q E hr => F.run A outer s H args us vs Q E (hr.mono h)⟩
theorem FnOk.imp {P : Program} {w : World} {K : PySem.W.Frag} {mg : Str → Option Value} {base : Heap} {CX : CXT} {k : Nat} {f : Addr} {fd : FuncData} {ps : List Str} {sp sp' : Sp} (F : FnOk P w K mg base CX k f fd ps sp)
    (h : ∀ vs H Q E, sp' vs H Q E → sp vs H Q E) : FnOk P w K mg base CX k f fd ps sp' :=
  ⟨fun vs H Q E q => F.len vs H Q E (h _ _ _ _ q), fun A outer s H args us vs Q E hr he hb hv hs => F.run A outer s H args us vs Q E hr he hb hv (h _ _ _ _ hs)⟩
theorem Env0.make {P : Program} {w : World} {K : PySem.W.Frag} {mg : Str → Option Value} {base : Heap} {A : Around} {outer : List Env} {s : Shared} {H : Hp} (e : Env0 P w K mg base A outer s H) (C : Addr) (us : List Value) (kw : List (Str × Value)) :
    Env0 P w K mg base (A.under (.builtin "type.__call__" ⟨.ref C :: us, kw⟩)) outer s H := ⟨by first | exact e.frames | (simpa [Around.under, Code.envs, Code.isFrame, pushEnvs] using e.frames), e.mod, e.bs, e.bsz, e.funs, e.frf, e.hok, e.bare⟩
theorem Env0.in1 {P : Program} {w : World} {K : PySem.W.Frag} {mg : Str → Option Value} {base : Heap} {A : Around} {outer : List Env} {s : Shared} {H : Hp} (e : Env0 P w K mg base A outer s H) :
    Env0 P w K mg base A.in1 outer s H := ⟨e.frames, e.mod, e.bs, e.bsz, e.funs, e.frf, e.hok, e.bare⟩
section
variable {X : Cx} {pins : List (Addr × Obj)} {σ : St} {H : Hp} {s s' : Shared}
theorem Inv.env0 (I : Inv X pins σ H s) : Env0 X.prog X.w X.K X.mg X.base X.A X.stack s H :=
  ⟨I.ok.frames, I.ok.mod, I.bs, Nat.le_trans I.ok.bsz I.sz, I.stack, I.stkFree, I.hok, I.bare⟩
theorem Inv.after {Q : VK} {u : Value} (I : Inv X pins σ H s) (h : CE X.stack X.prog X.w H s Q u s') : EP X pins σ Q u s' := by
  obtain ⟨v, H', os, bare, un, hok, r, q⟩ := h
  obtain ⟨hh, g, d, t, os'⟩ := s'
  obtain rfl : os' = s.os := os
  exact ⟨v, H', I.call (h' := hh) (g' := g) (d' := d) (t' := t) (ch := []) un hok bare (fun b z => absurd z (by simp)), r, q⟩
end
def tCall (sp : Sp) (dvs : List V) (E : XK) (t : TA) : TE := fun σ H Q => t σ H fun vs H1 => sp (vs ++ dvs) H1 Q E
def tMeth (C : Addr) (m : Str) (sp : Sp) (dvs : List V) (E : XK) (ta : TE) (t : TA) : TE := fun σ H Q => ta σ H fun x H1 => ∃ a dx fs, x = .ref a ∧ H1 a = some (.ins C dx fs) ∧ fs.lookup m = none ∧
  t σ H1 fun vs H2 => sp (x :: (vs ++ dvs)) H2 Q E
def tMake (C : Addr) (sp : Sp) (dvs : List V) (E : XK) (t : TA) : TE := fun σ H Q => t σ H fun vs H1 => ∀ x dx, H1 x = none → H1 dx = none → dx ≠ x →
  sp (.ref x :: (vs ++ dvs)) (upd (upd H1 dx (.own x)) x (.ins C dx [])) (fun v H2 => v = .non ∧ Q (.ref x) H2) E
def Binds (K : PySem.W.Frag) (fd : FuncData) (ps : List Str) (ds : List Value) : Prop :=
  ∀ (s : Shared) (us : List Value), K.In s.heap → (us ++ ds).length = ps.length → BindsTo s fd ⟨us, []⟩ (ps.zip (us ++ ds))
theorem Binds.all {K : PySem.W.Frag} {fd : FuncData} {ps : List Str} (h : ∀ us : List Value, us.length = ps.length → bindArgs fd ⟨us, []⟩ = pure (ps.zip us)) : Binds K fd ps [] := fun s us _ hl => by
  rw [List.append_nil] at hl ⊢
  exact .of_eq (h us hl)
def Passes (CX : CXT) (X : Cx) (E : XK) : Prop := ∀ (pins : List (Addr × Obj)) (σ : St) (H : Hp) (s : Shared) (e : Value) (s' : Shared), Inv X pins σ H s → CX X.stack H s E e s' → X.xe e s'
section
variable {X : Cx} {CX : CXT} {k : Nat} {f C : Addr} {fd : FuncData} {ps : List Str} {sp : Sp} {dvs : List V} {ds : List Value} {E : XK} {x m : Str} {p pos apos : Pos} {e o : Expr} {es : List Expr} {ta : TE} {t : TA}
theorem run_fn {pins : List (Addr × Obj)} {σ : St} {H : Hp} {s : Shared} {Q : VK} {us : List Value} {vs : List V} (F : FnOk X.prog X.w X.K X.mg X.base CX k f fd ps sp) (hr : Room k X.A) (hb : Binds X.K fd ps ds) (hd : Vals dvs ds) (hx : Passes CX X E)
    (I : Inv X pins σ H s) (r : Vals vs us) (h : sp (vs ++ dvs) H Q E) : wpAny (model X.prog X.w) X.A (call (.ref f) us) (EP X pins σ Q) X.xe s := by
  have r2 : Vals (vs ++ dvs) (us ++ ds) := r.append hd
  have hl : (us ++ ds).length = ps.length := by rw [← r2.length]; exact F.len _ _ _ _ h
  refine wpAny_call (codeAny_mono (F.run X.A X.stack s H ⟨us, []⟩ (us ++ ds) (vs ++ dvs) Q E hr I.env0 (hb s us I.kIn hl) r2 h) fun r s' hq => ?_)
  cases r with
  | error e => exact hx pins σ H s e s' I hq
  | ok fl =>
    cases fl with
    | ret u => exact I.after hq
    | next => exact False.elim hq
    | brk => exact False.elim hq
    | cont => exact False.elim hq
theorem pe_call (F : FnOk X.prog X.w X.K X.mg X.base CX k f fd ps sp) (hr : Room k X.A) (hg : Gl X x) (hm : X.mg x = some (.ref f)) (hk : PySem.W.keepIn X.K (.ref f) = true) (hb : Binds X.K fd ps ds) (hd : Vals dvs ds) (hx : Passes CX X E)
    (ha : PA X (e :: es) t) (hdb : (x == ("__debug__" : Str)) = false := by decide) (he : starEach (e :: es) X.env = (false, eval e X.env) :: starEach es X.env := by rfl) (hpl : (backTo pos (starEach es X.env)).any (·.1) = false := by rfl) :
    PE X (.Call (.Name x p) (e :: es) [] pos) (tCall sp dvs E t) := by
  intro pins s σ H Q I h
  refine wpAny_Call_Name_kw (ld_glob I hg hm ?_ hdb)
  refine PySem.W.callWith_K (h₀ := X.base) I.ok.mod.kin hk (thn (ha pos pins s σ H _ I h) fun us s1 ⟨vs, H1, I1, r, q⟩ => ⟨I1.kIn, ?_⟩) he hpl
  exact run_fn F hr hb hd hx I1 r q
structure Mk (K : PySem.W.Frag) (C f : Addr) : Prop where
  makes : PySem.W.makesIn K C = true
  init : PySem.W.findIn K (.ref C) "__init__" = some (some (.ref f))
  fn : PySem.W.isFn K (.ref f) = true
  kp : PySem.W.keepIn K (.ref C) = true
end
def PK (X : Cx) (kws : List Keyword) (t : TA) : Prop :=
  ∀ (pos : Pos) (pins : List (Addr × Obj)) (s : Shared) (σ : St) (H : Hp) (Q : List V → Hp → Prop), Inv X pins σ H s → t σ H Q → wpAny (model X.prog X.w) X.A (evalAll ((backToKw pos (keywordEach kws X.env)).map (·.2))) (AP X pins σ Q) X.xe s
section
variable {X : Cx} {CX : CXT} {k : Nat} {f C : Addr} {fd : FuncData} {ps ks : List Str} {sp : Sp} {E : XK} {x m : Str} {p pos apos kpos : Pos} {e o : Expr} {es : List Expr} {kws : List Keyword} {te ta : TE} {t tk : TA} {nm : Option Str}
structure KBinds (K : PySem.W.Frag) (fd : FuncData) (ps ks : List Str) (g : List Value → List Value → List Value) (gV : List V → List V → List V) : Prop where
  to : ∀ (s : Shared) (us ws : List Value), K.In s.heap → (g us ws).length = ps.length → BindsTo s fd ⟨us, ks.zip ws⟩ (ps.zip (g us ws))
  rel : ∀ {vs : List V} {us : List Value} {zs : List V} {ws : List Value}, Vals vs us → Vals zs ws → Vals (gV vs zs) (g us ws)
def tCallK (sp : Sp) (gV : List V → List V → List V) (E : XK) (t tk : TA) : TE := fun σ H Q => t σ H fun vs H1 => tk σ H1 fun zs H2 => sp (gV vs zs) H2 Q E
variable {g : List Value → List Value → List Value} {gV : List V → List V → List V}
end
structure FnScope (N P : List Str) (sc : Scope) : Prop where
  kind : sc.kind = .function
  co : sc.isCoroutine = false
  gen : sc.isGenerator = false
  nd : N.Nodup
  pre : N.take P.length = P
  par : ∀ x ∈ P, sc.names.lookup x = some .local ∨ sc.names.lookup x = some .cell
  nofree : ∀ y ∈ sc.names, y.2 ≠ .free
theorem bindL_out {kindOf : Str → Option NameKind} {x : Str} : ∀ {binds : List (Str × Value)} {m : Str → Option Value}, (∀ v, (x, v) ∉ binds) → bindL kindOf binds m x = m x
  | [], _, _ => rfl
  | (n, v) :: r, m, h => by
    unfold bindL
    rw [bindL_out fun w hw => h w (List.mem_cons_of_mem _ hw)]
    split
    · have : x ≠ n := by rintro rfl; exact h v List.mem_cons_self
      simp [this]
    · rfl
theorem bindC_out {kindOf : Str → Option NameKind} {x : Str} : ∀ {binds : List (Str × Value)} {m : Str → Option Value}, (∀ v, (x, v) ∉ binds) → bindC kindOf binds m x = m x
  | [], _, _ => rfl
  | (n, v) :: r, m, h => by
    unfold bindC
    rw [bindC_out fun w hw => h w (List.mem_cons_of_mem _ hw)]
    split
    · rfl
    · have : x ≠ n := by rintro rfl; exact h v List.mem_cons_self
      simp [this]
theorem bindL_get {kindOf : Str → Option NameKind} {x : Str} {v : Value} : ∀ {P : List Str} {vs : List Value} {i : Nat} {m : Str → Option Value}, P.Nodup → P[i]? = some x → vs[i]? = some v → kindOf x = some .local →
    bindL kindOf (P.zip vs) m x = some v
  | [], _, _, _, _, h, _, _ => by simp at h
  | _ :: _, [], _, _, _, _, h, _ => by simp at h
  | p :: P, w :: vs, 0, m, nd, h1, h2, hk => by
    simp at h1 h2; subst h1; subst h2
    show bindL kindOf ((p, w) :: P.zip vs) m p = _
    unfold bindL
    rw [bindL_out fun v hv => (List.nodup_cons.mp nd).1 (List.of_mem_zip hv).1, if_pos hk]
    simp
  | p :: P, w :: vs, i + 1, m, nd, h1, h2, hk => by
    show bindL kindOf ((p, w) :: P.zip vs) m x = _
    unfold bindL
    exact bindL_get (i := i) (List.nodup_cons.mp nd).2 (by simpa using h1) (by simpa using h2) hk
theorem bindC_get {kindOf : Str → Option NameKind} {x : Str} {v : Value} : ∀ {P : List Str} {vs : List Value} {i : Nat} {m : Str → Option Value}, P.Nodup → P[i]? = some x → vs[i]? = some v → kindOf x ≠ some .local →
    bindC kindOf (P.zip vs) m x = some v
  | [], _, _, _, _, h, _, _ => by simp at h
  | _ :: _, [], _, _, _, _, h, _ => by simp at h
  | p :: P, w :: vs, 0, m, nd, h1, h2, hk => by
    simp at h1 h2; subst h1; subst h2
    show bindC kindOf ((p, w) :: P.zip vs) m p = _
    unfold bindC
    rw [bindC_out fun v hv => (List.nodup_cons.mp nd).1 (List.of_mem_zip hv).1, if_neg hk]
    simp
  | p :: P, w :: vs, i + 1, m, nd, h1, h2, hk => by
    show bindC kindOf ((p, w) :: P.zip vs) m x = _
    unfold bindC
    exact bindC_get (i := i) (List.nodup_cons.mp nd).2 (by simpa using h1) (by simpa using h2) hk
def start (N : List Str) (vs : List V) : St := vs.map some ++ List.replicate (N.length - vs.length) none
def cxOf (CX : CXT) (P : Program) (w : World) (K : PySem.W.Frag) (mg : Str → Option Value) (base : Heap) (N : List Str) (qual : Str) (scope : Scope) (f : Addr) (cd : Value) (A : Around) (outer : List Env) (s : Shared) (H : Hp) (E : XK) : Cx where
  prog := P
  w := w
  K := K
  mg := mg
  base := base
  A := A.deeper (envOfC qual scope s.heap.objs.size f cd)
  N := N
  s₀ := s
  H₀ := H
  env := envOfC qual scope s.heap.objs.size f cd
  outer := outer
  stack := envOfC qual scope s.heap.objs.size f cd :: outer
  ex := []
  calm := true
  fn := fun _ => true
  pn := []
  xe := fun e s' => wpAny (model P w) (A.deeper (envOfC qual scope s.heap.objs.size f cd)) (leaving (envOfC qual scope s.heap.objs.size f cd) e) (fun _ s'' => CX outer H s E e s'') (fun e' s'' => CX outer H s E e' s'') s'
theorem cell_has {sc : Scope} {n : Nat} {x : Str} (h : sc.names.lookup x = some .cell) : ∃ c, (cellsFrom n sc.names []).lookup x = some c := by
  have q := PySem.W.cellsFrom_some sc.names n [] (.inl h)
  exact Option.isSome_iff_exists.mp q
theorem inv_start {CX : CXT} {P : Program} {w : World} {K : PySem.W.Frag} {mg : Str → Option Value} {base : Heap} {N ps : List Str} {qual : Str} {scope : Scope} {f : Addr} {cd : Value} {A : Around} {outer : List Env} {s s1 : Shared} {H : Hp} {E : XK} {us : List Value} {vs : List V}
    (S : FnScope N ps scope) (hd : A.handled = none) (e0 : Env0 P w K mg base A outer s H) (hl : vs.length = ps.length) (r : Vals vs us)
    (x : InCallC s s.heap.objs.size (bindL (envOfC qual scope s.heap.objs.size f cd).kindOf (ps.zip us) fun _ => none) (cellsFrom (s.heap.objs.size + 1) scope.names []) (bindC (envOfC qual scope s.heap.objs.size f cd).kindOf (ps.zip us) fun _ => none) s1) :
    Inv (cxOf CX P w K mg base N qual scope f cd A outer s H E) [] (start N vs) H s1 := by
  have hpl : ps.length ≤ N.length := by have := congrArg List.length S.pre; rw [List.length_take] at this; omega
  obtain ⟨h1, tk, rfl, hk⟩ := x.done
  have noA : ∀ b : Addr, b ∉ (cxOf CX P w K mg base N qual scope f cd A outer s H E).ex := fun b z => absurd (show b ∈ ([] : List Addr) from z) (by simp)
  refine ⟨⟨e0.mod, S.kind, rfl, rfl, Nat.le_refl _, fun y z c h1 h2 => ?_, fun y hy => ?_, fun y c _ h => ?_, fun _ => hd, Around.frames_deeper e0.frames, .inr ⟨rfl, rfl⟩, fun b z => absurd z (noA b), e0.bs, e0.bsz, fun b _ _ => noA b, fun b z => absurd z (noA b), e0.funs, e0.frf⟩,
    rfl, e0.bare, Un.kept hk, ⟨_, x.toInCall.ns, fun i y v h1 h2 h3 => ?_⟩, fun y c h => ⟨_, x.cell y c h⟩, e0.hok.fresh (Nat.le_refl _), fun y c h => ?_, fun p hp => absurd (show p ∈ ([] : List (Addr × Obj)) from hp) (by simp), e0.hok.kept hk, ?_⟩
  · exact name_of_addr x.apart (PySem.mem_of_lookup h1) (PySem.mem_of_lookup h2)
  · have hy : scope.names.lookup y = some .cell ∨ scope.names.lookup y = some .free := hy
    rcases hy with hy | hy
    · exact cell_has hy
    · exact absurd rfl (S.nofree _ (PySem.mem_of_lookup hy))
  · exact Nat.le_of_lt (x.above y c (PySem.mem_of_lookup h))
  · have hi : i < vs.length := by
      unfold start at h2
      by_cases hi : i < vs.length
      · exact hi
      · rw [List.getElem?_append_right (by simpa using hi)] at h2
        rw [List.getElem?_replicate] at h2
        split at h2 <;> cases h2
    have ha : vs[i]? = some v := by
      unfold start at h2
      rw [List.getElem?_append_left (by simpa using hi), List.getElem?_map] at h2
      cases e : vs[i]? with
      | none => rw [e] at h2; cases h2
      | some a => rw [e] at h2; cases h2; rfl
    obtain ⟨u, hu, rv⟩ := r.get ha
    have hp : ps[i]? = some y := by
      rw [← S.pre, List.getElem?_take_of_lt (by omega)]; exact h1
    have ndP : ps.Nodup := by rw [← S.pre]; exact S.nd.sublist (List.take_sublist _ _)
    refine ⟨u, rv, ?_⟩
    rcases S.par y (List.mem_of_getElem? hp) with k | k
    · exact .inl ⟨k, bindL_get ndP hp hu k⟩
    · obtain ⟨c, e⟩ := cell_has (n := s.heap.objs.size + 1) k
      refine .inr ⟨.inl k, c, e, ?_⟩
      have q := x.cell y c e
      rw [bindC_get ndP hp hu (by show scope.names.lookup y ≠ _; rw [k]; decide)] at q
      exact q
  · exact e0.hok.fresh (Nat.le_of_lt (x.above y c (PySem.mem_of_lookup h)))
  · unfold start
    show _ = N.length
    rw [List.length_append, List.length_map, List.length_replicate]
    omega
theorem fn_of {CX : CXT} {P : Program} {w : World} {K : PySem.W.Frag} {mg : Str → Option Value} {base : Heap} {k : Nat} {f : Addr} {name qual : Str} {params : Arguments} {body : List Stmt} {scope : Scope} {dV kV doc pm cdv ct oc : Value} {an od : Option Addr}
    {osl : Array (Option Value)} {N ps : List Str} {sp : Sp} (lk : K.lookup f = some ⟨oc, od, .func (PySem.W.fnOf name qual params body scope dV kV doc pm an cdv ct), osl⟩) (hcd : PySem.W.codeIn K cdv qual = true) (S : FnScope N ps scope)
    (len : ∀ vs H Q E, sp vs H Q E → vs.length = ps.length)
    (hbody : ∀ (A : Around) (outer : List Env) (s : Shared) (H : Hp) (vs : List V) (Q : VK) (E : XK), Room k (A.deeper (envOfC qual scope s.heap.objs.size f cdv)) → sp vs H Q E →
      ∃ t, PSs (cxOf CX P w K mg base N qual scope f cdv A outer s H E) body t ∧ t { nx := fun _ H' => Q .non H', rt := Q } (start N vs) H) :
    FnOk P w K mg base CX (k + 1) f (PySem.W.fnOf name qual params body scope dV kV doc pm an cdv ct) ps sp := by
  refine ⟨len, fun A outer s H args us vs Q E hr e0 hb r hsp => ?_⟩
  have hl := len _ _ _ _ hsp
  have KX : K.In s.heap := e0.mod.kin.keeps fun b o e => (e0.bs b o e).1
  have lim : s.heap.NoLimit := e0.mod.nolimit.keeps fun b o e => (e0.bs b o e).1
  have hkind : ∀ y ∈ ps.zip us, scope.names.lookup y.1 = some .local ∨ (scope.names.lookup y.1 = some .cell ∧ ((cellsFrom (s.heap.objs.size + 1) scope.names []).lookup y.1).isSome = true) := fun ⟨n, v⟩ hy => by
    rcases S.par n (List.of_mem_zip hy).1 with q | q
    · exact .inl q
    · exact .inr ⟨q, PySem.W.cellsFrom_some _ _ _ (.inl q)⟩
  refine codeAny_call_function hr.depth (KX _ _ lk) rfl S.co S.gen rfl (PySem.W.codeRec_of KX hcd) (hb _ _ _ _ ?_)
  refine wpAny_newFunctionEnv_cells S.kind hkind fun env he s1 x => ?_
  subst he
  refine ⟨lim.keeps x.toInCall.keep, codeAny_func ?_⟩
  obtain ⟨t, ht, hq⟩ := hbody A outer s H vs Q E (hr.deeper _) hsp
  have I : Inv (cxOf CX P w K mg base N qual scope f cdv A outer s H E) [] (start N vs) H s1 := inv_start S hr.hd e0 hl r x
  refine wpAny_mono (ht [] s1 (start N vs) H _ I hq) (fun fl s' hs => ?_) fun e s' hs => hs
  have fin : ∀ {σ' : St} {H' : Hp} {v : V} {u : Value}, Inv (cxOf CX P w K mg base N qual scope f cdv A outer s H E) [] σ' H' s' → RelV v u → Q v H' → CE outer P w H s Q u s' :=
    fun {σ' H' v u} J rv q => ⟨v, H', J.os, J.bare, J.base, J.hok, rv, q⟩
  cases fl with
  | ret u =>
    obtain ⟨v, σ', H', J, rv, q⟩ := hs
    exact fin J rv q
  | next =>
    obtain ⟨σ', H', J, q⟩ := hs
    exact fin (v := V.non) (u := Value.none) J rfl q
  | brk =>
    obtain ⟨_, _, _, q⟩ := hs
    exact False.elim q
  | cont =>
    obtain ⟨_, _, _, q⟩ := hs
    exact False.elim q
end L2
namespace L2
open PySem PySem.Spec PyProof.Rows
section
variable {X : Cx} {x : Str} {p pos : Pos} {e : Expr} {es : List Expr} {t : TA} {id T : String} {r : List V → Hp → VK → Prop}
def tCB (r : List V → Hp → VK → Prop) (t : TA) : TE := fun σ H Q => t σ H fun vs H1 => r vs H1 Q
theorem pe_callB (hc : CallR X (.builtin id) r) (hg : Gl X x) (hm : X.mg x = none) (hv : bootBuiltins x = some (.builtin id)) (ha : PA X (e :: es) t) (hn : x ≠ "__name__" := by decide) (hdb : (x == ("__debug__" : Str)) = false := by decide)
    (he : starEach (e :: es) X.env = (false, eval e X.env) :: starEach es X.env := by rfl) (hpl : (backTo pos (starEach es X.env)).any (·.1) = false := by rfl) : PE X (.Call (.Name x p) (e :: es) [] pos) (tCB r t) := by
  intro pins s σ H Q I h
  refine wpAny_Call_Name_kw (ld_blt I hg hm hv ?_ hn hdb)
  exact PyProof.Rows.callWith_builtin1 (thn (ha pos pins s σ H _ I h) fun us s1 ⟨vs, H1, I1, r1, q1⟩ => hc pins s1 σ H1 vs us Q I1 r1 q1) he hpl
theorem pe_callTy (hc : CallR X (.type T) r) (hg : Gl X x) (hm : X.mg x = none) (hv : bootBuiltins x = some (.type T)) (ha : PA X (e :: es) t) (hn : x ≠ "__name__" := by decide) (hdb : (x == ("__debug__" : Str)) = false := by decide)
    (he : starEach (e :: es) X.env = (false, eval e X.env) :: starEach es X.env := by rfl) (hpl : (backTo pos (starEach es X.env)).any (·.1) = false := by rfl) : PE X (.Call (.Name x p) (e :: es) [] pos) (tCB r t) := by
  intro pins s σ H Q I h
  refine wpAny_Call_Name_kw (ld_blt I hg hm hv ?_ hn hdb)
  exact PyProof.Rows.callWith_type1 (thn (ha pos pins s σ H _ I h) fun us s1 ⟨vs, H1, I1, r1, q1⟩ => hc pins s1 σ H1 vs us Q I1 r1 q1) he hpl
end
end L2
namespace HT
open PySem PyProof.Rows
def lexLt : List Int → List Int → Bool
  | [], [] => false
  | [], _ :: _ => true
  | _ :: _, [] => false
  | x :: xs, y :: ys => if x = y then lexLt xs ys else decide (x < y)
section
open PySem.SeqAt
open PySem.AutoSeq1 (wpAny_loadPart')
open PySem.MeetsSeq PySem.MeetsSeq2 PySem.MeetsSeq3
end
section
variable {prog : Program} {w : World} {A : Around} {E : Value → Shared → Prop} {s : Shared}
def sIx (n d : Nat) : Option Int → Nat
  | none => d
  | some v => if v < 0 then (v + (n : Int)).toNat else min v.toNat n
end
end HT
namespace L2
open PySem PySem.Spec PyProof.Rows
abbrev TO := St → Hp → (Option Int → Hp → Prop) → Prop
def PO (X : Cx) (e : Option Expr) (t : TO) : Prop :=
  ∀ (pins : List (Addr × Obj)) (s : Shared) (σ : St) (H : Hp) (Q : Option Int → Hp → Prop), Inv X pins σ H s → t σ H Q →
    wpAny (model X.prog X.w) X.A (evalPart e X.env) (fun u s' => ∃ o H', Inv X pins σ H' s' ∧ IsPart u o ∧ Q o H') X.xe s
def tNoPart : TO := fun _ H Q => Q none H
def tPart (t : TE) : TO := fun σ H Q => t σ H fun x H1 => ∃ i, x = .int i ∧ Q (some i) H1
section
variable {X : Cx} {e : Expr} {te : TE} {lo hi : Option Expr} {tl th : TO} {pos p2 : Pos}
def SlR (X : Cx) (r : V → Option Int → Option Int → Hp → VK → Prop) : Prop :=
  ∀ (pins : List (Addr × Obj)) (s : Shared) (σ : St) (H : Hp) (x : V) (v vl vu : Value) (lo hi : Option Int) (sl : Addr) (Q : VK), Inv X pins σ H s → RelV x v → s.heap.IsSliceOf sl vl vu .none → IsPart vl lo → IsPart vu hi → r x lo hi H Q →
    ∃ T id, typeLookup (.type T) "__getitem__" = pure (some (.builtin id)) ∧ s.TypeIs v T ∧ wpAny (model X.prog X.w) X.A (getItem v (.ref sl)) (EP X pins σ Q) X.xe s
theorem SlR.or {r r' : V → Option Int → Option Int → Hp → VK → Prop} (h : SlR X r) (h' : SlR X r') : SlR X (fun x lo hi H Q => r x lo hi H Q ∨ r' x lo hi H Q) := by
  intro pins s σ H x v vl vu lo hi sl Q I rx hs pl pu q
  rcases q with q | q
  · exact h pins s σ H x v vl vu lo hi sl Q I rx hs pl pu q
  · exact h' pins s σ H x v vl vu lo hi sl Q I rx hs pl pu q
def tSl (r : V → Option Int → Option Int → Hp → VK → Prop) (te : TE) (tl th : TO) : TE := fun σ H Q => te σ H fun x H1 => tl σ H1 fun l H2 => th σ H2 fun u H3 => r x l u H3 Q
def cutV (xs : List V) (lo hi : Option Int) : List V := (xs.drop (HT.sIx xs.length 0 lo)).take (HT.sIx xs.length xs.length hi - HT.sIx xs.length 0 lo)
def rSlT (K : PySem.W.Frag) : V → Option Int → Option Int → Hp → VK → Prop := fun x lo hi H Q => ∃ a xs, x = .ref a ∧ SqT K H a xs ∧
  ¬ (HT.sIx xs.length 0 lo = 0 ∧ HT.sIx xs.length xs.length hi = xs.length) ∧ ∀ p, H p = none → Q (.ref p) (upd H p (.tup (cutV xs lo hi)))
def rLtT (K : PySem.W.Frag) : R2 := fun x y H Q => ∃ a b ns ms, x = .ref a ∧ y = .ref b ∧ SqT K H a (ns.map V.int) ∧ SqT K H b (ms.map V.int) ∧ Q (.bl (HT.lexLt ns ms)) H
def rCatT (K : PySem.W.Frag) : R2 := fun x y H Q => ∃ a b xs ys, x = .ref a ∧ y = .ref b ∧ SqT K H a xs ∧ SqT K H b ys ∧ xs ≠ [] ∧ xs.length + ys.length ≤ sizeLine ∧
  (ys = [] → Q (.ref a) H) ∧ (ys ≠ [] → ∀ p, H p = none → Q (.ref p) (upd H p (.tup (xs ++ ys))))
end
end L2
namespace L2
open PySem PySem.Spec PyProof.Rows
def ixN (n : Nat) (i : Int) : Option Nat := if 0 ≤ i then (if i < n then some i.toNat else none) else if -(n : Int) ≤ i then some (i + n).toNat else none
def atI {α : Type} (xs : List α) (i : Int) : Option α := (ixN xs.length i).bind fun j => xs[j]?
theorem ixN_seq {n : Nat} {i : Int} {j : Nat} (h : ixN n i = some j) : seqIndex? i n = some j ∧ j < n ∧ -(n : Int) ≤ i ∧ i < n := by
  unfold ixN at h
  by_cases h0 : 0 ≤ i
  · rw [if_pos h0] at h
    by_cases h1 : i < n
    · rw [if_pos h1] at h
      have e : i.toNat = j := Option.some.inj h
      exact ⟨by rw [seqIndex_of h0 h1, e], by omega, by omega, h1⟩
    · rw [if_neg h1] at h; cases h
  · rw [if_neg h0] at h
    by_cases h1 : -(n : Int) ≤ i
    · rw [if_pos h1] at h
      have e : (i + n).toNat = j := Option.some.inj h
      exact ⟨by rw [seqIndex_neg (by omega) h1, e], by omega, h1, by omega⟩
    · rw [if_neg h1] at h; cases h
theorem atI_get {α : Type} {xs : List α} {i : Int} {v : α} (h : atI xs i = some v) : ∃ j, seqIndex? i xs.length = some j ∧ xs[j]? = some v ∧ j < xs.length ∧ -(xs.length : Int) ≤ i ∧ i < xs.length := by
  unfold atI at h
  cases e : ixN xs.length i with
  | none => rw [e] at h; cases h
  | some j =>
    rw [e] at h
    obtain ⟨h1, h2, h3, h4⟩ := ixN_seq e
    exact ⟨j, h1, h, h2, h3, h4⟩
theorem atI_nat {α : Type} {xs : List α} {j : Nat} {v : α} (h : xs[j]? = some v) : atI xs (j : Int) = some v := by
  have hj : j < xs.length := (List.getElem?_eq_some_iff.mp h).1
  have e : ixN xs.length (j : Int) = some j := by
    unfold ixN
    rw [if_pos (by omega), if_pos (by omega)]; simp
  unfold atI; rw [e]; exact h
def PlainIx (b : Expr) : Prop := ∀ o i, subscripted b false o i = operate [o, i] (getItem o i)
def IxR (X : Cx) (r : R2) : Prop :=
  ∀ (value slice : Expr) (pins : List (Addr × Obj)) (s : Shared) (σ : St) (H : Hp) (x y : V) (v u : Value) (Q : VK), Inv X pins σ H s → RelV x v → RelV y u → r x y H Q →
    subscripted slice false v u = operate [v, u] (getItem v u) → wpAny (model X.prog X.w) X.A (subscriptTail value slice v u) (EP X pins σ Q) X.xe s
def MtR (X : Cx) (id : String) (r : V → List V → Hp → VK → Prop) : Prop :=
  ∀ (pins : List (Addr × Obj)) (s : Shared) (σ : St) (H : Hp) (x : V) (xs : List V) (v : Value) (us : List Value) (Q : VK), Inv X pins σ H s → RelV x v → Vals xs us → r x xs H Q →
    wpAny (model X.prog X.w) X.A (call (.builtin id) (v :: us)) (EP X pins σ Q) X.xe s
section
variable {X : Cx} {a b : Expr} {ta tb : TE} {pos : Pos}
theorem IxR.or {r r' : R2} (h : IxR X r) (h' : IxR X r') : IxR X (fun x y H Q => r x y H Q ∨ r' x y H Q) := by
  intro value slice pins s σ H x y v u Q I rx ry q hs
  rcases q with q | q
  · exact h value slice pins s σ H x y v u Q I rx ry q hs
  · exact h' value slice pins s σ H x y v u Q I rx ry q hs
theorem MtR.or {id : String} {r r' : V → List V → Hp → VK → Prop} (h : MtR X id r) (h' : MtR X id r') : MtR X id (fun x xs H Q => r x xs H Q ∨ r' x xs H Q) := by
  intro pins s σ H x xs v us Q I rx rs q
  rcases q with q | q
  · exact h pins s σ H x xs v us Q I rx rs q
  · exact h' pins s σ H x xs v us Q I rx rs q
theorem pe_ix {r : R2} (hr : IxR X r) (ha : PE X a ta) (hb : PE X b tb) (hs : PlainIx b) : PE X (.Subscript a b pos) (tOp r ta tb) := by
  intro pins s σ H Q I h
  exact Subscript_ (binT ha hb I h fun v u s2 x y H2 I2 rx ry q => hr a b pins s2 σ H2 x y v u Q I2 rx ry q (hs _ _))
def rIxL (K : PySem.W.Frag) : R2 := fun x y H Q => ∃ p xs i v, x = .ref p ∧ y = .int i ∧ SqL K H p xs ∧ atI xs i = some v ∧ Q v H
def rIxT (K : PySem.W.Frag) : R2 := fun x y H Q => ∃ p xs i v, x = .ref p ∧ y = .int i ∧ SqT K H p xs ∧ atI xs i = some v ∧ Q v H
def rIxS : R2 := fun x y H Q => ∃ z i c, x = .str z ∧ y = .int i ∧ z.length ≤ sizeLine ∧ atI z.cps.toList i = some c ∧ Q (.str ⟨#[c]⟩) H
theorem ix_list : IxR X (rIxL X.K) := by
  intro value slice pins s σ H x y v u Q I rx ry h hs
  obtain ⟨p, xs, i, z, rfl, rfl, hq, he, q⟩ := h
  cases rx
  obtain ⟨t, rfl⟩ := ry
  obtain ⟨its, r, pl, hz⟩ := I.list hq
  obtain ⟨j, h1, h2, h3, h4, h5⟩ := atI_get he
  obtain ⟨w, ew, rw'⟩ := r.get h2
  have hl := r.length
  have hn := line63
  have fin : EP X pins σ Q w s := ⟨z, H, I, rw', q⟩
  by_cases h0 : 0 ≤ i
  · have hj : i.toNat = j := by
      rw [seqIndex_of h0 h5] at h1
      exact Option.some.inj h1
    exact item_listR pl.isList h0 (by omega) (by rw [hj]; simpa using ew) fin hs
  · have hj : (i + (its.toArray.size : Int)).toNat = j := by
      rw [seqIndex_neg (by omega) h4] at h1
      rw [List.size_toArray, ← hl]
      exact Option.some.inj h1
    exact subscriptTail_builtinR (x := w) pl.isList.typeIs slot_list_getitem.lookup
      (wpAny_getItem_list_neg (Q := fun r s' => r = w ∧ EP X pins σ Q r s') pl.isList (by omega) (by rw [List.size_toArray] <;> omega) (by omega) (by rw [hj]; simpa using ew) ⟨rfl, fin⟩) hs
theorem ix_tup : IxR X (rIxT X.K) := by
  intro value slice pins s σ H x y v u Q I rx ry h hs
  obtain ⟨p, xs, i, z, rfl, rfl, hq, he, q⟩ := h
  cases rx
  obtain ⟨t, rfl⟩ := ry
  obtain ⟨its, r, pl, hz⟩ := I.tuple hq
  obtain ⟨j, h1, h2, h3, h4, h5⟩ := atI_get he
  obtain ⟨w, ew, rw'⟩ := r.get h2
  have hl := r.length
  have hn := line63
  have fin : EP X pins σ Q w s := ⟨z, H, I, rw', q⟩
  exact subscriptTail_builtinR (x := w) pl.typeIs slot_tuple_getitem.lookup
    (getItem_tuple (j := j) (Q := fun r s' => r = w ∧ EP X pins σ Q r s') pl (by omega) (by omega) (by rw [List.size_toArray, ← hl]; exact h1) (by simpa using ew) ⟨rfl, fin⟩) hs
theorem ix_str : IxR X rIxS := by
  intro value slice pins s σ H x y v u Q I rx ry h hs
  obtain ⟨z, i, c, rfl, rfl, hz, he, q⟩ := h
  obtain ⟨t, rfl⟩ := rx
  obtain ⟨t', rfl⟩ := ry
  obtain ⟨j, h1, h2, h3, h4, h5⟩ := atI_get he
  have hl : z.cps.toList.length = z.length := by simp [Str.length]
  rw [hl] at h1 h4 h5
  have hn := line63
  exact tail_any (typeIs_str s z t) slot_str_getitem.lookup (getItem_str (c := c) (by
    have e1 : decide (i < -(2 ^ 63 : Int)) = false := decide_eq_false (by omega)
    have e2 : decide (i ≥ 2 ^ 63) = false := decide_eq_false (by omega)
    rw [e1, e2, Bool.or_false]) (by rw [h1]; simpa using h2) ⟨.str ⟨#[c]⟩, H, I.tok _, ⟨_, rfl⟩, q⟩) hs
def rIx (K : PySem.W.Frag) : R2 := fun x y H Q => rIxL K x y H Q ∨ rIxT K x y H Q ∨ rIxS x y H Q
theorem ix_seq : IxR X (rIx X.K) := ix_list.or (ix_tup.or ix_str)
theorem Inv.lst {pins : List (Addr × Obj)} {σ : St} {H : Hp} {s : Shared} {p : Addr} {xs : List V} (I : Inv X pins σ H s) (h : H p = some (.lst xs)) :
    ∃ (its : List Value) (n : Nat), Vals xs its ∧ s.heap.get? p = some { cls := .type "list", data := .seq its.toArray n } ∧ xs.length ≤ sizeLine := by
  obtain ⟨z, its, n, r, e⟩ := I.hok p _ h
  exact ⟨its, n, r, e, z⟩
def rSetL : V → V → V → Hp → (Hp → Prop) → Prop := fun o i v H Q => ∃ p xs k j, o = .ref p ∧ i = .int k ∧ H p = some (.lst xs) ∧ ixN xs.length k = some j ∧ Q (upd H p (.lst (xs.set j v)))
def rSlL (K : PySem.W.Frag) : V → Option Int → Option Int → Hp → VK → Prop := fun x lo hi H Q => ∃ a xs, x = .ref a ∧ SqL K H a xs ∧ ∀ p, H p = none → Q (.ref p) (upd H p (.lst (cutV xs lo hi)))
def flatV : V → Bool
  | .non => true
  | .bl _ => true
  | .int _ => true
  | .str _ => true
  | _ => false
def eqV : V → V → Bool
  | .non, .non => true
  | .bl a, .bl b => a == b
  | .bl a, .int b => (if a then 1 else 0) == b
  | .int a, .bl b => a == (if b then 1 else 0)
  | .int a, .int b => a == b
  | .str a, .str b => a == b
  | _, _ => false
theorem eqAt_V {A : Around} {s : Shared} {y x : V} {u v : Value} (ry : RelV y u) (rx : RelV x v) (fy : flatV y = true) (fx : flatV x = true) : SeqAt.EqAt A s u v (eqV y x) := by
  cases y with
  | non =>
    cases ry
    cases x with
    | non => cases rx; exact SeqAt.EqAt.same _
    | bl b => cases rx; exact SeqAt.EqAt.none_bool b
    | int b => obtain ⟨t, rfl⟩ := rx; exact SeqAt.EqAt.none_int b t
    | str b => obtain ⟨t, rfl⟩ := rx; exact SeqAt.EqAt.none_str b t
    | _ => exact absurd (show false = true from fx) Bool.false_ne_true
  | bl a =>
    cases ry
    cases x with
    | non => cases rx; exact SeqAt.EqAt.bool_none a
    | bl b => cases rx; exact SeqAt.EqAt.bool_bool a b
    | int b => obtain ⟨t, rfl⟩ := rx; exact SeqAt.EqAt.bool_int a b t
    | str b => obtain ⟨t, rfl⟩ := rx; exact SeqAt.EqAt.bool_str a b t
    | _ => exact absurd (show false = true from fx) Bool.false_ne_true
  | int a =>
    obtain ⟨t', rfl⟩ := ry
    cases x with
    | non => cases rx; exact SeqAt.EqAt.int_none a t'
    | bl b => cases rx; exact SeqAt.EqAt.int_bool a t' b
    | int b => obtain ⟨t, rfl⟩ := rx; exact SeqAt.EqAt.int_int a t' b t
    | str b => obtain ⟨t, rfl⟩ := rx; exact SeqAt.EqAt.int_str a t' b t
    | _ => exact absurd (show false = true from fx) Bool.false_ne_true
  | str a =>
    obtain ⟨t', rfl⟩ := ry
    cases x with
    | non => cases rx; exact SeqAt.EqAt.str_none a t'
    | bl b => cases rx; exact SeqAt.EqAt.str_bool a t' b
    | int b => obtain ⟨t, rfl⟩ := rx; exact SeqAt.EqAt.str_int a t' b t
    | str b => obtain ⟨t, rfl⟩ := rx; exact SeqAt.EqAt.str_str a t' b t
    | _ => exact absurd (show false = true from fx) Bool.false_ne_true
  | _ => exact absurd (show false = true from fy) Bool.false_ne_true
def eqU (x : V) (u : Value) : Bool := match u with
  | .none => eqV .non x
  | .bool b => eqV (.bl b) x
  | .int i _ => eqV (.int i) x
  | .str z _ => eqV (.str z) x
  | _ => false
theorem eqU_of {x y : V} {u : Value} (r : RelV y u) (f : flatV y = true) : eqU x u = eqV y x := by
  cases y with
  | non => cases r; rfl
  | bl b => cases r; rfl
  | int i => obtain ⟨t, rfl⟩ := r; rfl
  | str z => obtain ⟨t, rfl⟩ := r; rfl
  | _ => exact absurd (show false = true from f) Bool.false_ne_true
theorem any_eqU {x : V} : ∀ {xs : List V} {us : List Value}, Vals xs us → xs.all flatV = true → us.any (eqU x) = xs.any fun y => eqV y x
  | _, _, .nil, _ => rfl
  | y :: xs, u :: us, .cons r t, f => by
    rw [List.all_cons, Bool.and_eq_true] at f
    rw [List.any_cons, List.any_cons, eqU_of r f.1, any_eqU t f.2]
theorem mem_eqAt {A : Around} {s : Shared} {x : V} {v : Value} (rx : RelV x v) (fx : flatV x = true) : ∀ {xs : List V} {us : List Value}, Vals xs us → xs.all flatV = true → ∀ u ∈ us, SeqAt.EqAt A s u v (eqU x u)
  | _, _, .nil, _ => fun u hu => by cases hu
  | y :: xs, u :: us, .cons r t, f => fun u' hu => by
    rw [List.all_cons, Bool.and_eq_true] at f
    rcases List.mem_cons.mp hu with rfl | hu
    · rw [eqU_of r f.1]; exact eqAt_V r rx f.1 fx
    · exact mem_eqAt rx fx t f.2 u' hu
def inV (x : V) (xs : List V) : Bool := xs.any fun y => eqV y x
def rIn (K : PySem.W.Frag) (neg : Bool) : R2 := fun x y H Q => ∃ p xs, y = .ref p ∧ (SqL K H p xs ∨ SqT K H p xs) ∧ flatV x = true ∧ xs.all flatV = true ∧ Q (.bl (if neg then !inV x xs else inV x xs)) H
theorem op_in_seq : OpR X (compareOp .In) (rIn X.K false) := by
  intro pins s σ H x y v u Q I rx ry h
  obtain ⟨p, xs, rfl, hq, fx, fs, q⟩ := h
  cases ry
  rcases hq with hq | hq
  · obtain ⟨its, r, pl, hz⟩ := I.list hq
    refine SeqAt.in_listAt (eqU x) pl.isList (fun w hw => mem_eqAt rx fx r fs w (by simpa using hw)) ⟨.bl _, H, I, rfl, ?_⟩
    rw [show its.toArray.any (eqU x) = its.any (eqU x) by simp, any_eqU r fs]
    exact q
  · obtain ⟨its, r, pl, hz⟩ := I.tuple hq
    refine SeqAt.in_tupleAt (eqU x) pl (fun w hw => mem_eqAt rx fx r fs w (by simpa using hw)) ⟨.bl _, H, I, rfl, ?_⟩
    rw [show its.toArray.any (eqU x) = its.any (eqU x) by simp, any_eqU r fs]
    exact q
theorem op_notIn_seq : OpR X (compareOp .NotIn) (rIn X.K true) := by
  intro pins s σ H x y v u Q I rx ry h
  obtain ⟨p, xs, rfl, hq, fx, fs, q⟩ := h
  cases ry
  rcases hq with hq | hq
  · obtain ⟨its, r, pl, hz⟩ := I.list hq
    refine SeqAt.notIn_listAt (eqU x) pl.isList (fun w hw => mem_eqAt rx fx r fs w (by simpa using hw)) ⟨.bl _, H, I, rfl, ?_⟩
    rw [show its.toArray.any (eqU x) = its.any (eqU x) by simp, any_eqU r fs]
    exact q
  · obtain ⟨its, r, pl, hz⟩ := I.tuple hq
    refine SeqAt.notIn_tupleAt (eqU x) pl (fun w hw => mem_eqAt rx fx r fs w (by simpa using hw)) ⟨.bl _, H, I, rfl, ?_⟩
    rw [show its.toArray.any (eqU x) = its.any (eqU x) by simp, any_eqU r fs]
    exact q
theorem call_len_seq : CallR X (.builtin "len") (fun xs H Q => ∃ p ys, xs = [.ref p] ∧ (SqL X.K H p ys ∨ SqT X.K H p ys) ∧ Q (.int ys.length) H) := by
  intro pins s σ H xs us Q I r h
  obtain ⟨p, ys, rfl, hq, q⟩ := h
  obtain ⟨u, rfl, rx⟩ := vals1 r
  cases rx
  have hn := line63
  rcases hq with hq | hq
  · obtain ⟨its, r', pl, hz⟩ := I.list hq
    have hlen := r'.length
    exact Calls.call_len_list pl.isList (by simp only [List.size_toArray] <;> omega) ⟨.int ys.length, H, I.tok _, ⟨s.toks + 1, by rw [List.size_toArray, hlen]⟩, q⟩
  · obtain ⟨its, r', pl, hz⟩ := I.tuple hq
    have hlen := r'.length
    exact len_tuple pl (by simp only [List.size_toArray] <;> omega) ⟨.int ys.length, H, I.tok _, ⟨s.toks + 1, by rw [List.size_toArray, hlen]⟩, q⟩
theorem call_len_str : CallR X (.builtin "len") (fun xs H Q => ∃ z, xs = [.str z] ∧ z.length ≤ sizeLine ∧ Q (.int z.length) H) := by
  intro pins s σ H xs us Q I r h
  obtain ⟨z, rfl, hz, q⟩ := h
  obtain ⟨u, rfl, t, rfl⟩ := vals1 r
  have hn := line63
  exact len_str (by omega) ⟨.int z.length, H, I.tok _, ⟨_, rfl⟩, q⟩
theorem CallR.or {f : Value} {r r' : List V → Hp → VK → Prop} (h : CallR X f r) (h' : CallR X f r') : CallR X f (fun xs H Q => r xs H Q ∨ r' xs H Q) := by
  intro pins s σ H xs us Q I rs q
  rcases q with q | q
  · exact h pins s σ H xs us Q I rs q
  · exact h' pins s σ H xs us Q I rs q
theorem call_list_of : CallR X (.type "list") (fun xs H Q => ∃ p ys, xs = [.ref p] ∧ (SqL X.K H p ys ∨ SqT X.K H p ys) ∧ ∀ l, H l = none → Q (.ref l) (upd H l (.lst ys))) := by
  intro pins s σ H xs us Q I r h
  obtain ⟨p, ys, rfl, hq, q⟩ := h
  obtain ⟨u, rfl, rx⟩ := vals1 r
  cases rx
  have fin : ∀ (its : List Value), Vals ys its → ys.length ≤ sizeLine → ∀ (h' : Heap) (c' : Nat), (∀ b o', s.heap.get? b = some o' → h'.get? b = some o') →
      h'.get? s.heap.objs.size = some { cls := .type "list", dict := none, data := .seq its.toArray c', slots := #[] } → EP X pins σ Q (.ref s.heap.objs.size) { s with heap := h' } := fun its r' hz h' c' kp e =>
    ⟨.ref s.heap.objs.size, _, I.laid (t' := s.toks) kp (Nat.le_refl _) (show ObjOk X.prog X.w _ h' _ (.lst ys) from ⟨hz, its, c', r', e⟩), rfl, q _ (I.hok.fresh (Nat.le_refl _))⟩
  rcases hq with hq | hq
  · obtain ⟨its, r', pl, hz⟩ := I.list hq
    have hlen := r'.length
    obtain ⟨o, ho, hc, n, hd⟩ := pl.isList
    exact call_list_seq p (.inl rfl) ho hc hd (fun h' c' kp e => fin its r' hz h' c' kp e) (by simp only [List.size_toArray] <;> omega)
  · obtain ⟨its, r', pl, hz⟩ := I.tuple hq
    have hlen := r'.length
    obtain ⟨o, ho, hc, n, hd⟩ := pl
    exact call_list_seq p (.inr rfl) ho hc hd (fun h' c' kp e => fin its r' hz h' c' kp e) (by simp only [List.size_toArray] <;> omega)
def tyV (K : PySem.W.Frag) (T : String) (x : V) (H : Hp) : Prop := match x with
  | .str _ => T = "str"
  | .int _ => T = "int"
  | .ref p => (T = "list" ∧ ∃ xs, SqL K H p xs) ∨ (T = "tuple" ∧ ∃ o, K.lookup p = some o ∧ o.cls = .type "tuple" ∧ o.dict = none) ∨
      (T = "dict" ∧ ((∃ kvs, H p = some (.dK kvs)) ∨ ∃ kvs, H p = some (.dT kvs))) ∨ (T = "set" ∧ ∃ S n, H p = some (.set S n))
  | _ => False
theorem tyV_is {pins : List (Addr × Obj)} {σ : St} {H : Hp} {s : Shared} {T : String} {x : V} {v : Value} (I : Inv X pins σ H s) (r : RelV x v) (ty : tyV X.K T x H) :
    s.TypeIs v T ∧ ∀ a, v = .ref a → ∃ ob, s.heap.get? a = some ob ∧ ob.dict = none := by
  cases x with
  | str z =>
    obtain ⟨t, rfl⟩ := r
    cases (show T = "str" from ty)
    exact ⟨typeIs_str s z t, fun _ e => nomatch e⟩
  | int i =>
    obtain ⟨t, rfl⟩ := r
    cases (show T = "int" from ty)
    exact ⟨typeIs_int s i t, fun _ e => nomatch e⟩
  | ref p =>
    cases r
    rcases ty with ⟨rfl, xs, hq⟩ | ⟨rfl, o, hk, hc, hd⟩ | ⟨rfl, hk⟩ | ⟨rfl, S, n, hk⟩
    · obtain ⟨its, _, pl, _⟩ := I.list hq
      refine ⟨pl.isList.typeIs, fun a e => ?_⟩
      cases e
      obtain ⟨o, n, e, c, hd, _⟩ := pl
      exact ⟨o, e, hd⟩
    · refine ⟨⟨o, I.kIn p o hk, hc⟩, fun a e => ?_⟩
      cases e
      exact ⟨o, I.kIn _ o hk, hd⟩
    · have z : ∃ o, s.heap.get? p = some o ∧ o.ExactDict := by
        rcases hk with ⟨kvs, hk⟩ | ⟨kvs, hk⟩
        · obtain ⟨_, _, _, _, o, _, _, e, ex, _⟩ := I.hok p _ hk
          exact ⟨o, e, ex⟩
        · obtain ⟨_, _, _, _, o, _, _, e, ex, _⟩ := I.hok p _ hk
          exact ⟨o, e, ex⟩
      obtain ⟨o, e, ex⟩ := z
      refine ⟨⟨o, e, ex.1⟩, fun a e2 => ?_⟩
      cases e2
      exact ⟨o, e, ex.2.1⟩
    · obtain ⟨o, _, _, _, e, ex, _⟩ := I.hok p _ hk
      refine ⟨⟨o, e, ex.1⟩, fun a e2 => ?_⟩
      cases e2
      exact ⟨o, e, ex.2.1⟩
  | _ => exact False.elim ty
def tBM0 (K : PySem.W.Frag) (T : String) (r : V → List V → Hp → VK → Prop) (to : TE) : TE := fun σ H Q => to σ H fun x H1 => tyV K T x H1 ∧ r x [] H1 Q
def tBM (K : PySem.W.Frag) (T : String) (r : V → List V → Hp → VK → Prop) (to : TE) (t : TA) : TE := fun σ H Q => to σ H fun x H1 => tyV K T x H1 ∧ t σ H1 fun xs H2 => r x xs H2 Q
variable {o e : Expr} {es : List Expr} {to : TE} {t : TA} {name : Str} {apos cpos : Pos} {T id : String} {r : V → List V → Hp → VK → Prop}
end
end L2
namespace L2
open PySem PySem.Spec PyProof.Rows
def MtM (X : Cx) (id : String) (r : V → List V → Hp → VK → Prop) : Prop :=
  ∀ (pins : List (Addr × Obj)) (s : Shared) (σ : St) (H : Hp) (x : V) (xs : List V) (v : Value) (us : List Value) (Q : VK), Inv X pins σ H s → RelV x v → Vals xs us → r x xs H Q →
    wpAny (model X.prog X.w) X.A (call (.builtin id) (v :: us)) (EP X pins σ Q) X.xe s
theorem Vals.one : ∀ {x : V} {us : List Value}, Vals [x] us → ∃ u, us = [u] ∧ RelV x u
  | _, _, .cons r .nil => ⟨_, rfl, r⟩
theorem Vals.zero : ∀ {us : List Value}, Vals [] us → us = []
  | _, .nil => rfl
theorem Vals.dropLast {xs : List V} {us : List Value} (h : Vals xs us) : Vals xs.dropLast us.dropLast := by
  induction h with
  | nil => exact .nil
  | cons r t ih =>
    cases t with
    | nil => exact .nil
    | cons q t' => exact .cons r ih
theorem Vals.eraseIdx : ∀ {xs : List V} {us : List Value} (i : Nat), Vals xs us → Vals (xs.eraseIdx i) (us.eraseIdx i)
  | _, _, _, .nil => .nil
  | _, _, 0, .cons _ t => t
  | _, _, i + 1, .cons r t => .cons r (Vals.eraseIdx i t)
theorem Vals.reverse {xs : List V} {us : List Value} (h : Vals xs us) : Vals xs.reverse us.reverse := by
  induction h with
  | nil => exact .nil
  | cons r t ih => rw [List.reverse_cons, List.reverse_cons]; exact Vals.append ih (.cons r .nil)
theorem Vals.rep {xs : List V} {us : List Value} (h : Vals xs us) : ∀ k : Nat, Vals (List.replicate k xs).flatten (List.replicate k us).flatten
  | 0 => .nil
  | k + 1 => by
    rw [List.replicate_succ, List.replicate_succ, List.flatten_cons, List.flatten_cons]
    exact Vals.append h (Vals.rep h k)
theorem len_erase {α : Type} : ∀ (l : List α) (i : Nat), (l.eraseIdx i).length ≤ l.length
  | [], _ => Nat.le_refl _
  | _ :: _, 0 => Nat.le_succ _
  | _ :: r, i + 1 => Nat.succ_le_succ (len_erase r i)
theorem foldl_rep (its : List Value) : ∀ (k : Nat) (acc : List Value),
    List.foldl (fun x1 x2 => x1 ++ x2) acc.toArray (List.replicate k its.toArray) = (acc ++ (List.replicate k its).flatten).toArray
  | 0, acc => by simp
  | k + 1, acc => by
    have e : acc.toArray ++ its.toArray = (acc ++ its).toArray := by simp
    have e2 : (acc ++ its) ++ (List.replicate k its).flatten = acc ++ (List.replicate (k + 1) its).flatten := by
      rw [List.replicate_succ, List.flatten_cons, List.append_assoc]
    rw [← e2, ← foldl_rep its k (acc ++ its), ← e, List.replicate_succ, List.foldl_cons]
section
variable {X : Cx} {pins : List (Addr × Obj)} {σ : St} {H : Hp} {s : Shared} {l b : Addr} {xs ys zs : List V}
theorem Inv.lset {its its' : List Value} {n : Nat} {f : Array Value → Array Value} {t' : Nat} (I : Inv X pins σ H s) (hH : H l = some (.lst xs))
    (e : s.heap.get? l = some { cls := .type "list", data := .seq its.toArray n }) (hf : f its.toArray = its'.toArray) (hv : Vals ys its') (hz : ys.length ≤ sizeLine) :
    Inv X pins σ (upd H l (.lst ys)) { s with heap := s.heap.update l (Obj.mapSeq f), toks := t' } := by
  have q := PySem.IsL.update e f
  rw [hf] at q
  refine I.write (x := l) (e := l) (by rw [hH]; exact trivial) (.inl rfl) (fun b' u hb hu => (Heap.get?_update_other s.heap (Obj.mapSeq f) (Ne.symm hb)).trans hu) ⟨_, q⟩ ?_
  exact ⟨hz, its', _, hv, q⟩
theorem Inv.lnew {its : List Value} {t' : Nat} (I : Inv X pins σ H s) (hv : Vals ys its) (hz : ys.length ≤ sizeLine) :
    Inv X pins σ (upd H s.heap.objs.size (.lst ys)) { s with heap := s.heap.push { cls := .type "list", data := .seq its.toArray }, toks := t' } :=
  I.laid (fun _ _ q => Heap.get?_push_of_some _ q) (Nat.le_refl _) ⟨hz, its, 0, hv, Heap.get?_push_size _ rfl⟩
theorem Inv.fresh (I : Inv X pins σ H s) : H s.heap.objs.size = none := I.hok.fresh (Nat.le_refl _)
theorem Inv.lstM (I : Inv X pins σ H s) (hH : H l = some (.lst xs)) : xs.length ≤ sizeLine ∧ ∃ (its : List Value) (n : Nat), Vals xs its ∧ xs.length = its.length ∧ s.heap.get? l = some { cls := .type "list", data := .seq its.toArray n } := by
  obtain ⟨z, its, n, r, e⟩ := I.hok l _ hH
  exact ⟨z, its, n, r, r.length, e⟩
theorem notLongL {n : Nat} (h : n ≤ sizeLine) : Builtin.List.listTooLong n = false := by
  unfold Builtin.List.listTooLong
  exact decide_eq_false (by omega)
end
section
variable {X : Cx}
def rAppend : V → List V → Hp → VK → Prop := fun x vs H Q => ∃ l xs y, x = .ref l ∧ vs = [y] ∧ H l = some (.lst xs) ∧ xs.length < sizeLine ∧ Q .non (upd H l (.lst (xs ++ [y])))
theorem mt_append : MtM X "list.append" rAppend := by
  intro pins s σ H x vs v us Q I rx rv h
  obtain ⟨l, xs, y, rfl, rfl, hH, hz, q⟩ := h
  cases rx
  obtain ⟨u, rfl, ru⟩ := rv.one
  obtain ⟨z, its, n, r, hl, e⟩ := I.lstM hH
  refine call_meets F.slot_list_append ⟨_, e, rfl⟩ F.entry_list_append (F.args_list_append_2 _ _) (PySem.list_append l its.toArray n u (by rw [List.size_toArray]; omega)) ⟨e, ?_⟩
  refine ⟨.non, _, I.lset (its' := its ++ [u]) hH e (by simp) (r.append (.cons ru .nil)) ?_, rfl, q⟩
  rw [List.length_append, List.length_singleton]
  omega
def rExtend : V → List V → Hp → VK → Prop := fun x vs H Q => ∃ l b xs zs, x = .ref l ∧ vs = [.ref b] ∧ H l = some (.lst xs) ∧ H b = some (.lst zs) ∧ xs.length + zs.length ≤ sizeLine ∧ Q .non (upd H l (.lst (xs ++ zs)))
def rPop : V → List V → Hp → VK → Prop := fun x vs H Q => ∃ l xs y, x = .ref l ∧ vs = [] ∧ H l = some (.lst xs) ∧ xs[xs.length - 1]? = some y ∧ Q y (upd H l (.lst xs.dropLast))
def rPopAt : V → List V → Hp → VK → Prop := fun x vs H Q => ∃ l xs i k y, x = .ref l ∧ vs = [.int i] ∧ H l = some (.lst xs) ∧ -(2 ^ 63) ≤ i ∧ i < 2 ^ 63 ∧ seqIndex? i xs.length = some k ∧ xs[k]? = some y ∧ Q y (upd H l (.lst (xs.eraseIdx k)))
def rReverse : V → List V → Hp → VK → Prop := fun x vs H Q => ∃ l xs, x = .ref l ∧ vs = [] ∧ H l = some (.lst xs) ∧ Q .non (upd H l (.lst xs.reverse))
def rClear : V → List V → Hp → VK → Prop := fun x vs H Q => ∃ l xs, x = .ref l ∧ vs = [] ∧ H l = some (.lst xs) ∧ Q .non (upd H l (.lst []))
def rCat : R2 := fun x y H Q => ∃ l b xs zs, x = .ref l ∧ y = .ref b ∧ H l = some (.lst xs) ∧ H b = some (.lst zs) ∧ xs.length + zs.length ≤ sizeLine ∧ ∀ p, H p = none → Q (.ref p) (upd H p (.lst (xs ++ zs)))
theorem op_cat : OpR X (binaryOp .Add) rCat := by
  intro pins s σ H x y v u Q I rx ry h
  obtain ⟨l, b, xs, zs, rfl, rfl, hH, hB, hz, q⟩ := h
  cases rx
  cases ry
  obtain ⟨z, its, n, r, hl, e⟩ := I.lstM hH
  obtain ⟨z2, its2, n2, r2, hl2, e2⟩ := I.lstM hB
  refine PySem.P.add_list e e2 ?_ (by rw [List.size_toArray, List.size_toArray]; omega)
  have ea : its.toArray ++ its2.toArray = (its ++ its2).toArray := by simp
  rw [ea]
  exact ⟨.ref _, _, I.lnew (t' := s.toks) (r.append r2) (by rw [List.length_append]; omega), rfl, q _ I.fresh⟩
def rRep : R2 := fun x y H Q => ∃ l k xs, x = .ref l ∧ y = .int k ∧ H l = some (.lst xs) ∧ -(2 ^ 63) ≤ k ∧ k < 2 ^ 63 ∧ xs.length * k.toNat ≤ sizeLine ∧
  ∀ p, H p = none → Q (.ref p) (upd H p (.lst (List.replicate k.toNat xs).flatten))
end
section
variable {prog : Program} {w : World} {A : Around} {E : Value → Shared → Prop} {s : Shared}
theorem bounds_run {a c n : Nat} (hac : a ≤ c) (hc : c ≤ n) : sliceBounds (some (a : Int)) (some (c : Int)) none n = ((a : Int), (c : Int), 1) := by
  simp only [sliceBounds, Option.getD_none]
  have h1 : ¬ ((a : Int) < 0) := by omega
  have h2 : ¬ ((c : Int) < 0) := by omega
  simp only [h1, h2, if_false, show (1 : Int) > 0 by decide, if_true]
  congr 1
  · omega
  · congr 1; omega
set_option maxRecDepth 100000 in
theorem setItem_slice {l b sl : Addr} {items new : Array Value} {n n2 : Nat} {vl vu : Value} {a c : Nat} {Q : Unit → Shared → Prop}
    (e : s.heap.get? l = some { cls := .type "list", data := .seq items n }) (e2 : s.heap.get? b = some { cls := .type "list", data := .seq new n2 }) (hne : l ≠ b)
    (hs : s.heap.IsSliceOf sl vl vu .none) (pl : IsPart vl (some (a : Int))) (pu : IsPart vu (some (c : Int))) (hac : a ≤ c) (hc : c ≤ items.size)
    (hsz : items.size + new.size ≤ sizeLine) (h : Q () { s with heap := s.heap.update l (Obj.mapSeq fun xs => xs.extract 0 a ++ new ++ xs.extract c xs.size) }) :
    wpAny (model prog w) A (setItem (.ref l) (.ref sl) (.ref b)) Q E s := by
  have hl : s.heap.IsList l items := PySem.IsL.isList e
  have hb : s.heap.IsList b new := PySem.IsL.isList e2
  obtain ⟨os, hos, hcs, hds⟩ := id hs
  have hTs : s.TypeIs (.ref sl) "slice" := ⟨os, hos, hcs⟩
  have hstep : ¬ ((rawPart none == rawInt 0) = true) := Bool.false_ne_true
  have hsame : Builtin.List.listSameRef (.ref l) (.ref b) = false := by
    unfold Builtin.List.listSameRef
    exact beq_eq_false_iff_ne.mpr hne
  have hmax : (max (a : Int) (c : Int)).toNat = c := by omega
  have hz' : ((fun xs : Array Value => xs.extract 0 a ++ new ++ xs.extract c xs.size) items).size ≤ sizeLine + 1 := by
    simp only [Array.size_append, Array.size_extract]
    omega
  unfold setItem
  try with_reducible refine wpAny_holding ?_
  first | refine wpAny_bind (wpAny_pure ?_) | skip
  refine wpAny_bind (wpAny_sequenceKey hl.typeIs (by decide) ?_)
  refine wpAny_bind (wpAny_callSpecial?_slot (name := Str.ofString "__setitem__") hl.typeIs slot_list_setitem
    (wpAny_call_entry slot_list_setitem hl.typeIs entry_list_setitem ?_ (args_list_setitem _ _ _)))
  show wpAny _ _ (Builtin.List.listSubscript? (.ref sl) >>= _) _ _ s
  refine wpAny_bind ?_
  unfold Builtin.List.listSubscript?
  refine wpAny_bind (wpAny_specialOf hTs slice_no_index ?_)
  simp only [Option.isNone_none, if_true]
  refine wpAny_pure ?_
  show wpAny _ _ (typeOf (.ref sl) >>= _) _ _ s
  refine wpAny_bind (wpAny_typeOf hTs ?_)
  first
    | rw [if_neg (by decide)]
    | refine PySem.W.KFB.if_not (by decide) ?_
  rw [listSliceParts_eq]
  refine wpAny_bind (wpAny_bind (wpAny_field hos hds (x := .none) rfl (wpAny_bind (wpAny_listPart .none ?_))))
  rw [if_neg hstep]
  refine wpAny_bind (wpAny_field hos hds (x := vl) rfl (wpAny_bind (wpAny_listPart pl ?_)))
  refine wpAny_bind (wpAny_field hos hds (x := vu) rfl (wpAny_bind (wpAny_listPart pu (wpAny_pure ?_))))
  first
    | simp only [hsame, Bool.false_eq_true, if_false]
    | refine PySem.W.KFB.if_not hsame ?_
    | (dsimp only
       rw [if_neg (by rw [hsame]; exact Bool.false_ne_true)])
  refine wpAny_bind (m := Builtin.List.listAllItems (.ref b) "must assign iterable to extended slice") ?_
  unfold Builtin.List.listAllItems
  refine wpAny_bind (wpAny_typeOf hb.typeIs ?_)
  first
    | refine PySem.W.KFB.if_so (by decide) ?_
    | rw [if_pos (by decide)]
    | simp only [beq_self_eq_true, Bool.true_or, if_true]
  unfold Builtin.List.listItems
  refine wpAny_bind (wpAny_seqItems e2 rfl (wpAny_pure ?_))
  refine wpAny_bind (wpAny_bind (wpAny_seqItems e rfl (wpAny_pure ?_)))
  refine wpAny_bind (wpAny_of_eq ((sliceIndices_raw (some (a : Int)) (some (c : Int)) none items.size (by simp)).trans (congrArg (pure : Int × Int × Int → Sem (Int × Int × Int)) (bounds_run hac hc))) ?_)
  show wpAny _ _ (if ((1 : Int) == 1) = true then _ else _) _ _ s
  rw [if_pos (by decide)]
  refine wpAny_bind (wpAny_rule ?_)
  first
    | simp only [notLongL hsz, Bool.false_eq_true, if_false]
    | refine PySem.W.KFB.if_not (notLongL hsz) ?_
  first | refine wpAny_bind (wpAny_pure ?_) | skip
  show wpAny _ _ (updateSeq l (fun xs => xs.extract 0 ((a : Int)).toNat ++ new ++ xs.extract (max (a : Int) (c : Int)).toNat xs.size) >>= _) _ _ s
  rw [hmax, Int.toNat_natCast]
  refine wpAny_bind (wpAny_updateSeq (hz := Nat.le_trans (Nat.le_add_right _ _) hsz) (_hz' := hz') e rfl ?_)
  refine wpAny_bind (wpAny_letGo ?_)
  first
    | exact wpAny_bind (wpAny_pure (wpAny_pure ⟨.none, rfl, wpAny_pure h⟩))
    | exact wpAny_pure ⟨.none, rfl, wpAny_pure h⟩
end
section
variable {X : Cx}
end
end L2
namespace L2
open PySem PySem.Spec PyProof.Rows
section
variable {κ : Type} [DecidableEq κ]
def valV (kvs : List (κ × V)) (k : κ) : Option V := (kvs.find? fun kv => decide (kv.1 = k)).map (·.2)
def putK (kvs : List (κ × V)) (k : κ) (v : V) : List (κ × V) :=
  if (kvs.any fun kv => decide (kv.1 = k)) = true then kvs.map (fun kv => if kv.1 = k then (kv.1, v) else kv) else kvs ++ [(k, v)]
def dropK (kvs : List (κ × V)) (k : κ) : List (κ × V) := kvs.filter fun kv => decide (kv.1 ≠ k)
theorem valV_pos {p : κ × V} {r : List (κ × V)} {k : κ} (e : p.1 = k) : valV (p :: r) k = some p.2 := by simp [valV, List.find?_cons, e]
theorem valV_neg {p : κ × V} {r : List (κ × V)} {k : κ} (e : ¬ p.1 = k) : valV (p :: r) k = valV r k := by simp [valV, List.find?_cons, e]
theorem valV_any (k : κ) : ∀ kvs : List (κ × V), (kvs.any fun kv => decide (kv.1 = k)) = (valV kvs k).isSome
  | [] => rfl
  | p :: r => by
    rw [List.any_cons]
    by_cases e : p.1 = k
    · simp only [valV_pos e, decide_eq_true e, Bool.true_or, Option.isSome_some]
    · rw [valV_neg e, decide_eq_false e, Bool.false_or]; exact valV_any k r
theorem valV_map (k j : κ) (y : V) : ∀ kvs : List (κ × V), valV (kvs.map fun kv => if kv.1 = k then (kv.1, y) else kv) j = (valV kvs j).map fun x => if j = k then y else x
  | [] => rfl
  | p :: r => by
    have ih := valV_map k j y r
    rw [List.map_cons]
    by_cases h : p.1 = k
    · rw [if_pos h]
      by_cases e : p.1 = j
      · rw [valV_pos (p := (p.1, y)) e, valV_pos e, Option.map_some, if_pos (e.symm.trans h)]
      · rw [valV_neg (p := (p.1, y)) e, valV_neg e, ih]
    · rw [if_neg h]
      by_cases e : p.1 = j
      · rw [valV_pos (p := p) e, valV_pos e, Option.map_some, if_neg (fun z => h (e.trans z))]
      · rw [valV_neg (p := p) e, valV_neg e, ih]
theorem valV_snoc (k j : κ) (y : V) : ∀ kvs : List (κ × V), valV kvs k = none → valV (kvs ++ [(k, y)]) j = if j = k then some y else valV kvs j
  | [], _ => by
    by_cases e : k = j
    · rw [if_pos e.symm]; exact valV_pos (p := (k, y)) e
    · rw [if_neg (fun z => e z.symm)]; exact valV_neg (p := (k, y)) e
  | p :: r, hn => by
    rw [List.cons_append]
    have hk : ¬ p.1 = k := fun z => by rw [valV_pos z] at hn; cases hn
    rw [valV_neg hk] at hn
    have ih := valV_snoc k j y r hn
    by_cases e : p.1 = j
    · rw [valV_pos e, valV_pos e, if_neg (fun z => hk (e.trans z))]
    · rw [valV_neg e, valV_neg e, ih]
theorem length_putK (kvs : List (κ × V)) (k : κ) (v : V) : (putK kvs k v).length ≤ kvs.length + 1 := by
  unfold putK
  split
  · rw [List.length_map]; omega
  · rw [List.length_append, List.length_cons, List.length_nil]; omega
theorem RelO.isSome_eq {o : Option V} {u : Option Value} (r : RelO o u) : o.isSome = u.isSome := by
  cases o with
  | none => cases u with
    | none => rfl
    | some _ => exact (show False from r).elim
  | some _ => cases u with
    | none => exact (show False from r).elim
    | some _ => rfl
theorem RelO.getD {o : Option V} {u : Option Value} {d : V} {d' : Value} (r : RelO o u) (rd : RelV d d') : RelV (o.getD d) (u.getD d') := by
  cases o with
  | none => cases u with
    | none => exact rd
    | some _ => exact (show False from r).elim
  | some _ => cases u with
    | none => exact (show False from r).elim
    | some _ => exact r
theorem KV.val {kvs : List (κ × V)} {vs : List (κ × Value)} (r : KV kvs vs) (k : κ) : RelO (valV kvs k) (valueAt vs k) := by
  unfold KV at r
  induction r with
  | nil => exact True.intro
  | @cons p q ps qs h t ih =>
    obtain ⟨h1, h2⟩ := h
    by_cases e : p.1 = k
    · have e' : q.1 = k := h1.symm.trans e
      have b : valueAt (q :: qs) k = some q.2 := by simp [valueAt, List.find?_cons, e']
      rw [valV_pos e, b]; exact h2
    · have e' : ¬ q.1 = k := fun z => e (h1.trans z)
      have b : valueAt (q :: qs) k = valueAt qs k := by simp [valueAt, List.find?_cons, e']
      rw [valV_neg e, b]; exact ih
theorem KV.any {kvs : List (κ × V)} {vs : List (κ × Value)} (r : KV kvs vs) (k : κ) : (kvs.any fun kv => decide (kv.1 = k)) = vs.any fun kv => decide (kv.1 = k) := by
  unfold KV at r
  induction r with
  | nil => rfl
  | cons h t ih => rw [List.any_cons, List.any_cons, ih, h.1]
theorem KV.repl {kvs : List (κ × V)} {vs : List (κ × Value)} (r : KV kvs vs) (k : κ) {y : V} {u : Value} (ry : RelV y u) :
    KV (kvs.map fun kv => if kv.1 = k then (kv.1, y) else kv) (vs.map fun kv => if kv.1 = k then (kv.1, u) else kv) := by
  unfold KV at r ⊢
  induction r with
  | nil => exact .nil
  | @cons p q ps qs h t ih =>
    rw [List.map_cons, List.map_cons]
    refine .cons ?_ ih
    obtain ⟨h1, h2⟩ := h
    by_cases e : p.1 = k
    · rw [if_pos e, if_pos (h1.symm.trans e)]; exact ⟨h1, ry⟩
    · rw [if_neg e, if_neg (fun z => e (h1.trans z))]; exact ⟨h1, h2⟩
theorem KV.put {kvs : List (κ × V)} {vs : List (κ × Value)} (r : KV kvs vs) (k : κ) {y : V} {u : Value} (ry : RelV y u) : KV (putK kvs k y) (stored vs k u) := by
  unfold putK stored
  rw [r.any k]
  by_cases e : (vs.any fun kv => decide (kv.1 = k)) = true
  · rw [if_pos e, if_pos e]; exact r.repl k ry
  · rw [if_neg e, if_neg e]; exact Paired.snoc r ⟨rfl, ry⟩
theorem KV.drop {kvs : List (κ × V)} {vs : List (κ × Value)} (r : KV kvs vs) (k : κ) : KV (dropK kvs k) (without vs k) := by
  unfold KV at r ⊢
  unfold dropK without
  induction r with
  | nil => exact .nil
  | @cons p q ps qs h t ih =>
    obtain ⟨h1, h2⟩ := h
    rw [List.filter_cons, List.filter_cons]
    by_cases e : p.1 = k
    · have a : ¬ decide (p.1 ≠ k) = true := by simp [e]
      have b : ¬ decide (q.1 ≠ k) = true := by simp [h1.symm.trans e]
      rw [if_neg a, if_neg b]; exact ih
    · have e' : ¬ q.1 = k := fun z => e (h1.trans z)
      have a : decide (p.1 ≠ k) = true := by simp [e]
      have b : decide (q.1 ≠ k) = true := by simp [e']
      rw [if_pos a, if_pos b]; exact .cons ⟨h1, h2⟩ ih
theorem KV.keys {kvs : List (κ × V)} {vs : List (κ × Value)} (r : KV kvs vs) : kvs.map (·.1) = vs.map (·.1) := by
  unfold KV at r
  induction r with
  | nil => rfl
  | cons h t ih => rw [List.map_cons, List.map_cons, ih, h.1]
theorem KV.length {kvs : List (κ × V)} {vs : List (κ × Value)} (r : KV kvs vs) : kvs.length = vs.length := Paired.length r
end
theorem kV_is {P : Program} {w : World} {k : Key} {u : Value} (r : RelV (kV k) u) : (mixKind P w).is k u = true := by
  cases k with
  | inl i => obtain ⟨t, e⟩ := (show ∃ t, u = Value.int i t from r); subst e; exact mixKind_int P w i t
  | inr x => obtain ⟨t, e⟩ := (show ∃ t, u = Value.str x t from r); subst e; exact mixKind_str P w x t
theorem kV_inj {a b : Key} (e : kV a = kV b) : a = b := by
  cases a with
  | inl i => cases b with
    | inl j => have e' : V.int i = V.int j := e; injection e' with e'; rw [e']
    | inr y => exact nomatch (show V.int i = V.str y from e)
  | inr x => cases b with
    | inl j => exact nomatch (show V.str x = V.int j from e)
    | inr y => have e' : V.str x = V.str y := e; injection e' with e'; rw [e']
theorem kVs_inj : ∀ {a b : List Key}, a.map kV = b.map kV → a = b
  | [], [], _ => rfl
  | [], _ :: _, e => by simp at e
  | _ :: _, [], e => by simp at e
  | x :: xs, y :: ys, e => by
    rw [List.map_cons, List.map_cons] at e
    injection e with e1 e2
    rw [kV_inj e1, kVs_inj e2]
theorem items_are {P : Program} {w : World} : ∀ {ks : List Key} {us : List Value}, Vals (ks.map kV) us → ItemsAre (mixKind P w) ks us
  | [], _, r => by rw [List.map_nil] at r; cases r; exact .nil
  | k :: ks, _, r => by
    rw [List.map_cons] at r
    cases r with
    | cons h t => exact .cons (kV_is h) (items_are t)
abbrev KT (H : Hp) : List (List Key × V) → List (List Key × Addr × Value) → Prop := Paired fun p q => p.1 = q.1 ∧ H q.2.1 = some (.tup (p.1.map kV)) ∧ RelV p.2 q.2.2
theorem KT.val {H : Hp} {kvs : List (List Key × V)} {xs : List (List Key × Addr × Value)} (r : KT H kvs xs) (k : List Key) : RelO (valV kvs k) ((atKey xs k).map (·.2)) := by
  induction r with
  | nil => exact True.intro
  | @cons p q ps qs h t ih =>
    obtain ⟨h1, _, h2⟩ := h
    by_cases e : p.1 = k
    · have e' : q.1 = k := h1.symm.trans e
      have b : atKey (q :: qs) k = some q.2 := by simp [atKey, List.find?_cons, e']
      rw [valV_pos e, b]; exact h2
    · have e' : ¬ q.1 = k := fun z => e (h1.trans z)
      have b : atKey (q :: qs) k = atKey qs k := by simp [atKey, List.find?_cons, e']
      rw [valV_neg e, b]; exact ih
theorem KT.repl {H : Hp} {kvs : List (List Key × V)} {xs : List (List Key × Addr × Value)} (r : KT H kvs xs) (k : List Key) {y : V} {u : Value} (ry : RelV y u) :
    KT H (kvs.map fun kv => if kv.1 = k then (kv.1, y) else kv) (xs.map (putAt k u)) := by
  induction r with
  | nil => exact .nil
  | @cons p q ps qs h t ih =>
    rw [List.map_cons, List.map_cons]
    refine .cons ?_ ih
    obtain ⟨h1, h2, h3⟩ := h
    unfold putAt
    by_cases e : p.1 = k
    · rw [if_pos e, if_pos (h1.symm.trans e)]; exact ⟨h1, h2, ry⟩
    · rw [if_neg e, if_neg (fun z => e (h1.trans z))]; exact ⟨h1, h2, h3⟩
theorem KT.put {H : Hp} {kvs : List (List Key × V)} {xs : List (List Key × Addr × Value)} (r : KT H kvs xs) (k : List Key) {b : Addr} {y : V} {u : Value} (hb : H b = some (.tup (k.map kV))) (ry : RelV y u) :
    KT H (putK kvs k y) (storedH xs k b u) := by
  have e : (kvs.any fun kv => decide (kv.1 = k)) = (atKey xs k).isSome := by
    rw [valV_any, (r.val k).isSome_eq, Option.isSome_map]
  unfold putK storedH
  rw [e]
  by_cases q : (atKey xs k).isSome = true
  · rw [if_pos q, if_pos q]; exact r.repl k ry
  · rw [if_neg q, if_neg q]; exact Paired.snoc r ⟨rfl, hb, ry⟩
theorem KT.keeps {H H' : Hp} {kvs : List (List Key × V)} {xs : List (List Key × Addr × Value)} (r : KT H kvs xs) (ht : ∀ b ys, H b = some (.tup ys) → H' b = some (.tup ys)) : KT H' kvs xs :=
  Paired.mapP r fun _ _ z => ⟨z.1, ht _ _ z.2.1, z.2.2⟩
section
variable {P : Program} {w : World} {H : Hp} {h : Heap} {a : Addr}
end
def DGet (H : Hp) (a : Addr) (y : V) (r : Option V) : Prop :=
  (∃ kvs k, Rd H a (.dK kvs) ∧ y = kV k ∧ r = valV kvs k) ∨ ∃ kvs k b, Rd H a (.dT kvs) ∧ y = .ref b ∧ H b = some (.tup (k.map kV)) ∧ r = valV kvs k
def DPut (H : Hp) (a : Addr) (y v : V) (H' : Hp) : Prop :=
  (∃ kvs k, H a = some (.dK kvs) ∧ y = kV k ∧ kvs.length < sizeLine ∧ H' = upd H a (.dK (putK kvs k v))) ∨
  ∃ kvs k b, H a = some (.dT kvs) ∧ y = .ref b ∧ H b = some (.tup (k.map kV)) ∧ kvs.length < sizeLine ∧ H' = upd H a (.dT (putK kvs k v))
theorem DGet.k {H : Hp} {a : Addr} {kvs : List (Key × V)} {k : Key} (e : H a = some (.dK kvs)) : DGet H a (kV k) (valV kvs k) := .inl ⟨kvs, k, .inl e, rfl, rfl⟩
theorem DGet.t {H : Hp} {a b : Addr} {kvs : List (List Key × V)} {k : List Key} (e : H a = some (.dT kvs)) (eb : H b = some (.tup (k.map kV))) : DGet H a (.ref b) (valV kvs k) := .inr ⟨kvs, k, b, .inl e, rfl, eb, rfl⟩
theorem DPut.k {H : Hp} {a : Addr} {kvs : List (Key × V)} {k : Key} {v : V} (e : H a = some (.dK kvs)) (hl : kvs.length < sizeLine) : DPut H a (kV k) v (upd H a (.dK (putK kvs k v))) := .inl ⟨kvs, k, e, rfl, hl, rfl⟩
theorem DPut.t {H : Hp} {a b : Addr} {kvs : List (List Key × V)} {k : List Key} {v : V} (e : H a = some (.dT kvs)) (eb : H b = some (.tup (k.map kV))) (hl : kvs.length < sizeLine) :
    DPut H a (.ref b) v (upd H a (.dT (putK kvs k v))) := .inr ⟨kvs, k, b, e, rfl, eb, hl, rfl⟩
section
variable {X : Cx} {pins : List (Addr × Obj)} {σ : St} {H : Hp} {s : Shared} {a : Addr} {y v : V} {u r : Value} {o : Option V} {A : Around} {E : Value → Shared → Prop}
end
section
variable {X : Cx} {pins : List (Addr × Obj)} {σ : St} {H : Hp} {s : Shared} {a : Addr} {kvs : List (Key × V)} {k : Key} {u : Value} {A : Around} {E : Value → Shared → Prop}
end
def NoSl (i : Expr) : Prop := ∀ ov iv, subscripted i false ov iv = operate [ov, iv] (getItem ov iv)
def tDGet (td ty : TE) : TE := fun σ H Q => td σ H fun x H1 => ty σ H1 fun y H2 => ∃ a v, x = .ref a ∧ DGet H2 a y (some v) ∧ Q v H2
def tDIn (ty td : TE) : TE := fun σ H Q => ty σ H fun y H1 => td σ H1 fun x H2 => ∃ a o, x = .ref a ∧ DGet H2 a y o ∧ Q (.bl o.isSome) H2
def tDNotIn (ty td : TE) : TE := fun σ H Q => ty σ H fun y H1 => td σ H1 fun x H2 => ∃ a o, x = .ref a ∧ DGet H2 a y o ∧ Q (.bl (!o.isSome)) H2
def sDPut (td ty tv : TE) : TS := fun D σ H => tv σ H fun v H1 => td σ H1 fun x H2 => ty σ H2 fun y H3 => ∃ a H4, x = .ref a ∧ DPut H3 a y v H4 ∧ D.nx σ H4
def sDAug (td ty tv : TE) (rd : V → V → Hp → VK → Prop) : TS := fun D σ H => td σ H fun x H1 => ty σ H1 fun y H2 => ∃ a v, x = .ref a ∧ DGet H2 a y (some v) ∧
  tv σ H2 fun y2 H3 => rd v y2 H3 fun z H4 => ∃ H5, DPut H4 a y z H5 ∧ D.nx σ H5
def sDDel (td ty : TE) : TS := fun D σ H => td σ H fun x H1 => ty σ H1 fun y H2 => ∃ a kvs k, x = .ref a ∧ H2 a = some (.dK kvs) ∧ y = kV k ∧ (valV kvs k).isSome = true ∧ D.nx σ (upd H2 a (.dK (dropK kvs k)))
section
variable {X : Cx} {o i e value : Expr} {pos pos' tpos : Pos} {td ty tv : TE}
end
def tDNewK : TE := fun _ H Q => ∀ p, H p = none → Q (.ref p) (upd H p (.dK []))
def tDNewT : TE := fun _ H Q => ∀ p, H p = none → Q (.ref p) (upd H p (.dT []))
section
variable {X : Cx} {pos : Pos}
end
def tPairs : List (TE × TE) → St → Hp → (List (V × V) → Hp → Prop) → Prop
  | [], _, H, Q => Q [] H
  | (tk, tv) :: r, σ, H, Q => tk σ H fun x H1 => tv σ H1 fun y H2 => tPairs r σ H2 fun ps H3 => Q ((x, y) :: ps) H3
abbrev VV : List (V × V) → List (Value × Value) → Prop := Paired fun p q => RelV p.1 q.1 ∧ RelV p.2 q.2
def PPs (X : Cx) (pos : Pos) (keys : List (Option Expr)) (values : List Expr) (trs : List (TE × TE)) : Prop :=
  ∀ (pins : List (Addr × Obj)) (s : Shared) (σ : St) (H : Hp) (Q : List (V × V) → Hp → Prop), Inv X pins σ H s → tPairs trs σ H Q →
    wpAny (model X.prog X.w) X.A (evalPairs (pairTrees keys values X.env pos)) (fun vs s' => ∃ ps H', Inv X pins σ H' s' ∧ VV ps vs ∧ Q ps H') X.xe s
def mergeK (kvs more : List (Key × V)) : List (Key × V) := more.foldl (fun acc kv => putK acc kv.1 kv.2) kvs
theorem length_mergeK : ∀ (more kvs : List (Key × V)), (mergeK kvs more).length ≤ kvs.length + more.length
  | [], kvs => by show kvs.length ≤ kvs.length + 0; omega
  | p :: r, kvs => by
    have h1 := length_mergeK r (putK kvs p.1 p.2)
    have h2 := length_putK kvs p.1 p.2
    show (mergeK (putK kvs p.1 p.2) r).length ≤ _
    rw [List.length_cons]; omega
theorem carries_of {P : Program} {w : World} : ∀ {kvs : List (Key × V)} {ws : List (Value × Value)}, VV (kvs.map fun kv => (kV kv.1, kv.2)) ws → ∃ rs, Carries (mixKind P w) ws rs ∧ KV kvs rs
  | [], _, r => by rw [List.map_nil] at r; cases r; exact ⟨[], True.intro, .nil⟩
  | p :: kvs, _, r => by
    rw [List.map_cons] at r
    cases r with
    | @cons a b as bs h t =>
      obtain ⟨rs, c, q⟩ := carries_of (P := P) (w := w) t
      obtain ⟨b1, b2⟩ := b
      exact ⟨(p.1, b2) :: rs, ⟨kV_is h.1, rfl, c⟩, .cons ⟨rfl, h.2⟩ q⟩
def tDisp (trs : List (TE × TE)) : TE := fun σ H Q => ∀ p, H p = none → tPairs trs σ (upd H p (.dK [])) fun ps H2 => H2 p = some (.dK []) ∧ ∃ kvs : List (Key × V), ps = kvs.map (fun kv => (kV kv.1, kv.2)) ∧ kvs.length ≤ 15 ∧ Q (.ref p) (upd H2 p (.dK (mergeK [] kvs)))
structure M1 (X : Cx) (o : Expr) (m : Str) (apos : Pos) (e : Expr) (cpos : Pos) : Prop where
  base : attributeBase o m X.env (eval o X.env) = eval o X.env
  few : ((backTo cpos (starEach [e] X.env)).all (fun x => !x.1) && (backToKw cpos (keywordEach [] X.env)).all (fun x => x.1.isSome)
    && decide (([e] : List Expr).length + ([] : List Keyword).length + (if ([] : List Keyword).isEmpty then 0 else 1) < 30)) = true
  line : (apos.endLine == cpos.line) = true
  trees : backTo cpos (starEach [e] X.env) = [(false, eval e X.env)]
structure M2 (X : Cx) (o : Expr) (m : Str) (apos : Pos) (e f : Expr) (cpos : Pos) : Prop where
  base : attributeBase o m X.env (eval o X.env) = eval o X.env
  few : ((backTo cpos (starEach [e, f] X.env)).all (fun x => !x.1) && (backToKw cpos (keywordEach [] X.env)).all (fun x => x.1.isSome)
    && decide (([e, f] : List Expr).length + ([] : List Keyword).length + (if ([] : List Keyword).isEmpty then 0 else 1) < 30)) = true
  line : (apos.endLine == cpos.line) = true
  trees : backTo cpos (starEach [e, f] X.env) = [(false, eval e X.env), (false, eval f X.env)]
def IsD (H : Hp) (a : Addr) : Prop := (∃ kvs, Rd H a (.dK kvs)) ∨ ∃ kvs, Rd H a (.dT kvs)
section
variable {X : Cx} {pins : List (Addr × Obj)} {σ : St} {H : Hp} {s : Shared} {a : Addr} {y d : V} {u r : Value} {o : Option V} {A : Around} {E : Value → Shared → Prop}
end
def tDGet1 (td ty : TE) : TE := fun σ H Q => td σ H fun x H1 => ∃ a, x = .ref a ∧ IsD H1 a ∧ ty σ H1 fun y H2 => ∃ o, DGet H2 a y o ∧ Q (o.getD .non) H2
def tDGet2 (td ty tx : TE) : TE := fun σ H Q => td σ H fun x H1 => ∃ a, x = .ref a ∧ IsD H1 a ∧ ty σ H1 fun y H2 => tx σ H2 fun z H3 => ∃ o, DGet H3 a y o ∧ Q (o.getD z) H3
def tDPop1 (td ty : TE) : TE := fun σ H Q => td σ H fun x H1 => ∃ a, x = .ref a ∧ IsD H1 a ∧ ty σ H1 fun y H2 => ∃ kvs k v, H2 a = some (.dK kvs) ∧ y = kV k ∧ valV kvs k = some v ∧ Q v (upd H2 a (.dK (dropK kvs k)))
def tDPop2 (td ty tx : TE) : TE := fun σ H Q => td σ H fun x H1 => ∃ a, x = .ref a ∧ IsD H1 a ∧ ty σ H1 fun y H2 => tx σ H2 fun z H3 => ∃ kvs k, H3 a = some (.dK kvs) ∧ y = kV k ∧
  (∀ v, valV kvs k = some v → Q v (upd H3 a (.dK (dropK kvs k)))) ∧ (valV kvs k = none → Q z H3)
section
variable {X : Cx} {o e f : Expr} {apos cpos : Pos} {td ty tx : TE}
end
section
variable {X : Cx} {pins : List (Addr × Obj)} {σ : St} {H : Hp} {s : Shared} {a : Addr} {kvs : List (Key × V)} {A : Around} {E : Value → Shared → Prop}
end
section
variable {X : Cx} {pins : List (Addr × Obj)} {σ : St} {H : Hp} {s : Shared} {a : Addr} {y : V} {u : Value} {A : Around} {E : Value → Shared → Prop}
end
end L2
namespace Att
open PySem PySem.W PySem.Calls PyProof.Rows
theorem ints_of_wellAll {P : Params} {h : Heap} : ∀ (ns : List Int) (vs : List Value), WellAll P h vs (ns.map WData.int) → IntsAre vs ns := by
  intro ns
  induction ns with
  | nil =>
    intro vs w
    rw [List.map_nil] at w
    cases w
    exact .nil
  | cons n ns ih =>
    intro vs w
    rw [List.map_cons] at w
    cases w with
    | cons a b =>
      cases a
      exact .cons _ _ (ih _ b)
theorem script_of {l : OpenLaw} {n : Nat} (hn : l.most = some n) {P : Params} {h : Heap} {args : List WData} {vals : List Value}
    (hpre : l.row.toRowW.claim.pre args = true) (hwl : WellAll P h vals args) :
    ∃ a vs ns, vals = [Value.ref a] ∧ args = [WData.list (ns.map WData.int)] ∧ h.get? a = some { cls := .type "list", data := .seq vs.toArray } ∧ IntsAre vs ns ∧ ns.length ≤ n := by
  have hsh : WShape.hasAll [] args [.list .int] = true := (pre_splitW hpre).1
  have hc : l.pre.holds [] { args := args } = true := (pre_splitW hpre).2
  obtain ⟨d, r, rfl, h1, h2⟩ := hasAllW_cons hsh
  obtain rfl := hasAllW_nil h2
  obtain ⟨xs, rfl, h3⟩ := hasW_list h1
  obtain ⟨ns, rfl⟩ := items_int h3
  have hlen : ns.length ≤ n := by
    unfold OpenLaw.pre at hc
    have h4 : (WTm.not (.lt (.lit (.int (n : Int))) (.len (.arg 0)))).holds [] { args := [.list (ns.map .int)] } = true := by
      have h4 := (holds_andW hc).1
      rw [hn] at h4
      exact h4
    have h5 := condW_of h4 (w_not (w_lt w_lit (w_len_list (w_arg rfl))))
    rw [List.length_map] at h5
    refine Nat.le_of_not_lt fun q => ?_
    have q' : (n : Int) < ((ns.length : Nat) : Int) := by omega
    first
      | (rw [decide_eq_true q'] at h5; exact absurd h5 (by decide))
      | (simp at h5; omega)
  cases hwl with
  | cons w1 w2 =>
    cases w2
    cases w1 with
    | list ho hall => exact ⟨_, _, ns, rfl, rfl, ho, ints_of_wellAll ns _ hall, hlen⟩
theorem post_true (l : OpenLaw) (args : List WData) : l.row.toRowW.claim.post args (.bool true) args = true :=
  postW_of (r := l.row.toRowW) (X := (true == true))
    (show WShape.has [] (.bool true) .bool = true by first | rfl | decide | simp [WShape.has, WShape.arms, WShape.armsAll])
    (show (WTm.eq .res (.lit (.bool true))).value [] { args := args, res := some (.bool true), after := args } = some (.bool (true == true)) from w_eq_bool (w_res rfl) w_lit) rfl
theorem attach_call {l : OpenLaw} {n : Nat} {q : Program} {loose : List Str} {XP : (Str → Option Value) → Heap → Prop} {YP : World → Heap → Prop} {d : DefRec}
    (hn : l.most = some n) (hdf : d.params.defaults = [])
    (call : ∀ (w : World) (s₀ s₁ : Shared) (mg mb : Str → Option Value) (fa : Addr) (o : Obj) (pm cd doc : Value) (a : Addr) (vs : List Value) (ns : List Int),
      Ground q loose [] XP w s₀ mg mb s₁.heap → YP w s₁.heap →
      s₁.heap.get? fa = some o → o.data = .func (docDef d.name d.params d.body d.scope pm cd doc) → s₁.heap.CodeRec cd d.name → mg d.name = some (.ref fa) →
      s₁.heap.get? a = some { cls := .type "list", data := .seq vs.toArray } → IntsAre vs ns → ns.length ≤ n → s₁.gens = #[] →
      codeAny (model l.prog w) callerA (.call (.ref fa) ⟨[.ref a], []⟩) (fun r s' => r = .ok (.ret (.bool true)) ∧ OldK s₁.heap s'.heap ∧ s'.os = s₁.os ∧ AllBare s'.gens) s₁) :
    WalkO q loose XP YP l.row.toRowW d [] (fun f vs => PySem.call f vs) := by
  intro w s₀ s₁ mg mb G Y fa o pm cd doc dV kV ho hd hcd hD hmg hg args vals as hpre hlay hrd hwl hlo
  obtain rfl : dV = .none := Dflts.none hD hdf
  obtain rfl : kV = .none := Dflts.noKw hD
  obtain ⟨a, vs, ns, rfl, rfl, hobj, hints, hlen⟩ := script_of hn hpre hwl
  refine enter_call (codeAny_mono (call w s₀ s₁ mg mb fa o pm cd doc a vs ns G Y ho (fd_plain hd) hcd hmg hobj hints hlen hg) fun r s' hq => ?_)
  obtain ⟨rfl, h2, h3, h4⟩ := hq
  exact ⟨.inl ⟨.bool true, .bool true, [], rfl, fun _ => rfl, .bool true, post_true l _, fun _ => ⟨List.Pairwise.nil, fun _ hm => (nomatch hm)⟩⟩, h2, h3, h4⟩
section
variable {prog : Program} {w : World} {A : Around} {E : Value → Shared → Prop} {s : Shared} {K : Frag}
def noObjs (h : Heap) : Heap := { h with objs := #[] }
def ledger (h : Heap) (L d : Addr) : List (Addr × Obj) := (List.range h.objs.size).filterMap fun a => if a = L ∨ a = d then none else (h.get? a).map fun o => (a, o)
end
end Att
namespace L2
open PySem PySem.Spec PyProof.Rows
theorem vals_ints : ∀ {vs : List Value} {ns : List Int}, IntsAre vs ns → Vals (ns.map V.int) vs
  | _, _, .nil => .nil
  | _, _, .cons n t h => .cons ⟨t, rfl⟩ (vals_ints h)
def Only (H : Hp) : Prop := ∀ b, H b = none ∨ ∃ o xs, H b = some (.frz o (.lst xs))
theorem law_call {P : Program} {w : World} {K : PySem.W.Frag} {mg mb : Str → Option Value} {CX : CXT} {k : Nat} {fa a : Addr} {fd : FuncData} {x : Str} {sp : Sp} {s₁ : Shared} {vs : List Value} {ns : List Int}
    (KX : K.In s₁.heap) (hns : s₁.heap.Ns mainGlobals mg) (hb : s₁.heap.Ns builtinsNs mb) (hbb : ∀ x : Str, x ≠ "__name__" → mb x = bootBuiltins x) (hlim : s₁.heap.NoLimit) (hg : s₁.gens = #[])
    (ha : s₁.heap.get? a = some { cls := .type "list", data := .seq vs.toArray }) (hi : IntsAre vs ns) (hl : ns.length ≤ sizeLine) (hr : Room k callerA)
    (F : ∀ base : Heap, K.In base → base.Ns mainGlobals mg → FnOk P w K mg base CX k fa fd [x] sp) (hbind : ∀ (s : Shared) (u : Value), BindsTo s fd ⟨[u], []⟩ [(x, u)])
    (hsp : ∀ H : Hp, Only H → SqL K H a (ns.map V.int) → sp [.ref a] H (fun v _ => v = .bl true) fun _ _ _ => False)
    (hCX : ∀ H e s', CX [] H s₁ (fun _ _ _ => False) e s' → False) :
    codeAny (model P w) callerA (.call (.ref fa) ⟨[.ref a], []⟩) (fun r s' => r = .ok (.ret (.bool true)) ∧ OldK s₁.heap s'.heap ∧ s'.os = s₁.os ∧ AllBare s'.gens) s₁ := by
  have rv := vals_ints hi
  have lenV := hi.length
  have core : ∀ H : Hp, Only H → SqL K H a (ns.map V.int) → HOk P w H s₁.heap → (∀ b, H b ≠ none → b = a) → (H a ≠ none → K.lookup a = none) →
      codeAny (model P w) callerA (.call (.ref fa) ⟨[.ref a], []⟩) (fun r s' => r = .ok (.ret (.bool true)) ∧ OldK s₁.heap s'.heap ∧ s'.os = s₁.os ∧ AllBare s'.gens) s₁ := by
    intro H hO hS hok hA hK
    have base_of : ∀ {b : Addr} {o : Obj}, s₁.heap.get? b = some o → H b = none → (hidT s₁.heap H).get? b = some o := fun e n => hidT_get e n
    have noA : ∀ {b : Addr} {o : Obj} {es : Array DictEntry} {ep : Nat}, s₁.heap.get? b = some o → o.data = .dict es ep → H b = none := fun {b o es ep} e d => by
      cases q : H b with
      | none => rfl
      | some u =>
        have e' : b = a := hA b (by rw [q]; simp)
        subst e'
        rw [ha] at e; cases e
        have d' : Data.seq vs.toArray _ = Data.dict es ep := d
        cases d'
    have nsK : ∀ {b : Addr} {m : Str → Option Value}, s₁.heap.Ns b m → (hidT s₁.heap H).Ns b m := fun {b m} ⟨o, es, ep, e, d, r⟩ => ⟨o, es, ep, base_of e (noA e d), d, r⟩
    have hKb : K.In (hidT s₁.heap H) := fun b o e => base_of (KX b o e) (by
      cases q : H b with
      | none => rfl
      | some u =>
        have e' : b = a := hA b (by rw [q]; simp)
        subst e'
        rw [hK (by rw [q]; simp)] at e; cases e)
    have hM : Mod K mg (hidT s₁.heap H) := ⟨hKb, nsK hns, ⟨mb, nsK hb, hbb⟩, let ⟨mc, h1, h2⟩ := hlim; ⟨mc, nsK h1, h2⟩⟩
    have e0 : Env0 P w K mg (hidT s₁.heap H) callerA [] s₁ H := ⟨rfl, hM, fun b o e => of_hidT e, Nat.le_of_eq (hidT_size _ _), trivial, fun b hb => absurd (show b ∈ ([] : List Addr) from hb) (by simp), hok, .of_eq hg⟩
    refine codeAny_mono ((F _ hKb (nsK hns)).run callerA [] s₁ H ⟨[.ref a], []⟩ [.ref a] [.ref a] _ _ hr e0 (hbind s₁ (.ref a)) (.cons rfl .nil) (hsp H hO hS)) fun r s' h => ?_
    cases r with
    | error e => exact (hCX H e s' h).elim
    | ok fl =>
      cases fl with
      | next => exact False.elim h
      | brk => exact False.elim h
      | cont => exact False.elim h
      | ret u =>
        obtain ⟨v, H', os, bare, un, hok', r', q⟩ := h
        have q' : v = .bl true := q
        subst q'
        obtain rfl : u = Value.bool true := r'
        refine ⟨rfl, OldK.of_keep fun b o e => ?_, os, bare⟩
        cases q : H b with
        | none => exact un.keep b o e q (by intro z; exact absurd (show b ∈ ([] : List Addr) from z) (by simp)) (by simp)
        | some u =>
          rcases hO b with z | ⟨ob, xs, z⟩
          · rw [q] at z; cases z
          · have z2 := un.frzs b ob _ z
            obtain ⟨e1, _⟩ := hok b _ z
            obtain ⟨e2, _⟩ := hok' b _ z2
            rw [e] at e1; cases e1
            exact e2
  cases hk : K.lookup a with
  | some o =>
    have e := KX a o hk
    rw [ha] at e
    cases e
    refine core (fun _ => none) (fun _ => .inl rfl) (.inr ⟨_, vs.toArray, _, hk, rfl, rfl, rfl, by rw [List.size_toArray, lenV]; exact hl, by simpa using rv⟩) (fun b u z => by have z' : (none : Option HO) = some u := z; cases z') (fun b z => absurd rfl z) fun z => absurd rfl z
  | none =>
    refine core (fun b => if b = a then some (.frz { cls := .type "list", data := .seq vs.toArray } (.lst (ns.map V.int))) else none) (fun b => ?_) (.inl (.inr ⟨{ cls := .type "list", data := .seq vs.toArray }, if_pos rfl⟩)) (fun b u z => ?_) (fun b z => ?_) fun _ => hk
    · by_cases hb : b = a
      · exact .inr ⟨_, _, if_pos hb⟩
      · exact .inl (if_neg hb)
    · by_cases hb : b = a
      · have z' := (if_pos hb).symm.trans z
        cases z'
        subst hb
        exact ⟨ha, by rw [List.length_map]; exact hl, vs, _, rv, ha⟩
      · have z' := (if_neg hb).symm.trans z
        cases z'
    · by_cases hb : b = a
      · exact hb
      · exact absurd (if_neg hb) z
end L2
namespace L2
open PySem PySem.Spec PyProof.Rows
abbrev KOf {K : PySem.W.Frag} {h : Heap} (_ : K.In h) : PySem.W.Frag := K
theorem walk_of {l : PySem.W.OpenLaw} {n k : Nat} {q : Program} {loose : List Str} {XP : (Str → Option Value) → Heap → Prop} {YP : World → Heap → Prop} {d : DefRec} {K : Params → PySem.W.Frag} {CX : World → CXT} {sp : World → Sp} {x : Str}
    (hn : l.most = some n) (hn2 : n ≤ sizeLine) (hdf : d.params.defaults = []) (hr : Room k callerA)
    (hY : ∀ (w : World) (h : Heap), YP w h → (K w.params).In h)
    (F : ∀ (w : World) (mg : Str → Option Value) (fa : Addr) (h : Heap), (K w.params).In h → h.Ns mainGlobals mg → mg d.name = some (.ref fa) →
      ∃ fd : FuncData, (∀ (s : Shared) (u : Value), BindsTo s fd ⟨[u], []⟩ [(x, u)]) ∧
        ∀ base : Heap, (K w.params).In base → base.Ns mainGlobals mg → FnOk l.prog w (K w.params) mg base (CX w) k fa fd [x] (sp w))
    (hsp : ∀ (w : World) (H : Hp) (a : Addr) (ns : List Int), ns.length ≤ n → Only H → SqL (K w.params) H a (ns.map V.int) → sp w [.ref a] H (fun v _ => v = .bl true) fun _ _ _ => False)
    (hCX : ∀ (w : World) (H : Hp) (s : Shared) (e : Value) (s' : Shared), CX w [] H s (fun _ _ _ => False) e s' → False) :
    PySem.W.WalkO q loose XP YP l.row.toRowW d [] (fun f vs => PySem.call f vs) := by
  refine Att.attach_call hn hdf fun w s₀ s₁ mg mb fa o pm cd doc a vs ns G Y ho hd hcd hmg hobj hints hlen hg => ?_
  have KX := hY w _ Y
  obtain ⟨fd, hb, hF⟩ := F w mg fa _ KX G.T.g hmg
  exact law_call KX G.T.g G.T.b G.T.builtins G.T.nolimit hg hobj hints (Nat.le_trans hlen hn2) hr hF hb (fun H hO hS => hsp w H a ns hlen hO hS) fun H e s' => hCX w H s₁ e s'
end L2
namespace L2
open PySem PySem.Spec PyProof.Rows
def inClass (s : Stmt) (j : Nat) : Stmt := match s with
  | .ClassDef _ _ _ body _ _ _ _ _ _ _ => body.getD j (.Pass ⟨0, 0, 0, 0⟩)
  | _ => .Pass ⟨0, 0, 0, 0⟩
def defArgs (s : Stmt) : Arguments := match s with
  | .FunctionDef _ a _ _ _ _ _ _ _ _ => a
  | _ => { posonlyargs := [], args := [], vararg := none, kwonlyargs := [], kw_defaults := [], kwarg := none, defaults := [] }
def defBody (s : Stmt) : List Stmt := match s with
  | .FunctionDef _ _ b _ _ _ _ _ _ _ => b
  | _ => []
def defScope (s : Stmt) : Scope := match s with
  | .FunctionDef _ _ _ _ _ _ sc _ _ _ => sc
  | _ => { kind := .function, names := [], isGenerator := false, isCoroutine := false }
abbrev CX0 : CXT := fun _ _ _ _ _ _ => False
abbrev E0 : XK := fun _ _ _ => False
theorem pass0 {X : Cx} : Passes CX0 X E0 := fun _ _ _ _ _ _ _ h => h.elim
structure Fun (K : PySem.W.Frag) (x qual : Str) (st : Stmt) (f : Addr) (fd : FuncData) : Prop where
  ex : ∃ (oc : Value) (od : Option Addr) (kV doc pm : Value) (an : Option Addr) (cdv ct : Value) (osl : Array (Option Value)),
    fd = PySem.W.fnOf x qual (defArgs st) (defBody st) (defScope st) .none kV doc pm an cdv ct ∧ K.lookup f = some ⟨oc, od, .func fd, osl⟩ ∧ PySem.W.codeIn K cdv qual = true
  kp : PySem.W.keepIn K (.ref f) = true
section
variable {P : Program} {w : World} {K : PySem.W.Frag} {mg : Str → Option Value} {base : Heap}
theorem Fun.ok {x qual : Str} {st : Stmt} {f : Addr} {fd : FuncData} {N ps : List Str} {k : Nat} {sp : Sp} (F : Fun K x qual st f fd) (S : FnScope N ps (defScope st)) (len : ∀ vs H Q E, sp vs H Q E → vs.length = ps.length)
    (hbody : ∀ (cdv : Value) (A : Around) (outer : List Env) (s : Shared) (H : Hp) (vs : List V) (Q : VK) (E : XK), Room k (A.deeper (envOfC qual (defScope st) s.heap.objs.size f cdv)) → sp vs H Q E →
      ∃ t, PSs (cxOf CX0 P w K mg base N qual (defScope st) f cdv A outer s H E).nox (defBody st) t ∧ t { nx := fun _ H' => Q .non H', rt := Q } (start N vs) H) : FnOk P w K mg base CX0 (k + 1) f fd ps sp := by
  obtain ⟨oc, od, kV, doc, pm, an, cdv, ct, osl, rfl, lk, hcd⟩ := F.ex
  refine fn_of lk hcd S len fun A outer s H vs Q E hr hsp => ?_
  obtain ⟨t, h, q⟩ := hbody cdv A outer s H vs Q E hr hsp
  exact ⟨t, h.nox, q⟩
theorem Fun.binds {x qual : Str} {st : Stmt} {f : Addr} {fd : FuncData} {ps : List Str} (F : Fun K x qual st f fd)
    (h : ∀ (kV doc pm : Value) (an : Option Addr) (cdv ct : Value) (us : List Value), us.length = ps.length → bindArgs (PySem.W.fnOf x qual (defArgs st) (defBody st) (defScope st) .none kV doc pm an cdv ct) ⟨us, []⟩ = pure (ps.zip us)) : Binds K fd ps [] := by
  obtain ⟨oc, od, kV, doc, pm, an, cdv, ct, osl, rfl, lk, hcd⟩ := F.ex
  exact .all (h kV doc pm an cdv ct)
theorem fun_mk {x qual : Str} {st : Stmt} {f : Addr} {oc : Value} {od an : Option Addr} {osl : Array (Option Value)} {kV doc pm cdv ct : Value} (l : K.lookup f = some ⟨oc, od, .func (PySem.W.fnOf x qual (defArgs st) (defBody st) (defScope st) .none kV doc pm an cdv ct), osl⟩)
    (c : PySem.W.codeIn K cdv qual = true) (k : PySem.W.keepIn K (.ref f) = true) : Fun K x qual st f (PySem.W.fnOf x qual (defArgs st) (defBody st) (defScope st) .none kV doc pm an cdv ct) := ⟨⟨oc, od, kV, doc, pm, an, cdv, ct, osl, rfl, l, c⟩, k⟩
end
section
variable {X : Cx}
end
theorem iteF {A B : Prop} (h : B) : if false = true then A else B := by
  rw [if_neg Bool.false_ne_true]
  exact h
theorem iteT {A B : Prop} (h : A) : if true = true then A else B := by
  rw [if_pos rfl]
  exact h
def Same (H H' : Hp) : Prop := ∀ b o, H b = some o → H' b = some o
theorem Same.refl (H : Hp) : Same H H := fun _ _ h => h
theorem Same.trans {H H1 H2 : Hp} (a : Same H H1) (b : Same H1 H2) : Same H H2 := fun c o h => b c o (a c o h)
theorem Same.free {H H' : Hp} (e : Same H H') {l : Addr} (h : H' l = Option.none) : H l = Option.none := by
  cases q : H l with
  | none => rfl
  | some o =>
    rw [e l o q] at h
    cases h
theorem Same.seq {K : PySem.W.Frag} {H H' : Hp} {a : Addr} {xs : List V} (e : Same H H') (h : SqL K H a xs) : SqL K H' a xs := by
  rcases h with (h | ⟨o, h⟩) | h
  · exact .inl (.inl (e _ _ h))
  · exact .inl (.inr ⟨o, e _ _ h⟩)
  · exact .inr h
section
variable {κ : Type} [DecidableEq κ]
theorem nd_snoc : ∀ {l : List κ} {k : κ}, l.Nodup → ¬ k ∈ l → (l ++ [k]).Nodup
  | [], k, _, _ => by simp
  | a :: r, k, h, hk => by
    obtain ⟨h1, h2⟩ := List.nodup_cons.mp h
    show (a :: (r ++ [k])).Nodup
    refine List.nodup_cons.mpr ⟨fun m => ?_, nd_snoc h2 fun m => hk (List.mem_cons.mpr (Or.inr m))⟩
    rcases List.mem_append.mp m with q | q
    · exact h1 q
    · exact hk (List.mem_cons.mpr (Or.inl (List.mem_singleton.mp q).symm))
theorem dropK_pos {p : κ × V} {r : List (κ × V)} {k : κ} (e : p.1 = k) : dropK (p :: r) k = dropK r k := by
  unfold dropK
  rw [List.filter_cons, if_neg (by simp [e])]
theorem dropK_neg {p : κ × V} {r : List (κ × V)} {k : κ} (e : ¬ p.1 = k) : dropK (p :: r) k = p :: dropK r k := by
  unfold dropK
  rw [List.filter_cons, if_pos (by simp [e])]
theorem dropK_no : ∀ {kvs : List (κ × V)} {k : κ}, ¬ k ∈ kvs.map (·.1) → dropK kvs k = kvs
  | [], _, _ => rfl
  | p :: r, k, h => by
    have h' : ¬ k ∈ r.map (·.1) := fun m => by
      obtain ⟨q, hq, e⟩ := List.mem_map.mp m
      exact h (List.mem_map.mpr ⟨q, List.mem_cons.mpr (Or.inr hq), e⟩)
    rw [dropK_neg fun e => h (List.mem_map.mpr ⟨p, List.mem_cons.mpr (Or.inl rfl), e⟩), dropK_no h']
theorem dropK_mem {kvs : List (κ × V)} {k : κ} {p : κ × V} (h : p ∈ dropK kvs k) : p ∈ kvs := (List.mem_filter.mp h).1
theorem nd_dropK : ∀ {kvs : List (κ × V)} {k : κ}, (kvs.map (·.1)).Nodup → ((dropK kvs k).map (·.1)).Nodup
  | [], _, _ => List.nodup_nil
  | p :: r, k, h => by
    have h : (p.1 :: r.map (·.1)).Nodup := h
    obtain ⟨h1, h2⟩ := List.nodup_cons.mp h
    by_cases e : p.1 = k
    · rw [dropK_pos e]
      exact nd_dropK h2
    · rw [dropK_neg e]
      show (p.1 :: (dropK r k).map (·.1)).Nodup
      refine List.nodup_cons.mpr ⟨fun m => h1 ?_, nd_dropK h2⟩
      obtain ⟨q, hq, eq⟩ := List.mem_map.mp m
      exact List.mem_map.mpr ⟨q, dropK_mem hq, eq⟩
theorem dropK_len : ∀ {kvs : List (κ × V)} {k : κ}, (kvs.map (·.1)).Nodup → k ∈ kvs.map (·.1) → (dropK kvs k).length + 1 = kvs.length
  | [], _, _, m => by simp at m
  | p :: r, k, h, m => by
    have h : (p.1 :: r.map (·.1)).Nodup := h
    have m : k = p.1 ∨ k ∈ r.map (·.1) := List.mem_cons.mp m
    obtain ⟨h1, h2⟩ := List.nodup_cons.mp h
    by_cases e : p.1 = k
    · subst e
      rw [dropK_pos rfl, dropK_no h1]
      all_goals rfl
    · have m' : k ∈ r.map (·.1) := m.resolve_left fun z => e z.symm
      have q := dropK_len h2 m'
      rw [dropK_neg e, List.length_cons, List.length_cons]
      omega
end
end L2
namespace L2
open PySem PySem.Spec PyProof.Rows
def clOf (env : Env) : List (Str × NameKind) → List (Str × Addr) → List (Str × Addr)
  | [], cs => cs
  | (n, k) :: r, cs => clOf env r (if k == .free then (match env.cells.lookup n with | some a => (n, a) :: cs | none => cs) else cs)
theorem closureFor_go (env : Env) : ∀ (l : List (Str × NameKind)) (cs : List (Str × Addr)), (∀ x ∈ l, x.2 = .free → ∃ c, env.cells.lookup x.1 = some c) →
    (forIn l cs fun (x : Str × NameKind) r => if (x.2 == NameKind.free) = true then do let a ← cellOf env x.1; pure (ForInStep.yield ((x.1, a) :: r)) else pure (ForInStep.yield r) : Sem (List (Str × Addr))) = pure (clOf env l cs)
  | [], cs, _ => rfl
  | (n, k) :: r, cs, h => by
    have hr : ∀ x ∈ r, x.2 = .free → ∃ c, env.cells.lookup x.1 = some c := fun x hx => h x (List.mem_cons_of_mem _ hx)
    rw [List.forIn_cons, clOf]
    by_cases hk : (k == NameKind.free) = true
    · obtain ⟨c, hc⟩ := h (n, k) List.mem_cons_self (by simpa using hk)
      have hc' : env.cells.lookup n = some c := hc
      have e : cellOf env n = pure c := by unfold cellOf; rw [hc']
      simp only [hk, if_true, e, pure_bind, hc']
      exact closureFor_go env r _ hr
    · simp only [hk, if_false, pure_bind]
      exact closureFor_go env r _ hr
theorem closureFor_eq {scope : Scope} {env : Env} (h : ∀ x ∈ scope.names, x.2 = .free → ∃ c, env.cells.lookup x.1 = some c) : closureFor scope env = pure (clOf env scope.names []) := by
  have e := closureFor_go env scope.names [] h
  unfold closureFor
  show (forIn scope.names ([] : List (Str × Addr)) _ >>= fun r => pure r : Sem (List (Str × Addr))) = _
  rw [bind_pure]
  exact e
theorem clOf_old (env : Env) : ∀ (l : List (Str × NameKind)) (cs : List (Str × Addr)) (x : Str) (c : Addr), cs.lookup x = some c → env.cells.lookup x = some c → (clOf env l cs).lookup x = some c
  | [], _, _, _, h, _ => h
  | (n, k) :: r, cs, x, c, h, e => by
    rw [clOf]
    refine clOf_old env r _ x c ?_ e
    split
    · cases q : env.cells.lookup n with
      | none => exact h
      | some a =>
        show List.lookup x ((n, a) :: cs) = some c
        rw [List.lookup_cons]
        cases hx : x == n with
        | false => exact h
        | true =>
          have : x = n := by simpa using hx
          subst this
          rw [q] at e
          exact e
    · exact h
theorem clOf_sub (env : Env) : ∀ (l : List (Str × NameKind)) (cs : List (Str × Addr)) (x : Str) (c : Addr), (∀ y d, cs.lookup y = some d → env.cells.lookup y = some d) → (clOf env l cs).lookup x = some c → env.cells.lookup x = some c
  | [], cs, x, c, h, e => h x c e
  | (n, k) :: r, cs, x, c, h, e => by
    rw [clOf] at e
    refine clOf_sub env r _ x c ?_ e
    intro y d q
    split at q
    · cases z : env.cells.lookup n with
      | none => rw [z] at q; exact h y d q
      | some a =>
        rw [z] at q
        have q2 : List.lookup y ((n, a) :: cs) = some d := q
        rw [List.lookup_cons] at q2
        cases hx : y == n with
        | false => rw [hx] at q2; exact h y d q2
        | true =>
          rw [hx] at q2
          have hyn : y = n := by simpa using hx
          rw [hyn, z]
          exact q2
    · exact h y d q
theorem clOf_has (env : Env) : ∀ (l : List (Str × NameKind)) (cs : List (Str × Addr)) (x : Str) (c : Addr), (x, NameKind.free) ∈ l → env.cells.lookup x = some c → (clOf env l cs).lookup x = some c
  | [], _, _, _, h, _ => by simp at h
  | (n, k) :: r, cs, x, c, h, e => by
    rw [clOf]
    rcases List.mem_cons.mp h with h | h
    · have h1 : n = x := (congrArg Prod.fst h).symm
      have h2 : k = NameKind.free := (congrArg Prod.snd h).symm
      subst h1 h2
      refine clOf_old env r _ n c ?_ e
      rw [e]
      show List.lookup n (if (NameKind.free == NameKind.free) = true then (n, c) :: cs else cs) = some c
      rw [if_pos (by decide), List.lookup_cons]
      simp
    · exact clOf_has env r _ x c h e
theorem relabel_look (scope : Scope) (env : Env) (x : Str) : (relabel scope env).names.lookup x =
    (scope.names.lookup x).map fun k => if (k == .free && env.scope.kind == .function && env.kindOf x == some .cell) = true then NameKind.cell else k := by
  show (scope.names.map fun (p : Str × NameKind) => if (p.2 == .free && env.scope.kind == .function && env.kindOf p.1 == some .cell) = true then (p.1, NameKind.cell) else (p.1, p.2)).lookup x = _
  induction scope.names with
  | nil => rfl
  | cons p r ih =>
    obtain ⟨n, k⟩ := p
    rw [List.map_cons]
    show List.lookup x ((if (k == .free && env.scope.kind == .function && env.kindOf n == some .cell) = true then (n, NameKind.cell) else (n, k)) :: _) = _
    cases hx : x == n with
    | false =>
      have e1 : List.lookup x ((n, k) :: r) = List.lookup x r := by rw [List.lookup_cons, hx]
      rw [e1]
      split <;> (rw [List.lookup_cons, hx]; exact ih)
    | true =>
      have : x = n := by simpa using hx
      subst this
      have e1 : List.lookup x ((x, k) :: r) = some k := by rw [List.lookup_cons, hx]
      rw [e1]
      show _ = some _
      split
      · rename_i hc
        rw [List.lookup_cons, hx]
        show some NameKind.cell = some (if _ then _ else _)
        rw [if_pos hc]
      · rename_i hc
        rw [List.lookup_cons, hx]
        show some k = some (if _ then _ else _)
        rw [if_neg hc]
structure CompScope (X : Cx) (N : List Str) (src : List (Option Nat)) (scope : Scope) : Prop where
  kind : scope.kind = .function
  nocell : ∀ y ∈ scope.names, y.2 ≠ .cell
  names : ∀ y ∈ scope.names, y.2 = .local → scope.names.lookup y.1 = some .local
  fre : ∀ y ∈ scope.names, y.2 = .free → X.env.kindOf y.1 = some .cell ∨ X.env.kindOf y.1 = some .free
  len : src.length = N.length
  nd : N.Nodup
  src : ∀ (j i : Nat) (x : Str), N[j]? = some x → src[j]? = some (some i) → X.N[i]? = some x ∧ scope.names.lookup x = some .free
def compOk (dsc : Scope) (XN N : List Str) (src : List (Option Nat)) (scope : Scope) : Bool :=
  decide (scope.kind = .function) && scope.names.all (fun y => decide (y.2 ≠ .cell)) && scope.names.all (fun y => !decide (y.2 = .local) || decide (scope.names.lookup y.1 = some .local)) &&
  scope.names.all (fun y => !decide (y.2 = .free) || decide (dsc.names.lookup y.1 = some .cell) || decide (dsc.names.lookup y.1 = some .free)) && decide (src.length = N.length) && decide N.Nodup &&
  (N.zip src).all fun p => match p.2 with
    | none => true
    | some i => decide (XN[i]? = some p.1) && decide (scope.names.lookup p.1 = some .free)
theorem CompScope.of {X : Cx} {dsc : Scope} {XN N : List Str} {src : List (Option Nat)} {scope : Scope} (he : X.env.scope = dsc) (hN : X.N = XN) (h : compOk dsc XN N src scope = true) : CompScope X N src scope := by
  subst he hN
  unfold compOk at h
  simp only [Bool.and_eq_true, decide_eq_true_eq, List.all_eq_true, Bool.or_eq_true, Bool.not_eq_true', decide_eq_false_iff_not] at h
  obtain ⟨⟨⟨⟨⟨⟨h1, h2⟩, h3⟩, h4⟩, h5⟩, h6⟩, h7⟩ := h
  refine ⟨h1, h2, fun y hy e => ?_, fun y hy e => ?_, h5, h6, fun j i x e1 e2 => ?_⟩
  · rcases h3 y hy with q | q
    · exact absurd e q
    · exact q
  · rcases h4 y hy with (q | q) | q
    · exact absurd e q
    · exact .inl q
    · exact .inr q
  · have hm : (x, some i) ∈ N.zip src := by
      have : (N.zip src)[j]? = some (x, some i) := by rw [List.getElem?_zip_eq_some]; exact ⟨e1, e2⟩
      exact List.mem_of_getElem? this
    have q := h7 _ hm
    simpa using q
def cxC (X : Cx) (scope : Scope) (N : List Str) (s : Shared) (H : Hp) (ex : List Addr) : Cx :=
  { X with
    N := N
    s₀ := s
    H₀ := H
    env := compEnvC scope (clOf X.env scope.names []) s.heap.objs.size X.env
    outer := X.stack
    ex := ex
    fn := fun _ => false
    pn := []
    xe := fun _ _ => False }
def subSt (src : List (Option Nat)) (σ : St) : St := src.map fun o => match o with | none => none | some i => (σ[i]?).join
section
variable {X : Cx} {pins : List (Addr × Obj)} {σ : St} {H : Hp} {s : Shared} {N : List Str} {src : List (Option Nat)} {scope : Scope} {ex : List Addr}
theorem CompScope.cells (S : CompScope X N src scope) (ok : X.Ok) : ∀ x ∈ scope.names, x.2 = .free → ∃ c, X.env.cells.lookup x.1 = some c := fun x hx e => ok.has _ (S.fre x hx e)
theorem Inv.enterC (I : Inv X pins σ H s) (S : CompScope X N src scope) (hf : ∀ b ∈ ex, FpOk X pins H b) (hlt : ∀ b ∈ ex, b < s.heap.objs.size) {h1 : Heap} {m : Str → Option Value} {tk : Nat}
    (hns : h1.Ns s.heap.objs.size m) (hk : ∀ b o, s.heap.get? b = some o → h1.get? b = some o) : Inv (cxC X scope N s H ex) [] (subSt src σ) H { s with heap := h1, toks := tk } := by
  have neC : ∀ b o, s.heap.get? b = some o → b ≠ s.heap.objs.size := fun b o e => Nat.ne_of_lt (Heap.lt_size e)
  have sub : ∀ x c, (clOf X.env scope.names []).lookup x = some c → X.env.cells.lookup x = some c := fun x c e => clOf_sub X.env _ _ x c (fun y d z => by simp at z) e
  refine ⟨⟨I.ok.mod, S.kind, I.ok.glob, I.ok.blt, Nat.le_refl _, fun x y c e1 e2 => I.ok.inj x y c (sub x c e1) (sub y c e2), fun x hx => ?_, fun x c z => absurd z (by simp [cxC]), I.ok.hd, I.ok.frames, .inl rfl, fun b hb => ?_, I.bs, Nat.le_trans I.ok.bsz I.sz, fun b o e hb => ?_, fun b hb hz => ?_, I.stack, I.stkFree⟩,
    rfl, I.bare, Un.kept hk, ⟨m, hns, fun j x v e1 e2 e3 => ?_⟩, fun x c e => ?_, I.hok.fresh (Nat.le_refl _), fun x c e => I.freeC x c (sub x c e), fun p hp => absurd (show p ∈ ([] : List (Addr × Obj)) from hp) (by simp), I.hok.kept hk, ?_⟩
  · have hx : (relabel scope X.env).names.lookup x = some .cell ∨ (relabel scope X.env).names.lookup x = some .free := hx
    have hm : (x, NameKind.free) ∈ scope.names := by
      rw [relabel_look] at hx
      cases q : scope.names.lookup x with
      | none => rw [q] at hx; simp at hx
      | some k =>
        have hm := PySem.mem_of_lookup q
        cases k with
        | free => exact hm
        | cell => exact absurd rfl (S.nocell _ hm)
        | _ => rw [q] at hx; simp at hx
    obtain ⟨c, hc⟩ := S.cells I.ok _ hm rfl
    exact ⟨c, clOf_has X.env _ _ x c hm hc⟩
  · obtain ⟨f0, f1, f2, f3, f4, f5⟩ := hf b hb
    exact ⟨Nat.ne_of_lt (hlt b hb), fun x c e => f4 x c (sub x c e)⟩
  · obtain ⟨f0, f1, f2, f3, f4, f5⟩ := hf b hb
    rcases f3 with z | z
    · exact I.ok.noex b o e z
    · exact absurd (Nat.lt_of_lt_of_le (Heap.lt_size (I.ok.bs b o e).1) z) (Nat.lt_irrefl _)
  · obtain ⟨f0, f1, f2, f3, f4, f5⟩ := hf b hb
    rcases List.mem_cons.mp (I.stkSub b hz) with z | z
    · exact f1 z
    · exact f2 z
  · have e2 : (subSt src σ)[j]? = some (some v) := e2
    unfold subSt at e2
    rw [List.getElem?_map] at e2
    cases q : src[j]? with
    | none => rw [q] at e2; simp at e2
    | some o =>
      rw [q] at e2
      cases o with
      | none => simp at e2
      | some i =>
        have e2 : (σ[i]?).join = some v := by simpa using e2
        have e2 : σ[i]? = some (some v) := by
          cases z : σ[i]? with
          | none => rw [z] at e2; simp at e2
          | some w => rw [z] at e2; simp at e2; rw [e2]
        obtain ⟨hX, hfr⟩ := S.src j i x e1 q
        have hm := PySem.mem_of_lookup hfr
        have hk2 := S.fre _ hm rfl
        obtain ⟨mX, hnX, hl⟩ := I.loc
        have hvis : Vis X.env.scope x := .inr hk2
        obtain ⟨u, r, l⟩ := hl i x v hX e2 hvis
        refine ⟨u, r, ?_⟩
        rcases l with ⟨l1, _⟩ | ⟨_, c, hc, hcell⟩
        · rcases hk2 with z | z
          · have : X.env.kindOf x = some .cell := z
            rw [l1] at this; cases this
          · have : X.env.kindOf x = some .free := z
            rw [l1] at this; cases this
        · refine .inr ⟨?_, c, clOf_has X.env _ _ x c hm hc, ?_⟩
          · show (relabel scope X.env).names.lookup x = some .cell ∨ (relabel scope X.env).names.lookup x = some .free
            rw [relabel_look, hfr]
            by_cases hcc : (NameKind.free == .free && X.env.scope.kind == .function && X.env.kindOf x == some .cell) = true
            · left
              show some (if _ then _ else _) = _
              rw [if_pos hcc]
            · right
              show some (if _ then _ else _) = _
              rw [if_neg hcc]
          · exact hcell.keeps hk
  · obtain ⟨v, z⟩ := I.cell x c (sub x c e)
    exact ⟨v, z.keeps hk⟩
  · show (subSt src σ).length = N.length
    unfold subSt
    rw [List.length_map]
    exact S.len
end
def PIfs (X : Cx) (ifs : List Expr) (t : TT) : Prop :=
  ∀ (pins : List (Addr × Obj)) (s : Shared) (σ : St) (H : Hp) (Q : Bool → Hp → Prop), Inv X pins σ H s → t σ H Q →
    wpAny (model X.prog X.w) X.A (forIn ifs true fun c r => if r = true then do let ok ← isTrue c X.env (eval c X.env); pure (ForInStep.yield ok) else pure (ForInStep.yield r)) (TP X pins σ Q) X.xe s
def tNoIf : TT := fun _ H Q => Q true H
theorem pifs_nil {X : Cx} : PIfs X [] tNoIf := fun _ _ _ H _ I h => wpAny_tests_nil ⟨H, I, h⟩
theorem pifs_one {X : Cx} {c : Expr} {t : TT} (h : PT X c t) : PIfs X [c] t := fun pins s σ H Q I hw => wpAny_tests_one (h pins s σ H Q I hw)
def compWant (g : TG) (tt : TT) (te : TE) (src : List (Option Nat)) (σ : St) (Q : VK) (J : It) (H1 : Hp) : Prop :=
  ∃ W : Nat → Nat → List V → St → Hp → Prop, (∃ m, W 0 m [] (subSt src σ) H1) ∧ ∀ i m ys σ' H', W i m ys σ' H' →
    (J.stop i H' ∧ ∀ p, H' p = none → Q (.ref p) (upd H' p (.lst ys))) ∨
    (J.go i H' ∧ ys.length < sizeLine ∧ ∀ x H2, J.yld i H' x H2 → g x σ' H2 fun σ3 H3 => tt σ3 H3 fun b H4 =>
      if b = true then te σ3 H4 fun v H5 => ∃ m', m' < m ∧ W (i + 1) m' (ys ++ [v]) σ3 H5 else ∃ m', m' < m ∧ W (i + 1) m' ys σ3 H4)
def tComp (wi : TI) (g : TG) (tt : TT) (te : TE) (src : List (Option Nat)) : TE := fun σ H Q => wi σ H (compWant g tt te src σ Q)
def CompEnd (X : Cx) (pins : List (Addr × Obj)) (σ : St) (Q : VK) (acc : Value) (C : Addr) (r : Result) (s' : Shared) : Prop :=
  (∃ f, r = .ok f) ∧ ∃ D H', acc = .ref D ∧ Inv X pins σ H' s' ∧ (∃ m, s'.heap.Ns C m) ∧ FpOk X pins H' C ∧ Q (.ref D) H'
theorem compLoop_any {prog : Program} {w : World} {A : Around} {R : Result → Shared → Prop} {s : Shared} {elt target iter : Expr} {ifs : List Expr} {scope : Scope} {pos : Pos} {it acc : Value} {env : Env} (I : Nat → Shared → Prop)
    (turn : ∀ n s, I n s → wpAny (model prog w) A (pyNext it) (fun r s₁ => match r with
      | none => R (.ok .next) s₁
      | some v => wpAny (model prog w) A (letOwnedTupleGo target it v) (fun _ s₂ => wpAny (model prog w) A (assign target env v) (fun _ s₃ =>
          wpAny (model prog w) A (forIn ifs true fun c r => if r = true then do let ok ← isTrue c env (eval c env); pure (ForInStep.yield ok) else pure (ForInStep.yield r)) (fun ok s₄ =>
            if ok = true then wpAny (model prog w) A (eval elt env) (fun x s₅ => wpAny (model prog w) A (call (.builtin "list.append") [acc, x]) (fun _ s₆ => ∃ m, m < n ∧ I m s₆) (fun _ _ => False) s₅) (fun _ _ => False) s₄
            else ∃ m, m < n ∧ I m s₄) (fun _ _ => False) s₃) (fun _ _ => False) s₂) (fun _ _ => False) s₁) (fun _ _ => False) s)
    (n : Nat) (h : I n s) : codeAny (model prog w) A (.compLoop (.ListComp elt [⟨target, iter, ifs, 0⟩] scope pos) 0 it acc env) R s := by
  refine codeAny_loop rfl I (fun n s hI => ?_) n h
  show wpAny _ A ((compTurn (.ListComp elt [⟨target, iter, ifs, 0⟩] scope pos) 0 it acc env).onRaise (fun x => do noteFrame x env; theTreesLotGoes x)) _ _ s
  refine wpAny_noted ?_
  rw [compTurn_list]
  refine wpAny_bind (wpAny_standAt (wpAny_bind (wpAny_mono (turn n s hI) (fun r s₁ h₁ => ?_) fun _ _ f => f.elim)))
  cases r with
  | none => exact wpAny_pure h₁
  | some v =>
    refine wpAny_bind (wpAny_mono h₁ (fun _ s₂ h₂ => ?_) fun _ _ f => f.elim)
    refine wpAny_bind (wpAny_mono h₂ (fun _ s₃ h₃ => wpAny_bind (wpAny_mono h₃ (fun ok s₄ h₄ => ?_) fun _ _ f => f.elim)) fun _ _ f => f.elim)
    cases ok with
    | false => exact wpAny_pure ⟨rfl, h₄⟩
    | true =>
      exact wpAny_bind (wpAny_bind (wpAny_mono h₄ (fun x s₅ h₅ => wpAny_bind (wpAny_mono h₅ (fun _ s₆ h₆ => wpAny_pure (wpAny_pure ⟨rfl, h₆⟩)) fun _ _ f => f.elim)) fun _ _ f => f.elim))
abbrev lobj (us : List Value) (k : Nat) : Obj := { cls := .type "list", data := .seq us.toArray k }
section
variable {X : Cx} {N : List Str} {src : List (Option Nat)} {scope : Scope} {elt tg iter : Expr} {ifs : List Expr} {pos : Pos} {wi : TI} {g : TG} {tt : TT} {te : TE}
theorem comp_run (hc : X.calm = true) (S : CompScope X N src scope) (hg : ∀ s H ex, PG (cxC X scope N s H ex) tg g) (ht : ∀ s H ex, PIfs (cxC X scope N s H ex) ifs tt) (he : ∀ s H ex, PE (cxC X scope N s H ex) elt te)
    {pins : List (Addr × Obj)} {σ : St} {Q : VK} {itv : Value} {s2 : Shared} {E : Value → Shared → Prop} (h : PIE X pins σ tg (compWant g tt te src σ Q) itv s2) :
    wpAny (model X.prog X.w) X.A (newList []) (fun acc s₃ => wpAny (model X.prog X.w) X.A (newFunctionEnv scope X.env.globals (clOf X.env scope.names []) [] X.env.qual none .none (some X.env)) (fun cenv s₄ =>
      codeAny (model X.prog X.w) X.A (.compStart (.ListComp elt [⟨tg, iter, ifs, 0⟩] scope pos) 0 itv acc { cenv with scope := relabel scope X.env }) (CompEnd X pins σ Q acc cenv.locals) s₄) E s₃) E s2 := by
  obtain ⟨it, fp, tn, J, H1, e, I2, T, st2, f2, W, ⟨m0, w0⟩, turn⟩ := h
  subst e
  refine wpAny_newObj_type (wpAny_newFunctionEnv S.nocell (by intro y hy; simp at hy) (fun h₁ hns₁ hsb₁ => ?_) S.kind)
  dsimp only at hns₁ hsb₁ ⊢
  generalize hH2 : s2.heap.push { cls := .type "list", dict := none, data := .seq ([] : List Value).toArray } = H2 at hns₁ hsb₁ ⊢
  have hC : H2.objs.size = s2.heap.objs.size + 1 := by rw [← hH2, Heap.size_push]
  have push : ∀ b o, s2.heap.get? b = some o → H2.get? b = some o := fun b o e => hH2 ▸ Heap.get?_push_of_some _ e
  have hD2 : H2.get? s2.heap.objs.size = some (lobj [] 0) := hH2 ▸ Heap.get?_push_size _ rfl
  have hk : ∀ b o, H2.get? b = some o → h₁.get? b = some o := fun b o e => hsb₁.extBut b o (Nat.ne_of_lt (Heap.lt_size e)) (Heap.get?_push_of_some _ e)
  generalize hD : s2.heap.objs.size = D at *
  have I3 : Inv X pins σ H1 { s2 with heap := H2 } := I2.kept (t' := s2.toks) push
  have fD : FpOk X pins H1 D := I2.fpOk (Nat.le_of_eq hD) (I2.hok.fresh (Nat.le_of_eq hD))
  have fpl : ∀ b ∈ fp, b < D := fun b hb => by
    obtain ⟨o, e, _⟩ := T.obj _ _ st2 b hb
    rw [← hD]; exact Heap.lt_size e
  have fex : ∀ b ∈ D :: fp, FpOk X pins H1 b := fun b hb => by
    rcases List.mem_cons.mp hb with z | z
    · rw [z]; exact fD
    · exact f2 b z
  have lex : ∀ b ∈ D :: fp, b < ({ s2 with heap := H2 } : Shared).heap.objs.size := fun b hb => by
    show b < H2.objs.size
    rcases List.mem_cons.mp hb with z | z
    · rw [z, hC]; exact Nat.lt_succ_self _
    · rw [hC]; exact Nat.lt_succ_of_lt (fpl b z)
  have I4 := I3.enterC (N := N) S fex lex (h1 := h₁) (tk := s2.toks + ([] : List (Str × Value)).length) hns₁ hk
  generalize hY : cxC X scope N { s2 with heap := H2 } H1 (D :: fp) = Y at *
  have yP : Y.prog = X.prog := by rw [← hY]; rfl
  have yw : Y.w = X.w := by rw [← hY]; rfl
  have yA : Y.A = X.A := by rw [← hY]; rfl
  have yC : Y.env.locals = H2.objs.size := by rw [← hY]; rfl
  have yK : Y.K = X.K := by rw [← hY]; rfl
  have yc : Y.calm = true := by rw [← hY]; exact hc
  have yfs : Y.fs = frs X.stack := by rw [← hY]; rfl
  have yex : Y.ex = D :: fp := by rw [← hY]; rfl
  have ypn : Y.pn = [] := by rw [← hY]; rfl
  have yxe : Y.xe = fun _ _ => False := by rw [← hY]; rfl
  have ycl : ∀ x c, Y.env.cells.lookup x = some c → X.env.cells.lookup x = some c := by
    rw [← hY]
    exact fun x c e => clOf_sub X.env _ _ x c (fun y d z => by simp at z) e
  have ye : Y.env = compEnvC scope (clOf X.env scope.names []) H2.objs.size X.env := by rw [← hY]; rfl
  have ys0 : Y.s₀ = { s2 with heap := H2 } := by rw [← hY]; rfl
  have yH0 : Y.H₀ = H1 := by rw [← hY]; rfl
  have hgY : PG Y tg g := by rw [← hY]; exact hg _ _ _
  have htY : PIfs Y ifs tt := by rw [← hY]; exact ht _ _ _
  have heY : PE Y elt te := by rw [← hY]; exact he _ _ _
  have nfs : ∀ b ∈ D :: fp, b ∉ Y.fs := fun b hb z => by
    rw [yfs] at z
    obtain ⟨f0, f1, f2', _⟩ := fex b hb
    rcases List.mem_cons.mp (I2.stkSub b z) with q | q
    · exact f1 q
    · exact f2' q
  have ncl : ∀ b ∈ D :: fp, ∀ x c, Y.env.cells.lookup x = some c → c ≠ b := fun b hb x c e => (fex b hb).2.2.2.2.1 x c (ycl x c e)
  have nC : ∀ b ∈ D :: fp, b ≠ Y.env.locals := fun b hb => by rw [yC]; exact Nat.ne_of_lt (lex b hb)
  have stat : ∀ {H' : Hp} {us : List Value} {k : Nat}, (∀ b ∈ fp, H' b = none) → ∀ b ∈ fp, FpOk Y [(D, lobj us k)] H' b := fun {H' us k} hn b hb =>
    ⟨hn b hb, nC b (List.mem_cons_of_mem _ hb), nfs b (List.mem_cons_of_mem _ hb), .inl (by rw [yex]; exact List.mem_cons_of_mem _ hb), ncl b (List.mem_cons_of_mem _ hb), fun p hp => by
      rw [ypn] at hp
      have hp1 : p = (D, lobj us k) := by simpa using hp
      rw [hp1]
      exact Nat.ne_of_gt (fpl b hb)⟩
  have pinD : ∀ {σ' : St} {H' : Hp} {s' : Shared} {pl : List (Addr × Obj)} {us : List Value} {k : Nat}, Inv Y pl σ' H' s' → s'.heap.get? D = some (lobj us k) → H' D = none → Inv Y [(D, lobj us k)] σ' H' s' := fun {σ' H' s' pl us k} I' e n =>
    I'.pins_of fun p hp => by
      have hp1 : p = (D, lobj us k) := by simpa using hp
      subst hp1
      exact ⟨e, n, nC D List.mem_cons_self, nfs D List.mem_cons_self, fun v z => by cases z⟩
  have I4' : Inv Y [(D, lobj [] 0)] (subSt src σ) H1 { s2 with heap := h₁, toks := s2.toks + ([] : List (Str × Value)).length } := pinD I4 (hk _ _ hD2) fD.1
  have loop : codeAny (model X.prog X.w) X.A (.compLoop (.ListComp elt [⟨tg, iter, ifs, 0⟩] scope pos) 0 (.ref it) (.ref D) Y.env) (CompEnd X pins σ Q (.ref D) H2.objs.size) { s2 with heap := h₁, toks := s2.toks + ([] : List (Str × Value)).length } := by
    refine compLoop_any (fun n s' => ∃ i ys us k σ' H', Inv Y [(D, lobj us k)] σ' H' s' ∧ tn i s'.heap ∧ (∀ b ∈ fp, H' b = none) ∧ Vals ys us ∧ ys.length ≤ sizeLine ∧ W i n ys σ' H') ?_ m0
      ⟨0, [], [], 0, _, H1, I4', T.keep _ _ _ st2 fun b hb o e => hk _ _ (push b o e), fun b hb => (f2 b hb).1, .nil, Nat.zero_le _, w0⟩
    rintro n s3 ⟨i, ys, us, k, σ3, H3, I3', st3, fr3, rv, hz, w3⟩
    rcases turn i n ys σ3 H3 w3 with ⟨stop, q⟩ | ⟨go, hlen, step⟩
    · have hd := T.done Y yP yw yK yc i _ s3 σ3 H3 (fun _ _ => False) I3' (stat fr3) st3 stop
      rw [yA] at hd
      refine thn hd fun r s4 ⟨hr, I4⟩ => ?_
      subst hr
      obtain ⟨eD, nD, _⟩ := I4.pin (D, lobj us k) (by simp)
      have eD : s4.heap.get? D = some (lobj us k) := eD
      have nD : H3 D = none := nD
      have base : Un (frs X.stack) (D :: fp) H1 H3 H2 s4.heap := by
        have b := I4.base
        rw [yex, yH0, ys0, yfs] at b
        exact b
      have hnD : ∀ b o, s2.heap.get? b = some o → b ≠ D := fun b o e => by rw [← hD]; exact Nat.ne_of_lt (Heap.lt_size e)
      have nx : ∀ b o, s2.heap.get? b = some o → b ∉ fp → b ∉ D :: fp := fun b o e hb z => (List.mem_cons.mp z).elim (hnD b o e) hb
      have un : Un (frs X.stack) fp H1 (upd H3 D (.lst ys)) s2.heap s4.heap :=
        ⟨fun b o e n hb hx => base.keep b o (push b o e) n hb (nx b o e hx), fun b o e n hb hx => base.slot b o (push b o e) n hb (nx b o e hx), fun b o e n hx => by rw [upd_ne (hnD b o e)]; exact base.free b o (push b o e) n (nx b o e hx),
          fun b o e hx => base.there b o (push b o e) (nx b o e hx), fun b xs e => by rw [upd_ne (ne_of_none e fD.1)]; exact base.tups b xs e, fun b o u e => by rw [upd_ne (ne_of_none e fD.1)]; exact base.frzs b o u e,
          fun b ps e => by rw [upd_ne (ne_of_none e fD.1)]; exact base.tbls b ps e⟩
      have hok : HOk X.prog X.w (upd H3 D (.lst ys)) s4.heap := fun b u e => by
        by_cases hb : b = D
        · subst hb
          rw [upd_same] at e
          cases e
          exact ⟨hz, us, k, rv, eD⟩
        · rw [upd_ne hb] at e
          have x := I4.hok b u e
          rw [yP, yw] at x
          exact x.stay (fun c v _ z => z) (fun c z => by rw [upd_ne (ne_of_none z nD)]; exact z) fun c xs z => by rw [upd_ne (ne_of_none z nD)]; exact z
      have ho : s4.os = s2.os := by rw [I4.os, ys0]
      have J' : Inv X pins σ (upd H3 D (.lst ys)) s4 := I2.call' (ch := fp) ho un hok I4.bare fun b hb => ⟨(f2 b hb).2.2.2.1, (f2 b hb).2.1, (f2 b hb).2.2.2.2.1, (f2 b hb).2.2.2.2.2⟩
      refine ⟨⟨_, rfl⟩, D, _, rfl, J', ?_, ?_, q D nD⟩
      · obtain ⟨m, hm, _⟩ := I4.loc
        rw [yC] at hm
        exact ⟨m, hm⟩
      · refine I2.fpOk (by rw [hC, hD]; exact Nat.le_succ _) ?_
        rw [upd_ne (by rw [hC]; exact Nat.succ_ne_self D)]
        have z := I4.free
        rw [yC] at z
        exact z
    · have hd := T.item Y yP yw yK yc i _ s3 σ3 H3 (fun _ _ => False) I3' (stat fr3) st3 go
      rw [yA] at hd
      refine thn hd fun r s4 ⟨u, hr, h4⟩ => ?_
      subst hr
      refine thn h4 fun _ s5 ⟨x, H5, I5, r5, y5, st5, fr5⟩ => ?_
      have I5' := I5.pinned (stat fr5) (T.obj _ _ st5)
      have hg' := hgY _ s5 σ3 H5 x u _ I5' r5 (step x H5 y5)
      rw [yP, yw, yA, yxe] at hg'
      refine thn hg' fun _ s6 ⟨σ6, H6, I6, q6⟩ => ?_
      have ht' := htY _ s6 σ6 H6 _ I6 q6
      rw [yP, yw, yA, yxe] at ht'
      refine thn ht' fun ok s7 ⟨H7, I7, q7⟩ => ?_
      have again : ∀ {σ8 : St} {H8 : Hp} {s8 : Shared} {ys' : List V} {us' : List Value} {k' m' : Nat}, Inv Y ([(D, lobj us' k')] ++ pinsAt fp s5.heap) σ8 H8 s8 → Vals ys' us' → ys'.length ≤ sizeLine → m' < n → W (i + 1) m' ys' σ8 H8 →
          ∃ m, m < n ∧ ∃ i ys us k σ' H', Inv Y [(D, lobj us k)] σ' H' s8 ∧ tn i s8.heap ∧ (∀ b ∈ fp, H' b = none) ∧ Vals ys us ∧ ys.length ≤ sizeLine ∧ W i m ys σ' H' := fun {σ8 H8 s8 ys' us' k' m'} I8 rv' hz' hm w8 => by
        refine ⟨m', hm, i + 1, ys', us', k', σ8, H8, I8.unpinned, T.keep _ _ _ st5 fun b hb o e => (I8.pin (b, o) (List.mem_append_right _ (List.mem_append_right _ (mem_pinsAt hb e)))).1, fun b hb => ?_, rv', hz', w8⟩
        obtain ⟨o, e, d⟩ := T.obj _ _ st5 b hb
        exact (I8.pin (b, o) (List.mem_append_right _ (List.mem_append_right _ (mem_pinsAt hb e)))).2.1
      cases ok with
      | false =>
        obtain ⟨m', hm, w8⟩ := q7
        exact again I7 rv hz hm w8
      | true =>
        rw [if_pos rfl]
        have he' := heY _ s7 σ6 H7 _ I7 q7
        rw [yP, yw, yA, yxe] at he'
        refine thn he' fun u8 s8 ⟨v, H8, I8, r8, m', hm, w8⟩ => ?_
        obtain ⟨eD, nD, _⟩ := I8.pin (D, lobj us k) (by simp)
        have eD : s8.heap.get? D = some (lobj us k) := eD
        have nD : H8 D = none := nD
        have hl := rv.length
        refine call_meets F.slot_list_append ⟨_, eD, rfl⟩ F.entry_list_append (F.args_list_append_2 _ _) (PySem.list_append D us.toArray k u8 (by rw [List.size_toArray]; omega)) ⟨eD, ?_⟩
        have q := PySem.IsL.update eD (fun a => a.push u8)
        have eu : us.toArray.push u8 = (us ++ [u8]).toArray := by simp
        rw [eu] at q
        obtain ⟨k', q⟩ : ∃ k', (s8.heap.update D (Obj.mapSeq fun a => a.push u8)).get? D = some (lobj (us ++ [u8]) k') := ⟨_, q⟩
        have I8' : Inv Y (pinsAt fp s5.heap) σ6 H8 s8 := I8.pins_of fun p hp => I8.pin p (List.mem_append_right _ (List.mem_append_right _ hp))
        have I9 : Inv Y (pinsAt fp s5.heap) σ6 H8 { s8 with heap := s8.heap.update D (Obj.mapSeq fun a => a.push u8) } := I8'.turned (it := D) (t' := s8.toks) (fun b o hb e => (Heap.get?_update_other s8.heap _ (Ne.symm hb)).trans e) nD (nC D List.mem_cons_self)
          (.inl (by rw [yex]; exact List.mem_cons_self)) (ncl D List.mem_cons_self) fun p hp => by
            rw [ypn] at hp
            have hp : p ∈ pinsAt fp s5.heap := by simpa using hp
            exact Nat.ne_of_lt (fpl _ (of_pinsAt hp).1)
        refine again (us' := us ++ [u8]) (ys' := ys ++ [v]) (m' := m') (k' := k') (I9.pins_of fun p hp => ?_) (rv.append (.cons r8 .nil)) (by rw [List.length_append, List.length_singleton]; omega) hm w8
        rcases List.mem_append.mp hp with z | z
        · have hp1 : p = (D, lobj (us ++ [u8]) k') := by simpa using z
          subst hp1
          exact ⟨q, nD, nC D List.mem_cons_self, nfs D List.mem_cons_self, fun v z => by cases z⟩
        · exact I9.pin p (List.mem_append_right _ z)
  rw [ye] at loop
  exact codeAny_compStart_list loop (T.self _ 0 _ _ _ (T.keep _ _ _ st2 fun b hb o e => hk _ _ (push b o e)) loop)
theorem pe_comp (hc : X.calm = true) (S : CompScope X N src scope) (hi : PI X tg iter wi) (hg : ∀ s H ex, PG (cxC X scope N s H ex) tg g) (ht : ∀ s H ex, PIfs (cxC X scope N s H ex) ifs tt) (he : ∀ s H ex, PE (cxC X scope N s H ex) elt te)
    (hs : ∀ x, foldedSetIterable iter X.env x = pure x := by intro _; rfl) : PE X (.ListComp elt [⟨tg, iter, ifs, 0⟩] scope pos) (tComp wi g tt te src) := by
  intro pins s σ H Q I h
  rw [eval_ListComp]
  refine wpAny_comprehension_free (use := none) rfl hs (closureFor_eq (S.cells I.ok)) S.kind S.names (thn (hi pins s σ H _ I h) fun v s1 h1 => thn h1 fun it s2 h2 => ?_)
  refine thn (comp_run hc S hg ht he h2) fun acc s3 h3 => thn h3 fun cenv s4 h4 => codeAny_mono h4 fun r s' hr => ?_
  obtain ⟨⟨f, rfl⟩, D, H', rfl, J, ⟨m, hm⟩, hf, q⟩ := hr
  refine ⟨m, hm, fun h' sb => ?_⟩
  exact ⟨.ref D, H', J.turned (t' := s'.toks) (fun b o hb e => (sb.2 b hb).trans e) hf.1 hf.2.1 hf.2.2.2.1 hf.2.2.2.2.1 hf.2.2.2.2.2, rfl, q⟩
theorem ps_setC {i : Nat} {y : Str} {py spos : Pos} (hc : X.calm = true) (S : CompScope X N src scope) (hi : PI X tg iter wi) (hg : ∀ s H ex, PG (cxC X scope N s H ex) tg g) (ht : ∀ s H ex, PIfs (cxC X scope N s H ex) ifs tt) (he : ∀ s H ex, PE (cxC X scope N s H ex) elt te)
    (hN : X.N.Nodup) (hy : X.N[i]? = some y) (hx : Loc X.env.scope y) (hsw : swapsWith (.ListComp elt [⟨tg, iter, ifs, 0⟩] scope pos) (some (.Name y py)) spos.line X.env = pure true) (hf : X.fn y = true ∨ X.env.scope.names.lookup y = some .local)
    (hs : ∀ x, foldedSetIterable iter X.env x = pure x := by intro _; rfl) : PS X (.Assign [.Name y py] (.ListComp elt [⟨tg, iter, ifs, 0⟩] scope pos) spos) (tAsg (tComp wi g tt te src) (gName i)) := by
  intro pins s σ H D I h
  rw [exec_Assign_Name_used _ _ _ _ hsw]
  refine wpAny_bind (wpAny_standAt (wpAny_bind ?_))
  show wpAny _ X.A (do let _ ← comprehension (.ListComp elt [⟨tg, iter, ifs, 0⟩] scope pos) scope X.env _ (newList []) false (eval iter X.env) (some (assign (.Name y py) X.env))) _ _ s
  refine wpAny_bind (wpAny_mono (wpAny_comprehension_free (use := some (assign (.Name y py) X.env)) (Q := fun _ s' => SP X pins D .next s') rfl hs (closureFor_eq (S.cells I.ok)) S.kind S.names (thn (hi pins s σ H _ I h) fun v s1 h1 => thn h1 fun it s2 h2 => ?_)) (fun _ s' hq => wpAny_pure (wpAny_pure hq)) fun _ _ e => e)
  refine thn (comp_run hc S hg ht he h2) fun acc s3 h3 => thn h3 fun cenv s4 h4 => codeAny_mono h4 fun r s' hr => ?_
  obtain ⟨⟨f, rfl⟩, D', H', rfl, J, ⟨m, hm⟩, hfp, q⟩ := hr
  show wpAny _ X.A (assign (.Name y py) X.env (.ref D')) _ _ _
  refine wpAny_assign_Name (store_ok2 J hN hy hx (v := .ref D') rfl (fun s5 I5 ⟨a, sb, ha⟩ => ?_) hf)
  have hne : cenv.locals ≠ a := by
    rcases ha with z | z
    · rw [z]; exact hfp.2.1
    · exact Ne.symm (hfp.2.2.2.2.1 y a z)
  refine ⟨m, hm.sameBut sb hne, fun h' sb' => ?_⟩
  exact ⟨_, H', I5.turned (t' := s5.toks) (fun b o hb e => (sb'.2 b hb).trans e) hfp.1 hfp.2.1 hfp.2.2.2.1 hfp.2.2.2.2.1 hfp.2.2.2.2.2, q⟩
end
end L2
namespace L2
open PySem PySem.Spec PyProof.Rows
section
variable {X : Cx}
theorem PE.imp {e : Expr} {t t' : TE} (h : PE X e t) (i : ∀ σ H Q, t' σ H Q → t σ H Q) : PE X e t' := fun pins s σ H Q I q => h pins s σ H Q I (i σ H Q q)
theorem PT.imp {e : Expr} {t t' : TT} (h : PT X e t) (i : ∀ σ H Q, t' σ H Q → t σ H Q) : PT X e t' := fun pins s σ H Q I q => h pins s σ H Q I (i σ H Q q)
theorem PS.imp {st : Stmt} {t t' : TS} (h : PS X st t) (i : ∀ D σ H, t' D σ H → t D σ H) : PS X st t' := fun pins s σ H D I q => h pins s σ H D I (i D σ H q)
theorem OpR.imp {f : Value → Value → Sem Value} {r r' : R2} (h : OpR X f r) (i : ∀ x y H Q, r' x y H Q → r x y H Q) : OpR X f r' := fun pins s σ H x y v u Q I rx ry q => h pins s σ H x y v u Q I rx ry (i x y H Q q)
theorem CallR.imp {f : Value} {r r' : List V → Hp → VK → Prop} (h : CallR X f r) (i : ∀ xs H Q, r' xs H Q → r xs H Q) : CallR X f r' := fun pins s σ H xs us Q I r q => h pins s σ H xs us Q I r (i xs H Q q)
theorem MtR.imp {id : String} {r r' : V → List V → Hp → VK → Prop} (h : MtR X id r) (i : ∀ x xs H Q, r' x xs H Q → r x xs H Q) : MtR X id r' := fun pins s σ H x xs v us Q I rx r q => h pins s σ H x xs v us Q I rx r (i x xs H Q q)
abbrev Str.tl (x : Str) : List Nat := x.cps.toList
theorem str_len (x : Str) : x.length = x.cps.toList.length := by simp [Str.length]
theorem str_app (x y : Str) : (x ++ y).cps.toList = x.cps.toList ++ y.cps.toList := by
  show (x.cps ++ y.cps).toList = _
  simp
theorem op_le_str : OpR X (compareOp .LtE) (fun x y H Q => ∃ i j, x = .str i ∧ y = .str j ∧ Q (.bl (!decide (j.cps.toList < i.cps.toList))) H) := by
  intro pins s σ H x y v u Q I rx ry h
  obtain ⟨i, j, rfl, rfl, q⟩ := h
  obtain ⟨t, rfl⟩ := rx
  obtain ⟨t', rfl⟩ := ry
  exact PySem.P.le_str (fin_bl I q rfl)
def cutS (x : Str) (lo hi : Option Int) : Str := ⟨((x.cps.toList.drop (HT.sIx x.length 0 lo)).take (HT.sIx x.length x.length hi - HT.sIx x.length 0 lo)).toArray⟩
theorem pick_go (l : List Nat) : ∀ (k i : Nat), i + k ≤ l.length → (List.range' i k).filterMap (fun m => l[m]?) = (l.drop i).take k
  | 0, i, _ => by simp
  | k + 1, i, h => by
    have ih := pick_go l k (i + 1) (by omega)
    rw [List.range'_succ, List.filterMap_cons, List.getElem?_eq_getElem (by omega), List.drop_eq_getElem_cons (by omega), List.take_succ_cons]
    show l[i] :: _ = _
    rw [ih]
def rSlS : V → Option Int → Option Int → Hp → VK → Prop := fun x lo hi H Q => ∃ z, x = .str z ∧ z.length ≤ sizeLine ∧ Q (.str (cutS z lo hi)) H
theorem strsAre_of : ∀ {ys : List Str} {us : List Value}, Vals (ys.map V.str) us → StrsAre us ys
  | [], us, r => by rw [List.map_nil] at r; cases r; exact .nil
  | y :: ys, us, r => by
    rw [List.map_cons] at r
    cases r with
    | cons r1 r2 =>
      obtain ⟨t, e⟩ := r1
      subst e
      exact .cons y t (strsAre_of r2)
theorem truth_bl {P : Program} {w : World} {A : Around} {its : List Value} {ks : List Bool} (r : Vals (ks.map V.bl) its) : TruthOf P w A (fun i v => its.toArray[i]? = some v) (fun i => ks.getD i false) := by
  intro i v s Q E hv hq
  have hv : its[i]? = some v := by simpa using hv
  have hlen := r.length
  rw [List.length_map] at hlen
  have hi : i < its.length := (List.getElem?_eq_some_iff.mp hv).1
  have hk : (ks.map V.bl)[i]? = some (V.bl (ks.getD i false)) := by
    rw [List.getElem?_map, List.getElem?_eq_getElem (by omega), List.getD_eq_getElem?_getD, List.getElem?_eq_getElem (by omega)]
    rfl
  obtain ⟨u, hu, ru⟩ := r.get hk
  rw [hv] at hu
  cases hu
  cases ru
  exact wpAny_truthy_bool hq
theorem range_all (ks : List Bool) : (List.range ks.length).all (fun i => ks.getD i false) = ks.all id := by
  rw [Bool.eq_iff_iff, List.all_eq_true, List.all_eq_true]
  constructor
  · intro h b hb
    obtain ⟨i, hi, e⟩ := List.mem_iff_getElem.mp hb
    have := h i (List.mem_range.mpr hi)
    rw [List.getD_eq_getElem?_getD, List.getElem?_eq_getElem hi] at this
    rw [← e]
    exact this
  · intro h i hi
    have hi := List.mem_range.mp hi
    rw [List.getD_eq_getElem?_getD, List.getElem?_eq_getElem hi]
    exact h _ (List.getElem_mem hi)
theorem call_all (hc : X.calm = true) : CallR X (.builtin "all") (fun xs H Q => ∃ (p : Addr) (ks : List Bool), xs = [.ref p] ∧ SqL X.K H p (ks.map V.bl) ∧ Q (.bl (ks.all id)) H) := by
  intro pins s σ H xs us Q I r h
  obtain ⟨p, ks, rfl, hp, q⟩ := h
  obtain ⟨u, rfl, ru⟩ := vals1 r
  cases ru
  obtain ⟨its, rv, pl, hl⟩ := I.list hp
  have hlen := rv.length
  rw [List.length_map] at hlen
  refine call_all_walk (wpAny_pyIter_list pl.isList ?_)
  have hne : p ≠ s.heap.objs.size := by
    obtain ⟨o, ho, _⟩ := pl.isList
    exact Nat.ne_of_lt (Heap.lt_size ho)
  have W := Walks.list (prog := X.prog) (w := X.w) (A := X.A.in1) (show X.A.in1.handled = none from I.ok.hd hc) s.heap.objs.size p hne its.toArray
  have hpush : ∀ o b ob, s.heap.get? b = some ob → (s.heap.push o).get? b = some ob := fun o b ob e => Heap.get?_push_of_some _ e
  refine ⟨_, _, _, _, _, _, fun i => ks.getD i false, rfl, W, ⟨⟨_, Heap.get?_push_size _ rfl, rfl, rfl⟩, pl.isList.at fun o e => hpush _ _ o e⟩, truth_bl rv, fun h' tk k => ?_⟩
  have e : (List.range its.toArray.size).all (fun i => ks.getD i false) = ks.all id := by
    rw [← range_all, List.size_toArray, ← hlen]
  rw [e]
  refine ⟨.bl _, H, I.kept (t' := tk) (h' := h') fun b ob e => k b ob ?_ (hpush _ b ob e), rfl, q⟩
  intro hb
  have : b = s.heap.objs.size := by simpa using hb
  subst this
  exact absurd (Heap.lt_size e) (Nat.lt_irrefl _)
end
end L2
namespace L2
open PySem PySem.Spec PyProof.Rows
inductive EqD (K : PySem.W.Frag) (H : Hp) : Nat → V → V → Bool → Prop
  | flat {n : Nat} {x y : V} (hx : flatV x = true) (hy : flatV y = true) : EqD K H n x y (eqV x y)
  | same {n : Nat} {a : Addr} : EqD K H n (.ref a) (.ref a) true
  | len {n : Nat} {a b : Addr} {xs ys : List V} (ha : SqL K H a xs) (hb : SqL K H b ys) (hab : a ≠ b) (hl : xs.length ≠ ys.length) : EqD K H (n + 1) (.ref a) (.ref b) false
  | lst {n : Nat} {a b : Addr} {xs ys : List V} {es : Nat → Bool} (ha : SqL K H a xs) (hb : SqL K H b ys) (hab : a ≠ b) (hl : xs.length = ys.length)
      (he : ∀ i x y, xs[i]? = some x → ys[i]? = some y → EqD K H n x y (es i)) : EqD K H (n + 1) (.ref a) (.ref b) ((List.range xs.length).all es)
  | tup {n : Nat} {a b : Addr} {xs ys : List V} {es : Nat → Bool} (ha : SqT K H a xs) (hb : SqT K H b ys) (hab : a ≠ b)
      (he : ∀ i x y, xs[i]? = some x → ys[i]? = some y → EqD K H n x y (es i)) : EqD K H (n + 1) (.ref a) (.ref b) ((List.range (min xs.length ys.length)).all es && xs.length == ys.length)
  | nref {n : Nat} {x : V} {a : Addr} {xs : List V} (hx : flatV x = true) (ha : SqL K H a xs ∨ SqT K H a xs) : EqD K H n x (.ref a) false
  | refn {n : Nat} {x : V} {a : Addr} {xs : List V} (hx : flatV x = true) (ha : SqL K H a xs ∨ SqT K H a xs) : EqD K H n (.ref a) x false
section
variable {X : Cx} {pins : List (Addr × Obj)} {σ : St} {H : Hp} {s : Shared}
theorem nth_of {xs : List V} {its : List Value} (r : Vals xs its) {j : Nat} (h : j < its.toArray.size) : ∃ x, xs[j]? = some x ∧ RelV x its.toArray[j] := by
  have hl := r.length
  have hj : j < its.length := by simpa using h
  have hx : xs[j]? = some (xs[j]'(by omega)) := List.getElem?_eq_getElem (by omega)
  obtain ⟨u, hu, ru⟩ := r.get hx
  refine ⟨_, hx, ?_⟩
  have e : its.toArray[j] = u := by
    rw [List.getElem?_eq_getElem hj] at hu
    simpa using Option.some.inj hu
  rw [e]
  exact ru
theorem eqAt_D (I : Inv X pins σ H s) : ∀ {n : Nat} {x y : V} {k : Bool}, EqD X.K H n x y k → ∀ (A : Around), A.units + n < cLine → ∀ {u v : Value}, RelV x u → RelV y v → SeqAt.EqAt A s u v k := by
  intro n x y k h
  induction h with
  | flat hx hy => exact fun A _ u v ru rv => eqAt_V ru rv hx hy
  | same =>
    intro A _ u v ru rv
    cases ru; cases rv
    exact SeqAt.EqAt.same _
  | len ha hb hab hl =>
    intro A hu u v ru rv
    cases ru; cases rv
    obtain ⟨its, r1, p1, _⟩ := I.list ha
    obtain ⟨its2, r2, p2, _⟩ := I.list hb
    have l1 := r1.length
    have l2 := r2.length
    refine .of_refs hab (.lists_lengths p1.isList p2.isList (by simp; omega) (by omega))
  | @lst n a b xs ys es ha hb hab hl he ih =>
    intro A hu u v ru rv
    cases ru; cases rv
    obtain ⟨its, r1, p1, _⟩ := I.list ha
    obtain ⟨its2, r2, p2, _⟩ := I.list hb
    have l1 := r1.length
    have l2 := r2.length
    have e : (List.range xs.length).all es = (List.range its.toArray.size).all es := by rw [List.size_toArray, l1]
    rw [e]
    refine .of_refs hab (.lists p1.isList p2.isList (by simp; omega) (by omega) fun j h1 h2 => ?_)
    obtain ⟨x, hx, rx⟩ := nth_of r1 h1
    obtain ⟨y, hy, ry⟩ := nth_of r2 h2
    exact ih j x y hx hy A.in1 (by show A.units + 1 + n < cLine; omega) rx ry
  | @tup n a b xs ys es ha hb hab he ih =>
    intro A hu u v ru rv
    cases ru; cases rv
    obtain ⟨its, r1, p1, _⟩ := I.tuple ha
    obtain ⟨its2, r2, p2, _⟩ := I.tuple hb
    have l1 := r1.length
    have l2 := r2.length
    have e : ((List.range (min xs.length ys.length)).all es && xs.length == ys.length) = ((List.range (min its.toArray.size its2.toArray.size)).all es && its.toArray.size == its2.toArray.size) := by rw [List.size_toArray, List.size_toArray, l1, l2]
    rw [e]
    refine .of_refs hab (.tuples (show s.heap.IsTuple a its.toArray from p1) (show s.heap.IsTuple b its2.toArray from p2) (by omega) fun j h1 h2 => ?_)
    obtain ⟨x, hx, rx⟩ := nth_of r1 h1
    obtain ⟨y, hy, ry⟩ := nth_of r2 h2
    exact ih j x y hx hy A.in1 (by show A.units + 1 + n < cLine; omega) rx ry
  | @nref n x a xs hx ha =>
    intro A hu u v ru rv
    cases rv
    rcases ha with ha | ha
    · obtain ⟨its, r1, p1, _⟩ := I.list ha
      have hl := p1.isList
      cases x with
      | non => cases ru; exact .none_list hl (by omega)
      | bl b => cases ru; exact .bool_list b hl (by omega)
      | int b => obtain ⟨t, rfl⟩ := ru; exact .int_list b t hl (by omega)
      | str b => obtain ⟨t, rfl⟩ := ru; exact .str_list b t hl (by omega)
      | _ => simp [flatV] at hx
    · obtain ⟨its, r1, p1, _⟩ := I.tuple ha
      have hl : s.heap.IsTuple a its.toArray := p1
      cases x with
      | non => cases ru; exact .none_tuple hl (by omega)
      | bl b => cases ru; exact .bool_tuple b hl (by omega)
      | int b => obtain ⟨t, rfl⟩ := ru; exact .int_tuple b t hl (by omega)
      | str b => obtain ⟨t, rfl⟩ := ru; exact .str_tuple b t hl (by omega)
      | _ => simp [flatV] at hx
  | @refn n x a xs hx ha =>
    intro A hu u v ru rv
    cases ru
    rcases ha with ha | ha
    · obtain ⟨its, r1, p1, _⟩ := I.list ha
      have hl := p1.isList
      cases x with
      | non => cases rv; exact .list_none hl (by omega)
      | bl b => cases rv; exact .list_bool b hl (by omega)
      | int b => obtain ⟨t, rfl⟩ := rv; exact .list_int b t hl (by omega)
      | str b => obtain ⟨t, rfl⟩ := rv; exact .list_str b t hl (by omega)
      | _ => simp [flatV] at hx
    · obtain ⟨its, r1, p1, _⟩ := I.tuple ha
      have hl : s.heap.IsTuple a its.toArray := p1
      cases x with
      | non => cases rv; exact .tuple_none hl (by omega)
      | bl b => cases rv; exact .tuple_bool b hl (by omega)
      | int b => obtain ⟨t, rfl⟩ := rv; exact .tuple_int b t hl (by omega)
      | str b => obtain ⟨t, rfl⟩ := rv; exact .tuple_str b t hl (by omega)
      | _ => simp [flatV] at hx
end
inductive EqT (K : PySem.W.Frag) (H : Hp) : Nat → V → V → Bool → Prop
  | len {n : Nat} {a b : Addr} {xs ys : List V} (ha : SqL K H a xs) (hb : SqL K H b ys) (hl : xs.length ≠ ys.length) : EqT K H (n + 1) (.ref a) (.ref b) false
  | lst {n : Nat} {a b : Addr} {xs ys : List V} {es : Nat → Bool} (ha : SqL K H a xs) (hb : SqL K H b ys) (hl : xs.length = ys.length)
      (he : ∀ i x y, xs[i]? = some x → ys[i]? = some y → EqD K H n x y (es i)) : EqT K H (n + 1) (.ref a) (.ref b) ((List.range xs.length).all es)
  | tup {n : Nat} {a b : Addr} {xs ys : List V} {es : Nat → Bool} (ha : SqT K H a xs) (hb : SqT K H b ys)
      (he : ∀ i x y, xs[i]? = some x → ys[i]? = some y → EqD K H n x y (es i)) : EqT K H (n + 1) (.ref a) (.ref b) ((List.range (min xs.length ys.length)).all es && xs.length == ys.length)
section
variable {X : Cx}
theorem op_eqT {n : Nat} (hu : X.A.units + n < cLine) : OpR X (compareOp .Eq) (fun x y H Q => ∃ k, EqT X.K H n x y k ∧ Q (.bl k) H) := by
  intro pins s σ H x y v u Q I rx ry h
  obtain ⟨k, h, q⟩ := h
  cases h with
  | @len n a b xs ys ha hb hl =>
    cases rx; cases ry
    obtain ⟨its, r1, p1, _⟩ := I.list ha
    obtain ⟨its2, r2, p2, _⟩ := I.list hb
    have l1 := r1.length
    have l2 := r2.length
    exact SeqAt.eq_list_lengthsAt p1.isList p2.isList (by simp; omega) (by omega) (fin_bl I q rfl)
  | @lst n a b xs ys es ha hb hl he =>
    cases rx; cases ry
    obtain ⟨its, r1, p1, _⟩ := I.list ha
    obtain ⟨its2, r2, p2, _⟩ := I.list hb
    have l1 := r1.length
    have l2 := r2.length
    refine SeqAt.eq_listAt (e := es) p1.isList p2.isList (by simp; omega) (by omega) (fun j h1 h2 => ?_) (fin_bl I q (by rw [List.size_toArray, l1]))
    obtain ⟨x, hx, rx⟩ := nth_of r1 h1
    obtain ⟨y, hy, ry⟩ := nth_of r2 h2
    exact eqAt_D I (he j x y hx hy) X.A.in1 (by show X.A.units + 1 + n < cLine; omega) rx ry
  | @tup n a b xs ys es ha hb he =>
    cases rx; cases ry
    obtain ⟨its, r1, p1, _⟩ := I.tuple ha
    obtain ⟨its2, r2, p2, _⟩ := I.tuple hb
    have l1 := r1.length
    have l2 := r2.length
    refine SeqAt.eq_tupleAt (e := es) (show s.heap.IsTuple a its.toArray from p1) (show s.heap.IsTuple b its2.toArray from p2) (by omega) (fun j h1 h2 => ?_) (fin_bl I q (by rw [List.size_toArray, List.size_toArray, l1, l2]))
    obtain ⟨x, hx, rx⟩ := nth_of r1 h1
    obtain ⟨y, hy, ry⟩ := nth_of r2 h2
    exact eqAt_D I (he j x y hx hy) X.A.in1 (by show X.A.units + 1 + n < cLine; omega) rx ry
theorem op_neT {n : Nat} (hu : X.A.units + n < cLine) : OpR X (compareOp .NotEq) (fun x y H Q => ∃ k, EqT X.K H n x y k ∧ Q (.bl (!k)) H) := by
  intro pins s σ H x y v u Q I rx ry h
  obtain ⟨k, h, q⟩ := h
  cases h with
  | @len n a b xs ys ha hb hl =>
    cases rx; cases ry
    obtain ⟨its, r1, p1, _⟩ := I.list ha
    obtain ⟨its2, r2, p2, _⟩ := I.list hb
    have l1 := r1.length
    have l2 := r2.length
    exact EqBoolInt.of_rcne (SeqAt.RcNeAt.lists_lengths p1.isList p2.isList (by simp; omega) (by omega)) (fin_bl I q rfl)
  | @lst n a b xs ys es ha hb hl he =>
    cases rx; cases ry
    obtain ⟨its, r1, p1, _⟩ := I.list ha
    obtain ⟨its2, r2, p2, _⟩ := I.list hb
    have l1 := r1.length
    have l2 := r2.length
    refine EqBoolInt.of_rcne (SeqAt.RcNeAt.lists (e := es) p1.isList p2.isList (by simp; omega) (by omega) (fun j h1 h2 => ?_)) (fin_bl I q (by rw [List.size_toArray, l1]))
    obtain ⟨x, hx, rx⟩ := nth_of r1 h1
    obtain ⟨y, hy, ry⟩ := nth_of r2 h2
    exact eqAt_D I (he j x y hx hy) X.A.in1 (by show X.A.units + 1 + n < cLine; omega) rx ry
  | @tup n a b xs ys es ha hb he =>
    cases rx; cases ry
    obtain ⟨its, r1, p1, _⟩ := I.tuple ha
    obtain ⟨its2, r2, p2, _⟩ := I.tuple hb
    have l1 := r1.length
    have l2 := r2.length
    refine EqBoolInt.of_rcne (SeqAt.RcNeAt.tuples (e := es) (show s.heap.IsTuple a its.toArray from p1) (show s.heap.IsTuple b its2.toArray from p2) (by omega) (fun j h1 h2 => ?_)) (fin_bl I q (by rw [List.size_toArray, List.size_toArray, l1, l2]))
    obtain ⟨x, hx, rx⟩ := nth_of r1 h1
    obtain ⟨y, hy, ry⟩ := nth_of r2 h2
    exact eqAt_D I (he j x y hx hy) X.A.in1 (by show X.A.units + 1 + n < cLine; omega) rx ry
end
def binA (op : Operator) (x y : V) (H : Hp) (Q : VK) : Prop := match op, x, y with
  | .Add, .int i, .int j => Q (.int (i + j)) H
  | .Add, .str i, .str j => i.length + j.length ≤ sizeLine ∧ Q (.str (i ++ j)) H
  | .Add, .ref a, .ref b => rCat (.ref a) (.ref b) H Q
  | .Sub, .int i, .int j => Q (.int (i - j)) H
  | .Mult, .int i, .int j => CMul i j ∧ Q (.int (i * j)) H
  | .FloorDiv, .int i, .int j => CDiv i j ∧ Q (.int (i / j)) H
  | .Mod, .int i, .int j => 0 < j ∧ Q (.int (i % j)) H
  | .Pow, .int i, .int j => CPow i j ∧ Q (.int (i ^ j.toNat)) H
  | _, _, _ => False
section
variable {X : Cx} {a b c : Expr} {ta tb tc : TE} {pos : Pos}
theorem op_bin (op : Operator) : OpR X (binaryOp op) (binA op) := by
  intro pins s σ H x y v u Q I rx ry h
  unfold binA at h
  split at h
  · exact op_add pins s σ H _ _ v u Q I rx ry ⟨_, _, rfl, rfl, h⟩
  · exact op_add_str pins s σ H _ _ v u Q I rx ry ⟨_, _, rfl, rfl, h.1, h.2⟩
  · exact op_cat pins s σ H _ _ v u Q I rx ry h
  · exact op_sub pins s σ H _ _ v u Q I rx ry ⟨_, _, rfl, rfl, h⟩
  · exact op_mul pins s σ H _ _ v u Q I rx ry ⟨_, _, rfl, rfl, h.1, h.2⟩
  · exact op_fdiv pins s σ H _ _ v u Q I rx ry ⟨_, _, rfl, rfl, h.1, h.2⟩
  · exact op_mod pins s σ H _ _ v u Q I rx ry ⟨_, _, rfl, rfl, h.1, h.2⟩
  · exact op_pow pins s σ H _ _ v u Q I rx ry ⟨_, _, rfl, rfl, h.1, h.2⟩
  · exact h.elim
def eqB : V → V → Option Bool
  | .non, .non => some true
  | .int i, .int j => some (decide (i = j))
  | .bl i, .bl j => some (decide (i = j))
  | .str i, .str j => some (decide (i = j))
  | .non, .int _ => some false | .int _, .non => some false | .non, .bl _ => some false | .bl _, .non => some false | .non, .str _ => some false | .str _, .non => some false
  | .int _, .str _ => some false | .str _, .int _ => some false | .bl _, .str _ => some false | .str _, .bl _ => some false
  | _, _ => none
theorem eqB_scal {x y : V} {k : Bool} (h : eqB x y = some k) : scal x y = true ∧ decide (x = y) = k := by
  cases x <;> cases y <;> simp [eqB, scal] at h ⊢ <;> first | exact h | (subst h; rfl)
def cmpA (K : PySem.W.Frag) (op : CmpOp) (x y : V) (H : Hp) (Q : VK) : Prop := match op, x, y with
  | .Eq, .ref a, .ref b => ∃ k, EqT K H 20 (.ref a) (.ref b) k ∧ Q (.bl k) H
  | .NotEq, .ref a, .ref b => ∃ k, EqT K H 20 (.ref a) (.ref b) k ∧ Q (.bl (!k)) H
  | .Eq, x, y => match eqB x y with | some k => Q (.bl k) H | none => False
  | .NotEq, x, y => match eqB x y with | some k => Q (.bl (!k)) H | none => False
  | .Lt, .int i, .int j => Q (.bl (decide (i < j))) H
  | .LtE, .int i, .int j => Q (.bl (decide (i ≤ j))) H
  | .Gt, .int i, .int j => Q (.bl (decide (j < i))) H
  | .GtE, .int i, .int j => Q (.bl (decide (j ≤ i))) H
  | .Lt, .str i, .str j => Q (.bl (decide (i.cps.toList < j.cps.toList))) H
  | .LtE, .str i, .str j => Q (.bl (!decide (j.cps.toList < i.cps.toList))) H
  | .In, .str i, .str j => Q (.bl (!(Builtin.Str.occurrences j i 0 j.length 1).isEmpty)) H
  | .NotIn, .str i, .str j => Q (.bl (!(!(Builtin.Str.occurrences j i 0 j.length 1).isEmpty))) H
  | .In, x, .ref p => rIn K false x (.ref p) H Q
  | .NotIn, x, .ref p => rIn K true x (.ref p) H Q
  | .Is, x, .non => Q (.bl (decide (x = .non))) H
  | .IsNot, x, .non => Q (.bl (!decide (x = .non))) H
  | _, _, _ => False
theorem op_cmp (op : CmpOp) (hu : X.A.units + 20 < cLine) : OpR X (compareOp op) (cmpA X.K op) := by
  intro pins s σ H x y v u Q I rx ry h
  unfold cmpA at h
  split at h
  · exact op_eqT hu pins s σ H _ _ v u Q I rx ry h
  · exact op_neT hu pins s σ H _ _ v u Q I rx ry h
  · split at h
    · rename_i k e
      obtain ⟨h1, h2⟩ := eqB_scal e
      exact op_eq pins s σ H _ _ v u Q I rx ry ⟨h1, by rw [h2]; exact h⟩
    · exact h.elim
  · split at h
    · rename_i k e
      obtain ⟨h1, h2⟩ := eqB_scal e
      exact op_ne pins s σ H _ _ v u Q I rx ry ⟨h1, by rw [h2]; exact h⟩
    · exact h.elim
  · exact op_lt pins s σ H _ _ v u Q I rx ry ⟨_, _, rfl, rfl, h⟩
  · exact op_le pins s σ H _ _ v u Q I rx ry ⟨_, _, rfl, rfl, h⟩
  · exact op_gt pins s σ H _ _ v u Q I rx ry ⟨_, _, rfl, rfl, h⟩
  · exact op_ge pins s σ H _ _ v u Q I rx ry ⟨_, _, rfl, rfl, h⟩
  · exact op_lt_str pins s σ H _ _ v u Q I rx ry ⟨_, _, rfl, rfl, h⟩
  · exact op_le_str pins s σ H _ _ v u Q I rx ry ⟨_, _, rfl, rfl, h⟩
  · exact op_in_str pins s σ H _ _ v u Q I rx ry ⟨_, _, rfl, rfl, h⟩
  · exact op_notin_str pins s σ H _ _ v u Q I rx ry ⟨_, _, rfl, rfl, h⟩
  · exact op_in_seq pins s σ H _ _ v u Q I rx ry h
  · exact op_notIn_seq pins s σ H _ _ v u Q I rx ry h
  · exact op_isN pins s σ H _ _ v u Q I rx ry ⟨rfl, h⟩
  · exact op_notN pins s σ H _ _ v u Q I rx ry ⟨rfl, h⟩
  · exact h.elim
def cVar (i : Nat) : TE := fun σ H Q => match σ[i]? with | some (some v) => Q v H | _ => False
theorem cv (i : Nat) {x : Str} {pos : Pos} (hN : X.N[i]? = some x := by rfl) (hv : Vis X.env.scope x := by first | exact Or.inl rfl | exact Or.inr (Or.inl rfl) | exact Or.inr (Or.inr rfl)) (hd : (x == ("__debug__" : Str)) = false := by decide)
    (hcd : (x == ("__classdict__" : Str)) = false := by decide) : PE X (.Name x pos) (cVar i) := (pe_var hN hv hd hcd).imp fun σ H Q h => by
  unfold cVar at h
  split at h
  · rename_i v e; exact ⟨v, e, h⟩
  · exact h.elim
def cBin (op : Operator) (ta tb : TE) : TE := fun σ H Q => ta σ H fun x H1 => tb σ H1 fun y H2 => binA op x y H2 Q
theorem ce_bin {op : Operator} (ha : PE X a ta) (hb : PE X b tb) : PE X (.BinOp a op b pos) (cBin op ta tb) := pe_op (op_bin op) ha hb
def cCmp (K : PySem.W.Frag) (op : CmpOp) (ta tb : TE) : TE := fun σ H Q => ta σ H fun x H1 => tb σ H1 fun y H2 => cmpA K op x y H2 Q
def bOnly (Q : Bool → Hp → Prop) : VK := fun x H => match x with | .bl k => Q k H | _ => False
theorem bOnly_ex {Q : Bool → Hp → Prop} {x : V} {H : Hp} (h : bOnly Q x H) : ∃ k, x = .bl k ∧ Q k H := by
  unfold bOnly at h
  split at h
  · exact ⟨_, rfl, h⟩
  · exact h.elim
theorem ce_cmp {op : CmpOp} (hu : X.A.units + 20 < cLine) (ha : PE X a ta) (hb : PE X b tb) (hm : behindInMarks op b = false := by first | exact nomark _ | with_unfolding_all rfl) : PE X (.Compare a [op] [b] pos) (cCmp X.K op ta tb) := pe_cmpR (op_cmp op hu) ha hb hm
def cTest (t : TE) : TT := fun σ H Q => t σ H (bOnly Q)
theorem ct_cmp {op : CmpOp} (hu : X.A.units + 20 < cLine) (ha : PE X a ta) (hb : PE X b tb) (hm : behindInMarks op b = false := by first | exact nomark _ | with_unfolding_all rfl) : PT X (.Compare a [op] [b] pos) (cTest (cCmp X.K op ta tb)) := by
  intro pins s σ H Q I h
  refine wpAny_isTrue_Compare1 (thn (ha pins s σ H _ I h) fun v s1 ⟨x, H1, I1, r1, q1⟩ => thn (hb pins s1 σ H1 _ I1 q1) fun u s2 ⟨y, H2, I2, r2, q2⟩ =>
    thn (op_cmp op hu pins s2 σ H2 x y v u _ I2 r1 r2 q2) fun c s3 ⟨z, H3, I3, r3, q3⟩ => ?_) hm
  obtain ⟨k, e, q3⟩ := bOnly_ex q3
  subst e
  cases r3
  exact wpAny_truthy_bool ⟨H3, I3, q3⟩
def cChain (K : PySem.W.Frag) (op op' : CmpOp) (ta tb tc : TE) : TE := fun σ H Q => ta σ H fun x H1 => tb σ H1 fun y H2 => cmpA K op x y H2 (bOnly fun k H3 => if k = true then tc σ H3 fun w' H4 => cmpA K op' y w' H4 Q else Q (.bl false) H3)
def cChainT (K : PySem.W.Frag) (op op' : CmpOp) (ta tb tc : TE) : TT := fun σ H Q => ta σ H fun x H1 => tb σ H1 fun y H2 => cmpA K op x y H2 (bOnly fun k H3 => if k = true then tc σ H3 fun w' H4 => cmpA K op' y w' H4 (bOnly Q) else Q false H3)
theorem ct_val {e : Expr} {t : TE} (h : PE X e t) (he : ∀ whole, isTrue e X.env whole = (do let v ← whole; standAt e.pos; holding [v] (truthy v)) := by intro _; rfl) : PT X e (cTest t) := by
  intro pins s σ H Q I hw
  refine isTrue_plain (thn (h pins s σ H _ I hw) fun v s1 ⟨x, H1, I1, r1, q1⟩ => ?_) (he _)
  obtain ⟨d, rfl, q⟩ := bOnly_ex q1
  cases r1
  exact wpAny_truthy_bool ⟨H1, I1, q⟩
variable {rest : List Expr}
def cAndV (ta tb : TE) : TE := fun σ H Q => ta σ H (bOnly fun c H1 => if c = true then tb σ H1 Q else Q (.bl false) H1)
def cOrV (ta tb : TE) : TE := fun σ H Q => ta σ H (bOnly fun c H1 => if c = true then Q (.bl true) H1 else tb σ H1 Q)
def cNotV (ta : TE) : TE := fun σ H Q => ta σ H (bOnly fun c H1 => Q (.bl (!c)) H1)
theorem ce_and (ha : PE X a ta) (hb : PE X (.BoolOp .And (b :: rest) pos) tb) : PE X (.BoolOp .And (a :: b :: rest) pos) (cAndV ta tb) := by
  intro pins s σ H Q I h
  refine BoolOp_and (thn (ha pins s σ H _ I h) fun v s1 ⟨x, H1, I1, r1, q1⟩ => ?_)
  obtain ⟨c, rfl, q1⟩ := bOnly_ex q1
  cases r1
  refine wpAny_truthy_bool ?_
  cases c with
  | true => exact hb pins s1 σ H1 Q I1 q1
  | false => exact ⟨.bl false, H1, I1, rfl, q1⟩
def cNeg (ta : TE) : TE := fun σ H Q => ta σ H fun x H1 => match x with | .int i => Q (.int (-i)) H1 | _ => False
end
end L2
namespace L2
open PySem PySem.Spec PyProof.Rows
theorem bo_len : bootBuiltins "len" = some (.builtin "len") := by decide +kernel
theorem bo_min : bootBuiltins "min" = some (.builtin "min") := by decide +kernel
theorem bo_max : bootBuiltins "max" = some (.builtin "max") := by decide +kernel
theorem bo_all : bootBuiltins "all" = some (.builtin "all") := by decide +kernel
theorem bo_isinstance : bootBuiltins "isinstance" = some (.builtin "isinstance") := by decide +kernel
theorem bo_int : bootBuiltins "int" = some (.type "int") := by decide +kernel
theorem bo_bool : bootBuiltins "bool" = some (.type "bool") := by decide +kernel
theorem bo_str : bootBuiltins "str" = some (.type "str") := by decide +kernel
theorem bo_list : bootBuiltins "list" = some (.type "list") := by decide +kernel
theorem bo_tuple : bootBuiltins "tuple" = some (.type "tuple") := by decide +kernel
theorem bo_reversed : bootBuiltins "reversed" = some (.type "reversed") := by decide +kernel
inductive BT | int | bool | str | list | tuple | dict
  deriving DecidableEq
def BT.s : BT → String
  | .int => "int" | .bool => "bool" | .str => "str" | .list => "list" | .tuple => "tuple" | .dict => "dict"
def isSub : BT → BT → Bool
  | .bool, .int => true
  | .int, .int => true | .bool, .bool => true | .str, .str => true | .list, .list => true | .tuple, .tuple => true | .dict, .dict => true
  | _, _ => false
theorem kit_bt (K : PySem.W.Frag) (a T : BT) : PySem.W.kitOne K (.type a.s) (.type T.s) = some (isSub a T) := by
  cases a <;> cases T <;> kernel_rfl
theorem kit_non (K : PySem.W.Frag) (T : BT) : PySem.W.kitOne K (.type "NoneType") (.type T.s) = some false := by
  cases T <;> kernel_rfl
def isA (T : BT) (x : V) (H : Hp) (Q : VK) : Prop := match x with
  | .non => Q (.bl false) H
  | .bl _ => Q (.bl (isSub .bool T)) H
  | .int _ => Q (.bl (isSub .int T)) H
  | .str _ => Q (.bl (isSub .str T)) H
  | .ref a => match H a with
    | some (.lst _) => Q (.bl (isSub .list T)) H
    | some (.frz _ (.lst _)) => Q (.bl (isSub .list T)) H
    | some (.tup _) => Q (.bl (isSub .tuple T)) H
    | some (.dK _) => Q (.bl (isSub .dict T)) H
    | _ => False
  | _ => False
section
variable {X : Cx} {a b c e o : Expr} {ta tb tc te to : TE} {p p2 pos : Pos} {es : List Expr} {t : TA}
theorem is_ok (T : BT) {pins : List (Addr × Obj)} {s : Shared} {σ : St} {H : Hp} {x : V} {u : Value} {Q : VK} (I : Inv X pins σ H s) (rx : RelV x u) (h : isA T x H Q) : wpAny (model X.prog X.w) X.A (call (.builtin "isinstance") [u, .type T.s]) (EP X pins σ Q) X.xe s := by
  have fin : ∀ {k : Bool} {tv : Value}, TyOf X.K H x tv → PySem.W.kitOne X.K tv (.type T.s) = some k → Q (.bl k) H → wpAny (model X.prog X.w) X.A (call (.builtin "isinstance") [u, .type T.s]) (EP X pins σ Q) X.xe s := fun ty e q =>
    isinst_ok I rx ty e fun tk => ⟨.bl _, H, I.tok tk, rfl, q⟩
  unfold isA at h
  cases x with
  | non => exact fin .non (kit_non _ T) h
  | bl y => exact fin (.bl y) (kit_bt _ .bool T) h
  | int y => exact fin (.int y) (kit_bt _ .int T) h
  | str y => exact fin (.str y) (kit_bt _ .str T) h
  | ref d =>
    dsimp only at h
    split at h
    · rename_i e; exact fin (.lst e) (kit_bt _ .list T) h
    · rename_i e; exact fin (.frz e) (kit_bt _ .list T) h
    · rename_i e; exact fin (.tup e) (kit_bt _ .tuple T) h
    · rename_i e; exact fin (.dK e) (kit_bt _ .dict T) h
    · exact h.elim
  | _ => exact h.elim
def cIs (T : BT) (ta : TE) : TE := fun σ H Q => ta σ H fun x H1 => isA T x H1 Q
theorem ce_is (T : BT) {n : Str} (ha : PE X a ta) (hg : Gl X "isinstance") (hm : X.mg "isinstance" = none) (hgT : Gl X n) (hmT : X.mg n = none) (hv : bootBuiltins n = some (.type T.s)) (hn : n ≠ "__name__" := by decide) (hdb : (n == ("__debug__" : Str)) = false := by decide)
    (he : starEach [a, .Name n p2] X.env = (false, eval a X.env) :: starEach [.Name n p2] X.env := by rfl) (he2 : starEach [.Name n p2] X.env = (false, eval (.Name n p2) X.env) :: starEach [] X.env := by rfl) (hpl : (backTo pos (starEach [.Name n p2] X.env)).any (·.1) = false := by rfl) :
    PE X (.Call (.Name "isinstance" p) [a, .Name n p2] [] pos) (cIs T ta) := by
  intro pins s σ H Q I h
  refine wpAny_Call_Name_kw (ld_blt I hg hm bo_isinstance ?_ (by decide) (by decide))
  have hA : PA X [a, .Name n p2] (tCons ta (tCons (tC (.ty T.s)) tNil)) := pa_cons ha (pa_cons (pe_bltn hgT hmT hv rfl hn hdb) pa_nil he2) he
  refine PyProof.Rows.callWith_builtin1 (thn (hA pos pins s σ H (fun vs H1 => ∃ x, vs = [x, .ty T.s] ∧ isA T x H1 Q) I ?_) fun us s1 ⟨vs, H1, I1, r1, x, e, q1⟩ => ?_) he hpl
  · have mono : (fun (x : V) H1 => isA T x H1 Q) = fun x H1 => (tCons (tC (.ty T.s)) tNil) σ H1 fun xs H2 => ∃ y, x :: xs = [y, .ty T.s] ∧ isA T y H2 Q := by
      funext x H1
      apply propext
      constructor
      · intro q; exact ⟨x, rfl, q⟩
      · rintro ⟨y, e, q⟩
        have : x = y := by injection e
        subst this
        exact q
    show ta σ H _
    rw [← mono]
    exact h
  · subst e
    obtain ⟨u, w', rfl, ru, rt⟩ := vals2 r1
    cases rt
    exact is_ok T I1 ru q1
theorem IxR.imp {r r' : R2} (h : IxR X r) (i : ∀ x y H Q, r' x y H Q → r x y H Q) : IxR X r' := fun va sl pins s σ H x y v u Q I rx ry q hs => h va sl pins s σ H x y v u Q I rx ry (i x y H Q q) hs
def ixA (K : PySem.W.Frag) (x y : V) (H : Hp) (Q : VK) : Prop := match x, y with
  | .str z, .int i => z.length ≤ sizeLine ∧ ∃ c, atI z.cps.toList i = some c ∧ Q (.str ⟨#[c]⟩) H
  | .ref q, .int i => ∃ xs v, (SqL K H q xs ∨ SqT K H q xs) ∧ atI xs i = some v ∧ Q v H
  | _, _ => False
theorem ix_A : IxR X (ixA X.K) := (ix_seq (X := X)).imp fun x y H Q h => by
  unfold ixA at h
  split at h
  · obtain ⟨h1, c, h2, q⟩ := h
    exact .inr (.inr ⟨_, _, c, rfl, rfl, h1, h2, q⟩)
  · obtain ⟨xs, v, h1, h2, q⟩ := h
    rcases h1 with h1 | h1
    · exact .inl ⟨_, xs, _, v, rfl, rfl, h1, h2, q⟩
    · exact .inr (.inl ⟨_, xs, _, v, rfl, rfl, h1, h2, q⟩)
  · exact h.elim
def cIx (K : PySem.W.Frag) (ta tb : TE) : TE := fun σ H Q => ta σ H fun x H1 => tb σ H1 fun y H2 => ixA K x y H2 Q
theorem ce_ix (ha : PE X a ta) (hb : PE X b tb) (hs : PlainIx b := by exact fun _ _ => rfl) : PE X (.Subscript a b pos) (cIx X.K ta tb) := pe_ix ix_A ha hb hs
def cPart (t : TE) : TO := fun σ H Q => t σ H fun x H1 => match x with | .int i => Q (some i) H1 | _ => False
theorem SlR.imp {r r' : V → Option Int → Option Int → Hp → VK → Prop} (h : SlR X r) (i : ∀ x lo hi H Q, r' x lo hi H Q → r x lo hi H Q) : SlR X r' := fun pins s σ H x v vl vu lo hi sl Q I rx hs pl pu q => h pins s σ H x v vl vu lo hi sl Q I rx hs pl pu (i x lo hi H Q q)
def slA (K : PySem.W.Frag) (x : V) (lo hi : Option Int) (H : Hp) (Q : VK) : Prop := match x with
  | .str z => z.length ≤ sizeLine ∧ Q (.str (cutS z lo hi)) H
  | .ref d => ∃ xs, SqL K H d xs ∧ ∀ q, H q = none → Q (.ref q) (upd H q (.lst (cutV xs lo hi)))
  | _ => False
def cSl (K : PySem.W.Frag) (te : TE) (tl th : TO) : TE := fun σ H Q => te σ H fun x H1 => tl σ H1 fun l H2 => th σ H2 fun u H3 => slA K x l u H3 Q
def cB (r : List V → Hp → VK → Prop) (t : TA) : TE := fun σ H Q => t σ H fun vs H1 => r vs H1 Q
def lenA (K : PySem.W.Frag) (xs : List V) (H : Hp) (Q : VK) : Prop := match xs with
  | [.str z] => z.length ≤ sizeLine ∧ Q (.int z.length) H
  | [.ref d] => ∃ ys, (SqL K H d ys ∨ SqT K H d ys) ∧ Q (.int ys.length) H
  | _ => False
theorem call_lenA : CallR X (.builtin "len") (lenA X.K) := ((call_len_seq (X := X)).or call_len_str).imp fun xs H Q h => by
  unfold lenA at h
  split at h
  · exact .inr ⟨_, rfl, h.1, h.2⟩
  · obtain ⟨ys, h1, h2⟩ := h
    exact .inl ⟨_, ys, rfl, h1, h2⟩
  · exact h.elim
def minA (xs : List V) (H : Hp) (Q : VK) : Prop := match xs with
  | [.int i, .int j] => Q (.int (if j < i then j else i)) H
  | _ => False
def strA (xs : List V) (H : Hp) (Q : VK) : Prop := match xs with
  | [.int i] => i.natAbs.log2 < 1920 ∧ Q (.str (toString i)) H
  | _ => False
theorem call_strA : CallR X (.type "str") strA := (call_str_int (X := X)).imp fun xs H Q h => by
  unfold strA at h
  split at h
  · exact ⟨_, rfl, h.1, h.2⟩
  · exact h.elim
def intA (xs : List V) (H : Hp) (Q : VK) : Prop := match xs with
  | [.str x] => ∃ n, PySem.intText? x = some n ∧ x.length ≤ 640 ∧ Q (.int n) H
  | [.bl k] => Q (.int (if k then 1 else 0)) H
  | _ => False
def allA (K : PySem.W.Frag) (xs : List V) (H : Hp) (Q : VK) : Prop := match xs with
  | [.ref d] => ∃ ks : List Bool, SqL K H d (ks.map V.bl) ∧ Q (.bl (ks.all id)) H
  | _ => False
theorem call_allA (hc : X.calm = true) : CallR X (.builtin "all") (allA X.K) := (call_all hc).imp fun xs H Q h => by
  unfold allA at h
  split at h
  · obtain ⟨ks, h1, q⟩ := h
    exact ⟨_, ks, rfl, h1, q⟩
  · exact h.elim
theorem ce_B {id : String} {x : Str} {r : List V → Hp → VK → Prop} (hc : CallR X (.builtin id) r) (hv : bootBuiltins x = some (.builtin id)) (hm : X.mg x = none) (ha : PA X (e :: es) t) (hg : Gl X x := by rfl) (hn : x ≠ "__name__" := by decide) (hdb : (x == ("__debug__" : Str)) = false := by decide)
    (he : starEach (e :: es) X.env = (false, eval e X.env) :: starEach es X.env := by rfl) (hpl : (backTo pos (starEach es X.env)).any (·.1) = false := by rfl) : PE X (.Call (.Name x p) (e :: es) [] pos) (cB r t) := pe_callB hc hg hm hv ha hn hdb he hpl
theorem ce_Ty {T : String} {x : Str} {r : List V → Hp → VK → Prop} (hc : CallR X (.type T) r) (hv : bootBuiltins x = some (.type T)) (hm : X.mg x = none) (ha : PA X (e :: es) t) (hg : Gl X x := by rfl) (hn : x ≠ "__name__" := by decide) (hdb : (x == ("__debug__" : Str)) = false := by decide)
    (he : starEach (e :: es) X.env = (false, eval e X.env) :: starEach es X.env := by rfl) (hpl : (backTo pos (starEach es X.env)).any (·.1) = false := by rfl) : PE X (.Call (.Name x p) (e :: es) [] pos) (cB r t) := pe_callTy hc hg hm hv ha hn hdb he hpl
def cSM (r : V → List V → Hp → VK → Prop) (to : TE) (t : TA) : TE := fun σ H Q => to σ H fun x H1 => match x with | .str z => t σ H1 fun xs H2 => r (.str z) xs H2 Q | _ => False
def cSM0 (r : V → List V → Hp → VK → Prop) (to : TE) : TE := fun σ H Q => to σ H fun x H1 => match x with | .str z => r (.str z) [] H1 Q | _ => False
def swA (x : V) (vs : List V) (H : Hp) (Q : VK) : Prop := match x, vs with
  | .str a, [.str b] => Q (.bl (b.cps.toList.isPrefixOf a.cps.toList)) H
  | _, _ => False
def joinA (K : PySem.W.Frag) (x : V) (vs : List V) (H : Hp) (Q : VK) : Prop := match x, vs with
  | .str sep, [.ref d] => ∃ ys : List Str, SqL K H d (ys.map V.str) ∧ (ys.map (·.length)).sum + ys.length * sep.length ≤ 16777216 ∧ Q (.str (Txt.join sep ys)) H
  | _, _ => False
def upA (x : V) (vs : List V) (H : Hp) (Q : VK) : Prop := match x, vs with
  | .str a, [] => a.length ≤ sizeLine ∧ (∀ c ∈ a.cps.toList, c < 128) ∧ Q (.str ⟨a.cps.map up1⟩) H
  | _, _ => False
def cApp (to te : TE) : TE := fun σ H Q => to σ H fun x H1 => match x with
  | .ref l => (∃ xs, H1 l = some (.lst xs)) ∧ te σ H1 fun y H2 => ∃ xs, H2 l = some (.lst xs) ∧ xs.length < sizeLine ∧ Q .non (upd H2 l (.lst (xs ++ [y])))
  | _ => False
theorem ce_app {apos cpos : Pos} (ho : PE X o to) (he : PE X e te) (hbase : attributeBase o "append" X.env (eval o X.env) = eval o X.env := by rfl)
    (hfew : ((backTo cpos (starEach [e] X.env)).all (fun x => !x.1) && (backToKw cpos (keywordEach [] X.env)).all (fun x => x.1.isSome)
      && decide ([e].length + ([] : List Keyword).length + (if ([] : List Keyword).isEmpty then 0 else 1) < 30)) = true := by rfl)
    (hline : (apos.endLine == cpos.line) = true := by rfl) (hs : starEach [e] X.env = (false, eval e X.env) :: starEach [] X.env := by rfl) (hplain : (backTo cpos (starEach [] X.env)).any (·.1) = false := by rfl) :
    PE X (.Call (.Attribute o "append" apos) [e] [] cpos) (cApp to te) := by
  intro pins s σ H Q I h
  refine wpAny_Call_method_late hbase hfew hline rfl (thn (ho pins s σ H _ I h) fun v s1 ⟨x, H1, I1, r1, q1⟩ => ?_)
  cases x with
  | ref l =>
    obtain ⟨⟨xs0, e0⟩, q1⟩ := q1
    have ty : tyV X.K "list" (.ref l) H1 := .inl ⟨rfl, xs0, SqL.of e0⟩
    obtain ⟨h1, h2⟩ := tyV_is I1 r1 ty
    refine ⟨"list", "list.append", PySem.F.plainAttrs_list, PySem.F.slot_list_append, PySem.F.type_list_append, h1, h2, ?_⟩
    have hA := (pa_cons he pa_nil hs : PA X [e] (tCons te tNil)) cpos pins s1 σ H1 (fun vs H2 => ∃ y, vs = [y] ∧ ∃ xs, H2 l = some (.lst xs) ∧ xs.length < sizeLine ∧ Q .non (upd H2 l (.lst (xs ++ [y])))) I1 (by
      show te σ H1 fun y H2 => ∃ y', [y] = [y'] ∧ _
      have : (fun (y : V) (H2 : Hp) => ∃ xs, H2 l = some (.lst xs) ∧ xs.length < sizeLine ∧ Q .non (upd H2 l (.lst (xs ++ [y])))) = fun y H2 => ∃ y', [y] = [y'] ∧ ∃ xs, H2 l = some (.lst xs) ∧ xs.length < sizeLine ∧ Q .non (upd H2 l (.lst (xs ++ [y']))) := by
        funext y H2
        apply propext
        constructor
        · intro z; exact ⟨y, rfl, z⟩
        · rintro ⟨y', e, z⟩
          have : y = y' := by injection e
          subst this; exact z
      rw [← this]
      exact q1)
    rw [hs] at hA ⊢
    refine Calls.callWith_builtin (by show (false || (backTo cpos (starEach [] X.env)).any (·.1)) = false; rw [hplain] <;> rfl) (Calls.evalArgs_plain ?_)
    exact thn hA fun us s2 ⟨vs, H2, I2, r2, y, e, xs, q3, q4, q5⟩ => mt_append pins s2 σ H2 _ vs v us Q I2 r1 r2 ⟨l, xs, y, rfl, e, q3, q4, q5⟩
  | _ => exact q1.elim
structure Cal (P : Program) (w : World) (K : PySem.W.Frag) (mg : Str → Option Value) (base : Heap) (name : Str) (ps : List Str) (k : Nat) (sp : Sp) : Prop where
  ex : ∃ f fd, FnOk P w K mg base CX0 k f fd ps sp ∧ mg name = some (.ref f) ∧ PySem.W.keepIn K (.ref f) = true ∧ Binds K fd ps []
theorem Cal.mono {P : Program} {w : World} {K : PySem.W.Frag} {mg : Str → Option Value} {base : Heap} {name : Str} {ps : List Str} {j k : Nat} {sp : Sp} (C : Cal P w K mg base name ps j sp) (h : j ≤ k) : Cal P w K mg base name ps k sp := by
  obtain ⟨f, fd, F, a, b, c⟩ := C.ex
  exact ⟨f, fd, F.mono h, a, b, c⟩
def cCall (sp : Sp) (t : TA) : TE := fun σ H Q => t σ H fun vs H1 => sp vs H1 Q E0
theorem ce_call {name : Str} {ps : List Str} {k j : Nat} {sp : Sp} (C : Cal X.prog X.w X.K X.mg X.base name ps k sp) (hr : Room j X.A) (hkj : k ≤ j) (ha : PA X (e :: es) t) (hg : Gl X name := by rfl) (hdb : (name == ("__debug__" : Str)) = false := by decide)
    (he : starEach (e :: es) X.env = (false, eval e X.env) :: starEach es X.env := by rfl) (hpl : (backTo pos (starEach es X.env)).any (·.1) = false := by rfl) : PE X (.Call (.Name name p) (e :: es) [] pos) (cCall sp t) := by
  obtain ⟨f, fd, F, hm, hk, hb⟩ := C.ex
  refine (pe_call F (hr.mono hkj) hg hm hk hb .nil pass0 ha hdb he hpl : PE X _ (tCall sp [] E0 t)).imp fun σ H Q h => ?_
  unfold tCall
  simp only [List.append_nil]
  exact h
end
end L2
namespace PySem
namespace F
theorem nolen_lriQ : typeLookup (.type "list_reverseiterator") "__len__" = pure none := by rw [typeLookup_type, builtinLookup_eq_fast]; kernel_rfl
theorem hint_lriQ : typeLookup (.type "list_reverseiterator") "__length_hint__" = pure (some (.builtin "list_reverseiterator.__length_hint__")) := by rw [typeLookup_type, builtinLookup_eq_fast]; kernel_rfl
end F
end PySem
namespace L2
open PySem PySem.Spec PyProof.Rows
section
variable {prog : Program} {w : World} {A : Around} {E : Value → Shared → Prop} {s : Shared}
theorem walksS_rev (hh : A.handled = none) (I l : Addr) (hne : l ≠ I) (items : Array Value) :
    WalksS prog w A I [I, l] [I] (fun a b => a = b) items.size (fun i v => items[items.size - 1 - i]? = some v) (fun i s => i ≤ items.size ∧ s.heap.IsRevIter I l ((items.size : Int) - 1 - (i : Int)) ∧ s.heap.IsList l items) where
  sub := fun b hb => by simp at hb; simp [hb]
  grefl := fun _ => rfl
  gtrans := fun _ _ _ a b => a.trans b
  frame := fun _ _ _ _ x _ hk => ⟨x.1, x.2.1.at fun o e => hk I (by simp) o e, x.2.2.at fun o e => hk l (by simp) o e⟩
  item := fun i s Q E hi x hQ => by
    have e : (items.size : Int) - 1 - (i : Int) = ((items.size - 1 - i : Nat) : Int) := by omega
    have hit := x.2.1
    rw [e] at hit
    have hx : items[items.size - 1 - i]? = some (items[items.size - 1 - i]'(by omega)) := Array.getElem?_eq_getElem (by omega)
    refine wpAny_pyNext_rev_item hit x.2.2 hx fun h' hit' hs' => ?_
    have e2 : ((items.size - 1 - i : Nat) : Int) - 1 = (items.size : Int) - 1 - ((i + 1 : Nat) : Int) := by omega
    rw [e2] at hit'
    exact hQ _ _ hx ⟨hi, hit', x.2.2.at fun o eo => (hs'.2 l hne).trans eo⟩ ⟨fun b o hb eo => hs'.extBut b o (fun h => hb (by simp [h])) eo, rfl, rfl, rfl, Nat.le_refl _⟩
  done := fun s Q E x hQ => by
    have e : (items.size : Int) - 1 - (items.size : Int) = -1 := by omega
    have hit := x.2.1
    rw [e] at hit
    exact wpAny_pyNext_rev_end hh hit fun h' he' => hQ _ ⟨fun b o hb eo => he' b o (fun h => hb (by simp [h])) eo, rfl, rfl, rfl, Nat.le_refl _⟩
  self := fun _ _ _ _ x hQ => wpAny_pyIter_revIter x.2.1 hQ
theorem collect_rev {I : Addr} {fp wr : List Addr} {G : Array GenState → Array GenState → Prop} {n : Nat} {P : Nat → Value → Prop} {St : Nat → Shared → Prop} {Q : List Value → Shared → Prop}
    (W : WalksS prog w A.in1 I fp wr G n P St) (hT : ∀ i s, St i s → s.TypeIs (.ref I) "list_reverseiterator") (hst : St 0 s) (hfp : ∀ b ∈ fp, b < s.heap.objs.size) (hI : I ∈ fp)
    (hQ : ∀ s' acc, Moved wr G s s' → ItemsOf P acc n → Q acc.toList s') (hn : n ≤ sizeLine) : wpAny (model prog w) A (collect (.ref I)) Q E s := by
  have hSf : s.heap.objs.size ∉ fp := fun hm => Nat.lt_irrefl _ (hfp _ hm)
  have hSI : s.heap.objs.size ≠ I := fun e => hSf (e ▸ hI)
  unfold collect
  refine wpAny_bind (wpAny_runValue (codeAny_builtin F.entry_proto_collect ?_))
  rw [Around.under_plainId F.plain_proto_collect _]
  show wpAny _ A.in1 (newList [] >>= fun l => again (.builtin "list.__iadd__" ⟨[l, .ref I], []⟩)) _ _ s
  refine wpAny_bind (wpAny_newObj_type ?_)
  refine wpAny_pure ⟨plainId_quiet F.plain_list_iadd _, codeAny_builtin F.entry_list_iadd ?_⟩
  rw [Around.under_plainId F.plain_list_iadd _]
  have hst₁ := W.frame 0 s (s.heap.push { cls := .type "list", data := .seq ([] : List Value).toArray }) s.toks hst (Nat.le_refl _) fun b _ o e => Heap.get?_push_of_some _ e
  have hS₁ : (s.heap.push { cls := .type "list", data := .seq ([] : List Value).toArray }).get? s.heap.objs.size = some { cls := .type "list", data := .seq ([] : List Value).toArray } := Heap.get?_push_size _ rfl
  have h1 : Builtin.List.listSameRef (.ref s.heap.objs.size) (.ref I) = false := by simp [Builtin.List.listSameRef, hSI]
  show wpAny _ A.in1 (Builtin.List.listExtendWith (.ref s.heap.objs.size) (.ref I) (.ref s.heap.objs.size)) _ _ _
  unfold Builtin.List.listExtendWith
  refine wpAny_bind (wpAny_typeOf (hT 0 _ hst₁) ?_)
  rw [if_neg (by rw [h1]; decide)]
  refine wpAny_bind (W.self 0 _ _ _ hst₁ ?_)
  refine wpAny_bind (wpAny_holding ?_)
  unfold Builtin.List.listLengthHint
  refine wpAny_bind (wpAny_specialOf (hT 0 _ hst₁) F.nolen_lriQ ?_)
  show wpAny _ A.in1 (specialOf (Value.ref I) (Str.ofString "__length_hint__") >>= _) _ _ _
  refine wpAny_bind (wpAny_specialOf (hT 0 _ hst₁) F.hint_lriQ ?_)
  (generalize hid : ("list_reverseiterator.__length_hint__" : String) = id0; (fail_if_success (clear hid id0)); wp_delta; rw [show splitId id0 = some ("list_reverseiterator", "__length_hint__") from by subst hid; decide +kernel]; subst hid)
  refine wpAny_bind (wpAny_isInstance (b := true) (hT 0 _ hst₁) (by rw [isSubtype_type]; kernel_rfl) ?_)
  refine wpAny_pure ?_
  rw [if_neg (by decide)]
  refine wpAny_pure ⟨plainId_quiet F.plain_extend_loop _, codeAny_extend_loopS W hn _ hSf _ n 0 _ _ _ rfl (Nat.zero_le _) hst₁ hS₁ (ItemsOf.nil P) fun s' acc' c' hm hS' hacc => ?_⟩
  show wpAny _ A (load s.heap.objs.size >>= _) _ _ s'
  refine wpAny_bind (wpAny_load hS' ?_)
  exact wpAny_pure (hQ s' acc' (Moved.drop_new (o := { cls := .type "list", data := .seq ([] : List Value).toArray }) (tk := s.toks) hm (Nat.le_refl _)) hacc)
theorem strs_of_values : ∀ {l : List (Str × Tok)} {ys : List Str}, (∀ (i : Nat) (v : Value), (strValues l)[i]? = some v → ∃ y t, ys[i]? = some y ∧ v = Value.str y t) → l.length = ys.length → l.map (·.1) = ys := by
  intro l ys h hl
  apply List.ext_getElem?
  intro i
  rw [List.getElem?_map]
  by_cases hi : i < l.length
  · have e : (strValues l)[i]? = some (Value.str (l[i]).1 (l[i]).2) := by
      unfold strValues
      rw [List.getElem?_map, List.getElem?_eq_getElem hi]
      rfl
    obtain ⟨y, t, h1, h2⟩ := h i _ e
    injection h2 with h3 h4
    rw [List.getElem?_eq_getElem hi, h1, ← h3]
    rfl
  · rw [List.getElem?_eq_none (by omega), List.getElem?_eq_none (by omega)]
    rfl
theorem join_rev {x : Str} {t : Tok} {I l : Addr} {its : List Value} {ys : List Str} {Q : Value → Shared → Prop} (hh : A.handled = none) (hne : l ≠ I) (hit : s.heap.IsRevIter I l ((its.length : Int) - 1)) (hl : s.heap.IsList l its.toArray) (hi : StrsAre its ys)
    (hsz : its.length ≤ sizeLine) (hok : JoinOk x ys.reverse = true) (h : ∀ s' t' k, Moved [I] (fun a b => a = b) s s' → Q (.str (Txt.join x ys.reverse) t') { s' with toks := k }) :
    wpAny (model prog w) A (call (.builtin "str.join") [.str x t, .ref I]) Q E s := by
  have hlen : its.length = ys.length := hi.length
  have W := walksS_rev (prog := prog) (w := w) (A := A.in1.in1) (show A.in1.in1.handled = none from hh) I l hne its.toArray
  have hst : 0 ≤ its.toArray.size ∧ s.heap.IsRevIter I l ((its.toArray.size : Int) - 1 - ((0 : Nat) : Int)) ∧ s.heap.IsList l its.toArray := ⟨Nat.zero_le _, by simpa using hit, hl⟩
  have hfp : ∀ b ∈ [I, l], b < s.heap.objs.size := fun b hb => by
    rcases List.mem_cons.mp hb with e | hb
    · obtain ⟨o, ho, _⟩ := hit; rw [e]; exact Heap.lt_size ho
    · obtain ⟨o, ho, _⟩ := hl; rw [List.mem_singleton.mp hb]; exact Heap.lt_size ho
  refine wpAny_call (codeAny_call_builtin F.slot_str_join.plain F.entry_str_join (F.slot_str_join.check _ _ _ _ _ _ _ _ (typeIs_str _ _ _) (F.args_str_join_2 _ _) ?_))
  rw [join_tree_other]
  refine wpAny_bind (wpAny_typeOf hit.typeIs ?_)
  show wpAny _ A.in1 ((pyIter (.ref I)).tryCatch _ >>= fun it => collect it >>= fun items => joinTail x items) _ _ s
  refine wpAny_bind (wpAny_tryCatch (W.of_in1.self 0 s _ _ hst ?_))
  refine wpAny_bind (collect_rev W (fun i s x => x.2.1.typeIs) hst hfp (by simp) (fun s' acc hm hacc => ?_) (by simpa using hsz))
  obtain ⟨l', hl'⟩ := exists_strValues acc.toList fun v hv => by
    obtain ⟨j, hj, rfl⟩ := Array.mem_iff_getElem.mp (Array.mem_toList_iff.mp hv)
    have hP := hacc.2 j _ (Array.getElem?_eq_getElem hj)
    have hP : its[its.length - 1 - j]? = some acc[j] := by simpa using hP
    have hb : its.length - 1 - j < ys.length := by have := (List.getElem?_eq_some_iff.mp hP).1; omega
    obtain ⟨t', e⟩ := hi.get _ _ (List.getElem?_eq_getElem hb)
    rw [hP] at e
    exact ⟨_, t', Option.some.inj e⟩
  have hmap : l'.map (·.1) = ys.reverse := by
    refine strs_of_values (fun i v hv => ?_) ?_
    · rw [hl'] at hv
      have hv : acc[i]? = some v := by simpa using hv
      have hP := hacc.2 i v hv
      have hP : its[its.length - 1 - i]? = some v := by simpa using hP
      have hi2 : i < its.length := by
        have := (Array.getElem?_eq_some_iff.mp hv).1
        have := hacc.1
        simp at this
        omega
      have hb : its.length - 1 - i < ys.length := by omega
      obtain ⟨t', e⟩ := hi.get _ _ (List.getElem?_eq_getElem hb)
      rw [hP] at e
      refine ⟨_, t', ?_, Option.some.inj e⟩
      rw [List.getElem?_reverse (by omega)]
      have e3 : ys.length - 1 - i = its.length - 1 - i := by omega
      rw [e3, List.getElem?_eq_getElem hb]
    · have h1 : (strValues l').length = acc.toList.length := by rw [hl']
      have h2 : (strValues l').length = l'.length := by unfold strValues; simp
      have h3 := hacc.1
      rw [List.length_reverse]
      simp at h1 h3
      omega
  rw [← hl']
  have hok' := hok
  rw [← hmap] at hok'
  unfold JoinOk at hok'
  rw [Bool.not_eq_true'] at hok'
  have g : Gives (joinTail x (strValues l')) (joinMade x l') := by
    have g0 := gives_joinTail x l' hok'
    cases l' with
    | nil => exact g0
    | cons p r => cases r with
      | nil => exact g0
      | cons q r' => exact g0
  refine g prog w A (wants Q E) s' (post_join l' ⟨joinFit_length hok', fun t' k => ?_⟩)
  rw [hmap]
  exact h s' t' k hm
end
section
variable {X : Cx} {o e : Expr} {to te : TE}
def cJR (K : PySem.W.Frag) (to te : TE) : TE := fun σ H Q => to σ H fun x H1 => match x with
  | .str sep => te σ H1 fun y H2 => match y with
    | .ref d => ∃ ys : List Str, SqL K H2 d (ys.map V.str) ∧ (ys.map (·.length)).sum + ys.length * sep.length ≤ 16777216 ∧ Q (.str (Txt.join sep ys.reverse)) H2
    | _ => False
  | _ => False
theorem sum_reverse : ∀ l : List Nat, l.reverse.sum = l.sum := by
  intro l
  induction l with
  | nil => rfl
  | cons a l ih => rw [List.reverse_cons, List.sum_append, ih]; simp; omega
theorem ce_joinrev {p p2 apos cpos : Pos} (hc : X.calm = true) (ho : PE X o to) (he : PE X e te) (hm : X.mg "reversed" = none) (hg : Gl X "reversed" := by rfl)
    (hbase : attributeBase o "join" X.env (eval o X.env) = eval o X.env := by rfl)
    (hfew : ((backTo cpos (starEach [.Call (.Name "reversed" p) [e] [] p2] X.env)).all (fun x => !x.1) && (backToKw cpos (keywordEach [] X.env)).all (fun x => x.1.isSome)
      && decide ([Expr.Call (.Name "reversed" p) [e] [] p2].length + ([] : List Keyword).length + (if ([] : List Keyword).isEmpty then 0 else 1) < 30)) = true := by rfl)
    (hline : (apos.endLine == cpos.line) = true := by rfl) (hs : starEach [.Call (.Name "reversed" p) [e] [] p2] X.env = (false, eval (.Call (.Name "reversed" p) [e] [] p2) X.env) :: starEach [] X.env := by rfl) (hplain : (backTo cpos (starEach [] X.env)).any (·.1) = false := by rfl)
    (hs2 : starEach [e] X.env = (false, eval e X.env) :: starEach [] X.env := by rfl) (hpl2 : (backTo p2 (starEach [] X.env)).any (·.1) = false := by rfl) :
    PE X (.Call (.Attribute o "join" apos) [.Call (.Name "reversed" p) [e] [] p2] [] cpos) (cJR X.K to te) := by
  intro pins s σ H Q I h
  refine wpAny_Call_method_late hbase hfew hline rfl (thn (ho pins s σ H _ I h) fun v s1 ⟨x, H1, I1, r1, q1⟩ => ?_)
  cases x with
  | str sep =>
    have ty : tyV X.K "str" (.str sep) H1 := rfl
    obtain ⟨h1, h2⟩ := tyV_is I1 r1 ty
    obtain ⟨tk, rfl⟩ := r1
    refine ⟨"str", "str.join", PySem.F.plainAttrs_str, PySem.F.slot_str_join, PySem.F.type_str_join, h1, h2, ?_⟩
    rw [hs]
    refine Calls.callWith_builtin (by show (false || (backTo cpos (starEach [] X.env)).any (·.1)) = false; rw [hplain] <;> rfl) (Calls.evalArgs_plain ?_)
    show wpAny _ _ (spliced ((false, eval (.Call (.Name "reversed" p) [e] [] p2) X.env) :: backTo cpos (starEach [] X.env))) _ _ s1
    refine Calls.spliced_cons ?_
    refine wpAny_Call_Name_kw (ld_blt I1 hg hm bo_reversed ?_ (by decide) (by decide))
    have hA : PA X [e] (tCons te tNil) := pa_cons he pa_nil hs2
    refine PyProof.Rows.callWith_type1 (thn (hA p2 pins s1 σ H1 (fun vs H2 => ∃ y, vs = [y] ∧ (match y with
      | .ref d => ∃ ys : List Str, SqL X.K H2 d (ys.map V.str) ∧ (ys.map (·.length)).sum + ys.length * sep.length ≤ 16777216 ∧ Q (.str (Txt.join sep ys.reverse)) H2
      | _ => False)) I1 ?_) fun us s2 ⟨vs, H2, I2, r2, y, e2, q2⟩ => ?_) hs2 hpl2
    · show te σ H1 _
      have q1' := q1
      have : (fun (y : V) (H2 : Hp) => match y with
        | .ref d => ∃ ys : List Str, SqL X.K H2 d (ys.map V.str) ∧ (ys.map (·.length)).sum + ys.length * sep.length ≤ 16777216 ∧ Q (.str (Txt.join sep ys.reverse)) H2
        | _ => False) = fun y H2 => ∃ y', [y] = [y'] ∧ (match y' with
        | .ref d => ∃ ys : List Str, SqL X.K H2 d (ys.map V.str) ∧ (ys.map (·.length)).sum + ys.length * sep.length ≤ 16777216 ∧ Q (.str (Txt.join sep ys.reverse)) H2
        | _ => False) := by
        funext y H2
        apply propext
        constructor
        · intro z; exact ⟨y, rfl, z⟩
        · rintro ⟨y', e, z⟩
          have : y = y' := by injection e
          subst this; exact z
      dsimp only at q1'
      rw [this] at q1'
      exact q1'
    · subst e2
      obtain ⟨u, rfl, ru⟩ := vals1 r2
      cases y with
      | ref d =>
        obtain ⟨ys, hd, hz, q⟩ := q2
        cases ru
        obtain ⟨its, rv, pl, hl⟩ := I2.list hd
        have hlen := rv.length
        rw [List.length_map] at hlen hl
        refine call_reversed_list pl.isList ?_
        have I3 : Inv X pins σ H2 { s2 with heap := s2.heap.push (revObj d ((its.toArray.size : Int) - 1)) } := I2.kept (t' := s2.toks) fun b ob q => Heap.get?_push_of_some _ q
        refine Calls.spliced_nil ?_
        have hne : d ≠ s2.heap.objs.size := by
          obtain ⟨ob, hob, _⟩ := pl.isList
          exact Nat.ne_of_lt (Heap.lt_size hob)
        have hfp : FpOk X pins H2 s2.heap.objs.size := I2.fpOk (Nat.le_refl _) I2.fresh
        refine join_rev (its := its) (ys := ys) (I.ok.hd hc) hne ⟨_, Heap.get?_push_size _ rfl, rfl, by simp [revObj]⟩ (pl.isList.at fun ob q => Heap.get?_push_of_some _ q) (strsAre_of rv) (by omega) (joinOk_of ?_) fun s' t' k hm => ?_
        · rw [List.map_reverse, sum_reverse, List.length_reverse]
          exact hz
        · refine ⟨.str _, H2, ?_, ⟨t', rfl⟩, q⟩
          have J : Inv X pins σ H2 { s2 with heap := s'.heap, toks := k } := by
            have z := I3.turned (it := s2.heap.objs.size) (h' := s'.heap) (t' := k) (fun b ob hb e => hm.heap b ob (by simpa using hb) e) hfp.1 hfp.2.1 hfp.2.2.2.1 hfp.2.2.2.2.1 hfp.2.2.2.2.2
            exact z
          have e1 : s'.gens = s2.gens := hm.gens.symm
          have e2 : s'.drawn = s2.drawn := hm.drawn
          have e3 : s'.os = s2.os := hm.os
          obtain ⟨sh, sg, sd, st, so⟩ := s'
          cases e1; cases e2; cases e3
          exact J
      | _ => exact q2.elim
  | _ => exact q1.elim
end
end L2
namespace L2
open PySem PySem.Spec PyProof.Rows
def Its (x : Str) : It := ⟨fun i _ => i < x.length, fun i H v H' => H' = H ∧ ∃ c, x.cps.toList[i]? = some c ∧ v = .str ⟨#[c]⟩, fun i _ => x.length ≤ i⟩
def strIt (ty : String) : Prop := ty = "str_ascii_iterator" ∨ ty = "str_iterator"
section
variable {X : Cx} {tg : Expr}
def iStr (tl : TE) : TI := fun σ H R => tl σ H fun v H1 => match v with | .str x => R (Its x) H1 | _ => False
end
end L2
namespace L2
open PySem PySem.Spec PyProof.Rows
section
variable {X : Cx}
theorem pe_globE {x : Str} {v : V} {pos : Pos} (hg : Gl X x) (h : ∃ u, X.mg x = some u ∧ RelV v u) (hd : (x == ("__debug__" : Str)) = false := by decide) : PE X (.Name x pos) (tC v) := by
  obtain ⟨u, hm, r⟩ := h
  exact pe_glob hg hm r hd
end
theorem hu20 {A : Around} {k : Nat} (hr : Room k A) : A.units + 20 < cLine := by
  have := hr.units
  omega
theorem Same.upd {H H' : Hp} {d : Addr} {o : HO} (h : Same H H') (hd : H' d = none) : Same H (upd H' d o) := fun b ob e => by
  have e' := h b ob e
  rw [upd_ne (ne_of_none e' hd)]
  exact e'
theorem Same.get {H H' : Hp} (h : Same H H') {b : Addr} {o : HO} (e : H b = some o) : H' b = some o := h b o e
end L2
namespace L2
open PySem PySem.Spec PyProof.Rows
section
variable {X : Cx} {a b c e o : Expr} {ta tb tc te to : TE} {p p2 pos : Pos} {es : List Expr} {t : TA}
theorem kcmp (K : PySem.W.Frag) {op : CmpOp} (hu : X.A.units + 20 < cLine) (ha : PE X a ta) (hb : PE X b tb) (hm : behindInMarks op b = false := by first | exact nomark _ | with_unfolding_all rfl) (hK : X.K = K := by rfl) : PE X (.Compare a [op] [b] pos) (cCmp K op ta tb) := by
  subst hK; exact ce_cmp hu ha hb hm
theorem ktcmp (K : PySem.W.Frag) {op : CmpOp} (hu : X.A.units + 20 < cLine) (ha : PE X a ta) (hb : PE X b tb) (hm : behindInMarks op b = false := by first | exact nomark _ | with_unfolding_all rfl) (hK : X.K = K := by rfl) : PT X (.Compare a [op] [b] pos) (cTest (cCmp K op ta tb)) := by
  subst hK; exact ct_cmp hu ha hb hm
theorem kix (K : PySem.W.Frag) (ha : PE X a ta) (hb : PE X b tb) (hs : PlainIx b := by exact fun _ _ => rfl) (hK : X.K = K := by rfl) : PE X (.Subscript a b pos) (cIx K ta tb) := by
  subst hK; exact ce_ix ha hb hs
theorem klen (K : PySem.W.Frag) (hK : X.K = K := by rfl) : CallR X (.builtin "len") (lenA K) := by
  subst hK; exact call_lenA
theorem kall (K : PySem.W.Frag) (hc : X.calm = true := by rfl) (hK : X.K = K := by rfl) : CallR X (.builtin "all") (allA K) := by
  subst hK; exact call_allA hc
theorem kpl (K : PySem.W.Frag) {tg l : Expr} {tl : TE} (hl : PE X l tl) (hK : X.K = K := by rfl) : PI X tg l (iList K tl) := by
  subst hK; exact pi_list hl
theorem kgt (K : PySem.W.Frag) {n : Nat} {k : Nat} {t : TGs} (h : PGs X es t) (hc : X.calm = true := by rfl) (hn : (assignEach es X.env).length = n := by rfl) (hst : List.findIdx? (fun x => x.1) (assignEach es X.env) = none := by rfl) (hK : X.K = K := by rfl) : PG X (.Tuple es k pos) (gTup K n t) := by
  subst hK; exact pg_tup hc h hn hst
theorem kg {x : Str} {v : V} (h : ∃ u, X.mg x = some u ∧ RelV v u) (hg : Gl X x := by rfl) (hd : (x == ("__debug__" : Str)) = false := by decide) : PE X (.Name x pos) (tC v) := pe_globE hg h hd
theorem kis (T : BT) {n : Str} (hm : X.mg "isinstance" = none) (hmT : X.mg n = none) (hv : bootBuiltins n = some (.type T.s)) (ha : PE X a ta) (hg : Gl X "isinstance" := by rfl) (hgT : Gl X n := by rfl) (hn : n ≠ "__name__" := by decide) (hdb : (n == ("__debug__" : Str)) = false := by decide)
    (he : starEach [a, .Name n p2] X.env = (false, eval a X.env) :: starEach [.Name n p2] X.env := by rfl) (he2 : starEach [.Name n p2] X.env = (false, eval (.Name n p2) X.env) :: starEach [] X.env := by rfl) (hpl : (backTo pos (starEach [.Name n p2] X.env)).any (·.1) = false := by rfl) :
    PE X (.Call (.Name "isinstance" p) [a, .Name n p2] [] pos) (cIs T ta) := ce_is T ha hg hm hgT hmT hv hn hdb he he2 hpl
theorem kr1 {tg : Expr} {ta : TA} (hm : X.mg "range" = none) (ha : PA X [a] ta) (hg : Gl X "range" := by rfl) (hs : starEach [a] X.env = [(false, eval a X.env)] := by rfl) : PI X tg (.Call (.Name "range" p) [a] [] pos) (iRng1 ta) := pi_range1 hg hm ha hs
theorem kjr (K : PySem.W.Frag) {apos cpos : Pos} (hm : X.mg "reversed" = none) (ho : PE X o to) (he : PE X e te) (hc : X.calm = true := by rfl) (hg : Gl X "reversed" := by rfl)
    (hbase : attributeBase o "join" X.env (eval o X.env) = eval o X.env := by rfl)
    (hfew : ((backTo cpos (starEach [.Call (.Name "reversed" p) [e] [] p2] X.env)).all (fun x => !x.1) && (backToKw cpos (keywordEach [] X.env)).all (fun x => x.1.isSome)
      && decide ([Expr.Call (.Name "reversed" p) [e] [] p2].length + ([] : List Keyword).length + (if ([] : List Keyword).isEmpty then 0 else 1) < 30)) = true := by rfl)
    (hline : (apos.endLine == cpos.line) = true := by rfl) (hs : starEach [.Call (.Name "reversed" p) [e] [] p2] X.env = (false, eval (.Call (.Name "reversed" p) [e] [] p2) X.env) :: starEach [] X.env := by rfl) (hplain : (backTo cpos (starEach [] X.env)).any (·.1) = false := by rfl)
    (hs2 : starEach [e] X.env = (false, eval e X.env) :: starEach [] X.env := by rfl) (hpl2 : (backTo p2 (starEach [] X.env)).any (·.1) = false := by rfl) (hK : X.K = K := by rfl) :
    PE X (.Call (.Attribute o "join" apos) [.Call (.Name "reversed" p) [e] [] p2] [] cpos) (cJR K to te) := by
  subst hK; exact ce_joinrev hc ho he hm hg hbase hfew hline hs hplain hs2 hpl2
theorem cscope {N : List Str} {src : List (Option Nat)} {scope : Scope} (dsc : Scope) (XN : List Str) (h : compOk dsc XN N src scope = true := by decide +kernel) (he : X.env.scope = dsc := by rfl) (hN : X.N = XN := by rfl) : CompScope X N src scope := CompScope.of he hN h
theorem pg_name' {i : Nat} {x : Str} (N : List Str) (hN : N.Nodup := by decide +kernel) (hi : X.N[i]? = some x := by rfl) (hx : Loc X.env.scope x := by first | exact Or.inl rfl | exact Or.inr rfl) (hf : X.fn x = true ∨ X.env.scope.names.lookup x = some .local := by first | exact .inl rfl | exact .inr rfl) (hNX : X.N = N := by rfl) : PG X (.Name x pos) (gName i) :=
  pg_name (hNX ▸ hN) hi hx hf
theorem kcomp {N : List Str} {src : List (Option Nat)} {scope : Scope} {tg iter : Expr} {ifs : List Expr} {wi : TI} {g : TG} {tt : TT} (S : CompScope X N src scope) (hi : PI X tg iter wi) (hg : ∀ s H ex, PG (cxC X scope N s H ex) tg g) (ht : ∀ s H ex, PIfs (cxC X scope N s H ex) ifs tt) (he : ∀ s H ex, PE (cxC X scope N s H ex) e te)
    (hc : X.calm = true := by rfl) (hs : ∀ x, foldedSetIterable iter X.env x = pure x := by intro _; rfl) : PE X (.ListComp e [⟨tg, iter, ifs, 0⟩] scope pos) (tComp wi g tt te src) := pe_comp hc S hi hg ht he hs
end
end L2
namespace L2
open PySem PySem.Spec PyProof.Rows
theorem r_eq_int {K : PySem.W.Frag} {i j : Int} {H : Hp} {Q : VK} : (cmpA K .Eq (.int i) (.int j) H Q) = (Q (.bl (decide (i = j))) H) := rfl
theorem r_ne_int {K : PySem.W.Frag} {i j : Int} {H : Hp} {Q : VK} : (cmpA K .NotEq (.int i) (.int j) H Q) = (Q (.bl (!decide (i = j))) H) := rfl
theorem r_eq_str {K : PySem.W.Frag} {i j : Str} {H : Hp} {Q : VK} : (cmpA K .Eq (.str i) (.str j) H Q) = (Q (.bl (decide (i = j))) H) := rfl
theorem r_ne_str {K : PySem.W.Frag} {i j : Str} {H : Hp} {Q : VK} : (cmpA K .NotEq (.str i) (.str j) H Q) = (Q (.bl (!decide (i = j))) H) := rfl
theorem r_eq_bl {K : PySem.W.Frag} {i j : Bool} {H : Hp} {Q : VK} : (cmpA K .Eq (.bl i) (.bl j) H Q) = (Q (.bl (decide (i = j))) H) := rfl
theorem r_ne_bl {K : PySem.W.Frag} {i j : Bool} {H : Hp} {Q : VK} : (cmpA K .NotEq (.bl i) (.bl j) H Q) = (Q (.bl (!decide (i = j))) H) := rfl
theorem r_eq_nn {K : PySem.W.Frag}  {H : Hp} {Q : VK} : (cmpA K .Eq .non .non H Q) = (Q (.bl true) H) := rfl
theorem r_ne_nn {K : PySem.W.Frag}  {H : Hp} {Q : VK} : (cmpA K .NotEq .non .non H Q) = (Q (.bl (!true)) H) := rfl
theorem r_eq_int_str {K : PySem.W.Frag} {i : Int} {j : Str} {H : Hp} {Q : VK} : (cmpA K .Eq (.int i) (.str j) H Q) = (Q (.bl false) H) := rfl
theorem r_ne_int_str {K : PySem.W.Frag} {i : Int} {j : Str} {H : Hp} {Q : VK} : (cmpA K .NotEq (.int i) (.str j) H Q) = (Q (.bl (!false)) H) := rfl
theorem r_eq_int_non {K : PySem.W.Frag} {i : Int}  {H : Hp} {Q : VK} : (cmpA K .Eq (.int i) .non H Q) = (Q (.bl false) H) := rfl
theorem r_ne_int_non {K : PySem.W.Frag} {i : Int}  {H : Hp} {Q : VK} : (cmpA K .NotEq (.int i) .non H Q) = (Q (.bl (!false)) H) := rfl
theorem r_eq_str_int {K : PySem.W.Frag} {i : Str} {j : Int} {H : Hp} {Q : VK} : (cmpA K .Eq (.str i) (.int j) H Q) = (Q (.bl false) H) := rfl
theorem r_ne_str_int {K : PySem.W.Frag} {i : Str} {j : Int} {H : Hp} {Q : VK} : (cmpA K .NotEq (.str i) (.int j) H Q) = (Q (.bl (!false)) H) := rfl
theorem r_eq_str_bl {K : PySem.W.Frag} {i : Str} {j : Bool} {H : Hp} {Q : VK} : (cmpA K .Eq (.str i) (.bl j) H Q) = (Q (.bl false) H) := rfl
theorem r_ne_str_bl {K : PySem.W.Frag} {i : Str} {j : Bool} {H : Hp} {Q : VK} : (cmpA K .NotEq (.str i) (.bl j) H Q) = (Q (.bl (!false)) H) := rfl
theorem r_eq_str_non {K : PySem.W.Frag} {i : Str}  {H : Hp} {Q : VK} : (cmpA K .Eq (.str i) .non H Q) = (Q (.bl false) H) := rfl
theorem r_ne_str_non {K : PySem.W.Frag} {i : Str}  {H : Hp} {Q : VK} : (cmpA K .NotEq (.str i) .non H Q) = (Q (.bl (!false)) H) := rfl
theorem r_eq_bl_str {K : PySem.W.Frag} {i : Bool} {j : Str} {H : Hp} {Q : VK} : (cmpA K .Eq (.bl i) (.str j) H Q) = (Q (.bl false) H) := rfl
theorem r_ne_bl_str {K : PySem.W.Frag} {i : Bool} {j : Str} {H : Hp} {Q : VK} : (cmpA K .NotEq (.bl i) (.str j) H Q) = (Q (.bl (!false)) H) := rfl
theorem r_eq_bl_non {K : PySem.W.Frag} {i : Bool}  {H : Hp} {Q : VK} : (cmpA K .Eq (.bl i) .non H Q) = (Q (.bl false) H) := rfl
theorem r_ne_bl_non {K : PySem.W.Frag} {i : Bool}  {H : Hp} {Q : VK} : (cmpA K .NotEq (.bl i) .non H Q) = (Q (.bl (!false)) H) := rfl
theorem r_eq_non_int {K : PySem.W.Frag}  {j : Int} {H : Hp} {Q : VK} : (cmpA K .Eq .non (.int j) H Q) = (Q (.bl false) H) := rfl
theorem r_ne_non_int {K : PySem.W.Frag}  {j : Int} {H : Hp} {Q : VK} : (cmpA K .NotEq .non (.int j) H Q) = (Q (.bl (!false)) H) := rfl
theorem r_eq_non_str {K : PySem.W.Frag}  {j : Str} {H : Hp} {Q : VK} : (cmpA K .Eq .non (.str j) H Q) = (Q (.bl false) H) := rfl
theorem r_ne_non_str {K : PySem.W.Frag}  {j : Str} {H : Hp} {Q : VK} : (cmpA K .NotEq .non (.str j) H Q) = (Q (.bl (!false)) H) := rfl
theorem r_eq_non_bl {K : PySem.W.Frag}  {j : Bool} {H : Hp} {Q : VK} : (cmpA K .Eq .non (.bl j) H Q) = (Q (.bl false) H) := rfl
theorem r_ne_non_bl {K : PySem.W.Frag}  {j : Bool} {H : Hp} {Q : VK} : (cmpA K .NotEq .non (.bl j) H Q) = (Q (.bl (!false)) H) := rfl
theorem r_eq_rr {K : PySem.W.Frag} {a b : Addr} {H : Hp} {Q : VK} : (cmpA K .Eq (.ref a) (.ref b) H Q) = (∃ k, EqT K H 20 (.ref a) (.ref b) k ∧ Q (.bl k) H) := rfl
theorem r_ne_rr {K : PySem.W.Frag} {a b : Addr} {H : Hp} {Q : VK} : (cmpA K .NotEq (.ref a) (.ref b) H Q) = (∃ k, EqT K H 20 (.ref a) (.ref b) k ∧ Q (.bl (!k)) H) := rfl
theorem r_lt_int {K : PySem.W.Frag} {i j : Int} {H : Hp} {Q : VK} : (cmpA K .Lt (.int i) (.int j) H Q) = (Q (.bl (decide (i < j))) H) := rfl
theorem r_lte_int {K : PySem.W.Frag} {i j : Int} {H : Hp} {Q : VK} : (cmpA K .LtE (.int i) (.int j) H Q) = (Q (.bl (decide (i ≤ j))) H) := rfl
theorem r_gt_int {K : PySem.W.Frag} {i j : Int} {H : Hp} {Q : VK} : (cmpA K .Gt (.int i) (.int j) H Q) = (Q (.bl (decide (j < i))) H) := rfl
theorem r_gte_int {K : PySem.W.Frag} {i j : Int} {H : Hp} {Q : VK} : (cmpA K .GtE (.int i) (.int j) H Q) = (Q (.bl (decide (j ≤ i))) H) := rfl
theorem r_lt_str {K : PySem.W.Frag} {i j : Str} {H : Hp} {Q : VK} : (cmpA K .Lt (.str i) (.str j) H Q) = (Q (.bl (decide (i.cps.toList < j.cps.toList))) H) := rfl
theorem r_lte_str {K : PySem.W.Frag} {i j : Str} {H : Hp} {Q : VK} : (cmpA K .LtE (.str i) (.str j) H Q) = (Q (.bl (!decide (j.cps.toList < i.cps.toList))) H) := rfl
theorem r_in_str {K : PySem.W.Frag} {i j : Str} {H : Hp} {Q : VK} : (cmpA K .In (.str i) (.str j) H Q) = (Q (.bl (!(Builtin.Str.occurrences j i 0 j.length 1).isEmpty)) H) := rfl
theorem r_notin_str {K : PySem.W.Frag} {i j : Str} {H : Hp} {Q : VK} : (cmpA K .NotIn (.str i) (.str j) H Q) = (Q (.bl (!(!(Builtin.Str.occurrences j i 0 j.length 1).isEmpty))) H) := rfl
theorem r_in_int_ref {K : PySem.W.Frag} {i : Int} {d : Addr} {H : Hp} {Q : VK} : (cmpA K .In (.int i) (.ref d) H Q) = (rIn K false (.int i) (.ref d) H Q) := rfl
theorem r_notin_int_ref {K : PySem.W.Frag} {i : Int} {d : Addr} {H : Hp} {Q : VK} : (cmpA K .NotIn (.int i) (.ref d) H Q) = (rIn K true (.int i) (.ref d) H Q) := rfl
theorem r_is_int {K : PySem.W.Frag} {i : Int} {H : Hp} {Q : VK} : (cmpA K .Is (.int i) .non H Q) = (Q (.bl false) H) := rfl
theorem r_isnot_int {K : PySem.W.Frag} {i : Int} {H : Hp} {Q : VK} : (cmpA K .IsNot (.int i) .non H Q) = (Q (.bl true) H) := rfl
theorem r_in_str_ref {K : PySem.W.Frag} {i : Str} {d : Addr} {H : Hp} {Q : VK} : (cmpA K .In (.str i) (.ref d) H Q) = (rIn K false (.str i) (.ref d) H Q) := rfl
theorem r_notin_str_ref {K : PySem.W.Frag} {i : Str} {d : Addr} {H : Hp} {Q : VK} : (cmpA K .NotIn (.str i) (.ref d) H Q) = (rIn K true (.str i) (.ref d) H Q) := rfl
theorem r_is_str {K : PySem.W.Frag} {i : Str} {H : Hp} {Q : VK} : (cmpA K .Is (.str i) .non H Q) = (Q (.bl false) H) := rfl
theorem r_isnot_str {K : PySem.W.Frag} {i : Str} {H : Hp} {Q : VK} : (cmpA K .IsNot (.str i) .non H Q) = (Q (.bl true) H) := rfl
theorem r_in_bl_ref {K : PySem.W.Frag} {i : Bool} {d : Addr} {H : Hp} {Q : VK} : (cmpA K .In (.bl i) (.ref d) H Q) = (rIn K false (.bl i) (.ref d) H Q) := rfl
theorem r_notin_bl_ref {K : PySem.W.Frag} {i : Bool} {d : Addr} {H : Hp} {Q : VK} : (cmpA K .NotIn (.bl i) (.ref d) H Q) = (rIn K true (.bl i) (.ref d) H Q) := rfl
theorem r_is_bl {K : PySem.W.Frag} {i : Bool} {H : Hp} {Q : VK} : (cmpA K .Is (.bl i) .non H Q) = (Q (.bl false) H) := rfl
theorem r_isnot_bl {K : PySem.W.Frag} {i : Bool} {H : Hp} {Q : VK} : (cmpA K .IsNot (.bl i) .non H Q) = (Q (.bl true) H) := rfl
theorem r_in_non_ref {K : PySem.W.Frag}  {d : Addr} {H : Hp} {Q : VK} : (cmpA K .In .non (.ref d) H Q) = (rIn K false .non (.ref d) H Q) := rfl
theorem r_notin_non_ref {K : PySem.W.Frag}  {d : Addr} {H : Hp} {Q : VK} : (cmpA K .NotIn .non (.ref d) H Q) = (rIn K true .non (.ref d) H Q) := rfl
theorem r_is_non {K : PySem.W.Frag}  {H : Hp} {Q : VK} : (cmpA K .Is .non .non H Q) = (Q (.bl true) H) := rfl
theorem r_isnot_non {K : PySem.W.Frag}  {H : Hp} {Q : VK} : (cmpA K .IsNot .non .non H Q) = (Q (.bl false) H) := rfl
theorem r_in_ref_ref {K : PySem.W.Frag} {i : Addr} {d : Addr} {H : Hp} {Q : VK} : (cmpA K .In (.ref i) (.ref d) H Q) = (rIn K false (.ref i) (.ref d) H Q) := rfl
theorem r_notin_ref_ref {K : PySem.W.Frag} {i : Addr} {d : Addr} {H : Hp} {Q : VK} : (cmpA K .NotIn (.ref i) (.ref d) H Q) = (rIn K true (.ref i) (.ref d) H Q) := rfl
theorem r_is_ref {K : PySem.W.Frag} {i : Addr} {H : Hp} {Q : VK} : (cmpA K .Is (.ref i) .non H Q) = (Q (.bl false) H) := rfl
theorem r_isnot_ref {K : PySem.W.Frag} {i : Addr} {H : Hp} {Q : VK} : (cmpA K .IsNot (.ref i) .non H Q) = (Q (.bl true) H) := rfl
theorem r_add {i j : Int} {H : Hp} {Q : VK} : (binA .Add (.int i) (.int j) H Q) = (Q (.int (i + j)) H) := rfl
theorem r_adds {i j : Str} {H : Hp} {Q : VK} : (binA .Add (.str i) (.str j) H Q) = (i.length + j.length ≤ sizeLine ∧ Q (.str (i ++ j)) H) := rfl
theorem r_addr {a b : Addr} {H : Hp} {Q : VK} : (binA .Add (.ref a) (.ref b) H Q) = (rCat (.ref a) (.ref b) H Q) := rfl
theorem r_sub {i j : Int} {H : Hp} {Q : VK} : (binA .Sub (.int i) (.int j) H Q) = (Q (.int (i - j)) H) := rfl
theorem r_mul {i j : Int} {H : Hp} {Q : VK} : (binA .Mult (.int i) (.int j) H Q) = (CMul i j ∧ Q (.int (i * j)) H) := rfl
theorem r_fdiv {i j : Int} {H : Hp} {Q : VK} : (binA .FloorDiv (.int i) (.int j) H Q) = (CDiv i j ∧ Q (.int (i / j)) H) := rfl
theorem r_mod {i j : Int} {H : Hp} {Q : VK} : (binA .Mod (.int i) (.int j) H Q) = (0 < j ∧ Q (.int (i % j)) H) := rfl
theorem r_pow {i j : Int} {H : Hp} {Q : VK} : (binA .Pow (.int i) (.int j) H Q) = (CPow i j ∧ Q (.int (i ^ j.toNat)) H) := rfl
theorem r_ixs {K : PySem.W.Frag} {z : Str} {i : Int} {H : Hp} {Q : VK} : (ixA K (.str z) (.int i) H Q) = (z.length ≤ sizeLine ∧ ∃ c, atI z.cps.toList i = some c ∧ Q (.str ⟨#[c]⟩) H) := rfl
theorem r_ixr {K : PySem.W.Frag} {d : Addr} {i : Int} {H : Hp} {Q : VK} : (ixA K (.ref d) (.int i) H Q) = (∃ xs v, (SqL K H d xs ∨ SqT K H d xs) ∧ atI xs i = some v ∧ Q v H) := rfl
theorem r_sls {K : PySem.W.Frag} {z : Str} {lo hi : Option Int} {H : Hp} {Q : VK} : (slA K (.str z) lo hi H Q) = (z.length ≤ sizeLine ∧ Q (.str (cutS z lo hi)) H) := rfl
theorem r_slr {K : PySem.W.Frag} {d : Addr} {lo hi : Option Int} {H : Hp} {Q : VK} : (slA K (.ref d) lo hi H Q) = (∃ xs, SqL K H d xs ∧ ∀ q, H q = none → Q (.ref q) (upd H q (.lst (cutV xs lo hi)))) := rfl
theorem r_lens {K : PySem.W.Frag} {z : Str} {H : Hp} {Q : VK} : (lenA K [.str z] H Q) = (z.length ≤ sizeLine ∧ Q (.int z.length) H) := rfl
theorem r_lenr {K : PySem.W.Frag} {d : Addr} {H : Hp} {Q : VK} : (lenA K [.ref d] H Q) = (∃ ys, (SqL K H d ys ∨ SqT K H d ys) ∧ Q (.int ys.length) H) := rfl
theorem r_min {i j : Int} {H : Hp} {Q : VK} : (minA [.int i, .int j] H Q) = (Q (.int (if j < i then j else i)) H) := rfl
theorem r_str {i : Int} {H : Hp} {Q : VK} : (strA [.int i] H Q) = (i.natAbs.log2 < 1920 ∧ Q (.str (toString i)) H) := rfl
theorem r_ints {z : Str} {H : Hp} {Q : VK} : (intA [.str z] H Q) = (∃ n, PySem.intText? z = some n ∧ z.length ≤ 640 ∧ Q (.int n) H) := rfl
theorem r_intb {k : Bool} {H : Hp} {Q : VK} : (intA [.bl k] H Q) = (Q (.int (if k then 1 else 0)) H) := rfl
theorem r_all {K : PySem.W.Frag} {d : Addr} {H : Hp} {Q : VK} : (allA K [.ref d] H Q) = (∃ ks : List Bool, SqL K H d (ks.map V.bl) ∧ Q (.bl (ks.all id)) H) := rfl
theorem r_sw {a b : Str} {H : Hp} {Q : VK} : (swA (.str a) [.str b] H Q) = (Q (.bl (b.cps.toList.isPrefixOf a.cps.toList)) H) := rfl
theorem r_join {K : PySem.W.Frag} {a : Str} {d : Addr} {H : Hp} {Q : VK} : (joinA K (.str a) [.ref d] H Q) = (∃ ys : List Str, SqL K H d (ys.map V.str) ∧ (ys.map (·.length)).sum + ys.length * a.length ≤ 16777216 ∧ Q (.str (Txt.join a ys)) H) := rfl
theorem r_up {a : Str} {H : Hp} {Q : VK} : (upA (.str a) [] H Q) = (a.length ≤ sizeLine ∧ (∀ c ∈ a.cps.toList, c < 128) ∧ Q (.str ⟨a.cps.map up1⟩) H) := rfl
theorem r_isa_non {T : BT} {H : Hp} {Q : VK} : (isA T .non H Q) = (Q (.bl false) H) := rfl
theorem r_isa_bl {T : BT} {b : Bool} {H : Hp} {Q : VK} : (isA T (.bl b) H Q) = (Q (.bl (isSub .bool T)) H) := rfl
theorem r_isa_int {T : BT} {b : Int} {H : Hp} {Q : VK} : (isA T (.int b) H Q) = (Q (.bl (isSub .int T)) H) := rfl
theorem r_isa_str {T : BT} {b : Str} {H : Hp} {Q : VK} : (isA T (.str b) H Q) = (Q (.bl (isSub .str T)) H) := rfl
theorem r_b {k : Bool} {Q : Bool → Hp → Prop} {H : Hp} : bOnly Q (.bl k) H = Q k H := rfl
end L2
namespace L2
open PySem PySem.Spec PyProof.Rows
def plainE : Expr → Bool
  | .Starred _ _ => false
  | _ => true
theorem star_of {e : Expr} {es : List Expr} {env : Env} (h : plainE e = true) : starEach (e :: es) env = (false, eval e env) :: starEach es env := by
  cases e <;> first | rfl | cases h
theorem back_of {pos : Pos} {env : Env} : ∀ {es : List Expr}, es.all plainE = true → (backTo pos (starEach es env)).any (·.1) = false
  | [], _ => rfl
  | e :: es, h => by
    rw [List.all_cons, Bool.and_eq_true] at h
    rw [star_of h.1]
    show (false || (backTo pos (starEach es env)).any (·.1)) = false
    rw [back_of h.2]
    rfl
theorem all_of {pos : Pos} {env : Env} : ∀ {es : List Expr}, es.all plainE = true → (backTo pos (starEach es env)).all (fun x => !x.1) = true
  | [], _ => rfl
  | e :: es, h => by
    rw [List.all_cons, Bool.and_eq_true] at h
    rw [star_of h.1]
    show (!false && (backTo pos (starEach es env)).all (fun x => !x.1)) = true
    rw [all_of h.2]
    rfl
section
variable {X : Cx} {a b c e o : Expr} {ta tb tc te to : TE} {p p2 pos : Pos} {es : List Expr} {t : TA}
theorem pac (ha : PE X e te) (hr : PA X es t) (h : plainE e = true := by rfl) : PA X (e :: es) (tCons te t) := pa_cons ha hr (star_of h)
theorem kcall {name : Str} {ps : List Str} {k j : Nat} {sp : Sp} (C : Cal X.prog X.w X.K X.mg X.base name ps k sp) (hr : Room j X.A) (ha : PA X (e :: es) t) (hkj : k ≤ j := by decide) (hp : (e :: es).all plainE = true := by rfl) (hg : Gl X name := by rfl) (hdb : (name == ("__debug__" : Str)) = false := by decide) : PE X (.Call (.Name name p) (e :: es) [] pos) (cCall sp t) := by
  have hp' := hp
  rw [List.all_cons, Bool.and_eq_true] at hp'
  exact ce_call C hr hkj ha hg hdb (star_of hp'.1) (back_of hp'.2)
theorem kB {id : String} {x : Str} {r : List V → Hp → VK → Prop} (hc : CallR X (.builtin id) r) (hv : bootBuiltins x = some (.builtin id)) (hm : X.mg x = none) (ha : PA X (e :: es) t) (hp : (e :: es).all plainE = true := by rfl) (hg : Gl X x := by rfl) (hn : x ≠ "__name__" := by decide) (hdb : (x == ("__debug__" : Str)) = false := by decide) : PE X (.Call (.Name x p) (e :: es) [] pos) (cB r t) := by
  have hp' := hp
  rw [List.all_cons, Bool.and_eq_true] at hp'
  exact ce_B hc hv hm ha hg hn hdb (star_of hp'.1) (back_of hp'.2)
theorem kTy {T : String} {x : Str} {r : List V → Hp → VK → Prop} (hc : CallR X (.type T) r) (hv : bootBuiltins x = some (.type T)) (hm : X.mg x = none) (ha : PA X (e :: es) t) (hp : (e :: es).all plainE = true := by rfl) (hg : Gl X x := by rfl) (hn : x ≠ "__name__" := by decide) (hdb : (x == ("__debug__" : Str)) = false := by decide) : PE X (.Call (.Name x p) (e :: es) [] pos) (cB r t) := by
  have hp' := hp
  rw [List.all_cons, Bool.and_eq_true] at hp'
  exact ce_Ty hc hv hm ha hg hn hdb (star_of hp'.1) (back_of hp'.2)
end
end L2
namespace L2
open PySem
theorem tSeq_of {t u : TS} {D : Ends} {σ : St} {H : Hp} (P : St → Hp → Prop) (h : ∀ K : St → Hp → Prop, (∀ σ' H', P σ' H' → K σ' H') → t { D with nx := K } σ H) (h2 : ∀ σ' H', P σ' H' → u D σ' H') : tSeq t u D σ H := h (u D) h2
theorem st_asg {te : TE} {i : Nat} {u : TS} {D : Ends} {σ : St} {H : Hp} (P : V → Hp → Prop) (h : ∀ Q : VK, (∀ v H', P v H' → Q v H') → te σ H Q) (h2 : ∀ v H', P v H' → u D (σ.set i (some v)) H') : tSeq (tAsg te (gName i)) u D σ H := h _ h2
theorem st_ifH {c : TT} {t u : TS} {D : Ends} {σ : St} {H : Hp} (P : Bool → Hp → Prop) (hc : ∀ Q : Bool → Hp → Prop, (∀ b H', P b H' → Q b H') → c σ H Q) (h1 : ∀ H', P true H' → t { D with nx := u D } σ H') (h2 : ∀ H', P false H' → u D σ H') : tSeq (tIfS c t tNext) u D σ H := by
  refine hc _ fun b H' p => ?_
  cases b with
  | true => exact iteT (h1 H' p)
  | false => exact iteF (h2 H' p)
end L2
namespace L2
open PySem
def constVs : List Expr → Option (List V)
  | [] => some []
  | .Constant (.int i) _ _ :: r => (constVs r).map (V.int i :: ·)
  | .Constant (.str x) _ _ :: r => (constVs r).map (V.str x :: ·)
  | .Constant (.bool b) _ _ :: r => (constVs r).map (V.bl b :: ·)
  | .Constant .none _ _ :: r => (constVs r).map (V.non :: ·)
  | _ => none
def cCs (vs : List V) : TA := fun _ H Q => Q vs H
theorem pa_consts {X : Cx} : ∀ {es : List Expr} {vs : List V}, constVs es = some vs → PA X es (cCs vs) := by
  intro es
  induction es with
  | nil => intro vs h; cases h; exact pa_nil
  | cons e r ih =>
    intro vs h
    unfold constVs at h
    split at h
    · rename_i e1; cases e1
    · rename_i e1
      cases e1
      obtain ⟨ws, h1, h2⟩ := Option.map_eq_some_iff.mp h
      subst h2
      exact pac pe_int (ih h1)
    · rename_i e1
      cases e1
      obtain ⟨ws, h1, h2⟩ := Option.map_eq_some_iff.mp h
      subst h2
      exact pac pe_str (ih h1)
    · rename_i e1
      cases e1
      obtain ⟨ws, h1, h2⟩ := Option.map_eq_some_iff.mp h
      subst h2
      exact pac pe_bl (ih h1)
    · rename_i e1
      cases e1
      obtain ⟨ws, h1, h2⟩ := Option.map_eq_some_iff.mp h
      subst h2
      exact pac pe_non (ih h1)
    · cases h
end L2
namespace L2
open PySem
theorem comp_inv {g : TG} {tt : TT} {te : TE} {src : List (Option Nat)} {σ : St} {Q : VK} {J : It} {H1 : Hp} (n : Nat) (N : Nat → List V → St → Hp → Prop) (hn : n ≤ sizeLine) (hlen : ∀ i ys σ H, N i ys σ H → ys.length ≤ i)
    (hgo : ∀ i ys σ H, N i ys σ H → i < n → J.go i H) (hstop : ∀ ys σ H, N n ys σ H → J.stop n H) (h0 : N 0 [] (subSt src σ) H1)
    (hturn : ∀ i ys σ' H' x H2, i < n → N i ys σ' H' → J.yld i H' x H2 → ∀ (Kt : V → St → Hp → Prop) (Kf : St → Hp → Prop), (∀ v σ3 H5, N (i + 1) (ys ++ [v]) σ3 H5 → Kt v σ3 H5) → (∀ σ3 H4, N (i + 1) ys σ3 H4 → Kf σ3 H4) →
      g x σ' H2 fun σ3 H3 => tt σ3 H3 fun b H4 => if b = true then te σ3 H4 fun v H5 => Kt v σ3 H5 else Kf σ3 H4)
    (hQ : ∀ ys σ' H' d, N n ys σ' H' → H' d = none → Q (.ref d) (upd H' d (.lst ys))) : compWant g tt te src σ Q J H1 := by
  refine ⟨fun i m ys σ' H' => m = n - i ∧ i ≤ n ∧ N i ys σ' H', ⟨n, by simp, Nat.zero_le _, h0⟩, ?_⟩
  rintro i m ys σ' H' ⟨rfl, hi, hN⟩
  by_cases hlt : i < n
  · refine .inr ⟨hgo i ys σ' H' hN hlt, ?_, fun x H2 y => ?_⟩
    · have := hlen i ys σ' H' hN
      omega
    · exact hturn i ys σ' H' x H2 hlt hN y _ _ (fun v σ3 H5 h => ⟨n - (i + 1), by omega, rfl, hlt, h⟩) (fun σ3 H4 h => ⟨n - (i + 1), by omega, rfl, hlt, h⟩)
  · have e : i = n := by omega
    subst e
    exact .inl ⟨hstop ys σ' H' hN, fun d hd => hQ ys σ' H' d hN hd⟩
end L2
namespace L2
open PySem
theorem for_lstP {K : PySem.W.Frag} {tl : TE} {g : TG} {tb : TS} {D : Ends} {σ : St} {H : Hp} (P : V → Hp → Prop) (htl : ∀ Q : VK, (∀ v H', P v H' → Q v H') → tl σ H Q)
    (h : ∀ v H', P v H' → ∃ d xs, v = .ref d ∧ SqL K H' d xs ∧ ∃ Pv : Nat → St → Hp → Prop, Pv 0 σ H' ∧ (∀ i σ H, i ≤ xs.length → Pv i σ H → SqL K H d xs) ∧
      (∀ (i : Nat) x σ H, xs[i]? = some x → Pv i σ H → g x σ H fun σ2 H2 => tb { D with nx := Pv (i + 1), ct := Pv (i + 1), bk := D.nx } σ2 H2) ∧ (∀ σ H, Pv xs.length σ H → D.nx σ H)) : tFor (iList K tl) g tb D σ H :=
  htl _ fun v H' p => by
    obtain ⟨d, xs, rfl, hq, Pv, a, b, c, e⟩ := h v H' p
    exact ⟨d, rfl, ⟨xs, hq⟩, for_list Pv a b c e⟩
end L2
namespace L2
open PySem PySem.Spec PyProof.Rows
def uniq (ns : List Int) : List Int := firstMet (fun i => ns.getD i 0) ns.length
theorem firstMet_nodup (val : Nat → Int) : ∀ i, (firstMet val i).length = i ↔ ((List.range i).map val).Nodup
  | 0 => by simp [firstMet_zero]
  | i + 1 => by
    have ih := firstMet_nodup val i
    have hle := firstMet_length_le val i
    have ha := firstMet_any val i (val i)
    rw [firstMet_succ, List.range_succ, List.map_append, List.nodup_append]
    unfold step_dedup
    by_cases h : (firstMet val i).any (· == val i) = true
    · rw [if_pos h]
      constructor
      · intro e; omega
      · intro e
        rw [ha, List.any_eq_true] at h
        obtain ⟨x, hx, e2⟩ := h
        have : x = val i := beq_iff_eq.mp e2
        exact absurd this (e.2.2 x hx (val i) (by simp))
    · rw [if_neg h, List.length_append, List.length_singleton]
      constructor
      · intro e
        refine ⟨ih.mp (by omega), by simp, fun x hx y hy => ?_⟩
        have hy' : y = val i := by simpa using hy
        subst hy'
        intro e3
        apply h
        rw [ha, List.any_eq_true]
        exact ⟨x, hx, beq_iff_eq.mpr e3⟩
      · intro e
        rw [ih.mpr e.1]
section
variable {X : Cx}
def setA (K : PySem.W.Frag) (xs : List V) (H : Hp) (Q : VK) : Prop := match xs with
  | [.ref d] => ∃ ns : List Int, SqL K H d (ns.map V.int) ∧ ns.length + 1 < scanBound ∧ ∀ q, H q = none → Q (.ref q) (upd H q (.set (fun k => (uniq ns).any (· == k)) (uniq ns).length))
  | _ => False
def lenSA (xs : List V) (H : Hp) (Q : VK) : Prop := match xs with
  | [.ref d] => ∃ S n, H d = some (.set S n) ∧ Q (.int n) H
  | _ => False
def sortA (K : PySem.W.Frag) (xs : List V) (H : Hp) (Q : VK) : Prop := match xs with
  | [.ref d] => ∃ ns : List Int, SqL K H d (ns.map V.int) ∧ ns.length < 64 ∧ ∀ (ns' : List Int) q, ns'.Perm ns → ns'.Pairwise (· ≤ ·) → H q = none → Q (.ref q) (upd H q (.lst (ns'.map V.int)))
  | _ => False
def listA (K : PySem.W.Frag) (xs : List V) (H : Hp) (Q : VK) : Prop := match xs with
  | [.ref d] => ∃ ys, (SqL K H d ys ∨ SqT K H d ys) ∧ ∀ l, H l = none → Q (.ref l) (upd H l (.lst ys))
  | _ => False
theorem call_listA : CallR X (.type "list") (listA X.K) := (call_list_of (X := X)).imp fun xs H Q h => by
  unfold listA at h
  split at h
  · obtain ⟨ys, h1, q⟩ := h
    exact ⟨_, ys, rfl, h1, q⟩
  · exact h.elim
def tupleA (K : PySem.W.Frag) (xs : List V) (H : Hp) (Q : VK) : Prop := match xs with
  | [.ref d] => ∃ ys, (SqL K H d ys ∧ ∀ l, H l = none → Q (.ref l) (upd H l (.tup ys))) ∨ (SqT K H d ys ∧ Q (.ref d) H)
  | _ => False
theorem klist (K : PySem.W.Frag) (hK : X.K = K := by rfl) : CallR X (.type "list") (listA K) := by
  subst hK; exact call_listA
end
theorem eqV_refl {x : V} (h : flatV x = true) : eqV x x = true := by
  cases x <;> simp_all [flatV, eqV]
def Fl (K : PySem.W.Frag) (H : Hp) (p : Addr) (f : Str) (v : V) : Prop := ∃ C dx fs, H p = some (.ins C dx fs) ∧ Cls K C ∧ NoAttr K C f ∧ fs.lookup f = some v
def fldA (K : PySem.W.Frag) (x : V) (f : Str) (H : Hp) (Q : VK) : Prop := match x with
  | .ref a => ∃ v, Fl K H a f v ∧ Q v H
  | _ => False
def cFld (K : PySem.W.Frag) (to : TE) (f : Str) : TE := fun σ H Q => to σ H fun x H1 => fldA K x f H1 Q
def InsNo (C : Addr) (m : Str) (H : Hp) (a : Addr) : Prop := ∃ dx fs, H a = some (.ins C dx fs) ∧ fs.lookup m = none
structure MCal (P : Program) (w : World) (K : PySem.W.Frag) (mg : Str → Option Value) (base : Heap) (C : Addr) (m : Str) (ps : List Str) (k : Nat) (sp : Sp) : Prop where
  ex : ∃ f fd, FnOk P w K mg base CX0 k f fd ps sp ∧ Meth K C m f ∧ Binds K fd ps []
  cl : Cls K C
structure MkCal (P : Program) (w : World) (K : PySem.W.Frag) (mg : Str → Option Value) (base : Heap) (name : Str) (C : Addr) (ps : List Str) (k : Nat) (sp : Sp) : Prop where
  ex : ∃ f fd, Mk K C f ∧ FnOk P w K mg base CX0 k f fd ps sp ∧ mg name = some (.ref C) ∧ Binds K fd ps []
def methA (C : Addr) (m : Str) (x : V) (H : Hp) (R : Addr → Prop) : Prop := match x with
  | .ref a => InsNo C m H a ∧ R a
  | _ => False
def cMeth (C : Addr) (m : Str) (sp : Sp) (to : TE) (t : TA) : TE := fun σ H Q => to σ H fun x H1 => methA C m x H1 fun a => t σ H1 fun vs H2 => sp (.ref a :: vs) H2 Q E0
def cMake (C : Addr) (sp : Sp) (t : TA) : TE := fun σ H Q => t σ H fun vs H1 => ∀ x dx, H1 x = none → H1 dx = none → dx ≠ x → sp (.ref x :: vs) (upd (upd H1 dx (.own x)) x (.ins C dx [])) (fun v H2 => v = .non ∧ Q (.ref x) H2) E0
section
variable {X : Cx} {e o value : Expr} {te to tv : TE} {p pos pos' apos : Pos} {es : List Expr} {t : TA} {f m : Str}
def constWs : List Expr → Option (List V)
  | [] => some []
  | .Constant (.int i) _ _ :: r => (constWs r).map (V.int i :: ·)
  | .Constant (.str x) _ _ :: r => (constWs r).map (V.str x :: ·)
  | .UnaryOp .USub (.Constant (.int i) _ _) _ :: r => (constWs r).map (V.int (-i) :: ·)
  | _ => none
def constTs : List Expr → Option (List (List V))
  | [] => some []
  | .Tuple es _ _ :: r => match constWs es, constTs r with
    | some v, some vs => some (v :: vs)
    | _, _ => none
  | _ => none
def cTs (vss : List (List V)) : TA := fun _ H Q => ∀ (qs : List Addr) (H' : Hp), qs.length = vss.length → (∀ (i : Nat) (q : Addr), qs[i]? = some q → ∃ v, vss[i]? = some v ∧ H' q = some (.tup v)) → Same H H' → Q (qs.map V.ref) H'
end
def SameBut (k : Addr) (H H' : Hp) : Prop := ∀ b o, H b = some o → b ≠ k → H' b = some o
theorem SameBut.refl {k : Addr} (H : Hp) : SameBut k H H := fun _ _ h _ => h
theorem SameBut.trans {k : Addr} {H H1 H2 : Hp} (a : SameBut k H H1) (b : SameBut k H1 H2) : SameBut k H H2 := fun c o e n => b c o (a c o e n) n
theorem SameBut.self {k : Addr} {H H' : Hp} {o : HO} (a : SameBut k H H') : SameBut k H (upd H' k o) := fun c ob e n => by
  rw [upd_ne n]; exact a c ob e n
theorem SameBut.new {k d : Addr} {H H' : Hp} {o : HO} (a : SameBut k H H') (hd : H d = none) : SameBut k H (upd H' d o) := fun c ob e n => by
  rw [upd_ne (ne_of_none e hd)]; exact a c ob e n
theorem Same.put {d : Addr} {H H' : Hp} {o : HO} (a : Same H H') (hd : H d = none) : Same H (L2.upd H' d o) := fun c ob e => by
  rw [upd_ne (ne_of_none e hd)]; exact a c ob e
end L2
namespace L2
open PySem PySem.Spec PyProof.Rows
def Ev (t : TE) (σ : St) (H : Hp) (v : V) : Prop := ∀ Q : VK, Q v H → t σ H Q
def Tv (t : TT) (σ : St) (H : Hp) (b : Bool) : Prop := ∀ Q : Bool → Hp → Prop, Q b H → t σ H Q
def Av (t : TA) (σ : St) (H : Hp) (vs : List V) : Prop := ∀ Q : List V → Hp → Prop, Q vs H → t σ H Q
section
variable {K : PySem.W.Frag} {σ : St} {H : Hp} {ta tb tc te to : TE} {t u : TT} {x y : V} {i j k : Int} {a b : Bool} {z z' : Str}
theorem ev_c : Ev (tC x) σ H x := fun Q q => q
theorem ev_v {n : Nat} (h : σ[n]? = some (some x)) : Ev (cVar n) σ H x := fun Q q => by unfold cVar; rw [h]; exact q
theorem ev_add (ha : Ev ta σ H (.int i)) (hb : Ev tb σ H (.int j)) : Ev (cBin .Add ta tb) σ H (.int (i + j)) := fun Q q => ha _ (hb _ q)
theorem ev_mul (ha : Ev ta σ H (.int i)) (hb : Ev tb σ H (.int j)) (h : CMul i j) : Ev (cBin .Mult ta tb) σ H (.int (i * j)) := fun Q q => ha _ (hb _ ⟨h, q⟩)
theorem ev_div (ha : Ev ta σ H (.int i)) (hb : Ev tb σ H (.int j)) (h : CDiv i j) : Ev (cBin .FloorDiv ta tb) σ H (.int (i / j)) := fun Q q => ha _ (hb _ ⟨h, q⟩)
theorem ev_mod (ha : Ev ta σ H (.int i)) (hb : Ev tb σ H (.int j)) (h : 0 < j) : Ev (cBin .Mod ta tb) σ H (.int (i % j)) := fun Q q => ha _ (hb _ ⟨h, q⟩)
theorem ev_adds (ha : Ev ta σ H (.str z)) (hb : Ev tb σ H (.str z')) (h : z.length + z'.length ≤ sizeLine) : Ev (cBin .Add ta tb) σ H (.str (z ++ z')) := fun Q q => ha _ (hb _ ⟨h, q⟩)
theorem ev_ix {p : Addr} {xs : List V} (ho : Ev to σ H (.ref p)) (hi : Ev ta σ H (.int i)) (h : SqL K H p xs ∨ SqT K H p xs) (e : atI xs i = some x) : Ev (cIx K to ta) σ H x := fun Q q => ho _ (hi _ ⟨xs, x, h, e, q⟩)
theorem ev_len {p : Addr} {xs : List V} (ho : Ev to σ H (.ref p)) (h : SqL K H p xs ∨ SqT K H p xs) : Ev (cB (lenA K) (tCons to tNil)) σ H (.int xs.length) := fun Q q => ho _ ⟨xs, h, q⟩
theorem ev_isi {T : BT} (ho : Ev to σ H (.int i)) : Ev (cIs T to) σ H (.bl (isSub .int T)) := fun Q q => ho _ q
theorem ev_iss {T : BT} (ho : Ev to σ H (.str z)) : Ev (cIs T to) σ H (.bl (isSub .str T)) := fun Q q => ho _ q
theorem ev_eq (ha : Ev ta σ H (.int i)) (hb : Ev tb σ H (.int j)) : Ev (cCmp K .Eq ta tb) σ H (.bl (decide (i = j))) := fun Q q => ha _ (hb _ q)
theorem ev_ne (ha : Ev ta σ H (.int i)) (hb : Ev tb σ H (.int j)) : Ev (cCmp K .NotEq ta tb) σ H (.bl (!decide (i = j))) := fun Q q => ha _ (hb _ q)
theorem ev_lt (ha : Ev ta σ H (.int i)) (hb : Ev tb σ H (.int j)) : Ev (cCmp K .Lt ta tb) σ H (.bl (decide (i < j))) := fun Q q => ha _ (hb _ q)
theorem ev_eqs (ha : Ev ta σ H (.str z)) (hb : Ev tb σ H (.str z')) : Ev (cCmp K .Eq ta tb) σ H (.bl (decide (z = z'))) := fun Q q => ha _ (hb _ q)
theorem ev_eqr {p q : Addr} (ha : Ev ta σ H (.ref p)) (hb : Ev tb σ H (.ref q)) (h : EqT K H 20 (.ref p) (.ref q) a) : Ev (cCmp K .Eq ta tb) σ H (.bl a) := fun Q k => ha _ (hb _ ⟨a, h, k⟩)
theorem ev_ner {p q : Addr} (ha : Ev ta σ H (.ref p)) (hb : Ev tb σ H (.ref q)) (h : EqT K H 20 (.ref p) (.ref q) a) : Ev (cCmp K .NotEq ta tb) σ H (.bl (!a)) := fun Q k => ha _ (hb _ ⟨a, h, k⟩)
theorem ev_isnot_i (ha : Ev ta σ H (.int i)) (hb : Ev tb σ H .non) : Ev (cCmp K .IsNot ta tb) σ H (.bl true) := fun Q q => ha _ (hb _ q)
theorem ev_isnot_n (ha : Ev ta σ H .non) (hb : Ev tb σ H .non) : Ev (cCmp K .IsNot ta tb) σ H (.bl false) := fun Q q => ha _ (hb _ q)
theorem ev_is_i (ha : Ev ta σ H (.int i)) (hb : Ev tb σ H .non) : Ev (cCmp K .Is ta tb) σ H (.bl false) := fun Q q => ha _ (hb _ q)
theorem ev_is_n (ha : Ev ta σ H .non) (hb : Ev tb σ H .non) : Ev (cCmp K .Is ta tb) σ H (.bl true) := fun Q q => ha _ (hb _ q)
theorem ev_call {sp : Sp} {t : TA} {vs : List V} (ht : Av t σ H vs) (h : ∀ Q : VK, Q x H → sp vs H Q E0) : Ev (cCall sp t) σ H x := fun Q q => ht _ (h Q q)
theorem av_nil : Av tNil σ H [] := fun Q q => q
theorem av_cons {t : TA} {vs : List V} (ha : Ev ta σ H x) (ht : Av t σ H vs) : Av (tCons ta t) σ H (x :: vs) := fun Q q => ha _ (ht _ q)
theorem av_cs {vs : List V} : Av (cCs vs) σ H vs := fun Q q => q
theorem tv_e (h : Ev te σ H (.bl b)) : Tv (cTest te) σ H b := fun Q q => h _ q
theorem tv_not (h : Tv t σ H b) : Tv (tNot t) σ H (!b) := fun Q q => h _ q
theorem tv_and (ha : Tv t σ H a) (hb : a = true → Tv u σ H b) : Tv (tAnd t u) σ H (a && b) := fun Q q => ha _ (by
  cases a with
  | true => exact iteT (hb rfl _ q)
  | false => exact iteF q)
theorem tv_or (ha : Tv t σ H a) (hb : a = false → Tv u σ H b) : Tv (tOr t u) σ H (a || b) := fun Q q => ha _ (by
  cases a with
  | true => exact iteT q
  | false => exact iteF (hb rfl _ q))
end
section
variable {te : TE} {c : TT} {t u : TS} {D : Ends} {σ : St} {H : Hp} {v : V} {b : Bool}
theorem st_set {i : Nat} (h : Ev te σ H v) (h2 : u D (σ.set i (some v)) H) : tSeq (tAsg te (gName i)) u D σ H := h _ h2
theorem st_set1 {i : Nat} (h : Ev te σ H v) (h2 : D.nx (σ.set i (some v)) H) : tAsg te (gName i) D σ H := h _ h2
theorem st_ret (h : Ev te σ H v) (h2 : D.rt v H) : tRet te D σ H := h _ h2
theorem st_tst (hc : Tv c σ H b) (h1 : b = true → t { D with nx := u D } σ H) (h2 : b = false → u D σ H) : tSeq (tIfS c t tNext) u D σ H := hc _ (by
  cases b with
  | true => exact iteT (h1 rfl)
  | false => exact iteF (h2 rfl))
end
section
variable {K : PySem.W.Frag} {σ rest : St} {H : Hp} {tl te : TE} {tt : TT} {src : List (Option Nat)} {Q : VK}
theorem comp_evI {J : It} {xs : List V} (hz : xs.length ≤ sizeLine) (hs : subSt src σ = none :: rest) (p : V → Bool) (f : V → V) (hgo : ∀ i, i < xs.length → J.go i H) (hstop : J.stop xs.length H) (hyld : ∀ i v H', i < xs.length → J.yld i H v H' → H' = H ∧ xs[i]? = some v)
    (ht : ∀ x ∈ xs, Tv tt (some x :: rest) H (p x)) (he : ∀ x ∈ xs, p x = true → Ev te (some x :: rest) H (f x)) (q : ∀ d', H d' = none → Q (.ref d') (upd H d' (.lst ((xs.filter p).map f)))) : compWant (gName 0) tt te src σ Q J H := by
  refine ⟨fun i m ys σ' H' => m = xs.length - i ∧ i ≤ xs.length ∧ ys = ((xs.take i).filter p).map f ∧ (∃ o, σ' = o :: rest) ∧ H' = H, ⟨xs.length, by simp, Nat.zero_le _, by simp, ⟨none, hs⟩, rfl⟩, ?_⟩
  rintro i m ys σ' H' ⟨rfl, hi, rfl, ⟨o, rfl⟩, rfl⟩
  by_cases hlt : i < xs.length
  · refine .inr ⟨hgo i hlt, ?_, fun x H2 y => ?_⟩
    · rw [List.length_map]
      have h1 := List.length_filter_le p (xs.take i)
      rw [List.length_take] at h1
      omega
    · obtain ⟨rfl, hx⟩ := hyld i x H2 hlt y
      have tk : (xs.take (i + 1)).filter p = (xs.take i).filter p ++ (if p x then [x] else []) := take_succ_filter p xs i x hx
      have hm : x ∈ xs := List.mem_of_getElem? hx
      show tt (some x :: rest) H2 _
      refine ht x hm _ ?_
      cases hp : p x with
      | true =>
        refine iteT (he x hm hp _ ?_)
        refine ⟨xs.length - (i + 1), by omega, rfl, hlt, ?_, ⟨_, rfl⟩, rfl⟩
        rw [tk, hp, if_pos rfl, List.map_append]
        rfl
      | false =>
        refine iteF ?_
        refine ⟨xs.length - (i + 1), by omega, rfl, hlt, ?_, ⟨_, rfl⟩, rfl⟩
        rw [tk, hp, if_neg (by simp), List.append_nil]
  · have e : i = xs.length := by omega
    subst e
    refine .inl ⟨hstop, fun d hd => ?_⟩
    rw [List.take_length]
    exact q d hd
theorem comp_ev {d : Addr} {xs : List V} (hl : Ev tl σ H (.ref d)) (hx : SqL K H d xs) (hz : xs.length ≤ sizeLine) (hs : subSt src σ = none :: rest) (p : V → Bool) (f : V → V)
    (ht : ∀ x ∈ xs, Tv tt (some x :: rest) H (p x)) (he : ∀ x ∈ xs, p x = true → Ev te (some x :: rest) H (f x)) (q : ∀ d', H d' = none → Q (.ref d') (upd H d' (.lst ((xs.filter p).map f)))) : tComp (iList K tl) (gName 0) tt te src σ H Q :=
  hl _ ⟨d, rfl, ⟨xs, hx⟩, comp_evI hz hs p f (fun i hi => ⟨xs, xs[i], hx, List.getElem?_eq_getElem hi⟩) ⟨xs, hx, Nat.le_refl _⟩ (fun i v H' _ y => ⟨y.1, y.2 xs hx⟩) ht he q⟩
end
section
variable {K : PySem.W.Frag} {te to tv : TE} {t : TA} {c : TT} {u : TS} {D : Ends} {σ : St} {H : Hp} {v x y : V}
end
section
variable {K : PySem.W.Frag} {te to ta tb ti : TE} {t : TA} {c : TT} {σ : St} {H : Hp} {Q : VK} {R : Bool → Hp → Prop} {v x y : V} {vs : List V} {sp : Sp}
theorem evk (h : Ev te σ H v) (q : Q v H) : te σ H Q := h Q q
theorem cal_k (h : Av t σ H vs) (q : sp vs H Q E0) : cCall sp t σ H Q := h _ q
theorem lix_k {i : Int} (h : Av t σ H vs) (hz : vs.length ≤ 1000) (hi : ∀ H', Ev ti σ H' (.int i)) (e : atI vs i = some v) (q : ∀ H', Same H H' → Q v H') : cIx K (tLst t) ti σ H Q := h _ ⟨Nat.le_trans hz (by decide), fun p hp => hi _ _ ⟨vs, v, .inl (SqL.of upd_same), e, q _ ((Same.refl H).upd hp)⟩⟩
end
section
variable {K : PySem.W.Frag} {te to ta tb : TE} {D : Ends} {σ : St} {H : Hp} {Q : VK} {x y : V}
end
end L2
namespace L2
open PySem PySem.Spec PyProof.Rows
def oI : Option Int → V
  | some n => .int n
  | none => .non
structure BrdC (K : PySem.W.Frag) (C : Addr) : Prop where
  cl : Cls K C
  wide : NoAttr K C "wide"
  high : NoAttr K C "high"
  holes : NoAttr K C "holes"
  firm : NoAttr K C "firm"
def bflds (wi hi : Int) (ph pf : Addr) : List (Str × V) := putF "firm" (.ref pf) (putF "holes" (.ref ph) (putF "high" (.int hi) (putF "wide" (.int wi) [])))
theorem bf_wide (wi hi : Int) (ph pf : Addr) : (bflds wi hi ph pf).lookup ("wide" : Str) = some (.int wi) := by
  unfold bflds
  rw [lookup_putF, if_neg (by decide +kernel), lookup_putF, if_neg (by decide +kernel), lookup_putF, if_neg (by decide +kernel), lookup_putF, if_pos rfl]
theorem bf_high (wi hi : Int) (ph pf : Addr) : (bflds wi hi ph pf).lookup ("high" : Str) = some (.int hi) := by
  unfold bflds
  rw [lookup_putF, if_neg (by decide +kernel), lookup_putF, if_neg (by decide +kernel), lookup_putF, if_pos rfl]
theorem bf_holes (wi hi : Int) (ph pf : Addr) : (bflds wi hi ph pf).lookup ("holes" : Str) = some (.ref ph) := by
  unfold bflds
  rw [lookup_putF, if_neg (by decide +kernel), lookup_putF, if_pos rfl]
theorem bf_firm (wi hi : Int) (ph pf : Addr) : (bflds wi hi ph pf).lookup ("firm" : Str) = some (.ref pf) := by
  unfold bflds
  rw [lookup_putF, if_pos rfl]
theorem bf_no (wi hi : Int) (ph pf : Addr) {m : Str} (h1 : ¬ m = "wide") (h2 : ¬ m = "high") (h3 : ¬ m = "holes") (h4 : ¬ m = "firm") : (bflds wi hi ph pf).lookup m = none := by
  unfold bflds
  rw [lookup_putF, if_neg h4, lookup_putF, if_neg h3, lookup_putF, if_neg h2, lookup_putF, if_neg h1]
  rfl
def firmL (wi hi : Int) (hs : List Int) : List Bool := (List.range (wi * hi).toNat).map fun (s : Nat) => !decide ((s : Int) ∈ hs)
structure BrdAt (K : PySem.W.Frag) (C : Addr) (H : Hp) (p : Addr) (wi hi : Int) (hs : List Int) : Prop where
  ex : ∃ dx ph pf, H p = some (.ins C dx (bflds wi hi ph pf)) ∧ H ph = some (.lst (hs.map V.int)) ∧ H pf = some (.lst ((firmL wi hi hs).map V.bl))
  w1 : 1 ≤ wi
  w8 : wi ≤ 8
  h1 : 1 ≤ hi
  h8 : hi ≤ 8
  good : ∀ h ∈ hs, 0 ≤ h ∧ h < wi * hi
  srt : hs.Pairwise (· ≤ ·)
  nd : hs.Nodup
section
variable {K : PySem.W.Frag} {C : Addr} {H H' : Hp} {p : Addr} {wi hi : Int} {hs : List Int}
theorem BrdAt.same (B : BrdAt K C H p wi hi hs) (s : Same H H') : BrdAt K C H' p wi hi hs := by
  obtain ⟨⟨dx, ph, pf, a, b, c⟩, w1, w8, h1, h8, g, sr, nd⟩ := B
  exact ⟨⟨dx, ph, pf, s _ _ a, s _ _ b, s _ _ c⟩, w1, w8, h1, h8, g, sr, nd⟩
theorem BrdAt.wide (B : BrdAt K C H p wi hi hs) (D : BrdC K C) : Fl K H p "wide" (.int wi) := by
  obtain ⟨dx, ph, pf, a, _, _⟩ := B.ex
  exact ⟨C, dx, _, a, D.cl, D.wide, bf_wide _ _ _ _⟩
theorem BrdAt.high (B : BrdAt K C H p wi hi hs) (D : BrdC K C) : Fl K H p "high" (.int hi) := by
  obtain ⟨dx, ph, pf, a, _, _⟩ := B.ex
  exact ⟨C, dx, _, a, D.cl, D.high, bf_high _ _ _ _⟩
theorem BrdAt.firm (B : BrdAt K C H p wi hi hs) (D : BrdC K C) : ∃ pf, Fl K H p "firm" (.ref pf) ∧ H pf = some (.lst ((firmL wi hi hs).map V.bl)) := by
  obtain ⟨dx, ph, pf, a, _, c⟩ := B.ex
  exact ⟨pf, ⟨C, dx, _, a, D.cl, D.firm, bf_firm _ _ _ _⟩, c⟩
theorem BrdAt.holes (B : BrdAt K C H p wi hi hs) (D : BrdC K C) : ∃ ph, Fl K H p "holes" (.ref ph) ∧ H ph = some (.lst (hs.map V.int)) := by
  obtain ⟨dx, ph, pf, a, b, c⟩ := B.ex
  exact ⟨ph, ⟨C, dx, _, a, D.cl, D.holes, bf_holes _ _ _ _⟩, b⟩
theorem BrdAt.no (B : BrdAt K C H p wi hi hs) {m : Str} (h1 : ¬ m = "wide" := by decide +kernel) (h2 : ¬ m = "high" := by decide +kernel) (h3 : ¬ m = "holes" := by decide +kernel) (h4 : ¬ m = "firm" := by decide +kernel) : InsNo C m H p := by
  obtain ⟨dx, ph, pf, a, b, c⟩ := B.ex
  exact ⟨dx, _, a, bf_no _ _ _ _ h1 h2 h3 h4⟩
theorem BrdAt.many (B : BrdAt K C H p wi hi hs) : 1 ≤ wi * hi ∧ wi * hi ≤ 64 := by
  have a := B.w1; have b := B.w8; have c := B.h1; have d := B.h8
  have e1 : 1 * 1 ≤ wi * hi := Int.mul_le_mul a c (by omega) (by omega)
  have e2 : wi * hi ≤ 8 * 8 := Int.mul_le_mul b d (by omega) (by omega)
  omega
end
def mvd (wi hi : Int) (hs : List Int) (s ax up : Int) : Option Int :=
  if 0 ≤ s % wi + ax ∧ s % wi + ax < wi ∧ 0 ≤ s / wi + up ∧ s / wi + up < hi then (if (s / wi + up) * wi + (s % wi + ax) ∈ hs then none else some ((s / wi + up) * wi + (s % wi + ax))) else none
def sqK (wi s ax up : Int) (k : Nat) : Int := (s / wi + k * up) * wi + (s % wi + k * ax)
def okK (wi hi : Int) (hs : List Int) (s ax up : Int) (k : Nat) : Prop := 0 ≤ s % wi + k * ax ∧ s % wi + k * ax < wi ∧ 0 ≤ s / wi + k * up ∧ s / wi + k * up < hi ∧ ¬ sqK wi s ax up k ∈ hs
instance {wi hi : Int} {hs : List Int} {s ax up : Int} {k : Nat} : Decidable (okK wi hi hs s ax up k) := by unfold okK; infer_instance
def IsRay (wi hi : Int) (hs : List Int) (s ax up : Int) (n : Nat) : Prop := (∀ j < n, okK wi hi hs s ax up (j + 1)) ∧ ¬ okK wi hi hs s ax up (n + 1)
def rayL (wi s ax up : Int) (n : Nat) : List Int := (List.range n).map fun j => sqK wi s ax up (j + 1)
theorem IsRay.uniq {wi hi : Int} {hs hs' : List Int} {s ax up : Int} {m n : Nat} (h : IsRay wi hi hs s ax up m) (h' : IsRay wi hi hs' s ax up n) (e : ∀ x, x ∈ hs ↔ x ∈ hs') : m = n := by
  have c : ∀ k, okK wi hi hs s ax up k ↔ okK wi hi hs' s ax up k := fun k => by unfold okK; rw [e]
  rcases Nat.lt_trichotomy m n with l | l | l
  · exact absurd ((c _).mpr (h'.1 m l)) h.2
  · exact l
  · exact absurd ((c _).mp (h.1 n l)) h'.2
structure KeptOk (H : Hp) (kl : Addr) (es : List V) : Prop where
  at_ : H kl = some (.lst es)
  all : ∀ e ∈ es, ∃ (t f c : Addr) (zs : List Int), e = V.ref t ∧ t ≠ kl ∧ f ≠ kl ∧ c ≠ kl ∧ H t = some (.tup [.ref f, .ref c]) ∧ H f = some (.lst (zs.map V.int)) ∧ H c = some (.lst (zs.map V.int))
theorem KeptOk.same {H H' : Hp} {kl : Addr} {es : List V} (k : KeptOk H kl es) (s : Same H H') : KeptOk H' kl es := ⟨s _ _ k.at_, fun e he => by
  obtain ⟨t, f, c, zs, h1, h2, h3, h4, h5, h6, h7⟩ := k.all e he
  exact ⟨t, f, c, zs, h1, h2, h3, h4, s _ _ h5, s _ _ h6, s _ _ h7⟩⟩
def spWhI : Sp := fun vs H Q _ => ∃ n : Int, vs = [.int n] ∧ Q (.bl true) H
def spAmI : Sp := fun vs H Q _ => ∃ t a b : Int, vs = [.int t, .int a, .int b] ∧ Q (.bl (decide (a ≤ t ∧ t ≤ b))) H
def spCol : Sp := fun vs H Q _ => ∃ w s : Int, vs = [.int w, .int s] ∧ 0 < w ∧ Q (.int (s % w)) H
def spRow : Sp := fun vs H Q _ => ∃ w s : Int, vs = [.int w, .int s] ∧ 0 < w ∧ w < 100 ∧ Q (.int (s / w)) H
def spSqAt : Sp := fun vs H Q _ => ∃ w c r : Int, vs = [.int w, .int c, .int r] ∧ -100 < w ∧ w < 100 ∧ Q (.int (r * w + c)) H
def spHolesT : Sp := fun vs H Q _ => ∃ (d : Addr) (m : Int) (hs : List Int), vs = [.ref d, .int m] ∧ H d = some (.lst (hs.map V.int)) ∧ (∀ h ∈ hs, 0 ≤ h ∧ h < m) ∧ hs.Nodup ∧ (hs.length : Int) < m ∧ m ≤ 64 ∧ ∀ H', Same H H' → Q (.bl true) H'
def spBInit (K : PySem.W.Frag) (C : Addr) : Sp := fun vs H Q _ => ∃ (p d dx : Addr) (wi hi : Int) (hs : List Int), vs = [.ref p, .int wi, .int hi, .ref d] ∧ H p = some (.ins C dx []) ∧ H d = some (.lst (hs.map V.int)) ∧ 1 ≤ wi ∧ wi ≤ 8 ∧ 1 ≤ hi ∧ hi ≤ 8 ∧ (∀ h ∈ hs, 0 ≤ h ∧ h < wi * hi) ∧ hs.Nodup ∧ (hs.length : Int) < wi * hi ∧
  ∀ (hs' : List Int) H', hs'.Perm hs → BrdAt K C H' p wi hi hs' → SameBut p H H' → Q .non H'
def spMoved (K : PySem.W.Frag) (C : Addr) : Sp := fun vs H Q _ => ∃ (p : Addr) (wi hi : Int) (hs : List Int) (s ax up : Int), vs = [.ref p, .int s, .int ax, .int up] ∧ BrdAt K C H p wi hi hs ∧ Q (oI (mvd wi hi hs s ax up)) H
def spRay (K : PySem.W.Frag) (C : Addr) : Sp := fun vs H Q _ => ∃ (p : Addr) (wi hi : Int) (hs : List Int) (s ax up : Int), vs = [.ref p, .int s, .int ax, .int up] ∧ BrdAt K C H p wi hi hs ∧ 0 ≤ s ∧ s < wi * hi ∧ ¬ (ax = 0 ∧ up = 0) ∧
  ∀ (n : Nat) (q : Addr) (H' : Hp), IsRay wi hi hs s ax up n → n ≤ 8 → H q = none → H' q = some (.lst ((rayL wi s ax up n).map V.int)) → Same H H' → Q (.ref q) H'
structure CW (P : Program) (w : World) (K : PySem.W.Frag) (mg : Str → Option Value) (base : Heap) : Prop where
  is_whole : Cal P w K mg base "is_whole" ["thing"] 1 spWhI
structure CA (P : Program) (w : World) (K : PySem.W.Frag) (mg : Str → Option Value) (base : Heap) : Prop where
  is_among : Cal P w K mg base "is_among" ["thing", "least", "most"] 2 spAmI
structure CB (P : Program) (w : World) (K : PySem.W.Frag) (mg : Str → Option Value) (base : Heap) : Prop where
  column_of : Cal P w K mg base "column_of" ["wide", "square"] 1 spCol
  row_of : Cal P w K mg base "row_of" ["wide", "square"] 1 spRow
  square_at : Cal P w K mg base "square_at" ["wide", "column", "row"] 1 spSqAt
structure CB2 (P : Program) (w : World) (K : PySem.W.Frag) (mg : Str → Option Value) (base : Heap) : Prop extends CA P w K mg base where
  are_holes : Cal P w K mg base "are_holes" ["thing", "many"] 3 spHolesT
structure CB3 (P : Program) (w : World) (K : PySem.W.Frag) (mg : Str → Option Value) (base : Heap) (cB : Addr) : Prop extends CB2 P w K mg base where
  Board : MkCal P w K mg base "Board" cB ["self", "wide", "high", "holes"] 4 (spBInit K cB)
  Board_moved : MCal P w K mg base cB "moved" ["self", "square", "across", "up"] 2 (spMoved K cB)
end L2
namespace L2
open PySem PySem.Spec PyProof.Rows
section
variable {X : Cx} {pins : List (Addr × Obj)} {σ : St} {H : Hp} {s : Shared} {h' : Heap}
end
def ItE (K : PySem.W.Frag) (a : Addr) : It :=
  ⟨fun i H => ∃ xs x, SqL K H a xs ∧ xs[i]? = some x, fun i H x H' => ∃ t v, x = .ref t ∧ H t = none ∧ H' = upd H t (.tup [.int (i : Int), v]) ∧ ∀ xs, SqL K H a xs → xs[i]? = some v, fun i H => ∃ xs, SqL K H a xs ∧ xs.length ≤ i⟩
end L2
namespace L2
open PySem PySem.Spec PyProof.Rows
def ItES (x : Str) : It :=
  ⟨fun i _ => i < x.cps.size, fun i H v H' => ∃ t c, v = .ref t ∧ H t = none ∧ x.cps.toList[i]? = some c ∧ H' = upd H t (.tup [.int (i : Int), .str ⟨#[c]⟩]), fun i _ => i = x.cps.size⟩
section
variable {X : Cx} {p pos pos2 : Pos} {a : Expr} {elts : List Expr} {k0 : Nat} {ta : TE}
def iEnum (K : PySem.W.Frag) (ta : TE) : TI := fun σ H R => ta σ H fun x H1 => match x with
  | .ref d => (∃ xs, SqL K H1 d xs) ∧ R (ItE K d) H1
  | .str z => R (ItES z) H1
  | _ => False
end
end L2
namespace L2
open PySem PySem.Spec PyProof.Rows
section
variable {X : Cx}
def loA (x : V) (vs : List V) (H : Hp) (Q : VK) : Prop := match x, vs with
  | .str a, [] => a.length ≤ sizeLine ∧ (∀ c ∈ a.cps.toList, c < 128) ∧ Q (.str ⟨a.cps.map lo1⟩) H
  | _, _ => False
def iuA (x : V) (vs : List V) (H : Hp) (Q : VK) : Prop := match x, vs with
  | .str a, [] => ∃ c, a = ⟨#[c]⟩ ∧ c < 128 ∧ Q (.bl (decide (65 ≤ c ∧ c ≤ 90))) H
  | _, _ => False
end
end L2
namespace L2
open PySem PySem.Spec PyProof.Rows
abbrev one (c : Nat) : Str := ⟨#[c]⟩
def Ltr (c : Nat) : Prop := 97 ≤ c ∧ c ≤ 122
def Sg (c : Nat) : Prop := c = 46 ∨ c = 35 ∨ (97 ≤ c ∧ c ≤ 122) ∨ (65 ≤ c ∧ c ≤ 90)
theorem Sg.lt {c : Nat} (h : Sg c) : c < 128 := by unfold Sg at h; omega
theorem Ltr.sg {c : Nat} (h : Ltr c) : Sg c := .inr (.inr (.inl h))
def kindV (c : Nat) : V := if c = 46 ∨ c = 35 then .non else .str (one (lo1 c))
def sideV (c : Nat) : V := if c = 46 ∨ c = 35 then .non else .int (if 65 ≤ c ∧ c ≤ 90 then 0 else 1)
section
variable {K : PySem.W.Frag} {σ rest : St} {H : Hp} {te ta tb tl : TE} {tt : TT} {R : Bool → Hp → Prop} {Q : VK} {c : Nat} {z : Str} {src : List (Option Nat)}
def enL (l : List Nat) (p : Nat → Nat → Bool) (f : Nat → Nat → V) (n : Nat) : List V := ((List.range n).filter fun i => p i (l.getD i 0)).map fun i => f i (l.getD i 0)
end
def emptyT (wi hi : Int) (hs : List Int) : Str := ⟨((List.range (wi * hi).toNat).map fun (s : Nat) => if (s : Int) ∈ hs then 35 else 46).toArray⟩
def putT (row : Str) (s : Int) (sg : Str) : Str := cutS row none (some s) ++ sg ++ cutS row (some (s + 1)) none
def sqsOf (row : Str) (sd : Int) : List Int := ((List.range row.length).filter fun i => decide (sideV (row.cps.toList.getD i 0) = .int sd)).map fun (i : Nat) => (i : Int)
def spSign : Sp := fun vs H Q _ => ∃ (c : Nat) (sd : Int), vs = [.str (one c), .int sd] ∧ Ltr c ∧ Q (.str (one (if sd = 0 then c - 32 else c))) H
def spKind : Sp := fun vs H Q _ => ∃ c : Nat, vs = [.str (one c)] ∧ c < 128 ∧ ∀ H', Same H H' → Q (kindV c) H'
def spSideOf : Sp := fun vs H Q _ => ∃ c : Nat, vs = [.str (one c)] ∧ c < 128 ∧ ∀ H', Same H H' → Q (sideV c) H'
def spHas (K : PySem.W.Frag) (C : Addr) : Sp := fun vs H Q _ => ∃ (p : Addr) (wi hi : Int) (hs : List Int) (s : Int), vs = [.ref p, .int s] ∧ BrdAt K C H p wi hi hs ∧ Q (.bl (decide (0 ≤ s ∧ s < wi * hi ∧ ¬ s ∈ hs))) H
def spEmpty (K : PySem.W.Frag) (C : Addr) : Sp := fun vs H Q _ => ∃ (p : Addr) (wi hi : Int) (hs : List Int), vs = [.ref p] ∧ BrdAt K C H p wi hi hs ∧ ∀ H', Same H H' → Q (.str (emptyT wi hi hs)) H'
def spPut : Sp := fun vs H Q _ => ∃ (row : Str) (s : Int) (c : Nat), vs = [.str row, .int s, .str (one c)] ∧ 0 ≤ s ∧ row.length ≤ 100 ∧ Q (.str (putT row s (one c))) H
def spSquares : Sp := fun vs H Q _ => ∃ (row : Str) (sd : Int), vs = [.str row, .int sd] ∧ row.length ≤ 100 ∧ (∀ c ∈ row.cps.toList, c < 128) ∧ ∀ (q : Addr) (H' : Hp), H q = none → H' q = some (.lst ((sqsOf row sd).map V.int)) → Same H H' → Q (.ref q) H'
section
variable {K : PySem.W.Frag} {σ : St} {H : Hp} {tb : TE} {t : TA} {op : CmpOp} {R : Bool → Hp → Prop} {vs : List V} {sp : Sp}
end
structure CP1 (P : Program) (w : World) (K : PySem.W.Frag) (mg : Str → Option Value) (base : Heap) : Prop where
  side_of : Cal P w K mg base "side_of" ["sign"] 1 spSideOf
structure CP2 (P : Program) (w : World) (K : PySem.W.Frag) (mg : Str → Option Value) (base : Heap) (cB : Addr) : Prop where
  Board_has : MCal P w K mg base cB "has" ["self", "square"] 3 (spHas K cB)
end L2
namespace L2
open PySem PySem.Spec PyProof.Rows
section
variable {K : PySem.W.Frag} {σ rest : St} {H : Hp} {te to ta tb tl : TE} {t : TA} {tt u : TT} {src : List (Option Nat)} {Q : VK} {R : Bool → Hp → Prop} {D : Ends} {g : TG} {tB : TS} {v x y : V} {vs : List V} {sp : Sp}
theorem pickV {xs : List V} {i : Int} (h0 : 0 ≤ i) (h1 : i < xs.length) : ∃ v, atI xs i = some v ∧ v ∈ xs := by
  have hlt : i.toNat < xs.length := by omega
  have q := atI_nat (List.getElem?_eq_getElem hlt)
  have ei : ((i.toNat : Nat) : Int) = i := by omega
  rw [ei] at q
  exact ⟨_, q, List.getElem_mem hlt⟩
theorem gpair {i j : Nat} {d : Addr} {a b : V} {R : St → Hp → Prop} (h : H d = some (.tup [a, b])) (q : R ((σ.set i (some a)).set j (some b)) H) : gTup K 2 (gCons (gName i) (gCons (gName j) gNil)) (.ref d) σ H R := ⟨d, _, rfl, SqT.of h, rfl, _, _, rfl, _, _, rfl, rfl, q⟩
end
theorem pigeon : ∀ (n : Nat) (l : List Int), l.length < n → ∃ s : Nat, s < n ∧ ¬ ((s : Int) ∈ l)
  | 0, l, h => by omega
  | n + 1, l, h => by
    by_cases m : ((n : Nat) : Int) ∈ l
    · have hl := List.length_erase_of_mem m
      have hp := List.length_pos_of_mem m
      obtain ⟨s, h1, h2⟩ := pigeon n (l.erase ((n : Nat) : Int)) (by omega)
      refine ⟨s, by omega, fun z => h2 ?_⟩
      exact (List.mem_erase_of_ne (by omega)).mpr z
    · exact ⟨n, by omega, m⟩
def freeL (wi hi : Int) (hs : List Int) : List Int := ((List.range (wi * hi).toNat).map fun (i : Nat) => (i : Int)).filter fun i => !decide (i ∈ hs)
def freeP (hs : List Int) : V → Bool
  | .int i => !decide (i ∈ hs)
  | _ => false
def cellAt (ns : List Int) (k : Int) : Int := ns.getD k.toNat 0
def mixed (c k : Int) : Int := (c + 7919 * k + 3) * 48271 % 2147483647
def kindsL (b s : Int) (n : Nat) : List Nat := (List.range n).map fun (k : Nat) => 97 + ((b + s * (k : Int)) % 26).toNat
def strV (c : Nat) : V := .str (one c)
def spCellAt (K : PySem.W.Frag) : Sp := fun vs H Q _ => ∃ (a : Addr) (ns : List Int) (k : Int), vs = [.ref a, .int k] ∧ SqL K H a (ns.map V.int) ∧ 0 ≤ k ∧ Q (.int (cellAt ns k)) H
def spMixed : Sp := fun vs H Q _ => ∃ c k : Int, vs = [.int c, .int k] ∧ Q (.int (mixed c k)) H
def spLBoard (K : PySem.W.Frag) : Sp := fun vs H Q _ => ∃ (a : Addr) (ns : List Int), vs = [.ref a] ∧ SqL K H a (ns.map V.int) ∧ ∀ (t q : Addr) (wi hi : Int) (hs : List Int) (H' : Hp), 1 ≤ wi → wi ≤ 8 → 1 ≤ hi → hi ≤ 8 → H' t = some (.tup [.int wi, .int hi, .ref q]) → H' q = some (.lst (hs.map V.int)) → (∀ h ∈ hs, 0 ≤ h ∧ h < wi * hi) → hs.Nodup → (hs.length : Int) < wi * hi → hs.length ≤ 2 → H q = none → H t = none → Same H H' → Q (.ref t) H'
def spLKinds : Sp := fun vs H Q _ => ∃ c : Int, vs = [.int c] ∧ ∀ (q : Addr) (ks : List Nat) (H' : Hp), H q = none → H' q = some (.lst (ks.map strV)) → (∀ k ∈ ks, Ltr k) → ks.Nodup → 1 ≤ ks.length → ks.length ≤ 6 → Same H H' → Q (.ref q) H'
def spWhL : Sp := fun vs H Q _ => ∃ n : Int, vs = [.int n] ∧ Q (.bl true) H
structure LG1 (P : Program) (w : World) (K : PySem.W.Frag) (mg : Str → Option Value) (base : Heap) : Prop where
  _law_cell_at : Cal P w K mg base "_law_cell_at" ["_law_script", "_law_k"] 1 (spCellAt K)
  _law_mixed : Cal P w K mg base "_law_mixed" ["_law_cell", "_law_k"] 1 spMixed
end L2
namespace L2
open PySem PySem.Spec PyProof.Rows
section
variable {κ : Type} [DecidableEq κ]
def ddp (l : List κ) (x : κ) : List κ := if x ∈ l then l else l ++ [x]
def mets (val : Nat → κ) : Nat → List κ
  | 0 => []
  | i + 1 => ddp (mets val i) (val i)
theorem mets_le (val : Nat → κ) : ∀ i, (mets val i).length ≤ i
  | 0 => Nat.le_refl 0
  | i + 1 => by
    have ih := mets_le val i
    show (ddp (mets val i) (val i)).length ≤ i + 1
    unfold ddp
    by_cases h : val i ∈ mets val i
    · rw [if_pos h]; omega
    · rw [if_neg h, List.length_append]; show _ + 1 ≤ _; omega
theorem mem_mets (val : Nat → κ) (x : κ) : ∀ i, x ∈ mets val i ↔ x ∈ (List.range i).map val
  | 0 => by simp [mets]
  | i + 1 => by
    have ih := mem_mets val x i
    show x ∈ ddp (mets val i) (val i) ↔ _
    rw [List.range_succ, List.map_append, List.mem_append, ← ih]
    unfold ddp
    by_cases h : val i ∈ mets val i
    · rw [if_pos h]
      constructor
      · exact fun z => .inl z
      · rintro (z | z)
        · exact z
        · have : x = val i := by simpa using z
          rw [this]; exact h
    · rw [if_neg h, List.mem_append]
      simp
theorem mets_nodup (val : Nat → κ) : ∀ i, (mets val i).length = i ↔ ((List.range i).map val).Nodup
  | 0 => by simp [mets]
  | i + 1 => by
    have ih := mets_nodup val i
    have hle := mets_le val i
    have hm := mem_mets val (val i) i
    show (ddp (mets val i) (val i)).length = i + 1 ↔ _
    rw [List.range_succ, List.map_append, List.nodup_append]
    unfold ddp
    by_cases h : val i ∈ mets val i
    · rw [if_pos h]
      constructor
      · intro z; omega
      · intro z
        exact absurd rfl (z.2.2 (val i) (hm.mp h) (val i) (by simp))
    · rw [if_neg h, List.length_append]
      constructor
      · intro z
        have z : (mets val i).length + 1 = i + 1 := z
        refine ⟨ih.mp (by omega), by simp, fun a ha b hb e => h (hm.mpr ?_)⟩
        have : b = val i := by simpa using hb
        rw [← this, ← e]; exact ha
      · intro z
        rw [ih.mpr z.1]
        rfl
end
section
variable {prog : Program} {w : World} {A : Around} {R : Result → Shared → Prop} {I : Addr} {fp wr : List Addr} {G : Array GenState → Array GenState → Prop} {n : Nat} {Pt : Nat → Value → Prop} {St : Nat → Shared → Prop} {κ : Type} [DecidableEq κ] {knd : KeyKind prog w κ}
end
section
variable {prog : Program} {w : World} {A : Around} {E : Value → Shared → Prop} {s : Shared} {κ : Type} [DecidableEq κ] {knd : KeyKind prog w κ}
abbrev setNew (led : Bool) : Obj := { cls := .type "set", dict := none, data := .set #[] 0 (.fresh 0 0 led) }
end
def uniqS (ss : List Str) : List Str := mets (fun i => ss.getD i Str.empty) ss.length
section
variable {X : Cx}
def setSA (K : PySem.W.Frag) (xs : List V) (H : Hp) (Q : VK) : Prop := match xs with
  | [.ref d] => ∃ ss : List Str, SqL K H d (ss.map V.str) ∧ ss.length + 1 < scanBound ∧ ∀ q φ, H q = none → (∀ h : Heap, φ h → ∃ (o : Obj) (es : Array (Int × Value)) (ep : Nat) (t : SetTable), h.get? q = some o ∧ o.ExactSet ∧ o.data = .set es ep t ∧ t.fits es.size = true ∧ es.size = (uniqS ss).length) → Q (.ref q) (upd H q (.ext φ))
  | _ => False
def lenXA (xs : List V) (H : Hp) (Q : VK) : Prop := match xs with
  | [.ref d] => ∃ (φ : Heap → Prop) (n : Nat), H d = some (.ext φ) ∧ n ≤ 1000 ∧ (∀ h : Heap, φ h → ∃ (o : Obj) (es : Array (Int × Value)) (ep : Nat) (t : SetTable), h.get? d = some o ∧ o.ExactSet ∧ o.data = .set es ep t ∧ t.fits es.size = true ∧ es.size = n) ∧ Q (.int n) H
  | _ => False
end
end L2
namespace L2
open PySem PySem.Spec PyProof.Rows
section
variable {X : Cx}
def anyA (K : PySem.W.Frag) (xs : List V) (H : Hp) (Q : VK) : Prop := match xs with
  | [.ref d] => ∃ ks : List Bool, SqL K H d (ks.map V.bl) ∧ Q (.bl (ks.any id)) H
  | _ => False
end
def Thg (H : Hp) : V → Prop
  | .non => True
  | .bl _ => True
  | .int _ => True
  | .str z => z.length ≤ 1000
  | .ref a => (∃ xs, H a = some (.lst xs)) ∨ (∃ xs, H a = some (.tup xs)) ∨ (∃ kvs, H a = some (.dK kvs))
  | _ => False
def isTB (T : BT) (H : Hp) : V → Bool
  | .bl _ => isSub .bool T
  | .int _ => isSub .int T
  | .str _ => isSub .str T
  | .ref a => match H a with
    | some (.lst _) => isSub .list T
    | some (.tup _) => isSub .tuple T
    | some (.dK _) => isSub .dict T
    | _ => false
  | _ => false
def tupOf (H : Hp) : V → Option (List V)
  | .ref a => match H a with
    | some (.tup xs) => some xs
    | _ => none
  | _ => none
def lstOf (H : Hp) : V → Option (List V)
  | .ref a => match H a with
    | some (.lst xs) => some xs
    | _ => none
  | _ => none
def ThgN (H : Hp) : Nat → V → Prop
  | 0, v => Thg H v
  | n + 1, v => Thg H v ∧ ∀ xs, (tupOf H v = some xs ∨ lstOf H v = some xs) → ∀ x ∈ xs, ThgN H n x
theorem ThgN.thg {H : Hp} {n : Nat} {v : V} (h : ThgN H n v) : Thg H v := by
  cases n with
  | zero => exact h
  | succ n => exact h.1
def wholeB : V → Bool
  | .int _ => true
  | _ => false
def amongB (v : V) (a b : Int) : Bool := match v with
  | .int i => decide (a ≤ i ∧ i ≤ b)
  | _ => false
def wordB (v : V) (ws : List Str) : Bool := match v with
  | .str z => decide (z ∈ ws)
  | _ => false
section
variable {K : PySem.W.Frag} {σ : St} {H H' : Hp} {te ta tb : TE} {v : V} {T : BT} {ws : List Str}
theorem Thg.same (h : Thg H v) (s : Same H H') : Thg H' v := by
  cases v with
  | ref a =>
    rcases h with ⟨xs, e⟩ | ⟨xs, e⟩ | ⟨xs, e⟩
    · exact .inl ⟨xs, s _ _ e⟩
    · exact .inr (.inl ⟨xs, s _ _ e⟩)
    · exact .inr (.inr ⟨xs, s _ _ e⟩)
  | _ => exact h
theorem tupOf_same (h : Thg H v) (s : Same H H') : tupOf H' v = tupOf H v := by
  cases v with
  | ref a =>
    rcases h with ⟨xs, e⟩ | ⟨xs, e⟩ | ⟨xs, e⟩ <;> simp only [tupOf, e, s _ _ e]
  | _ => rfl
theorem lstOf_same (h : Thg H v) (s : Same H H') : lstOf H' v = lstOf H v := by
  cases v with
  | ref a =>
    rcases h with ⟨xs, e⟩ | ⟨xs, e⟩ | ⟨xs, e⟩ <;> simp only [lstOf, e, s _ _ e]
  | _ => rfl
theorem ThgN.same {n : Nat} : ∀ {v : V}, ThgN H n v → Same H H' → ThgN H' n v := by
  induction n with
  | zero => intro v h s; exact Thg.same h s
  | succ n ih =>
    intro v h s
    refine ⟨h.1.same s, fun xs hx x hm => ih (h.2 xs ?_ x hm) s⟩
    rw [tupOf_same h.1 s, lstOf_same h.1 s] at hx
    exact hx
end
def sortsL : List Str := ["leap", "slide", "jump"]
def aimsL : List Str := ["go", "hit", "any"]
def endsL : List Str := ["without", "home"]
def stuckL : List Str := ["lost", "even", "won"]
def tupB (H : Hp) (v : V) (n : Int) : Bool := match tupOf H v with
  | some xs => decide ((xs.length : Int) = n)
  | none => false
def lstB (H : Hp) (v : V) (a b : Int) : Bool := match lstOf H v with
  | some xs => decide (a ≤ (xs.length : Int) ∧ (xs.length : Int) ≤ b)
  | none => false
def limS (so : Str) : Int := if so = "leap" then 3 else 1
def stepB (so : Str) (x y : V) : Bool := amongB x (-limS so) (limS so) && amongB y (-limS so) (limS so) && !(decide (x = .int 0) && decide (y = .int 0))
def ruleX (xs : List V) (ws : List Str) : Bool := match xs with
  | [k, .str so, .str ai, x, y] => wordB k ws && decide (so ∈ sortsL) && decide (ai ∈ aimsL) && !(decide (so = "jump") && !decide (ai = "hit")) && stepB so x y
  | _ => false
def ruleB (H : Hp) (v : V) (ws : List Str) : Bool := match tupOf H v with
  | some xs => ruleX xs ws
  | none => false
def pairX (xs : List V) (A B : List Str) : Bool := match xs with
  | [a, b] => wordB a A && wordB b B
  | _ => false
def pairB (H : Hp) (v : V) (A B : List Str) : Bool := match tupOf H v with
  | some xs => pairX xs A B
  | none => false
def pairsB (H : Hp) (v : V) (A B : List Str) : Bool := match lstOf H v with
  | some vs => decide (vs.length ≤ 6) && vs.all (fun x => pairB H x A B)
  | none => false
def fstS (H : Hp) (v : V) : Str := match tupOf H v with
  | some (.str a :: _) => a
  | _ => Str.empty
def sndS (H : Hp) (v : V) : Str := match tupOf H v with
  | some (_ :: .str b :: _) => b
  | _ => Str.empty
def turnsB (H : Hp) (v : V) (ws : List Str) : Bool := pairsB H v ws ws && match lstOf H v with
  | some vs => !(vs.any fun x => decide (sndS H x ∈ vs.map (fstS H))) && decide ((vs.map (fstS H)).Nodup)
  | none => false
def spWholeG : Sp := fun vs H Q _ => ∃ v, vs = [v] ∧ Thg H v ∧ Q (.bl (wholeB v)) H
def spAmongG : Sp := fun vs H Q _ => ∃ v a b, vs = [v, .int a, .int b] ∧ Thg H v ∧ Q (.bl (amongB v a b)) H
def WsAt (K : PySem.W.Frag) (H : Hp) (d : Addr) (ws : List Str) : Prop := SqL K H d (ws.map V.str) ∨ SqT K H d (ws.map V.str)
def spWordG (K : PySem.W.Frag) : Sp := fun vs H Q _ => ∃ v d ws, vs = [v, .ref d] ∧ Thg H v ∧ WsAt K H d ws ∧ Q (.bl (wordB v ws)) H
def spTupG : Sp := fun vs H Q _ => ∃ v n, vs = [v, .int n] ∧ Thg H v ∧ Q (.bl (tupB H v n)) H
def spLstG : Sp := fun vs H Q _ => ∃ v a b, vs = [v, .int a, .int b] ∧ Thg H v ∧ Q (.bl (lstB H v a b)) H
def spStepG : Sp := fun vs H Q _ => ∃ so x y, vs = [.str so, x, y] ∧ Thg H x ∧ Thg H y ∧ Q (.bl (stepB so x y)) H
def spRuleG (K : PySem.W.Frag) : Sp := fun vs H Q _ => ∃ v d ws, vs = [v, .ref d] ∧ ThgN H 1 v ∧ WsAt K H d ws ∧ Q (.bl (ruleB H v ws)) H
def spPairG (K : PySem.W.Frag) : Sp := fun vs H Q _ => ∃ v d e A B, vs = [v, .ref d, .ref e] ∧ ThgN H 1 v ∧ WsAt K H d A ∧ WsAt K H e B ∧ Q (.bl (pairB H v A B)) H
def spPairsG (K : PySem.W.Frag) : Sp := fun vs H Q _ => ∃ v d e A B, vs = [v, .ref d, .ref e] ∧ ThgN H 2 v ∧ WsAt K H d A ∧ WsAt K H e B ∧ ∀ H', Same H H' → Q (.bl (pairsB H v A B)) H'
def spTurnsG (K : PySem.W.Frag) : Sp := fun vs H Q _ => ∃ v d ws, vs = [v, .ref d] ∧ ThgN H 2 v ∧ WsAt K H d ws ∧ ∀ H', Same H H' → Q (.bl (turnsB H v ws)) H'
def spEndsG (K : PySem.W.Frag) : Sp := fun vs H Q _ => ∃ v d ws, vs = [v, .ref d] ∧ ThgN H 2 v ∧ WsAt K H d ws ∧ ∀ H', Same H H' → Q (.bl (pairsB H v endsL ws)) H'
theorem Same.sqt {K : PySem.W.Frag} {H H' : Hp} {a : Addr} {xs : List V} (s : Same H H') (h : SqT K H a xs) : SqT K H' a xs := by
  rcases h with (e | ⟨o, e⟩) | r
  · exact .inl (.inl (s _ _ e))
  · exact .inl (.inr ⟨o, s _ _ e⟩)
  · exact .inr r
theorem WsAt.same {K : PySem.W.Frag} {H H' : Hp} {d : Addr} {ws : List Str} (h : WsAt K H d ws) (s : Same H H') : WsAt K H' d ws := by
  rcases h with h | h
  · exact .inl (s.seq h)
  · exact .inr (s.sqt h)
theorem andv_k {σ : St} {H : Hp} {Q : VK} {ta tb : TE} {a : Bool} (ha : Ev ta σ H (.bl a)) (h1 : a = true → tb σ H Q) (h2 : a = false → Q (.bl false) H) : cAndV ta tb σ H Q := ha _ (by
  cases a with
  | true => exact h1 rfl
  | false => exact h2 rfl)
structure RG0 (P : Program) (w : World) (K : PySem.W.Frag) (mg : Str → Option Value) (base : Heap) : Prop where
  is_whole : Cal P w K mg base "is_whole" ["thing"] 1 spWholeG
structure RG1 (P : Program) (w : World) (K : PySem.W.Frag) (mg : Str → Option Value) (base : Heap) : Prop where
  is_among : Cal P w K mg base "is_among" ["thing", "least", "most"] 2 spAmongG
structure RG2 (P : Program) (w : World) (K : PySem.W.Frag) (mg : Str → Option Value) (base : Heap) : Prop where
  is_word : Cal P w K mg base "is_word" ["thing", "words"] 1 (spWordG K)
  is_tuple_of : Cal P w K mg base "is_tuple_of" ["thing", "many"] 1 spTupG
structure RG3 (P : Program) (w : World) (K : PySem.W.Frag) (mg : Str → Option Value) (base : Heap) : Prop extends RG2 P w K mg base where
  is_step : Cal P w K mg base "is_step" ["sort", "across", "up"] 3 spStepG
structure RG4 (P : Program) (w : World) (K : PySem.W.Frag) (mg : Str → Option Value) (base : Heap) : Prop where
  is_list_of : Cal P w K mg base "is_list_of" ["thing", "least", "most"] 1 spLstG
  is_pair : Cal P w K mg base "is_pair" ["thing", "firsts", "seconds"] 2 (spPairG K)
structure RG5 (P : Program) (w : World) (K : PySem.W.Frag) (mg : Str → Option Value) (base : Heap) : Prop where
  are_pairs : Cal P w K mg base "are_pairs" ["thing", "firsts", "seconds"] 3 (spPairsG K)
end L2
namespace L2
open PySem PySem.Spec PyProof.Rows
def letB : V → Bool
  | .str z => match z.cps.toList with
    | [c] => decide (97 ≤ c ∧ c ≤ 122)
    | _ => false
  | _ => false
def strOf : V → Str
  | .str z => z
  | _ => Str.empty
def kindsB (H : Hp) (v : V) : Bool := match lstOf H v with
  | some xs => decide (1 ≤ xs.length ∧ xs.length ≤ 6) && xs.all letB && decide ((xs.map strOf).Nodup)
  | none => false
def rulesB (H : Hp) (v : V) (ws : List Str) : Bool := match lstOf H v with
  | some xs => decide (xs.length ≤ 24) && xs.all (fun x => ruleB H x ws)
  | none => false
def spLetterG : Sp := fun vs H Q _ => ∃ v, vs = [v] ∧ Thg H v ∧ Q (.bl (letB v)) H
def spKindsG : Sp := fun vs H Q _ => ∃ v, vs = [v] ∧ ThgN H 1 v ∧ ∀ H', Same H H' → Q (.bl (kindsB H v)) H'
def spRulesG (K : PySem.W.Frag) : Sp := fun vs H Q _ => ∃ v d ws, vs = [v, .ref d] ∧ ThgN H 2 v ∧ WsAt K H d ws ∧ ∀ H', Same H H' → Q (.bl (rulesB H v ws)) H'
structure GmC (K : PySem.W.Frag) (C : Addr) : Prop where
  cl : Cls K C
  board : NoAttr K C "board"
  kinds : NoAttr K C "kinds"
  rules : NoAttr K C "rules"
  turns : NoAttr K C "turns"
  ends : NoAttr K C "ends"
  stuck : NoAttr K C "stuck"
def gf1 (b : Addr) : List (Str × V) := putF "board" (.ref b) []
def gf2 (b k : Addr) : List (Str × V) := putF "kinds" (.ref k) (gf1 b)
def gf3 (b k r : Addr) : List (Str × V) := putF "rules" (.ref r) (gf2 b k)
def gf4 (b k r t : Addr) : List (Str × V) := putF "turns" (.ref t) (gf3 b k r)
def gf5 (b k r t e : Addr) : List (Str × V) := putF "ends" (.ref e) (gf4 b k r t)
def gflds (b k r t e : Addr) (st : Str) : List (Str × V) := putF "stuck" (.str st) (gf5 b k r t e)
section
variable {b k r t e : Addr} {st : Str}
theorem gf_board : (gflds b k r t e st).lookup ("board" : Str) = some (.ref b) := by
  unfold gflds gf5 gf4 gf3 gf2 gf1
  rw [lookup_putF, if_neg (by decide +kernel), lookup_putF, if_neg (by decide +kernel), lookup_putF, if_neg (by decide +kernel), lookup_putF, if_neg (by decide +kernel), lookup_putF, if_neg (by decide +kernel), lookup_putF, if_pos rfl]
theorem gf_kinds : (gflds b k r t e st).lookup ("kinds" : Str) = some (.ref k) := by
  unfold gflds gf5 gf4 gf3 gf2
  rw [lookup_putF, if_neg (by decide +kernel), lookup_putF, if_neg (by decide +kernel), lookup_putF, if_neg (by decide +kernel), lookup_putF, if_neg (by decide +kernel), lookup_putF, if_pos rfl]
theorem gf_rules : (gflds b k r t e st).lookup ("rules" : Str) = some (.ref r) := by
  unfold gflds gf5 gf4 gf3
  rw [lookup_putF, if_neg (by decide +kernel), lookup_putF, if_neg (by decide +kernel), lookup_putF, if_neg (by decide +kernel), lookup_putF, if_pos rfl]
theorem gf_turns : (gflds b k r t e st).lookup ("turns" : Str) = some (.ref t) := by
  unfold gflds gf5 gf4
  rw [lookup_putF, if_neg (by decide +kernel), lookup_putF, if_neg (by decide +kernel), lookup_putF, if_pos rfl]
theorem gf_ends : (gflds b k r t e st).lookup ("ends" : Str) = some (.ref e) := by
  unfold gflds gf5
  rw [lookup_putF, if_neg (by decide +kernel), lookup_putF, if_pos rfl]
theorem gf_stuck : (gflds b k r t e st).lookup ("stuck" : Str) = some (.str st) := by
  unfold gflds
  rw [lookup_putF, if_pos rfl]
theorem gf_no {m : Str} (h1 : ¬ m = "board") (h2 : ¬ m = "kinds") (h3 : ¬ m = "rules") (h4 : ¬ m = "turns") (h5 : ¬ m = "ends") (h6 : ¬ m = "stuck") : (gflds b k r t e st).lookup m = none := by
  unfold gflds gf5 gf4 gf3 gf2 gf1
  rw [lookup_putF, if_neg h6, lookup_putF, if_neg h5, lookup_putF, if_neg h4, lookup_putF, if_neg h3, lookup_putF, if_neg h2, lookup_putF, if_neg h1]
  rfl
end
structure GmAt (C : Addr) (H : Hp) (p b : Addr) (ks rs ts es : List V) (st : Str) : Prop where
  ex : ∃ dx kq rq tq eq, H p = some (.ins C dx (gflds b kq rq tq eq st)) ∧ H kq = some (.lst ks) ∧ H rq = some (.lst rs) ∧ H tq = some (.lst ts) ∧ H eq = some (.lst es)
section
variable {K : PySem.W.Frag} {C : Addr} {H H' : Hp} {p b : Addr} {ks rs ts es : List V} {st : Str}
theorem GmAt.same (G : GmAt C H p b ks rs ts es st) (s : Same H H') : GmAt C H' p b ks rs ts es st := by
  obtain ⟨dx, kq, rq, tq, eq, a, c, d, e, f⟩ := G.ex
  exact ⟨dx, kq, rq, tq, eq, s _ _ a, s _ _ c, s _ _ d, s _ _ e, s _ _ f⟩
theorem GmAt.board (G : GmAt C H p b ks rs ts es st) (D : GmC K C) : Fl K H p "board" (.ref b) := by
  obtain ⟨dx, kq, rq, tq, eq, a, _⟩ := G.ex
  exact ⟨C, dx, _, a, D.cl, D.board, gf_board⟩
theorem GmAt.kinds (G : GmAt C H p b ks rs ts es st) (D : GmC K C) : ∃ q, Fl K H p "kinds" (.ref q) ∧ H q = some (.lst ks) := by
  obtain ⟨dx, kq, rq, tq, eq, a, c, d, e, f⟩ := G.ex
  exact ⟨kq, ⟨C, dx, _, a, D.cl, D.kinds, gf_kinds⟩, c⟩
theorem GmAt.rules (G : GmAt C H p b ks rs ts es st) (D : GmC K C) : ∃ q, Fl K H p "rules" (.ref q) ∧ H q = some (.lst rs) := by
  obtain ⟨dx, kq, rq, tq, eq, a, c, d, e, f⟩ := G.ex
  exact ⟨rq, ⟨C, dx, _, a, D.cl, D.rules, gf_rules⟩, d⟩
theorem GmAt.turns (G : GmAt C H p b ks rs ts es st) (D : GmC K C) : ∃ q, Fl K H p "turns" (.ref q) ∧ H q = some (.lst ts) := by
  obtain ⟨dx, kq, rq, tq, eq, a, c, d, e, f⟩ := G.ex
  exact ⟨tq, ⟨C, dx, _, a, D.cl, D.turns, gf_turns⟩, e⟩
theorem GmAt.ends (G : GmAt C H p b ks rs ts es st) (D : GmC K C) : ∃ q, Fl K H p "ends" (.ref q) ∧ H q = some (.lst es) := by
  obtain ⟨dx, kq, rq, tq, eq, a, c, d, e, f⟩ := G.ex
  exact ⟨eq, ⟨C, dx, _, a, D.cl, D.ends, gf_ends⟩, f⟩
theorem GmAt.stuck (G : GmAt C H p b ks rs ts es st) (D : GmC K C) : Fl K H p "stuck" (.str st) := by
  obtain ⟨dx, kq, rq, tq, eq, a, _⟩ := G.ex
  exact ⟨C, dx, _, a, D.cl, D.stuck, gf_stuck⟩
theorem GmAt.no (G : GmAt C H p b ks rs ts es st) {m : Str} (h1 : ¬ m = "board" := by decide +kernel) (h2 : ¬ m = "kinds" := by decide +kernel) (h3 : ¬ m = "rules" := by decide +kernel) (h4 : ¬ m = "turns" := by decide +kernel) (h5 : ¬ m = "ends" := by decide +kernel) (h6 : ¬ m = "stuck" := by decide +kernel) : InsNo C m H p := by
  obtain ⟨dx, kq, rq, tq, eq, a, _⟩ := G.ex
  exact ⟨dx, _, a, gf_no h1 h2 h3 h4 h5 h6⟩
end
section
variable {H H' : Hp} {v : V} {A B ws : List Str}
end
def spGInit (K : PySem.W.Frag) (C : Addr) : Sp := fun vs H Q _ => ∃ (p b kd rd td ed dx : Addr) (ws : List Str) (rs ts es : List V) (st : Str), vs = [.ref p, .ref b, .ref kd, .ref rd, .ref td, .ref ed, .str st] ∧ H p = some (.ins C dx []) ∧ H kd = some (.lst (ws.map V.str)) ∧ H rd = some (.lst rs) ∧ H td = some (.lst ts) ∧ H ed = some (.lst es) ∧
  ThgN H 1 (.ref kd) ∧ ThgN H 2 (.ref rd) ∧ ThgN H 2 (.ref td) ∧ ThgN H 2 (.ref ed) ∧ kindsB H (.ref kd) = true ∧ rulesB H (.ref rd) ws = true ∧ turnsB H (.ref td) ws = true ∧ pairsB H (.ref ed) endsL ws = true ∧ st ∈ stuckL ∧ st.length ≤ 1000 ∧
  ∀ H', GmAt C H' p b (ws.map V.str) rs ts es st → SameBut p H H' → Q .non H'
structure GG1 (P : Program) (w : World) (K : PySem.W.Frag) (mg : Str → Option Value) (base : Heap) : Prop where
  is_list_of : Cal P w K mg base "is_list_of" ["thing", "least", "most"] 1 spLstG
  is_letter : Cal P w K mg base "is_letter" ["thing"] 1 spLetterG
  is_rule : Cal P w K mg base "is_rule" ["thing", "kinds"] 4 (spRuleG K)
structure GG2 (P : Program) (w : World) (K : PySem.W.Frag) (mg : Str → Option Value) (base : Heap) : Prop where
  are_kinds : Cal P w K mg base "are_kinds" ["thing"] 2 spKindsG
  are_rules : Cal P w K mg base "are_rules" ["thing", "kinds"] 5 (spRulesG K)
  is_turns : Cal P w K mg base "is_turns" ["thing", "kinds"] 4 (spTurnsG K)
  is_ends : Cal P w K mg base "is_ends" ["thing", "kinds"] 4 (spEndsG K)
  is_word : Cal P w K mg base "is_word" ["thing", "words"] 1 (spWordG K)
end L2
namespace L2
open PySem PySem.Spec PyProof.Rows
def ThgL (H : Hp) : V → Prop
  | .non => True
  | .bl _ => True
  | .int _ => True
  | .str z => z.length ≤ 1000
  | .ref a => (∃ xs, H a = some (.lst xs)) ∨ (∃ xs, H a = some (.tup xs))
  | _ => False
def ThL (H : Hp) : Nat → V → Prop
  | 0, v => ThgL H v
  | n + 1, v => ThgL H v ∧ ∀ xs, (tupOf H v = some xs ∨ lstOf H v = some xs) → ∀ x ∈ xs, ThL H n x
def eqS : V → Str → Bool
  | .str y, z => decide (y = z)
  | _, _ => false
theorem ThgL.thg {H : Hp} {v : V} (h : ThgL H v) : Thg H v := by
  cases v with
  | ref a =>
    rcases h with h | h
    · exact .inl h
    · exact .inr (.inl h)
  | _ => exact h
theorem ThL.l {H : Hp} {n : Nat} {v : V} (h : ThL H n v) : ThgL H v := by
  cases n with
  | zero => exact h
  | succ n => exact h.1
theorem ThL.n {H : Hp} : ∀ {n : Nat} {v : V}, ThL H n v → ThgN H n v
  | 0, v, h => ThgL.thg h
  | n + 1, v, h => ⟨h.1.thg, fun xs hx x hm => (h.2 xs hx x hm).n⟩
theorem ThgL.same {H H' : Hp} {v : V} (h : ThgL H v) (s : Same H H') : ThgL H' v := by
  cases v with
  | ref a =>
    rcases h with ⟨xs, e⟩ | ⟨xs, e⟩
    · exact .inl ⟨xs, s _ _ e⟩
    · exact .inr ⟨xs, s _ _ e⟩
  | _ => exact h
theorem ThL.same {H H' : Hp} : ∀ {n : Nat} {v : V}, ThL H n v → Same H H' → ThL H' n v
  | 0, v, h, s => ThgL.same h s
  | n + 1, v, h, s => ⟨h.1.same s, fun xs hx x hm => by
    rw [tupOf_same h.1.thg s, lstOf_same h.1.thg s] at hx
    exact (h.2 xs hx x hm).same s⟩
theorem ThL.down {H : Hp} : ∀ {n : Nat} {v : V}, ThL H (n + 1) v → ThL H n v
  | 0, v, h => h.1
  | n + 1, v, h => ⟨h.1, fun xs hx x hm => (h.2 xs hx x hm).down⟩
theorem ThL.flat {H : Hp} {n : Nat} {v : V} (h : ThgL H v) (f : flatV v = true) : ThL H n v := by
  cases n with
  | zero => exact h
  | succ n =>
    refine ⟨h, fun xs hx => ?_⟩
    cases v with
    | ref a => cases f
    | _ => rcases hx with z | z <;> cases z
theorem ThL.lst {H : Hp} {n : Nat} {a : Addr} {xs : List V} (h : H a = some (.lst xs)) (hx : ∀ x ∈ xs, ThL H n x) : ThL H (n + 1) (.ref a) := ⟨.inl ⟨xs, h⟩, fun ys hy => by
  rcases hy with z | z
  · simp only [tupOf, h] at z; cases z
  · simp only [lstOf, h] at z; cases z; exact hx⟩
theorem ThL.tup {H : Hp} {n : Nat} {a : Addr} {xs : List V} (h : H a = some (.tup xs)) (hx : ∀ x ∈ xs, ThL H n x) : ThL H (n + 1) (.ref a) := ⟨.inr ⟨xs, h⟩, fun ys hy => by
  rcases hy with z | z
  · simp only [tupOf, h] at z; cases z; exact hx
  · simp only [lstOf, h] at z; cases z⟩
def cmpG (op : CmpOp) (x y : V) (H : Hp) (Q : VK) : Prop := match op, y with
  | .Eq, .str z => ThgL H x ∧ Q (.bl (eqS x z)) H
  | .NotEq, .str z => ThgL H x ∧ Q (.bl (!eqS x z)) H
  | _, _ => False
def cmpG2 (x y : V) (H : Hp) (Q : VK) : Prop := match x with
  | .str z => ThgL H y ∧ Q (.bl (eqS y z)) H
  | _ => False
section
variable {X : Cx} {a b : Expr} {ta tb : TE} {pos : Pos}
def inG (K : PySem.W.Frag) (op : CmpOp) (x y : V) (H : Hp) (Q : VK) : Prop := match op, y with
  | .In, .ref d => ∃ ws, SqL K H d (ws.map V.str) ∧ ThgL H x ∧ Q (.bl (wordB x ws)) H
  | .NotIn, .ref d => ∃ ws, SqL K H d (ws.map V.str) ∧ ThgL H x ∧ Q (.bl (!wordB x ws)) H
  | _, _ => False
def cCmpG (op : CmpOp) (ta tb : TE) : TE := fun σ H Q => ta σ H fun x H1 => tb σ H1 fun y H2 => cmpG op x y H2 Q
def cInG (K : PySem.W.Frag) (op : CmpOp) (ta tb : TE) : TE := fun σ H Q => ta σ H fun x H1 => tb σ H1 fun y H2 => inG K op x y H2 Q
def cCmpG2 (ta tb : TE) : TE := fun σ H Q => ta σ H fun x H1 => tb σ H1 fun y H2 => cmpG2 x y H2 Q
def absA (xs : List V) (H : Hp) (Q : VK) : Prop := match xs with
  | [.int i] => Q (.int (if i < 0 then -i else i)) H
  | _ => False
end
section
variable {K : PySem.W.Frag} {σ : St} {H : Hp} {ta tb te : TE} {v : V} {z : Str} {d : Addr} {ws : List Str} {i j : Int}
theorem ev_pow (ha : Ev ta σ H (.int i)) (hb : Ev tb σ H (.int j)) (h : CPow i j) : Ev (cBin .Pow ta tb) σ H (.int (i ^ j.toNat)) := fun Q q => ha _ (hb _ ⟨h, q⟩)
end
end L2
namespace L2
open PySem PySem.Spec PyProof.Rows
def isRef : V → Bool
  | .ref _ => true
  | _ => false
theorem eqD_self {K : PySem.W.Frag} {H : Hp} {n : Nat} {x : V} (h : (flatV x || isRef x) = true) : EqD K H n x x true := by
  cases hf : flatV x with
  | true =>
    have := EqD.flat (K := K) (H := H) (n := n) hf hf
    rw [eqV_refl hf] at this
    exact this
  | false =>
    cases x with
    | ref a => exact .same
    | _ => first | (cases hf; done) | (rw [hf] at h; cases h)
theorem eqT_copy {K : PySem.W.Frag} {H : Hp} {n : Nat} {a b : Addr} {xs : List V} (ha : SqL K H a xs) (hb : SqL K H b xs) (hf : ∀ x ∈ xs, (flatV x || isRef x) = true) : EqT K H (n + 1) (.ref a) (.ref b) true := by
  have h := EqT.lst (es := fun _ => true) (n := n) ha hb rfl (fun i x y hx hy => by
    rw [hx] at hy; cases hy
    exact eqD_self (hf x (List.mem_of_getElem? hx)))
  rw [show ((List.range xs.length).all fun _ => true) = true from List.all_eq_true.mpr fun _ _ => rfl] at h
  exact h
def neS (K : PySem.W.Frag) (x y : V) (H : Hp) (Q : VK) : Prop := cmpA K .NotEq x y H Q ∨ ∃ a, x = .ref a ∧ y = .ref a ∧ H a = some (.dK []) ∧ Q (.bl false) H
section
variable {X : Cx} {a b : Expr} {ta tb : TE} {pos : Pos}
def cNeS (K : PySem.W.Frag) (ta tb : TE) : TE := fun σ H Q => ta σ H fun x H1 => tb σ H1 fun y H2 => neS K x y H2 Q
end
section
variable {X : Cx} {a b e o : Expr} {ta tb te to : TE} {pos p2 : Pos}
def cPopAt (to te : TE) : TE := fun σ H Q => to σ H fun x H1 => match x with
  | .ref l => (∃ xs, H1 l = some (.lst xs)) ∧ te σ H1 fun y H2 => rPopAt (.ref l) [y] H2 Q
  | _ => False
end
section
variable {K : PySem.W.Frag} {te to ta tb ti : TE} {u : TS} {D : Ends} {σ : St} {H : Hp} {Q : VK} {v : V}
end
end L2
namespace L2
open PySem PySem.Spec PyProof.Rows
structure ZAp (z TI TO i1 i2 : Addr) : Prop where
  a : TI ≠ z
  b : TO ≠ z
  c : i1 ≠ z
  d : i2 ≠ z
  e : TI ≠ TO
  f : TO ≠ i1
  g : TO ≠ i2
  h : i1 ≠ i2
  i : TI ≠ i1
  j : TI ≠ i2
section
variable {prog : Program} {w : World} {A : Around} {E : Value → Shared → Prop} {s : Shared} {z TI TO i1 i2 : Addr} {n1 n2 i : Nat} {P1 P2 : Nat → Value → Prop} {S1 S2 : Nat → Heap → Prop} {a b : Value}
end
def sI (x : Str) (t : Tok) : Obj := { cls := .type (strIterType x), data := .fields #[.str x t, .int 0 0] }
def zH2 (h : Heap) (x : Str) (t : Tok) (y : Str) (u : Tok) : Heap := (h.push (sI x t)).push (sI y u)
def zH4 (h : Heap) (x : Str) (t : Tok) (y : Str) (u : Tok) : Heap := ((zH2 h x t y u).push { cls := .type "tuple", data := .seq #[.ref h.objs.size, .ref (h.push (sI x t)).objs.size] }).push { cls := .type "tuple", data := .seq #[.none, .none] }
def zH5 (h : Heap) (x : Str) (t : Tok) (y : Str) (u : Tok) : Heap := (zH4 h x t y u).push { cls := .type "zip", data := .fields #[.none, .bool false, .bool false, .ref (zH2 h x t y u).objs.size, .ref ((zH2 h x t y u).push { cls := .type "tuple", data := .seq #[.ref h.objs.size, .ref (h.push (sI x t)).objs.size] }).objs.size] }
section
variable {prog : Program} {w : World} {A : Around} {E : Value → Shared → Prop} {s : Shared}
end
end L2
namespace L2
open PySem PySem.Spec PyProof.Rows
section
variable {X : Cx} {pins : List (Addr × Obj)} {σ : St} {H : Hp} {s : Shared} {h' : Heap}
end
def ItZS (x y : Str) : It :=
  ⟨fun i _ => i < x.cps.size, fun i H v H' => ∃ t c e, v = .ref t ∧ H t = none ∧ x.cps.toList[i]? = some c ∧ y.cps.toList[i]? = some e ∧ H' = upd H t (.tup [.str ⟨#[c]⟩, .str ⟨#[e]⟩]), fun i _ => i = x.cps.size⟩
def ZSt (z TI TO i1 i2 : Addr) (x : Str) (t : Tok) (y : Str) (u : Tok) (i : Nat) (h : Heap) : Prop := IsZip h z TI TO .none ∧ IsPair h TI (.ref i1) (.ref i2) ∧ (∃ a b, IsPair h TO a b) ∧ h.IsStrIter i1 (strIterType x) x t i ∧ h.IsStrIter i2 (strIterType y) y u i
section
variable {X : Cx} {p pos pos2 : Pos} {a b : Expr} {elts : List Expr} {k0 : Nat} {ta tb : TE}
def rZip (R : It → Hp → Prop) (vs : List V) (H : Hp) : Prop := match vs with
  | [.str x, .str y] => x.cps.size = y.cps.size ∧ R (ItZS x y) H
  | _ => False
def iZip (t : TA) : TI := fun σ H R => t σ H fun vs H1 => rZip R vs H1
end
section
variable {K : PySem.W.Frag} {σ rest : St} {H : Hp} {t : TA} {te : TE} {src : List (Option Nat)} {Q : VK} {x y : Str}
end
def cellB (ks : List Nat) (c e : Nat) : Bool := if e = 35 then decide (c = 35) else decide (c = 46 ∨ c ∈ ks ∨ c ∈ ks.map (· - 32))
def rowB (wi hi : Int) (hs : List Int) (ks : List Nat) (v : V) : Bool := match v with
  | .str z => decide (z.length = (emptyT wi hi hs).length) && (List.zipWith (cellB ks) z.cps.toList (emptyT wi hi hs).cps.toList).all id
  | _ => false
def placeB (wi hi : Int) (hs : List Int) (ks : List Nat) (H : Hp) (v : V) : Bool := match tupOf H v with
  | some [a, b] => rowB wi hi hs ks a && amongB b 0 1
  | _ => false
def spRowG (K : PySem.W.Frag) (cB cG : Addr) : Sp := fun vs H Q _ => ∃ (g b : Addr) (v : V) (wi hi : Int) (hs : List Int) (ks : List Nat) (rs ts es : List V) (st : Str), vs = [.ref g, v] ∧ GmAt cG H g b (ks.map strV) rs ts es st ∧ BrdAt K cB H b wi hi hs ∧ (∀ k ∈ ks, Ltr k) ∧ ks.length ≤ 6 ∧ Thg H v ∧ ∀ H', Same H H' → Q (.bl (rowB wi hi hs ks v)) H'
def spPlaceG (K : PySem.W.Frag) (cB cG : Addr) : Sp := fun vs H Q _ => ∃ (g b : Addr) (v : V) (wi hi : Int) (hs : List Int) (ks : List Nat) (rs ts es : List V) (st : Str), vs = [.ref g, v] ∧ GmAt cG H g b (ks.map strV) rs ts es st ∧ BrdAt K cB H b wi hi hs ∧ (∀ k ∈ ks, Ltr k) ∧ ks.length ≤ 6 ∧ ThgN H 1 v ∧ ∀ H', Same H H' → Q (.bl (placeB wi hi hs ks H v)) H'
structure CR1 (P : Program) (w : World) (K : PySem.W.Frag) (mg : Str → Option Value) (base : Heap) (cB : Addr) : Prop where
  sign_of : Cal P w K mg base "sign_of" ["kind", "side"] 1 spSign
  empty_row : Cal P w K mg base "empty_row" ["board"] 4 (spEmpty K cB)
structure CR2 (P : Program) (w : World) (K : PySem.W.Frag) (mg : Str → Option Value) (base : Heap) (cB cG : Addr) : Prop where
  is_tuple_of : Cal P w K mg base "is_tuple_of" ["thing", "many"] 1 spTupG
  is_among : Cal P w K mg base "is_among" ["thing", "least", "most"] 2 spAmongG
  is_row : Cal P w K mg base "is_row" ["game", "thing"] 5 (spRowG K cB cG)
section
variable {K : PySem.W.Frag} {te ta tb : TE} {t ta' : TA} {c : TT} {u e t1 : TS} {D : Ends} {σ : St} {H : Hp} {Q : VK} {R : List V → Hp → Prop} {v : V}
theorem st_midH (P : St → Hp → Prop) (hu : ∀ σ' H', P σ' H' → u D σ' H') (h : (∀ σ' H', P σ' H' → u D σ' H') → tSeq (tIfS c t1 e) u D σ H) : tSeq (tIfS c t1 e) u D σ H := h hu
theorem lis_k {d : Addr} {ys : List V} (h : Ev te σ H (.ref d)) (hd : SqL K H d ys ∨ SqT K H d ys) (q : ∀ l, H l = none → Q (.ref l) (upd H l (.lst ys))) : cB (listA K) (tCons te tNil) σ H Q := h _ ⟨ys, hd, q⟩
theorem asg1_k {i : Nat} (h : te σ H (fun v H' => D.nx (σ.set i (some v)) H')) : tAsg te (gName i) D σ H := h
theorem cons_k (h : Ev te σ H v) (q : ta' σ H (fun xs H2 => R (v :: xs) H2)) : tCons te ta' σ H R := h _ q
theorem consx_k (h : te σ H (fun x H1 => ta' σ H1 (fun xs H2 => R (x :: xs) H2))) : tCons te ta' σ H R := h
theorem nil_k (q : R [] H) : tNil σ H R := q
theorem tup_k (q : t σ H (fun vs H2 => vs.length ≤ sizeLine ∧ ∀ p, H2 p = none → Q (.ref p) (upd H2 p (.tup vs)))) : tTup t σ H Q := q
theorem cat_k (h : ta σ H fun x H1 => tb σ H1 fun y H2 => binA .Add x y H2 Q) : cBin .Add ta tb σ H Q := h
end
def upV : V → V
  | .str z => .str (one (z.cps.toList.getD 0 0 - 32))
  | v => v
end L2
namespace L2
open PySem PySem.Spec PyProof.Rows
theorem vals_of : ∀ {xs : List V} {us : List Value}, xs.length = us.length → (∀ (i : Nat) x u, xs[i]? = some x → us[i]? = some u → RelV x u) → Vals xs us
  | [], [], _, _ => .nil
  | [], _ :: _, h, _ => by simp at h
  | _ :: _, [], h, _ => by simp at h
  | x :: xs, u :: us, h, r => .cons (r 0 x u rfl rfl) (vals_of (by simpa using h) fun i a b h1 h2 => r (i + 1) a b (by simpa using h1) (by simpa using h2))
section
variable {X : Cx}
def lisSA (xs : List V) (H : Hp) (Q : VK) : Prop := match xs with
  | [.str z] => z.length ≤ 1000 ∧ ∀ l, H l = none → Q (.ref l) (upd H l (.lst (z.cps.toList.map strV)))
  | _ => False
end
end L2
namespace L2
open PySem PySem.Spec PyProof.Rows
section
variable {X : Cx} {a e : Expr} {ta te tb : TE} {p p2 pos : Pos}
theorem vals_intsE : ∀ {ns : List Int} {its : List Value}, Vals (ns.map V.int) its → ∃ ps : List (Int × Tok), its = ps.map (fun q => Value.int q.1 q.2) ∧ ns = ps.map (·.1)
  | [], its, r => by
    have r : Vals [] its := r
    cases r; exact ⟨[], rfl, rfl⟩
  | n :: ns, its, r => by
    have r : Vals (.int n :: ns.map V.int) its := r
    cases r with
    | cons r1 r2 =>
      obtain ⟨t, rfl⟩ := r1
      obtain ⟨ps, rfl, rfl⟩ := vals_intsE r2
      exact ⟨(n, t) :: ps, rfl, rfl⟩
def minLA (K : PySem.W.Frag) (xs : List V) (H : Hp) (Q : VK) : Prop := ∃ (q : Addr) (ns : List Int), xs = [.ref q] ∧ SqL K H q (ns.map V.int) ∧ 0 < ns.length ∧ ∀ m, m ∈ ns → (∀ a ∈ ns, m ≤ a) → Q (.int m) H
def maxLA (K : PySem.W.Frag) (xs : List V) (H : Hp) (Q : VK) : Prop := ∃ (q : Addr) (ns : List Int), xs = [.ref q] ∧ SqL K H q (ns.map V.int) ∧ 0 < ns.length ∧ ∀ m, m ∈ ns → (∀ a ∈ ns, a ≤ m) → Q (.int m) H
theorem call_minLA (hc : X.calm = true) : CallR X (.builtin "min") (minLA X.K) := by
  intro pins s σ H xs us Q I r h
  obtain ⟨q, ns, rfl, hS, hne, k⟩ := h
  obtain ⟨u, rfl, rx⟩ := vals1 r
  cases rx
  obtain ⟨its, r', pl, hz⟩ := I.list hS
  obtain ⟨ps, rfl, rfl⟩ := vals_intsE r'
  rw [List.length_map] at hne
  have e : (ps.map (fun q => Value.int q.1 q.2)).toArray = intItems ps.toArray := by simp [intItems]
  have hl : s.heap.IsList q (intItems ps.toArray) := e ▸ pl.isList
  have hsz : ps.toArray.size = ps.length := List.size_toArray ..
  refine min_intList (I.ok.hd hc) hl (by omega) fun v h' tk hv hk => ?_
  obtain ⟨t, rfl⟩ := intItems_at hv
  obtain ⟨h1, h2⟩ := argBest_lt (numAt ps.toArray) (ps.toArray.size - 1)
  refine ⟨.int _, H, I.kept hk, ⟨_, rfl⟩, k _ ?_ fun a ha => ?_⟩
  · rw [numAt_eq]; exact getD_mem (by rw [List.length_map]; show _ < ps.length; omega)
  · obtain ⟨j, hj, rfl⟩ := mem_getD ha
    rw [List.length_map] at hj
    have := h2 j (by omega)
    rw [numAt_eq (j := j)] at this
    exact this
theorem call_maxLA (hc : X.calm = true) : CallR X (.builtin "max") (maxLA X.K) := by
  intro pins s σ H xs us Q I r h
  obtain ⟨q, ns, rfl, hS, hne, k⟩ := h
  obtain ⟨u, rfl, rx⟩ := vals1 r
  cases rx
  obtain ⟨its, r', pl, hz⟩ := I.list hS
  obtain ⟨ps, rfl, rfl⟩ := vals_intsE r'
  rw [List.length_map] at hne
  have e : (ps.map (fun q => Value.int q.1 q.2)).toArray = intItems ps.toArray := by simp [intItems]
  have hl : s.heap.IsList q (intItems ps.toArray) := e ▸ pl.isList
  have hsz : ps.toArray.size = ps.length := List.size_toArray ..
  refine max_intList (I.ok.hd hc) hl (by omega) fun v h' tk hv hk => ?_
  obtain ⟨t, rfl⟩ := intItems_at hv
  obtain ⟨h1, h2⟩ := argBest_gt (numAt ps.toArray) (ps.toArray.size - 1)
  refine ⟨.int _, H, I.kept hk, ⟨_, rfl⟩, k _ ?_ fun a ha => ?_⟩
  · rw [numAt_eq]; exact getD_mem (by rw [List.length_map]; show _ < ps.length; omega)
  · obtain ⟨j, hj, rfl⟩ := mem_getD ha
    rw [List.length_map] at hj
    have := h2 j (by omega)
    rw [numAt_eq (j := j)] at this
    exact this
theorem kminL (K : PySem.W.Frag) (hc : X.calm = true := by rfl) (hK : X.K = K := by rfl) : CallR X (.builtin "min") (minLA K) := by
  subst hK; exact call_minLA hc
theorem kmaxL (K : PySem.W.Frag) (hc : X.calm = true := by rfl) (hK : X.K = K := by rfl) : CallR X (.builtin "max") (maxLA K) := by
  subst hK; exact call_maxLA hc
def maxA (xs : List V) (H : Hp) (Q : VK) : Prop := match xs with
  | [.int i, .int j] => Q (.int (if j > i then j else i)) H
  | _ => False
theorem call_maxA (hc : X.calm = true) : CallR X (.builtin "max") maxA := (call_max2 hc).imp fun xs H Q h => by
  unfold maxA at h
  split at h
  · exact ⟨_, _, rfl, h⟩
  · exact h.elim
def cTru (K : PySem.W.Frag) (ta : TE) : TT := fun σ H Q => ta σ H fun x H' => ∃ k, TruV K x H' k ∧ Q k H'
theorem ktru (K : PySem.W.Frag) (ha : PE X a ta) (he : ∀ whole, isTrue a X.env whole = (do let v ← whole; standAt a.pos; holding [v] (truthy v)) := by exact fun _ => rfl) (hK : X.K = K := by rfl) : PT X a (cTru K ta) := by
  subst hK; exact pt_truth ha he
def isA2 (K : PySem.W.Frag) (T : BT) (x : V) (H : Hp) (Q : VK) : Prop := isA T x H Q ∨ ∃ a xs, x = .ref a ∧ SqT K H a xs ∧ Q (.bl (isSub .tuple T)) H
theorem is_ok2 (T : BT) {pins : List (Addr × Obj)} {s : Shared} {σ : St} {H : Hp} {x : V} {u : Value} {Q : VK} (I : Inv X pins σ H s) (rx : RelV x u) (h : isA2 X.K T x H Q) : wpAny (model X.prog X.w) X.A (call (.builtin "isinstance") [u, .type T.s]) (EP X pins σ Q) X.xe s := by
  rcases h with h | ⟨a, xs, rfl, h, q⟩
  · exact is_ok T I rx h
  · cases rx
    obtain ⟨its, r, ⟨o, h1, h2, _⟩, hz⟩ := I.tuple h
    exact PySem.W.kia_one PySem.W.kitx_tuple I.kIn ⟨o, h1, h2⟩ (kit_bt _ .tuple T) (fun z => nomatch z) fun tk => ⟨.bl _, H, I.tok tk, rfl, q⟩
def cIs2 (K : PySem.W.Frag) (T : BT) (ta : TE) : TE := fun σ H Q => ta σ H fun x H1 => isA2 K T x H1 Q
theorem ce_is2 (T : BT) {n : Str} (ha : PE X a ta) (hg : Gl X "isinstance") (hm : X.mg "isinstance" = none) (hgT : Gl X n) (hmT : X.mg n = none) (hv : bootBuiltins n = some (.type T.s)) (hn : n ≠ "__name__" := by decide) (hdb : (n == ("__debug__" : Str)) = false := by decide)
    (he : starEach [a, .Name n p2] X.env = (false, eval a X.env) :: starEach [.Name n p2] X.env := by rfl) (he2 : starEach [.Name n p2] X.env = (false, eval (.Name n p2) X.env) :: starEach [] X.env := by rfl) (hpl : (backTo pos (starEach [.Name n p2] X.env)).any (·.1) = false := by rfl) :
    PE X (.Call (.Name "isinstance" p) [a, .Name n p2] [] pos) (cIs2 X.K T ta) := by
  intro pins s σ H Q I h
  refine wpAny_Call_Name_kw (ld_blt I hg hm bo_isinstance ?_ (by decide) (by decide))
  have hA : PA X [a, .Name n p2] (tCons ta (tCons (tC (.ty T.s)) tNil)) := pa_cons ha (pa_cons (pe_bltn hgT hmT hv rfl hn hdb) pa_nil he2) he
  refine PyProof.Rows.callWith_builtin1 (thn (hA pos pins s σ H (fun vs H1 => ∃ x, vs = [x, .ty T.s] ∧ isA2 X.K T x H1 Q) I ?_) fun us s1 ⟨vs, H1, I1, r1, x, e, q1⟩ => ?_) he hpl
  · have mono : (fun (x : V) H1 => isA2 X.K T x H1 Q) = fun x H1 => (tCons (tC (.ty T.s)) tNil) σ H1 fun xs H2 => ∃ y, x :: xs = [y, .ty T.s] ∧ isA2 X.K T y H2 Q := by
      funext x H1
      apply propext
      constructor
      · intro q; exact ⟨x, rfl, q⟩
      · rintro ⟨y, e, q⟩
        have : x = y := by injection e
        subst this
        exact q
    show ta σ H _
    rw [← mono]
    exact h
  · subst e
    obtain ⟨u, w', rfl, ru, rt⟩ := vals2 r1
    cases rt
    exact is_ok2 T I1 ru q1
theorem kis2 (K : PySem.W.Frag) (T : BT) {n : Str} (hm : X.mg "isinstance" = none) (hmT : X.mg n = none) (hv : bootBuiltins n = some (.type T.s)) (ha : PE X a ta) (hg : Gl X "isinstance" := by rfl) (hgT : Gl X n := by rfl) (hn : n ≠ "__name__" := by decide) (hdb : (n == ("__debug__" : Str)) = false := by decide)
    (he : starEach [a, .Name n p2] X.env = (false, eval a X.env) :: starEach [.Name n p2] X.env := by rfl) (he2 : starEach [.Name n p2] X.env = (false, eval (.Name n p2) X.env) :: starEach [] X.env := by rfl) (hpl : (backTo pos (starEach [.Name n p2] X.env)).any (·.1) = false := by rfl) (hK : X.K = K := by rfl) :
    PE X (.Call (.Name "isinstance" p) [a, .Name n p2] [] pos) (cIs2 K T ta) := by
  subst hK; exact ce_is2 T ha hg hm hgT hmT hv hn hdb he he2 hpl
end
section
variable {K : PySem.W.Frag} {σ : St} {H : Hp} {ta tb te to : TE} {Q : VK} {i j : Int}
theorem ev_max (ha : Ev ta σ H (.int i)) (hb : Ev tb σ H (.int j)) : Ev (cB maxA (tCons ta (tCons tb tNil))) σ H (.int (if j > i then j else i)) := fun Q q => ha _ (hb _ q)
theorem minL_k {d : Addr} {ns : List Int} (ha : Ev ta σ H (.ref d)) (h : SqL K H d (ns.map V.int)) (hn : 0 < ns.length) (q : ∀ m, m ∈ ns → (∀ a ∈ ns, m ≤ a) → Q (.int m) H) : cB (minLA K) (tCons ta tNil) σ H Q := ha _ ⟨d, ns, rfl, h, hn, q⟩
theorem maxL_k {d : Addr} {ns : List Int} (ha : Ev ta σ H (.ref d)) (h : SqL K H d (ns.map V.int)) (hn : 0 < ns.length) (q : ∀ m, m ∈ ns → (∀ a ∈ ns, a ≤ m) → Q (.int m) H) : cB (maxLA K) (tCons ta tNil) σ H Q := ha _ ⟨d, ns, rfl, h, hn, q⟩
theorem tv_truL {d : Addr} {xs : List V} (ha : Ev ta σ H (.ref d)) (h : SqL K H d xs) : Tv (cTru K ta) σ H (!xs.isEmpty) := fun Q q => ha _ ⟨_, .inl ⟨xs, h, rfl⟩, q⟩
theorem ev_ist2 {d : Addr} {xs : List V} {T : BT} (ho : Ev to σ H (.ref d)) (h : SqT K H d xs) : Ev (cIs2 K T to) σ H (.bl (isSub .tuple T)) := fun Q q => ho _ (.inr ⟨d, xs, rfl, h, q⟩)
end
section
variable {K : PySem.W.Frag} {σ : St} {H : Hp} {ta tb te to : TE} {Q : VK} {c : TT} {t e : TS} {D : Ends}
theorem ev_strI {i : Int} (ha : Ev ta σ H (.int i)) (h : i.natAbs.log2 < 1920) : Ev (cB strA (tCons ta tNil)) σ H (.str (toString i)) := fun Q q => ha _ ⟨h, q⟩
theorem pickT {ss : List Str} {i : Int} (h0 : 0 ≤ i) (h1 : i < ss.length) : ∃ s, atI (ss.map V.str) i = some (.str s) ∧ s ∈ ss := by
  obtain ⟨v, e1, e2⟩ := pickV (xs := ss.map V.str) h0 (by rw [List.length_map]; exact h1)
  obtain ⟨s, hs, rfl⟩ := List.mem_map.mp e2
  exact ⟨s, e1, hs⟩
theorem addI_k {i j : Int} (q : Q (.int (i + j)) H) : binA .Add (.int i) (.int j) H Q := q
theorem eqv_k {op : CmpOp} {x : V} (ha : Ev ta σ H x) (q : tb σ H fun y H2 => cmpA K op x y H2 Q) : cCmp K op ta tb σ H Q := ha _ q
theorem ife_k {b : Bool} (hc : Tv c σ H b) (h1 : b = true → t D σ H) (h2 : b = false → e D σ H) : tIfS c t e D σ H := hc _ (by
  cases b with
  | true => exact iteT (h1 rfl)
  | false => exact iteF (h2 rfl))
theorem torh_k {tt u : TT} {R : Bool → Hp → Prop} {b : Bool} (h : Tv tt σ H b) (q1 : b = true → R true H) (q2 : b = false → u σ H R) : tOr tt u σ H R := h _ (by
  cases b with
  | true => exact iteT (q1 rfl)
  | false => exact iteF (q2 rfl))
theorem torx_k {u : TT} {R : Bool → Hp → Prop} {op : CmpOp} {x : V} (ha : Ev ta σ H x) (q : tb σ H fun y H2 => cmpA K op x y H2 (bOnly fun c H3 => if c = true then R true H3 else u σ H3 R)) : tOr (cTest (cCmp K op ta tb)) u σ H R := ha _ q
theorem andx_k (h : ta σ H (bOnly fun c H1 => if c = true then tb σ H1 Q else Q (.bl false) H1)) : cAndV ta tb σ H Q := h
theorem b1x_k {r : List V → Hp → VK → Prop} (h : te σ H fun v H1 => r [v] H1 Q) : cB r (tCons te tNil) σ H Q := h
end
section
variable {K : PySem.W.Frag} {ta : TA} {te tl : TE} {src : List (Option Nat)} {σ rest : St} {H : Hp} {Q : VK}
theorem comp_mkR {n : Int} (hl : Av ta σ H [.int n]) (h0 : 0 ≤ n) (h1 : n ≤ 1000) (hs : subSt src σ = none :: rest) (R : Hp → V → Prop) (hR : ∀ H H' v, R H v → Same H H' → R H' v)
    (he : ∀ (i : Nat) H', i < n.toNat → Same H H' → ∀ Q : VK, (∀ v H2, R H2 v → Same H' H2 → Q v H2) → te (some (.int (0 + (i : Int))) :: rest) H' Q)
    (q : ∀ d H' ys, Same H H' → H' d = none → ys.length = n.toNat → (∀ y ∈ ys, R H' y) → Q (.ref d) (upd H' d (.lst ys))) : tComp (iRng1 ta) (gName 0) tNoIf te src σ H Q := by
  refine hl _ ⟨n, rfl, by omega, by omega, ?_⟩
  refine comp_inv n.toNat (fun i ys σ' H' => Same H H' ∧ (∃ v, σ' = v :: rest) ∧ ys.length = i ∧ ∀ y ∈ ys, R H' y) (by rw [sizeLine_eq]; omega)
    (fun i ys σ H h => Nat.le_of_eq h.2.2.1) (fun i ys σ H _ hi => hi) (fun ys σ H _ => Nat.le_refl _) ⟨Same.refl H, ⟨none, hs⟩, rfl, fun y hy => by cases hy⟩ ?_ ?_
  · rintro i ys _ H1 x H2 hi ⟨s1, ⟨v0, rfl⟩, hl, hy⟩ ⟨rfl, rfl⟩ Kt Kf ht hf
    simp only [gName, tNoIf, List.set_cons_zero, if_true]
    exact (he i _ hi s1 _ fun v H2 rv s2 => ht _ _ _ ⟨s1.trans s2, ⟨_, rfl⟩, by rw [List.length_append, hl]; rfl, fun y hm => by
      rcases List.mem_append.mp hm with z | z
      · exact hR _ _ _ (hy y z) s2
      · rw [List.mem_singleton.mp z]; exact rv⟩)
  · rintro ys _ H1 dd ⟨s1, _, hl, hy⟩ hd
    exact q dd H1 ys s1 hd hl hy
theorem comp_lstH {d : Addr} {xs : List V} (hl : Ev tl σ H (.ref d)) (hx : H d = some (.lst xs)) (hz : xs.length ≤ sizeLine) (hs : subSt src σ = none :: rest) (f : V → V)
    (he : ∀ x ∈ xs, ∀ H', Same H H' → ∀ Q : VK, (∀ H2, Same H' H2 → Q (f x) H2) → te (some x :: rest) H' Q)
    (q : ∀ H' d', Same H H' → H' d' = none → Q (.ref d') (upd H' d' (.lst (xs.map f)))) : tComp (iList K tl) (gName 0) tNoIf te src σ H Q := by
  refine hl _ ⟨d, rfl, ⟨xs, SqL.of hx⟩, ?_⟩
  refine comp_inv xs.length (fun i ys σ' H' => Same H H' ∧ (∃ v, σ' = v :: rest) ∧ ys = (xs.take i).map f) hz (fun i ys σ H h => by rw [h.2.2, List.length_map, List.length_take]; omega)
    (fun i ys σ H' h hi => ⟨xs, xs[i], SqL.of (h.1 _ _ hx), List.getElem?_eq_getElem hi⟩) (fun ys σ H' h => ⟨xs, SqL.of (h.1 _ _ hx), Nat.le_refl _⟩) ⟨Same.refl H, ⟨none, hs⟩, by simp⟩ ?_ ?_
  · rintro i ys _ H1 x H2 hi ⟨s1, ⟨v0, rfl⟩, rfl⟩ ⟨rfl, hy⟩ Kt Kf ht hf
    have ex := hy xs (SqL.of (s1 _ _ hx))
    simp only [gName, tNoIf, List.set_cons_zero, if_true]
    refine he x (List.mem_of_getElem? ex) _ s1 _ fun H2 s2 => ht _ _ _ ⟨s1.trans s2, ⟨_, rfl⟩, ?_⟩
    rw [List.take_add_one, ex, List.map_append]
    rfl
  · rintro ys _ H1 dd ⟨s1, _, rfl⟩ hd
    rw [List.take_length]
    exact q H1 dd s1 hd
end
end L2
local macro_rules | `(tactic| walk_at "rd") => `(tactic| simp only [L2.tSeq, L2.tIfS, L2.tRet, L2.tAsg, L2.gName, L2.tNext, L2.tDrop, L2.cVar, L2.tC, L2.cBin, L2.binA, L2.cCmp, L2.cmpA, L2.eqB, L2.cTest, L2.bOnly, L2.cAndV, L2.cOrV, L2.cNotV, L2.cNeg, L2.cIs, L2.isA, L2.cIx, L2.ixA, L2.cSl, L2.slA, L2.cPart, L2.tNoPart, L2.cB, L2.tCons, L2.tNil, L2.cSM, L2.cSM0, L2.cCall, L2.tNot, L2.tAnd, L2.tOr, L2.tIf, L2.cChain, L2.cChainT, L2.lenA, L2.minA, L2.strA, L2.intA, L2.swA, L2.upA, L2.cJR, List.getElem?_cons_zero, List.getElem?_cons_succ, List.set_cons_zero, List.set_cons_succ])
seal L2.PE L2.PT L2.PA L2.PS L2.PSs L2.PG L2.PGs L2.PI L2.PO L2.PIfs L2.PW L2.CallR L2.MtR L2.OpR L2.UnR L2.IxR L2.SlR
namespace L2
open PySem PySem.Spec PyProof.Rows
theorem FnOk.or {P : Program} {w : World} {K : PySem.W.Frag} {mg : Str → Option Value} {base : Heap} {CX : CXT} {k : Nat} {f : Addr} {fd : FuncData} {ps : List Str} {sp sp' : Sp} (F : FnOk P w K mg base CX k f fd ps sp) (G : FnOk P w K mg base CX k f fd ps sp') :
    FnOk P w K mg base CX k f fd ps (fun vs H Q E => sp vs H Q E ∨ sp' vs H Q E) :=
  ⟨fun vs H Q E h => h.elim (F.len vs H Q E) (G.len vs H Q E), fun A outer s H args us vs Q E hr he hb hv hs => hs.elim (F.run A outer s H args us vs Q E hr he hb hv) (G.run A outer s H args us vs Q E hr he hb hv)⟩
def spTextN : Sp := fun vs H Q _ => ∃ n : Int, vs = [.int n] ∧ 0 ≤ n ∧ n < 10 ^ 60 ∧ ∀ H', Same H H' → Q (.str (Str.ofString (toString n))) H'
def spText : Sp := fun vs H Q _ => ∃ n : Int, vs = [.int n] ∧ n.natAbs < 10 ^ 60 ∧ ∀ H', Same H H' → Q (.str (Str.ofString (toString n))) H'
def spTextM : Sp := fun vs H Q _ => ∃ n : Int, vs = [.int n] ∧ n < 0 ∧ n.natAbs < 10 ^ 60 ∧ ∀ H', Same H H' → Q (.str (Str.ofString (toString n))) H'
def figL (l : List Nat) : List Nat := match l with
  | 45 :: r => r
  | l => l
def okNum (l : List Nat) : Bool := decide (1 ≤ (figL l).length) && decide ((figL l).length ≤ 9) && (figL l).all (fun c => decide (48 ≤ c ∧ c ≤ 57)) && !((figL l).head? == some 48 && !(l == [48]))
def numO (x : Str) : Option Int := if okNum x.cps.toList = true then PySem.intText? x else none
def numV (x : Str) : V := match numO x with
  | some n => .int n
  | none => .non
def spNum : Sp := fun vs H Q _ => ∃ x, vs = [.str x] ∧ x.length ≤ 100 ∧ ∀ H', Same H H' → Q (numV x) H'
def fig (x : Str) : Str := if [45].isPrefixOf x.cps.toList = true then cutS x (some 1) none else x
section
variable {P : Program} {w : World} {K : PySem.W.Frag} {mg : Str → Option Value} {base : Heap}
end
def lawAt (ns : List Int) (k : Int) : Int := ((if 0 < ns.length then ns.getD (k % (ns.length : Int)).toNat 0 else 0) + 17 * k) * 48271 % 1000003
def spAt (K : PySem.W.Frag) : Sp := fun vs H Q _ => ∃ a ns k, vs = [.ref a, .int k] ∧ SqL K H a (ns.map V.int) ∧ 0 ≤ k ∧ k ≤ 1000 ∧ Q (.int (lawAt ns k)) H
def findV (a b : Str) : Int := match Builtin.Str.occurrences a b 0 a.length 1 with
  | i :: _ => (i : Int)
  | [] => -1
def findA (x : V) (vs : List V) (H : Hp) (Q : VK) : Prop := match x, vs with
  | .str a, [.str b] => Q (.int (findV a b)) H
  | _, _ => False
theorem dv_go : ∀ (l : List Nat) (a : Nat), a ≤ l.foldl (fun acc c => acc * 10 + (c - 48)) a
  | [], a => Nat.le_refl a
  | c :: r, a => Nat.le_trans (by omega) (dv_go r (a * 10 + (c - 48)))
end L2
namespace K21
open PySem L2
def top (i : Nat) : Stmt := PySem.Challenge.pw_playboard_k21_by_followers.main.body.getD i (.Pass ⟨0, 0, 0, 0⟩)
abbrev s_number_text : Stmt := top 1
theorem sc_number_text : FnScope ["number", "group", "groups", "left"] ["number"] (defScope s_number_text) := ⟨rfl, rfl, rfl, by decide +kernel, rfl, by decide +kernel, by decide +kernel⟩
abbrev s_by_followers : Stmt := top 4
theorem sc_by_followers : FnScope ["words", "lost", "won"] ["words"] (defScope s_by_followers) := ⟨rfl, rfl, rfl, by decide +kernel, rfl, by decide +kernel, by decide +kernel⟩
abbrev s_word_text : Stmt := top 5
theorem sc_word_text : FnScope ["word"] ["word"] (defScope s_word_text) := ⟨rfl, rfl, rfl, by decide +kernel, rfl, by decide +kernel, by decide +kernel⟩
abbrev s__law_cell_at : Stmt := top 7
theorem sc__law_cell_at : FnScope ["_law_script", "_law_k"] ["_law_script", "_law_k"] (defScope s__law_cell_at) := ⟨rfl, rfl, rfl, by decide +kernel, rfl, by decide +kernel, by decide +kernel⟩
abbrev s__law_word : Stmt := top 8
theorem sc__law_word : FnScope ["_law_cell", "_law_way", "_law_sort", "_law_many"] ["_law_cell", "_law_way"] (defScope s__law_word) := ⟨rfl, rfl, rfl, by decide +kernel, rfl, by decide +kernel, by decide +kernel⟩
abbrev s__law_due : Stmt := top 9
theorem sc__law_due : FnScope ["_law_words", "_law_least", "_law_most", "_law_others", "_law_sort", "_law_many"] ["_law_words"] (defScope s__law_due) := ⟨rfl, rfl, rfl, by decide +kernel, rfl, by decide +kernel, by decide +kernel⟩
abbrev s__law_text : Stmt := top 10
theorem sc__law_text : FnScope ["_law_word_here"] ["_law_word_here"] (defScope s__law_text) := ⟨rfl, rfl, rfl, by decide +kernel, rfl, by decide +kernel, by decide +kernel⟩
abbrev s__law_reads : Stmt := top 11
theorem sc__law_reads : FnScope ["_law_word_here", "_law_found"] ["_law_word_here"] (defScope s__law_reads) := ⟨rfl, rfl, rfl, by decide +kernel, rfl, by decide +kernel, by decide +kernel⟩
abbrev s_law : Stmt := top 12
theorem sc_law : FnScope ["_law_script", "_law_many", "_law_way", "_law_words", "_law_handed", "_law_found"] ["_law_script"] (defScope s_law) := ⟨rfl, rfl, rfl, by decide +kernel, rfl, by decide +kernel, by decide +kernel⟩
structure Txt (mg : Str → Option Value) (aV : Addr) : Prop where
  isinstance : mg "isinstance" = none
  int : mg "int" = none
  bool : mg "bool" = none
  str : mg "str" = none
  list : mg "list" = none
  tuple : mg "tuple" = none
  len : mg "len" = none
  range : mg "range" = none
  all : mg "all" = none
  min : mg "min" = none
  max : mg "max" = none
  reversed : mg "reversed" = none
  EVEN : ∃ u, mg "EVEN" = some u ∧ RelV (.ref aV) u
section
variable {P : Program} {w : World} {K : PySem.W.Frag} {mg : Str → Option Value} {base : Heap} {aV : Addr}
theorem ok_number_textN {f : Addr} {fd : FuncData} (F : Fun K "number_text" "number_text" s_number_text f fd) (T : Txt mg aV) : FnOk P w K mg base CX0 1 f fd ["number"] spTextN := by
  refine F.ok sc_number_text (fun vs H Q E h => ?_) (fun cdv A outer s H vs Q E hr h => ?_)
  · obtain ⟨n, rfl, _⟩ := h
    rfl
  · obtain ⟨n, rfl, h0, h1, k⟩ := h
    have hu := hu20 hr
    refine ⟨_, (pss_cons (ps_if (ktcmp K hu (cv 0) pe_int) pss_never pss_nil)
      (pss_cons (ps_set (i := 1) sc_number_text.nd rfl (Or.inl rfl) (ce_bin pe_int pe_int))
      (pss_cons (ps_set (i := 2) sc_number_text.nd rfl (Or.inl rfl) (pe_lst pa_nil))
      (pss_cons (ps_set (i := 3) sc_number_text.nd rfl (Or.inl rfl) (cv 0))
      (pss_cons (ps_while PassesOwn.never (ktcmp K hu (cv 3) (cv 1)) pss_never)
      (pss_cons (ps_expr (ce_app (cv 2) (ce_Ty call_strA bo_str T.str (pa_cons (cv 3) pa_nil))))
      (pss_one (ps_ret (kjr K T.reversed pe_str (cv 2)))))))))), ?_⟩
    show tSeq _ _ _ [some (.int n), none, none, none] H
    walk_at "rd"
    rw [decide_eq_false (by omega : ¬ n < 0)]
    refine iteF ⟨⟨by decide, by decide, by decide⟩, ?_⟩
    simp only [tLst, tNil]
    refine ⟨Nat.zero_le _, fun p hp => ?_⟩
    refine ⟨fun m σ' H' => m = 0 ∧ σ' = [some (.int n), some (.int (10 ^ (60 : Int).toNat)), some (.ref p), some (.int n)] ∧ H' = upd H p (.lst []), ⟨0, rfl, rfl, rfl⟩, ?_⟩
    rintro m σ' H' ⟨rfl, rfl, rfl⟩
    walk_at "rd"
    have hlt : ¬ ((10 : Int) ^ (60 : Int).toNat ≤ n) := by
      have e : (10 : Int) ^ (60 : Int).toNat = 10 ^ 60 := by decide
      rw [e]; omega
    rw [decide_eq_false hlt]
    simp only [Bool.false_eq_true, if_false]
    simp only [cApp, cVar, List.getElem?_cons_zero, List.getElem?_cons_succ, upd_same]
    refine ⟨⟨_, rfl⟩, ?_⟩
    have hlog : n.natAbs.log2 < 1920 := by
      have hz : n.natAbs < 2 ^ 200 := by
        have : (10 : Nat) ^ 60 < 2 ^ 200 := by decide
        omega
      by_cases hz0 : n.natAbs = 0
      · rw [hz0]; decide
      · have := (Nat.log2_lt hz0).mpr hz
        omega
    refine ⟨hlog, [], upd_same, by decide, ?_⟩
    refine ⟨[Str.ofString (toString n)], SqL.of upd_same, ?_, ?_⟩
    · have := PyProof.Rows.toString_length_le h0 (by decide) h1
      show (Str.ofString (toString n)).length + 0 + 1 * 0 ≤ 16777216
      omega
    · show Q (.str (Str.ofString (toString n))) _
      refine k _ ?_
      rw [upd_upd]
      exact (Same.refl H).upd hp
end
end K21
namespace K21
open PySem L2
abbrev Wd := Addr × Str × Int
def wv (e : Wd) : V := .ref e.1
def WdG (t : Str) (n : Int) : Prop := (t = "won" ∨ t = "lost" ∨ (t = "even" ∧ n = 0)) ∧ 0 ≤ n ∧ n ≤ 10 ^ 9 + 1
def WdAt (H : Hp) (e : Wd) : Prop := H e.1 = some (.tup [.str e.2.1, .int e.2.2]) ∧ WdG e.2.1 e.2.2 ∧ e.2.2 ≤ 10 ^ 9
theorem WdAt.same {H H' : Hp} {e : Wd} (h : WdAt H e) (s : Same H H') : WdAt H' e := ⟨s _ _ h.1, h.2⟩
def lsN (es : List Wd) (t : Str) : List Int := (es.filter fun e => decide (e.2.1 = t)).map (·.2.2)
def sndI (H : Hp) (v : V) : Int := match tupOf H v with
  | some [_, .int n] => n
  | _ => 0
theorem fst_wd {H : Hp} {e : Wd} (h : WdAt H e) : fstS H (wv e) = e.2.1 := by
  unfold fstS wv tupOf
  dsimp only
  rw [h.1]
theorem snd_wd {H : Hp} {e : Wd} (h : WdAt H e) : sndI H (wv e) = e.2.2 := by
  unfold sndI wv tupOf
  dsimp only
  rw [h.1]
theorem filt_wd {H : Hp} {t : Str} : ∀ {es : List Wd}, (∀ e ∈ es, WdAt H e) → ((es.map wv).filter fun x => decide (fstS H x = t)).map (fun x => V.int (sndI H x)) = (lsN es t).map V.int
  | [], _ => rfl
  | e :: es, h => by
    have he := h e (by simp)
    have ih := filt_wd (t := t) (fun e' he' => h e' (List.mem_cons_of_mem _ he'))
    unfold lsN at ih ⊢
    rw [List.map_cons, List.filter_cons, List.filter_cons, fst_wd he]
    by_cases q : e.2.1 = t
    · rw [decide_eq_true q, if_pos rfl, if_pos rfl, List.map_cons, List.map_cons, List.map_cons, ih, snd_wd he]
    · rw [decide_eq_false q, if_neg (by decide), if_neg (by decide), ih]
theorem ls_mem {es : List Wd} {t : Str} {m : Int} : m ∈ lsN es t ↔ ∃ e ∈ es, e.2.1 = t ∧ e.2.2 = m := by
  unfold lsN
  constructor
  · intro h
    obtain ⟨e, he, rfl⟩ := List.mem_map.mp h
    obtain ⟨h1, h2⟩ := List.mem_filter.mp he
    exact ⟨e, h1, of_decide_eq_true h2, rfl⟩
  · rintro ⟨e, h1, h2, rfl⟩
    exact List.mem_map.mpr ⟨e, List.mem_filter.mpr ⟨h1, decide_eq_true h2⟩, rfl⟩
theorem ls_all {es : List Wd} {t : Str} : (lsN es t).length = es.length ↔ ∀ e ∈ es, e.2.1 = t := by
  unfold lsN
  rw [List.length_map, List.length_filter_eq_length_iff]
  constructor
  · intro h e he; exact of_decide_eq_true (h e he)
  · intro h e he; exact decide_eq_true (h e he)
def IsBy (es : List Wd) (t : Str) (n : Int) : Prop :=
  (∃ m, m ∈ lsN es "lost" ∧ (∀ a ∈ lsN es "lost", m ≤ a) ∧ t = "won" ∧ n = m + 1) ∨
  (lsN es "lost" = [] ∧ (∀ e ∈ es, e.2.1 = "won") ∧ ∃ m, m ∈ lsN es "won" ∧ (∀ a ∈ lsN es "won", a ≤ m) ∧ t = "lost" ∧ n = m + 1) ∨
  (lsN es "lost" = [] ∧ ¬ (∀ e ∈ es, e.2.1 = "won") ∧ t = "even" ∧ n = 0)
theorem IsBy.uniq {es : List Wd} {t t' : Str} {n n' : Int} (h : IsBy es t n) (h' : IsBy es t' n') : t = t' ∧ n = n' := by
  rcases h with ⟨m, a1, a2, rfl, rfl⟩ | ⟨a0, a1, m, a2, a3, rfl, rfl⟩ | ⟨a0, a1, rfl, rfl⟩
  · rcases h' with ⟨m', b1, b2, rfl, rfl⟩ | ⟨b0, _⟩ | ⟨b0, _⟩
    · have := a2 _ b1
      have := b2 _ a1
      exact ⟨rfl, by omega⟩
    · rw [b0] at a1; cases a1
    · rw [b0] at a1; cases a1
  · rcases h' with ⟨m', b1, b2, rfl, rfl⟩ | ⟨b0, b1, m', b2, b3, rfl, rfl⟩ | ⟨b0, b1, rfl, rfl⟩
    · rw [a0] at b1; cases b1
    · have := a3 _ b2
      have := b3 _ a2
      exact ⟨rfl, by omega⟩
    · exact absurd a1 b1
  · rcases h' with ⟨m', b1, b2, rfl, rfl⟩ | ⟨b0, b1, m', b2, b3, rfl, rfl⟩ | ⟨b0, b1, rfl, rfl⟩
    · rw [a0] at b1; cases b1
    · exact absurd b1 a1
    · exact ⟨rfl, rfl⟩
def WdsAt (H : Hp) (d : Addr) (es : List Wd) : Prop := H d = some (.lst (es.map wv)) ∧ (∀ e ∈ es, WdAt H e) ∧ es.length ≤ 60
theorem WdsAt.same {H H' : Hp} {d : Addr} {es : List Wd} (h : WdsAt H d es) (s : Same H H') : WdsAt H' d es := ⟨s _ _ h.1, fun e he => (h.2.1 e he).same s, h.2.2⟩
theorem IsBy.good {H : Hp} {es : List Wd} {t : Str} {n : Int} (h : IsBy es t n) (hw : ∀ e ∈ es, WdAt H e) : WdG t n := by
  have b : ∀ {s : Str} {m : Int}, m ∈ lsN es s → 0 ≤ m ∧ m ≤ 10 ^ 9 := fun hm => by
    obtain ⟨e, he, _, rfl⟩ := ls_mem.mp hm
    have := hw e he
    exact ⟨this.2.1.2.1, this.2.2⟩
  rcases h with ⟨m, a1, a2, rfl, rfl⟩ | ⟨a0, a1, m, a2, a3, rfl, rfl⟩ | ⟨a0, a1, rfl, rfl⟩
  · have := b a1
    exact ⟨.inl rfl, by omega, by omega⟩
  · have := b a2
    exact ⟨.inr (.inl rfl), by omega, by omega⟩
  · exact ⟨.inr (.inr ⟨rfl, rfl⟩), by omega, by omega⟩
def wtext (t : Str) (n : Int) : Str := if t = "even" then "even" else t ++ " in " ++ Str.ofString (toString n)
def spBy (K : PySem.W.Frag) : Sp := fun vs H Q _ => ∃ (d : Addr) (es : List Wd), vs = [.ref d] ∧ WdsAt H d es ∧ 0 < es.length ∧ ∀ (p : Addr) (t : Str) (n : Int) (H' : Hp), (∀ H'', Same H' H'' → SqT K H'' p [.str t, .int n]) → IsBy es t n → Same H H' → Q (.ref p) H'
def spWT (K : PySem.W.Frag) : Sp := fun vs H Q _ => ∃ (a : Addr) (t : Str) (n : Int), vs = [.ref a] ∧ (∀ H', Same H H' → SqT K H' a [.str t, .int n]) ∧ WdG t n ∧ ∀ H', Same H H' → Q (.str (wtext t n)) H'
def spRd (K : PySem.W.Frag) : Sp := fun vs H Q _ => ∃ (a : Addr) (t : Str) (n : Int), vs = [.ref a] ∧ (∀ H', Same H H' → SqT K H' a [.str t, .int n]) ∧ WdG t n ∧ ∀ H', Same H H' → Q (.bl true) H'
def spWord : Sp := fun vs H Q _ => ∃ (c y : Int), vs = [.int c, .int y] ∧ ∀ (p : Addr) (t : Str) (n : Int) (H' : Hp), H' p = some (.tup [.str t, .int n]) → WdG t n → n ≤ 10 ^ 9 → Same H H' → Q (.ref p) H'
theorem eqT_word {K : PySem.W.Frag} {H : Hp} {a b : Addr} {t t' : Str} {n n' : Int} (ha : SqT K H a [.str t, .int n]) (hb : SqT K H b [.str t', .int n']) : EqT K H 20 (.ref a) (.ref b) (decide (t = t' ∧ n = n')) := by
  have h := EqT.tup (n := 19) (es := fun i => match i with | 0 => eqV (.str t) (.str t') | _ => eqV (.int n) (.int n')) ha hb (fun i x y hx hy => by
    match i, hx, hy with
    | 0, hx, hy =>
      simp at hx hy
      subst hx; subst hy
      exact EqD.flat rfl rfl
    | 1, hx, hy =>
      simp at hx hy
      subst hx; subst hy
      exact EqD.flat rfl rfl
    | i + 2, hx, hy => simp at hx)
  have e : ((List.range (min [V.str t, V.int n].length [V.str t', V.int n'].length)).all (fun i => match i with | 0 => eqV (.str t) (.str t') | _ => eqV (.int n) (.int n')) && [V.str t, V.int n].length == [V.str t', V.int n'].length) = decide (t = t' ∧ n = n') := by
    show ((List.range 2).all _ && true) = _
    rw [Bool.and_true]
    show (eqV (.str t) (.str t') && (eqV (.int n) (.int n') && true)) = _
    rw [Bool.and_true]
    show ((t == t') && (n == n')) = _
    by_cases h1 : t = t'
    · subst h1
      by_cases h2 : n = n'
      · subst h2; simp
      · simp [h2]
    · simp [h1]
  rw [e] at h
  exact h
structure B1 (P : Program) (w : World) (K : PySem.W.Frag) (mg : Str → Option Value) (base : Heap) : Prop where
  number_text : Cal P w K mg base "number_text" ["number"] 1 spTextN
structure B2 (P : Program) (w : World) (K : PySem.W.Frag) (mg : Str → Option Value) (base : Heap) : Prop where
  word_text : Cal P w K mg base "word_text" ["word"] 2 (spWT K)
  _law_text : Cal P w K mg base "_law_text" ["_law_word_here"] 1 (spWT K)
section
variable {P : Program} {w : World} {K : PySem.W.Frag} {mg : Str → Option Value} {base : Heap} {aV : Addr}
theorem ok_by_followers {f : Addr} {fd : FuncData} (F : Fun K "by_followers" "by_followers" s_by_followers f fd) (T : Txt mg aV) (hV : ∀ H, SqT K H aV [.str "even", .int 0]) : FnOk P w K mg base CX0 1 f fd ["words"] (spBy K) := by
  refine F.ok sc_by_followers (fun vs H Q E h => ?_) (fun cdv A outer s H vs Q E hr h => ?_)
  · obtain ⟨d, es, rfl, _⟩ := h
    rfl
  · obtain ⟨d, es, rfl, hw, hne, q⟩ := h
    have hu := hu20 hr
    refine ⟨_, (pss_cons (ps_setC (i := 1) rfl (cscope (N := ["word"]) (src := [none]) (defScope s_by_followers) ["words", "lost", "won"]) (kpl K (cv 0)) (fun _ _ _ => (pg_name' (i := 0) ["word"])) (fun _ _ _ => (pifs_one (ktcmp K hu (kix K (cv 0) pe_int) pe_str))) (fun _ _ _ => (kix K (cv 0) pe_int)) sc_by_followers.nd rfl (Or.inl rfl) rfl (Or.inl rfl))
      (pss_cons (ps_if (ktru K (cv 1)) (pss_one (ps_ret (pe_tup (pac pe_str (pac (ce_bin (kB (kminL K) bo_min T.min (pac (cv 1) pa_nil)) pe_int) pa_nil))))) pss_nil)
      (pss_cons (ps_setC (i := 2) rfl (cscope (N := ["word"]) (src := [none]) (defScope s_by_followers) ["words", "lost", "won"]) (kpl K (cv 0)) (fun _ _ _ => (pg_name' (i := 0) ["word"])) (fun _ _ _ => (pifs_one (ktcmp K hu (kix K (cv 0) pe_int) pe_str))) (fun _ _ _ => (kix K (cv 0) pe_int)) sc_by_followers.nd rfl (Or.inl rfl) rfl (Or.inl rfl))
      (pss_cons (ps_if (ktcmp K hu (kB (klen K) bo_len T.len (pac (cv 2) pa_nil)) (kB (klen K) bo_len T.len (pac (cv 0) pa_nil))) (pss_one (ps_ret (pe_tup (pac pe_str (pac (ce_bin (kB (kmaxL K) bo_max T.max (pac (cv 2) pa_nil)) pe_int) pa_nil))))) pss_nil)
      (pss_one (ps_ret (kg T.EVEN))))))), ?_⟩
    show tSeq _ _ _ [some (.ref d), none, none] H
    have i0 : ∀ (H' : Hp) (x : V) (rest : St), Same H H' → x ∈ es.map wv → Ev (cIx K (cVar 0) (tC (.int 0))) (some x :: rest) H' (.str (fstS H x)) := fun H' x rest s hx => by
      obtain ⟨e, he, rfl⟩ := List.mem_map.mp hx
      rw [fst_wd (hw.2.1 e he)]
      exact ev_ix (ev_v rfl) ev_c (.inr (SqT.of (s _ _ (hw.2.1 e he).1))) (atI_nat (j := 0) rfl)
    have i1 : ∀ (H' : Hp) (x : V) (rest : St), Same H H' → x ∈ es.map wv → Ev (cIx K (cVar 0) (tC (.int 1))) (some x :: rest) H' (.int (sndI H x)) := fun H' x rest s hx => by
      obtain ⟨e, he, rfl⟩ := List.mem_map.mp hx
      rw [snd_wd (hw.2.1 e he)]
      exact ev_ix (ev_v rfl) ev_c (.inr (SqT.of (s _ _ (hw.2.1 e he).1))) (atI_nat (j := 1) rfl)
    have hz : (es.map wv).length ≤ sizeLine := by rw [List.length_map, sizeLine_eq]; have := hw.2.2; omega
    refine st_asg (fun v H' => ∃ l, v = .ref l ∧ H' l = some (.lst ((lsN es "lost").map V.int)) ∧ Same H H') (fun Q q => ?_) ?_
    · refine comp_ev (d := d) (xs := es.map wv) (rest := []) (ev_v rfl) (SqL.of hw.1) hz rfl (fun x => decide (fstS H x = "lost")) (fun x => .int (sndI H x)) (fun x hx => tv_e (ev_eqs (i0 H x _ (Same.refl H) hx) ev_c)) (fun x hx _ => i1 H x _ (Same.refl H) hx) (fun p hp => q _ _ ⟨p, rfl, ?_, (Same.refl H).upd hp⟩)
      rw [upd_same, filt_wd hw.2.1]
    rintro _ H1 ⟨l, rfl, el, s1⟩
    show tSeq _ _ _ [some (.ref d), some (.ref l), none] H1
    refine st_tst (tv_truL (ev_v rfl) (SqL.of el)) (fun h => ?_) (fun h => ?_)
    · have hp : 0 < (lsN es "lost").length := by
        cases e : lsN es "lost" with
        | nil => rw [e] at h; cases h
        | cons a b => exact Nat.succ_pos _
      refine tup_k (cons_k ev_c (consx_k (cat_k (minL_k (K := K) (ev_v rfl) (SqL.of el) hp fun m m1 m2 => ?_))))
      refine evk ev_c (addI_k ?_)
      refine nil_k ⟨by show 2 ≤ sizeLine; decide, fun p hp' => q p "won" (m + 1) _ (fun H'' s'' => SqT.of (s'' _ _ upd_same)) (.inl ⟨m, m1, m2, rfl, rfl⟩) (s1.upd hp')⟩
    have hn : lsN es "lost" = [] := by
      cases e : lsN es "lost" with
      | nil => rfl
      | cons a b => rw [e] at h; cases h
    refine st_asg (fun v H' => ∃ l, v = .ref l ∧ H' l = some (.lst ((lsN es "won").map V.int)) ∧ Same H1 H') (fun Q q => ?_) ?_
    · refine comp_ev (d := d) (xs := es.map wv) (rest := []) (ev_v rfl) (SqL.of (s1 _ _ hw.1)) hz rfl (fun x => decide (fstS H x = "won")) (fun x => .int (sndI H x)) (fun x hx => tv_e (ev_eqs (i0 H1 x _ s1 hx) ev_c)) (fun x hx _ => i1 H1 x _ s1 hx) (fun p hp => q _ _ ⟨p, rfl, ?_, (Same.refl H1).upd hp⟩)
      rw [upd_same, filt_wd hw.2.1]
    rintro _ H2 ⟨l2, rfl, el2, s2⟩
    show tSeq _ _ _ [some (.ref d), some (.ref l), some (.ref l2)] H2
    have s02 := s1.trans s2
    refine st_tst (tv_e (ev_eq (ev_len (ev_v rfl) (.inl (SqL.of el2))) (ev_len (ev_v rfl) (.inl (SqL.of (s02 _ _ hw.1)))))) (fun h => ?_) (fun h => ?_)
    · have h := of_decide_eq_true h
      rw [List.length_map, List.length_map] at h
      have hl : (lsN es "won").length = es.length := by omega
      refine tup_k (cons_k ev_c (consx_k (cat_k (maxL_k (K := K) (ev_v rfl) (SqL.of el2) (by omega) fun m m1 m2 => ?_))))
      refine evk ev_c (addI_k ?_)
      refine nil_k ⟨by show 2 ≤ sizeLine; decide, fun p hp' => q p "lost" (m + 1) _ (fun H'' s'' => SqT.of (s'' _ _ upd_same)) (.inr (.inl ⟨hn, ls_all.mp hl, m, m1, m2, rfl, rfl⟩)) (s02.upd hp')⟩
    · have h := of_decide_eq_false h
      rw [List.length_map, List.length_map] at h
      exact st_ret ev_c (q aV "even" 0 H2 (fun H'' _ => hV H'') (.inr (.inr ⟨hn, fun z => h (by rw [ls_all.mpr z]), rfl, rfl⟩)) s02)
theorem ok_word_text {f : Addr} {fd : FuncData} (F : Fun K "word_text" "word_text" s_word_text f fd) (T : Txt mg aV) (hV : ∀ H, SqT K H aV [.str "even", .int 0]) (C : B1 P w K mg base) : FnOk P w K mg base CX0 2 f fd ["word"] (spWT K) := by
  refine F.ok sc_word_text (fun vs H Q E h => ?_) (fun cdv A outer s H vs Q E hr h => ?_)
  · obtain ⟨a, t, n, rfl, _⟩ := h
    rfl
  · obtain ⟨a, t, n, rfl, ha, g, q⟩ := h
    have hu := hu20 hr
    refine ⟨_, (pss_cons (ps_if (ktcmp K hu (cv 0) (kg T.EVEN)) (pss_one (ps_ret pe_str)) pss_nil)
      (pss_one (ps_ret (ce_bin (ce_bin (kix K (cv 0) pe_int) pe_str) (kcall C.number_text hr (pac (kix K (cv 0) pe_int) pa_nil)))))), ?_⟩
    show tSeq _ _ _ [some (.ref a)] H
    refine st_tst (tv_e (ev_eqr (ev_v rfl) ev_c (eqT_word (ha H (Same.refl H)) (hV H)))) (fun h => ?_) (fun h => ?_)
    · have h := of_decide_eq_true h
      have k := q H (Same.refl H)
      unfold wtext at k
      rw [if_pos h.1] at k
      exact st_ret ev_c k
    · have h := of_decide_eq_false h
      obtain ⟨g1, g2, g3⟩ := g
      have ht : t.length ≤ 4 ∧ ¬ t = "even" := by
        rcases g1 with rfl | rfl | ⟨rfl, rfl⟩
        · exact ⟨by decide, by decide⟩
        · exact ⟨by decide, by decide⟩
        · exact absurd ⟨rfl, rfl⟩ h
      have hz := PyProof.Rows.toString_length_le (v := n) g2 (k := 60) (by decide) (by omega)
      refine cat_k (evk (v := .str (t ++ " in ")) (ev_adds (ev_ix (ev_v rfl) ev_c (.inr (ha H (Same.refl H))) (atI_nat (j := 0) rfl)) ev_c (by show t.length + 4 ≤ sizeLine; rw [sizeLine_eq]; omega)) ?_)
      refine cal_k (av_cons (ev_ix (ev_v rfl) ev_c (.inr (ha H (Same.refl H))) (atI_nat (j := 1) rfl)) av_nil) ⟨n, rfl, g2, by omega, fun H' s' => ?_⟩
      have k := q H' s'
      unfold wtext at k
      rw [if_neg ht.2] at k
      refine ⟨?_, k⟩
      have hl : (t ++ " in " : Str).length = t.length + 4 := by rw [str_len, str_app, List.length_append, ← str_len]; rfl
      rw [hl, sizeLine_eq]
      omega
theorem ok__law_text {f : Addr} {fd : FuncData} (F : Fun K "_law_text" "_law_text" s__law_text f fd) (T : Txt mg aV) : FnOk P w K mg base CX0 1 f fd ["_law_word_here"] (spWT K) := by
  refine F.ok sc__law_text (fun vs H Q E h => ?_) (fun cdv A outer s H vs Q E hr h => ?_)
  · obtain ⟨a, t, n, rfl, _⟩ := h
    rfl
  · obtain ⟨a, t, n, rfl, ha, g, q⟩ := h
    have hu := hu20 hr
    refine ⟨_, (pss_cons (ps_if (ktcmp K hu (kix K (cv 0) pe_int) pe_str) (pss_one (ps_ret pe_str)) pss_nil)
      (pss_one (ps_ret (ce_bin (ce_bin (kix K (cv 0) pe_int) pe_str) (kTy call_strA bo_str T.str (pac (kix K (cv 0) pe_int) pa_nil)))))), ?_⟩
    show tSeq _ _ _ [some (.ref a)] H
    have k := q H (Same.refl H)
    have e0 : Ev (cIx K (cVar 0) (tC (.int 0))) [some (V.ref a)] H (.str t) := ev_ix (ev_v rfl) ev_c (.inr (ha H (Same.refl H))) (atI_nat (j := 0) rfl)
    have e1 : Ev (cIx K (cVar 0) (tC (.int 1))) [some (V.ref a)] H (.int n) := ev_ix (ev_v rfl) ev_c (.inr (ha H (Same.refl H))) (atI_nat (j := 1) rfl)
    unfold wtext at k
    refine st_tst (tv_e (ev_eqs e0 ev_c)) (fun h => ?_) (fun h => ?_)
    · rw [if_pos (of_decide_eq_true h)] at k
      exact st_ret ev_c k
    · rw [if_neg (of_decide_eq_false h)] at k
      obtain ⟨g1, g2, g3⟩ := g
      have ht : t.length ≤ 4 := by
        rcases g1 with rfl | rfl | ⟨rfl, rfl⟩ <;> decide
      have hz := PyProof.Rows.toString_length_le (v := n) g2 (k := 60) (by decide) (by omega)
      have hl : (t ++ " in " : Str).length = t.length + 4 := by rw [str_len, str_app, List.length_append, ← str_len]; rfl
      have hlog : n.natAbs.log2 < 1920 := by
        have hz : n.natAbs < 2 ^ 200 := by omega
        by_cases hz0 : n.natAbs = 0
        · rw [hz0]; decide
        · have := (Nat.log2_lt hz0).mpr hz
          omega
      exact st_ret (ev_adds (ev_adds e0 ev_c (by show t.length + 4 ≤ sizeLine; rw [sizeLine_eq]; omega)) (ev_strI e1 hlog) (by rw [hl, sizeLine_eq]; show t.length + 4 + (Str.ofString (toString n)).length ≤ _; omega)) k
theorem ok__law_reads {f : Addr} {fd : FuncData} (F : Fun K "_law_reads" "_law_reads" s__law_reads f fd) (T : Txt mg aV) (C : B2 P w K mg base) : FnOk P w K mg base CX0 3 f fd ["_law_word_here"] (spRd K) := by
  refine F.ok sc__law_reads (fun vs H Q E h => ?_) (fun cdv A outer s H vs Q E hr h => ?_)
  · obtain ⟨a, t, n, rfl, _⟩ := h
    rfl
  · obtain ⟨a, t, n, rfl, ha, g, q⟩ := h
    have hu := hu20 hr
    refine ⟨_, (pss_cons (ps_set (i := 1) sc__law_reads.nd rfl (Or.inl rfl) (kcall C.word_text hr (pac (cv 0) pa_nil)))
      (pss_one (ps_ret (ce_and (kis .str T.isinstance T.str bo_str (cv 1)) (pe_one (kcmp K hu (cv 1) (kcall C._law_text hr (pac (cv 0) pa_nil)))))))), ?_⟩
    show tSeq _ _ _ [some (.ref a), none] H
    refine st_asg (fun v H' => v = .str (wtext t n) ∧ Same H H') (fun Q q => cal_k (av_cons (ev_v rfl) av_nil) ⟨a, t, n, rfl, ha, g, fun H' s' => q _ _ ⟨rfl, s'⟩⟩) ?_
    rintro _ H1 ⟨rfl, s1⟩
    show tRet _ _ [some (.ref a), some (.str (wtext t n))] H1
    refine andv_k (a := true) (ev_iss (ev_v rfl)) (fun _ => ?_) (fun h => by cases h)
    refine eqv_k (ev_v rfl) (cal_k (av_cons (ev_v rfl) av_nil) ⟨a, t, n, rfl, fun H' s' => ha H' (s1.trans s'), g, fun H' s' => ?_⟩)
    show Q (.bl (decide (wtext t n = wtext t n))) H'
    rw [decide_eq_true rfl]
    exact q _ (s1.trans s')
theorem ok__law_word {f : Addr} {fd : FuncData} (F : Fun K "_law_word" "_law_word" s__law_word f fd) (T : Txt mg aV) : FnOk P w K mg base CX0 1 f fd ["_law_cell", "_law_way"] spWord := by
  refine F.ok sc__law_word (fun vs H Q E h => ?_) (fun cdv A outer s H vs Q E hr h => ?_)
  · obtain ⟨c, y, rfl, _⟩ := h
    rfl
  · obtain ⟨c, y, rfl, q⟩ := h
    have hu := hu20 hr
    refine ⟨_, (pss_cons (ps_set (i := 2) sc__law_word.nd rfl (Or.inl rfl) (kix K (pe_lst (pa_consts rfl)) (ce_bin (cv 0) pe_int)))
      (pss_cons (ps_if (ktcmp K hu (ce_bin (cv 1) pe_int) pe_int) (pss_one (ps_set (i := 2) sc__law_word.nd rfl (Or.inl rfl) (kix K (pe_lst (pa_consts rfl)) (ce_bin (ce_bin (cv 1) pe_int) pe_int)))) pss_nil)
      (pss_cons (ps_set (i := 3) sc__law_word.nd rfl (Or.inl rfl) (ce_bin (ce_bin (cv 0) pe_int) pe_int))
      (pss_cons (ps_if (ktcmp K hu (ce_bin (ce_bin (cv 0) pe_int) pe_int) pe_int) (pss_one (ps_set (i := 3) sc__law_word.nd rfl (Or.inl rfl) (ce_bin (ce_bin (cv 0) pe_int) (ce_bin (ce_bin pe_int pe_int) pe_int)))) pss_nil)
      (pss_cons (ps_if (ktcmp K hu (cv 2) pe_str) (pss_one (ps_set (i := 3) sc__law_word.nd rfl (Or.inl rfl) pe_int)) pss_nil)
      (pss_one (ps_ret (pe_tup (pac (cv 2) (pac (cv 3) pa_nil)))))))))), ?_⟩
    show tSeq _ _ _ [some (.int c), some (.int y), none, none] H
    let So := fun t : Str => t = "won" ∨ t = "lost" ∨ t = "even"
    refine st_asg (fun v H' => ∃ t : Str, v = .str t ∧ So t ∧ Same H H') (fun Q q => ?_) ?_
    · obtain ⟨t, e, ht⟩ := pickT (ss := ["won", "lost", "even", "won"]) (i := c % 4) (by omega) (by show _ < (4 : Int); omega)
      refine lix_k av_cs (by decide) (fun H' => (ev_mod (ev_v rfl) ev_c (by decide))) e (fun H' s => q _ _ ⟨t, rfl, ?_, s⟩)
      simp only [List.mem_cons, List.not_mem_nil, or_false] at ht
      rcases ht with rfl | rfl | rfl | rfl
      · exact .inl rfl
      · exact .inr (.inl rfl)
      · exact .inr (.inr rfl)
      · exact .inl rfl
    rintro _ H1 ⟨t, rfl, ht, s1⟩
    show tSeq _ _ _ [some (.int c), some (.int y), some (.str t), none] H1
    refine st_midH (fun σ' H' => ∃ t : Str, σ' = [some (.int c), some (.int y), some (.str t), none] ∧ So t ∧ Same H H') ?_ (fun go => ?_)
    rotate_left
    · refine st_tst (tv_e (ev_eq (ev_mod (ev_v rfl) ev_c (by decide)) ev_c)) (fun _ => ?_) (fun _ => go _ _ ⟨t, rfl, ht, s1⟩)
      obtain ⟨t, e, ht⟩ := pickT (ss := ["won", "lost", "even"]) (i := y / 3 % 3) (by omega) (by show _ < (3 : Int); omega)
      refine asg1_k (lix_k av_cs (by decide) (fun H' => (ev_mod (ev_div (ev_v rfl) ev_c ⟨by decide, by decide⟩) ev_c (by decide))) e (fun H' s => go _ _ ⟨t, rfl, ?_, s1.trans s⟩))
      simp only [List.mem_cons, List.not_mem_nil, or_false] at ht
      rcases ht with rfl | rfl | rfl
      · exact .inl rfl
      · exact .inr (.inl rfl)
      · exact .inr (.inr rfl)
    clear ht s1 t H1
    rintro _ H1 ⟨t, rfl, ht, s1⟩
    refine st_set (ev_mod (ev_div (ev_v rfl) ev_c ⟨by decide, by decide⟩) ev_c (by decide)) ?_
    show tSeq _ _ _ [some (.int c), some (.int y), some (.str t), some (.int (c / 4 % 10))] H1
    refine st_midH (fun σ' H' => ∃ n : Int, σ' = [some (.int c), some (.int y), some (.str t), some (.int n)] ∧ 0 ≤ n ∧ n ≤ 10 ^ 9 ∧ H1 = H') ?_ (fun go => ?_)
    rotate_left
    · refine st_tst (tv_e (ev_eq (ev_mod (ev_div (ev_v rfl) ev_c ⟨by decide, by decide⟩) ev_c (by decide)) ev_c)) (fun _ => ?_) (fun _ => go _ _ ⟨_, rfl, by omega, by omega, rfl⟩)
      have e9 : (10 : Int) ^ (9 : Int).toNat + 1 = 1000000001 := by decide
      refine st_set1 (ev_mod (ev_div (ev_v rfl) ev_c ⟨by decide, by decide⟩) (ev_add (ev_pow ev_c ev_c ⟨by decide, by decide, by decide⟩) ev_c) (by rw [e9]; decide)) (go _ _ ⟨_, rfl, ?_, ?_, rfl⟩)
      · rw [e9]; omega
      · rw [e9]; omega
    rintro _ _ ⟨n, rfl, n0, n1, rfl⟩
    refine st_midH (fun σ' H' => ∃ n : Int, σ' = [some (.int c), some (.int y), some (.str t), some (.int n)] ∧ WdG t n ∧ n ≤ 10 ^ 9 ∧ H1 = H') ?_ (fun go => ?_)
    rotate_left
    · refine st_tst (tv_e (ev_eqs (ev_v rfl) ev_c)) (fun h => ?_) (fun h => ?_)
      · exact st_set1 ev_c (go _ _ ⟨0, rfl, ⟨.inr (.inr ⟨of_decide_eq_true h, rfl⟩), by decide, by decide⟩, by decide, rfl⟩)
      · have h := of_decide_eq_false h
        refine go _ _ ⟨n, rfl, ⟨?_, n0, by omega⟩, n1, rfl⟩
        rcases ht with z | z | z
        · exact .inl z
        · exact .inr (.inl z)
        · exact absurd z h
    rintro _ _ ⟨n, rfl, g, n1, rfl⟩
    exact tup_k (cons_k (ev_v rfl) (cons_k (ev_v rfl) (nil_k ⟨by show 2 ≤ sizeLine; decide, fun p hp => q p t n _ upd_same g n1 (s1.upd hp)⟩)))
end
end K21
namespace K21
open PySem L2
theorem ls_snoc {es : List Wd} {e : Wd} {t : Str} : lsN (es ++ [e]) t = lsN es t ++ (if e.2.1 = t then [e.2.2] else []) := by
  unfold lsN
  rw [List.filter_append, List.map_append]
  congr 1
  by_cases h : e.2.1 = t
  · rw [if_pos h, List.filter_cons, decide_eq_true h]; rfl
  · rw [if_neg h, List.filter_cons, decide_eq_false h]; rfl
def DueI (es : List Wd) (le : V) (mo ot : Int) : Prop := ((le = .non ∧ lsN es "lost" = []) ∨ ∃ m, le = .int m ∧ m ∈ lsN es "lost" ∧ ∀ a ∈ lsN es "lost", m ≤ a) ∧ (∀ a ∈ lsN es "won", a ≤ mo) ∧ (mo = 0 ∨ mo ∈ lsN es "won") ∧ 0 ≤ ot ∧ (ot = 0 ↔ ∀ e ∈ es, e.2.1 = "won")
def leastN (le : V) (e : Wd) : V := if e.2.1 = "lost" then (match le with | .int m => .int (if e.2.2 < m then e.2.2 else m) | _ => .int e.2.2) else le
theorem DueI.step {es : List Wd} {e : Wd} {le : V} {mo ot : Int} (h : DueI es le mo ot) : DueI (es ++ [e]) (leastN le e) (if e.2.1 = "won" then (if e.2.2 > mo then e.2.2 else mo) else mo) (if e.2.1 = "won" then ot else ot + 1) := by
  obtain ⟨h1, h2, h3, h4, h5⟩ := h
  refine ⟨?_, ?_, ?_, ?_, ?_⟩
  · unfold leastN
    rw [ls_snoc]
    by_cases q : e.2.1 = "lost"
    · rw [if_pos q, if_pos q]
      right
      rcases h1 with ⟨rfl, e1⟩ | ⟨m, rfl, e1, e2⟩
      · refine ⟨e.2.2, rfl, by simp, fun a ha => ?_⟩
        rw [e1] at ha
        have : a = e.2.2 := by simpa using ha
        omega
      · refine ⟨_, rfl, ?_, fun a ha => ?_⟩
        · by_cases z : e.2.2 < m
          · rw [if_pos z]; simp
          · rw [if_neg z]; exact List.mem_append_left _ e1
        · rcases List.mem_append.mp ha with ha | ha
          · have := e2 a ha
            by_cases z : e.2.2 < m
            · rw [if_pos z]; omega
            · rw [if_neg z]; omega
          · have : a = e.2.2 := by simpa using ha
            by_cases z : e.2.2 < m
            · rw [if_pos z]; omega
            · rw [if_neg z]; omega
    · rw [if_neg q, if_neg q, List.append_nil]
      exact h1
  · intro a ha
    rw [ls_snoc] at ha
    by_cases q : e.2.1 = "won"
    · rw [if_pos q] at ha ⊢
      rcases List.mem_append.mp ha with ha | ha
      · have := h2 a ha
        by_cases z : e.2.2 > mo
        · rw [if_pos z]; omega
        · rw [if_neg z]; omega
      · have : a = e.2.2 := by simpa using ha
        by_cases z : e.2.2 > mo
        · rw [if_pos z]; omega
        · rw [if_neg z]; omega
    · rw [if_neg q] at ha ⊢
      rw [List.append_nil] at ha
      exact h2 a ha
  · rw [ls_snoc]
    by_cases q : e.2.1 = "won"
    · rw [if_pos q, if_pos q]
      by_cases z : e.2.2 > mo
      · rw [if_pos z]; right; simp
      · rw [if_neg z]
        rcases h3 with h3 | h3
        · exact .inl h3
        · exact .inr (List.mem_append_left _ h3)
    · rw [if_neg q, if_neg q, List.append_nil]
      exact h3
  · by_cases q : e.2.1 = "won"
    · rw [if_pos q]; exact h4
    · rw [if_neg q]; omega
  · by_cases q : e.2.1 = "won"
    · rw [if_pos q, h5]
      constructor
      · intro h e' he'
        rcases List.mem_append.mp he' with z | z
        · exact h e' z
        · rw [List.mem_singleton.mp z]; exact q
      · intro h e' he'
        exact h e' (List.mem_append_left _ he')
    · rw [if_neg q]
      constructor
      · intro h; omega
      · intro h; exact absurd (h e (by simp)) q
def spDue : Sp := fun vs H Q _ => ∃ (d : Addr) (es : List Wd), vs = [.ref d] ∧ WdsAt H d es ∧ 0 < es.length ∧ ∀ (p : Addr) (t : Str) (n : Int) (H' : Hp), H' p = some (.tup [.str t, .int n]) → IsBy es t n → Same H H' → Q (.ref p) H'
section
variable {P : Program} {w : World} {K : PySem.W.Frag} {mg : Str → Option Value} {base : Heap} {aV : Addr}
theorem ok__law_due {f : Addr} {fd : FuncData} (F : Fun K "_law_due" "_law_due" s__law_due f fd) (T : Txt mg aV) : FnOk P w K mg base CX0 1 f fd ["_law_words"] spDue := by
  refine F.ok sc__law_due (fun vs H Q E h => ?_) (fun cdv A outer s H vs Q E hr h => ?_)
  · obtain ⟨d, es, rfl, _⟩ := h
    rfl
  · obtain ⟨d, es, rfl, hw, hne, q⟩ := h
    have hu := hu20 hr
    refine ⟨_, (pss_cons (ps_set (i := 1) sc__law_due.nd rfl (Or.inl rfl) pe_non)
      (pss_cons (ps_set (i := 2) sc__law_due.nd rfl (Or.inl rfl) pe_int)
      (pss_cons (ps_set (i := 3) sc__law_due.nd rfl (Or.inl rfl) pe_int)
      (pss_cons (ps_for PassesOwn.never rfl (kpl K (cv 0)) (kgt K (n := 2) (pgs_cons (pg_name (i := 4) sc__law_due.nd rfl (Or.inl rfl)) (pgs_cons (pg_name (i := 5) sc__law_due.nd rfl (Or.inl rfl)) pgs_nil))) (pss_cons (ps_if (PW.pt (pw_and (ktcmp K hu (cv 4) pe_str) (pw_and1 (PW.pt (pw_or (ktcmp K hu (cv 1) pe_non) (pw_or1 (ktcmp K hu (cv 5) (cv 1)))))))) (pss_one (ps_set (i := 1) sc__law_due.nd rfl (Or.inl rfl) (cv 5))) pss_nil)
      (pss_one (ps_if (ktcmp K hu (cv 4) pe_str) (pss_one (ps_set (i := 2) sc__law_due.nd rfl (Or.inl rfl) (kB (call_maxA rfl) bo_max T.max (pac (cv 2) (pac (cv 5) pa_nil))))) (pss_one (ps_set (i := 3) sc__law_due.nd rfl (Or.inl rfl) (ce_bin (cv 3) pe_int)))))))
      (pss_cons (ps_if (ktcmp K hu (cv 1) pe_non) (pss_one (ps_ret (pe_tup (pac pe_str (pac (ce_bin (cv 1) pe_int) pa_nil))))) pss_nil)
      (pss_cons (ps_if (ktcmp K hu (cv 3) pe_int) (pss_one (ps_ret (pe_tup (pac pe_str (pac (ce_bin (cv 2) pe_int) pa_nil))))) pss_nil)
      (pss_one (ps_ret (pe_tup (pac pe_str (pac pe_int pa_nil))))))))))), ?_⟩
    show tSeq _ _ _ [some (.ref d), none, none, none, none, none] H
    refine st_set ev_c ?_
    refine st_set ev_c ?_
    refine st_set ev_c ?_
    show tSeq _ _ _ [some (.ref d), some .non, some (.int 0), some (.int 0), none, none] H
    refine tSeq_of (fun σ' H' => H = H' ∧ ∃ (le : V) (mo ot : Int) (o4 o5 : Option V), σ' = [some (.ref d), some le, some (.int mo), some (.int ot), o4, o5] ∧ DueI es le mo ot) (fun K' hK => ?_) ?_
    · refine for_lstP (fun v H' => v = .ref d ∧ H = H') (fun Q q => evk (v := .ref d) (ev_v rfl) (q _ _ ⟨rfl, rfl⟩)) ?_
      rintro _ _ ⟨rfl, rfl⟩
      refine ⟨d, es.map wv, rfl, SqL.of hw.1, fun i σ' H' => H = H' ∧ ∃ (le : V) (mo ot : Int) (o4 o5 : Option V), σ' = [some (.ref d), some le, some (.int mo), some (.int ot), o4, o5] ∧ DueI (es.take i) le mo ot,
        ⟨rfl, _, _, _, _, _, rfl, ⟨.inl ⟨rfl, rfl⟩, fun a ha => by simp [lsN] at ha, .inl rfl, by decide, by simp⟩⟩, ?_, ?_, ?_⟩
      · rintro i σ' H' _ ⟨rfl, _⟩
        exact SqL.of hw.1
      · rintro i x _ _ hx ⟨rfl, le, mo, ot, o4, o5, rfl, dd⟩
        obtain ⟨e, hex, rfl⟩ : ∃ e, es[i]? = some e ∧ wv e = x := by
          rw [List.getElem?_map] at hx
          cases h : es[i]? with
          | none => rw [h] at hx; cases hx
          | some e => rw [h] at hx; exact ⟨e, rfl, Option.some.inj hx⟩
        have he := hw.2.1 e (List.mem_of_getElem? hex)
        refine gpair he.1 ?_
        have et : es.take (i + 1) = es.take i ++ [e] := by rw [List.take_add_one, hex]; rfl
        have dd' := dd.step (e := e)
        rw [← et] at dd'
        show tSeq _ _ _ [some (.ref d), some le, some (.int mo), some (.int ot), some (.str e.2.1), some (.int e.2.2)] H
        refine st_midH (fun σ' H' => H = H' ∧ σ' = [some (.ref d), some (leastN le e), some (.int mo), some (.int ot), some (.str e.2.1), some (.int e.2.2)]) ?_ (fun go => ?_)
        rotate_left
        · unfold leastN at go
          rcases dd.1 with ⟨rfl, _⟩ | ⟨m, rfl, _⟩
          · refine st_tst (tv_and (tv_e (ev_eqs (ev_v rfl) ev_c)) (fun _ => tv_or (b := true) (tv_e (ev_is_n (ev_v rfl) ev_c)) (fun h => by cases h))) (fun h => ?_) (fun h => ?_)
            · rw [Bool.true_or, Bool.and_true] at h
              rw [if_pos (of_decide_eq_true h)] at go
              exact st_set1 (ev_v rfl) (go _ _ ⟨rfl, rfl⟩)
            · rw [Bool.true_or, Bool.and_true] at h
              rw [if_neg (of_decide_eq_false h)] at go
              exact go _ _ ⟨rfl, rfl⟩
          · refine st_tst (tv_and (tv_e (ev_eqs (ev_v rfl) ev_c)) (fun _ => tv_or (tv_e (ev_is_i (ev_v rfl) ev_c)) (fun _ => tv_e (ev_lt (ev_v rfl) (ev_v rfl))))) (fun h => ?_) (fun h => ?_)
            · rw [Bool.false_or, Bool.and_eq_true] at h
              rw [if_pos (of_decide_eq_true h.1)] at go
              dsimp only at go
              rw [if_pos (of_decide_eq_true h.2)] at go
              exact st_set1 (ev_v rfl) (go _ _ ⟨rfl, rfl⟩)
            · rw [Bool.false_or] at h
              refine go _ _ ⟨rfl, ?_⟩
              by_cases q1 : e.2.1 = "lost"
              · rw [decide_eq_true q1, Bool.true_and] at h
                rw [if_pos q1]
                dsimp only
                rw [if_neg (of_decide_eq_false h)]
              · rw [if_neg q1]
        rintro _ _ ⟨rfl, rfl⟩
        refine ife_k (tv_e (ev_eqs (ev_v rfl) ev_c)) (fun h => ?_) (fun h => ?_)
        · have h := of_decide_eq_true h
          rw [if_pos h, if_pos h] at dd'
          exact st_set1 (ev_max (ev_v rfl) (ev_v rfl)) ⟨rfl, _, _, _, _, _, rfl, dd'⟩
        · have h := of_decide_eq_false h
          rw [if_neg h, if_neg h] at dd'
          exact st_set1 (ev_add (ev_v rfl) ev_c) ⟨rfl, _, _, _, _, _, rfl, dd'⟩
      · rintro σ' H' h
        rw [List.length_map, List.take_length] at h
        exact hK _ _ h
    rintro _ _ ⟨rfl, le, mo, ot, o4, o5, rfl, d1, d2, d3, d4, d5⟩
    have fin : ∀ (t : Str) (n : Int) (p : Addr), H p = none → IsBy es t n → Q (.ref p) (upd H p (.tup [.str t, .int n])) := fun t n p hp hb => q p t n _ upd_same hb ((Same.refl H).upd hp)
    rcases d1 with ⟨rfl, dn⟩ | ⟨m, rfl, m1, m2⟩
    · refine st_tst (tv_e (ev_isnot_n (ev_v rfl) ev_c)) (fun h => by cases h) (fun _ => ?_)
      refine st_tst (tv_e (ev_eq (ev_v rfl) ev_c)) (fun h => ?_) (fun h => ?_)
      · have hall := d5.mp (of_decide_eq_true h)
        have hmo : mo ∈ lsN es "won" := by
          rcases d3 with rfl | d3
          · match es, hne, hall, hw, d2 with
            | e :: r, _, hall, hw, d2 =>
              have he : e.2.2 ∈ lsN (e :: r) "won" := ls_mem.mpr ⟨e, by simp, hall e (by simp), rfl⟩
              have z1 := d2 _ he
              have z2 := (hw.2.1 e (by simp)).2.1.2.1
              have z3 : e.2.2 = 0 := by omega
              rw [z3] at he
              exact he
          · exact d3
        exact tup_k (cons_k ev_c (cons_k (ev_add (ev_v rfl) ev_c) (nil_k ⟨by show 2 ≤ sizeLine; decide, fun p hp => fin _ _ p hp (.inr (.inl ⟨dn, hall, mo, hmo, d2, rfl, rfl⟩))⟩)))
      · have hall : ¬ ∀ e ∈ es, e.2.1 = "won" := fun z => of_decide_eq_false h (d5.mpr z)
        exact tup_k (cons_k ev_c (cons_k ev_c (nil_k ⟨by show 2 ≤ sizeLine; decide, fun p hp => fin _ _ p hp (.inr (.inr ⟨dn, hall, rfl, rfl⟩))⟩)))
    · refine st_tst (tv_e (ev_isnot_i (ev_v rfl) ev_c)) (fun _ => ?_) (fun h => by cases h)
      exact tup_k (cons_k ev_c (cons_k (ev_add (ev_v rfl) ev_c) (nil_k ⟨by show 2 ≤ sizeLine; decide, fun p hp => fin _ _ p hp (.inl ⟨m, m1, m2, rfl, rfl⟩)⟩)))
theorem ok__law_cell_at {f : Addr} {fd : FuncData} (F : Fun K "_law_cell_at" "_law_cell_at" s__law_cell_at f fd) (T : Txt mg aV) : FnOk P w K mg base CX0 1 f fd ["_law_script", "_law_k"] (spCellAt K) := by
  refine F.ok sc__law_cell_at (fun vs H Q E h => ?_) (fun cdv A outer s H vs Q E hr h => ?_)
  · obtain ⟨a, ns, k, rfl, _⟩ := h
    rfl
  · obtain ⟨a, ns, k, rfl, hS, k0, q⟩ := h
    have hu := hu20 hr
    refine ⟨_, (pss_cons (ps_if (ktcmp K hu (cv 1) (kB (klen K) bo_len T.len (pac (cv 0) pa_nil))) (pss_one (ps_ret (kix K (cv 0) (cv 1)))) pss_nil)
      (pss_one (ps_ret pe_int))), ?_⟩
    show tSeq _ _ _ [some (.ref a), some (.int k)] H
    unfold cellAt at q
    refine st_tst (tv_e (ev_lt (ev_v rfl) (ev_len (ev_v rfl) (.inl hS)))) (fun h => ?_) (fun h => ?_)
    · have h := of_decide_eq_true h
      rw [List.length_map] at h
      have hlt : k.toNat < ns.length := by omega
      have e : (ns.map V.int)[k.toNat]? = some (.int (ns.getD k.toNat 0)) := by
        rw [List.getElem?_map, List.getD_eq_getElem?_getD, List.getElem?_eq_getElem hlt]
        rfl
      have e2 := atI_nat e
      have ei : ((k.toNat : Nat) : Int) = k := by omega
      rw [ei] at e2
      exact st_ret (ev_ix (ev_v rfl) (ev_v rfl) (.inl hS) e2) q
    · have h := of_decide_eq_false h
      rw [List.length_map] at h
      rw [List.getD_eq_getElem?_getD, List.getElem?_eq_none (by omega)] at q
      exact st_ret ev_c q
end
end K21
namespace K21
open PySem L2
def spLaw (K : PySem.W.Frag) : Sp := fun vs H Q _ => ∃ (a : Addr) (ns : List Int), vs = [.ref a] ∧ SqL K H a (ns.map V.int) ∧ ns.length ≤ 63 ∧ ∀ H', Q (.bl true) H'
structure CL (P : Program) (w : World) (K : PySem.W.Frag) (mg : Str → Option Value) (base : Heap) : Prop where
  _law_cell_at : Cal P w K mg base "_law_cell_at" ["_law_script", "_law_k"] 1 (spCellAt K)
  _law_word : Cal P w K mg base "_law_word" ["_law_cell", "_law_way"] 1 spWord
  by_followers : Cal P w K mg base "by_followers" ["words"] 1 (spBy K)
  _law_due : Cal P w K mg base "_law_due" ["_law_words"] 1 spDue
  _law_reads : Cal P w K mg base "_law_reads" ["_law_word_here"] 3 (spRd K)
theorem wds_of {H : Hp} : ∀ {ys : List V}, (∀ y ∈ ys, ∃ e, y = wv e ∧ WdAt H e) → ∃ es : List Wd, ys = es.map wv ∧ ∀ e ∈ es, WdAt H e
  | [], _ => ⟨[], rfl, fun e he => by cases he⟩
  | y :: ys, h => by
    obtain ⟨e, rfl, he⟩ := h y (by simp)
    obtain ⟨es, rfl, hs⟩ := wds_of (fun y' hy' => h y' (List.mem_cons_of_mem _ hy'))
    refine ⟨e :: es, rfl, fun e' he' => ?_⟩
    rcases List.mem_cons.mp he' with rfl | z
    · exact he
    · exact hs _ z
section
variable {P : Program} {w : World} {K : PySem.W.Frag} {mg : Str → Option Value} {base : Heap} {aV : Addr}
theorem ok_law {f : Addr} {fd : FuncData} (F : Fun K "law" "law" s_law f fd) (T : Txt mg aV) (C : CL P w K mg base) : FnOk P w K mg base CX0 4 f fd ["_law_script"] (spLaw K) := by
  refine F.ok sc_law (fun vs H Q E h => ?_) (fun cdv A outer s H vs Q E hr h => ?_)
  · obtain ⟨a, ns, rfl, _⟩ := h
    rfl
  · obtain ⟨a, ns, rfl, hS, hlen, q⟩ := h
    have hu := hu20 hr
    refine ⟨_, (pss_cons (ps_set (i := 1) sc_law.nd rfl (Or.inl rfl) (ce_bin pe_int (ce_bin (kcall C._law_cell_at hr (pac (cv 0) (pac pe_int pa_nil))) pe_int)))
      (pss_cons (ps_set (i := 2) sc_law.nd rfl (Or.inr rfl) (kcall C._law_cell_at hr (pac (cv 0) (pac pe_int pa_nil))))
      (pss_cons (ps_setC (i := 3) rfl (cscope (N := ["_law_k", "_law_way", "_law_script"]) (src := [none, some 2, some 0]) (defScope s_law) ["_law_script", "_law_many", "_law_way", "_law_words", "_law_handed", "_law_found"]) (kr1 T.range (pac (cv 1) pa_nil)) (fun _ _ _ => (pg_name' (i := 0) ["_law_k", "_law_way", "_law_script"])) (fun _ _ _ => pifs_nil) (fun _ _ _ => (kcall C._law_word hr (pac (ce_bin (ce_bin (kcall C._law_cell_at hr (pac (cv 2) (pac (ce_bin pe_int (ce_bin (cv 0) pe_int)) pa_nil))) (ce_bin pe_int (ce_bin (cv 0) pe_int))) (cv 0)) (pac (cv 1) pa_nil)))) sc_law.nd rfl (Or.inl rfl) rfl (Or.inl rfl))
      (pss_cons (ps_set (i := 4) sc_law.nd rfl (Or.inl rfl) (kTy (klist K) bo_list T.list (pac (cv 3) pa_nil)))
      (pss_cons (ps_set (i := 5) sc_law.nd rfl (Or.inl rfl) (kcall C.by_followers hr (pac (cv 4) pa_nil)))
      (pss_cons (ps_if (PW.pt (pw_or (pt_not (ct_val (kis2 K .tuple T.isinstance T.tuple bo_tuple (cv 5)))) (pw_or (ktcmp K hu (kB (klen K) bo_len T.len (pac (cv 5) pa_nil)) pe_int) (pw_or1 (pt_not (ct_val (kis .str T.isinstance T.str bo_str (kix K (cv 5) pe_int)))))))) (pss_one (ps_ret pe_bl)) pss_nil)
      (pss_cons (ps_if (PW.pt (pw_or (pt_not (ct_val (kis .int T.isinstance T.int bo_int (kix K (cv 5) pe_int)))) (pw_or (ct_val (kis .bool T.isinstance T.bool bo_bool (kix K (cv 5) pe_int))) (pw_or (ktcmp K hu (cv 5) (kcall C._law_due hr (pac (cv 3) pa_nil))) (pw_or1 (ktcmp K hu (cv 4) (cv 3))))))) (pss_one (ps_ret pe_bl)) pss_nil)
      (pss_one (ps_ret (ce_and (kB (kall K) bo_all T.all (pac (kcomp (cscope (N := ["_law_word_here"]) (src := [none]) (defScope s_law) ["_law_script", "_law_many", "_law_way", "_law_words", "_law_handed", "_law_found"]) (kpl K (cv 3)) (fun _ _ _ => (pg_name' (i := 0) ["_law_word_here"])) (fun _ _ _ => pifs_nil) (fun _ _ _ => (kcall C._law_reads hr (pac (cv 0) pa_nil)))) pa_nil)) (pe_one (kcall C._law_reads hr (pac (cv 5) pa_nil))))))))))))), ?_⟩
    show tSeq _ _ _ [some (.ref a), none, none, none, none, none] H
    refine st_set (ev_add ev_c (ev_mod (ev_call (sp := spCellAt K) (av_cons (ev_v rfl) (av_cons ev_c av_nil)) (fun Q q => ⟨a, ns, 0, rfl, hS, by decide, q⟩)) ev_c (by decide))) ?_
    refine st_set (ev_call (sp := spCellAt K) (av_cons (ev_v rfl) (av_cons ev_c av_nil)) (fun Q q => ⟨a, ns, 1, rfl, hS, by decide, q⟩)) ?_
    have hm : 1 ≤ 1 + cellAt ns 0 % 60 ∧ 1 + cellAt ns 0 % 60 ≤ 60 := by omega
    generalize 1 + cellAt ns 0 % 60 = m at hm
    generalize cellAt ns 1 = y
    show tSeq _ _ _ [some (.ref a), some (.int m), some (.int y), none, none, none] H
    refine st_asg (fun v H' => ∃ (d : Addr) (es : List Wd), v = .ref d ∧ WdsAt H' d es ∧ 0 < es.length ∧ Same H H') (fun Q q => ?_) ?_
    · refine comp_mkR (n := m) (rest := [some (.int y), some (.ref a)]) (av_cons (ev_v rfl) av_nil) (by omega) (by omega) rfl (fun H v => ∃ e, v = wv e ∧ WdAt H e) (fun H H' v h s => ?_) (fun i H' hi s' Q q => ?_) (fun d H' ys s' hd hl hy => ?_)
      · obtain ⟨e, rfl, he⟩ := h
        exact ⟨e, rfl, he.same s⟩
      · exact cal_k (av_cons (ev_add (ev_add (ev_call (sp := spCellAt K) (av_cons (ev_v rfl) (av_cons (ev_add ev_c (ev_mod (ev_v rfl) ev_c (by decide))) av_nil)) (fun Q q => ⟨a, ns, _, rfl, s'.seq hS, by omega, q⟩)) (ev_mul ev_c (ev_div (ev_v rfl) ev_c ⟨by decide, by decide⟩) (.inl ⟨by decide, by decide⟩))) (ev_v rfl)) (av_cons (ev_v rfl) av_nil)) ⟨_, _, rfl, fun p t n H2 e1 g1 g2 s2 => q _ _ ⟨(p, t, n), rfl, e1, g1, g2⟩ s2⟩
      · obtain ⟨es, rfl, hes⟩ := wds_of hy
        rw [List.length_map] at hl
        have s3 := (Same.refl H').upd (o := .lst (es.map wv)) hd
        exact q _ _ ⟨d, es, rfl, ⟨upd_same, fun e he => (hes e he).same s3, by omega⟩, by omega, s'.trans s3⟩
    rintro _ H1 ⟨d, es, rfl, hw, hne, s1⟩
    show tSeq _ _ _ [some (.ref a), some (.int m), some (.int y), some (.ref d), none, none] H1
    refine st_asg (fun v H' => ∃ l, v = .ref l ∧ WdsAt H' l es ∧ Same H1 H') (fun Q q => lis_k (ev_v rfl) (.inl (SqL.of hw.1)) fun l hl => q _ _ ⟨l, rfl, ⟨upd_same, fun e he => (hw.2.1 e he).same ((Same.refl H1).upd hl), hw.2.2⟩, (Same.refl H1).upd hl⟩) ?_
    rintro _ H2 ⟨l, rfl, hl2, s2⟩
    refine st_asg (fun v H' => ∃ (p : Addr) (t : Str) (n : Int), v = .ref p ∧ (∀ H'', Same H' H'' → SqT K H'' p [.str t, .int n]) ∧ IsBy es t n ∧ Same H2 H') (fun Q q => cal_k (av_cons (ev_v rfl) av_nil) ⟨l, es, rfl, hl2, hne, fun p t n H' z1 z2 z3 => q _ _ ⟨p, t, n, rfl, z1, z2, z3⟩⟩) ?_
    rintro _ H3 ⟨p, t, n, rfl, hp, hb, s3⟩
    show tSeq _ _ _ [some (.ref a), some (.int m), some (.int y), some (.ref d), some (.ref l), some (.ref p)] H3
    have hw3 := hw.same (s2.trans s3)
    have hp3 := hp H3 (Same.refl H3)
    have g := hb.good hw.2.1
    refine st_tst (b := false) (tv_or (tv_not (tv_e (ev_ist2 (ev_v rfl) hp3))) (fun _ => tv_or (tv_e (ev_ne (ev_len (ev_v rfl) (.inr hp3)) ev_c)) (fun _ => tv_not (tv_e (ev_iss (ev_ix (ev_v rfl) ev_c (.inr hp3) (atI_nat (j := 0) rfl))))))) (fun h => by cases h) (fun _ => ?_)
    have i1 : Ev (cIx K (cVar 5) (tC (.int 1))) [some (V.ref a), some (.int m), some (.int y), some (.ref d), some (.ref l), some (.ref p)] H3 (.int n) := ev_ix (ev_v rfl) ev_c (.inr hp3) (atI_nat (j := 1) rfl)
    refine st_ifH (fun b H' => b = false ∧ Same H3 H') (fun Q q => ?_) (fun H' h => by cases h.1) (fun H4 h => ?_)
    · refine torh_k (tv_not (tv_e (ev_isi i1))) (fun h => by cases h) (fun _ => torh_k (tv_e (ev_isi i1)) (fun h => by cases h) (fun _ => ?_))
      refine torx_k (ev_v rfl) (cal_k (av_cons (ev_v rfl) av_nil) ⟨d, es, rfl, hw3, hne, fun p' t' n' H' z1 z2 z3 => ?_⟩)
      obtain ⟨e1, e2⟩ := hb.uniq z2
      subst e1; subst e2
      refine ⟨_, eqT_word (hp H' z3) (SqT.of z1), ?_⟩
      rw [decide_eq_true ⟨rfl, rfl⟩]
      simp only [bOnly, Bool.not_true, Bool.false_eq_true, if_false]
      refine tv_e (ev_ner (ev_v rfl) (ev_v rfl) (eqT_copy (SqL.of ((s3.trans z3) _ _ hl2.1)) (SqL.of (z3 _ _ hw3.1)) (fun x hx => ?_))) _ (q _ _ ⟨rfl, z3⟩)
      obtain ⟨e, _, rfl⟩ := List.mem_map.mp hx
      rfl
    · obtain ⟨_, s4⟩ := h
      have hw4 := hw3.same s4
      show tRet _ _ [some (.ref a), some (.int m), some (.int y), some (.ref d), some (.ref l), some (.ref p)] H4
      refine andx_k (b1x_k (comp_lstH (d := d) (xs := es.map wv) (rest := []) (ev_v rfl) hw4.1 (by rw [List.length_map, sizeLine_eq]; have := hw.2.2; omega) rfl (fun _ => .bl true) (fun x hx H' s' Q q => ?_) (fun H' d' s' hd' => ?_)))
      · obtain ⟨e, he, rfl⟩ := List.mem_map.mp hx
        have he4 := (hw4.2.1 e he).same s'
        exact cal_k (av_cons (ev_v rfl) av_nil) ⟨e.1, e.2.1, e.2.2, rfl, fun H'' s'' => SqT.of (s'' _ _ he4.1), he4.2.1, fun H'' s'' => q _ s''⟩
      · refine ⟨es.map fun _ => true, SqL.of (by rw [upd_same, List.map_map, List.map_map]; rfl), ?_⟩
        have e : (es.map fun _ => true).all id = true := List.all_eq_true.mpr fun b hb => by
          obtain ⟨_, _, rfl⟩ := List.mem_map.mp hb
          rfl
        rw [e]
        simp only [bOnly, if_true]
        have s5 := s'.upd (o := .lst ((es.map wv).map fun _ => V.bl true)) hd'
        exact cal_k (av_cons (ev_v rfl) av_nil) ⟨p, t, n, rfl, fun H'' s'' => hp _ ((s4.trans s5).trans s''), g, fun H'' s'' => q _⟩
end
end K21
local macro_rules | `(tactic| walk_at "rd") => `(tactic| simp only [L2.tSeq, L2.tIfS, L2.tRet, L2.tAsg, L2.gName, L2.tNext, L2.tDrop, L2.cVar, L2.tC, L2.cBin, L2.cCmp, L2.cTest, L2.cAndV, L2.cOrV, L2.cNotV, L2.cNeg, L2.cIs, L2.cIx, L2.cSl, L2.cPart, L2.tNoPart, L2.cB, L2.tCons, L2.cCs, L2.tNil, L2.cSM, L2.cSM0, L2.cCall, L2.tNot, L2.tAnd, L2.tOr, L2.tIf, L2.cChain, L2.cChainT, L2.r_eq_int, L2.r_ne_int, L2.r_eq_str, L2.r_ne_str, L2.r_eq_bl, L2.r_ne_bl, L2.r_eq_nn, L2.r_ne_nn, L2.r_eq_int_str, L2.r_ne_int_str, L2.r_eq_int_non, L2.r_ne_int_non, L2.r_eq_str_int, L2.r_ne_str_int, L2.r_eq_str_bl, L2.r_ne_str_bl, L2.r_eq_str_non, L2.r_ne_str_non, L2.r_eq_bl_str, L2.r_ne_bl_str, L2.r_eq_bl_non, L2.r_ne_bl_non, L2.r_eq_non_int, L2.r_ne_non_int, L2.r_eq_non_str, L2.r_ne_non_str, L2.r_eq_non_bl, L2.r_ne_non_bl, L2.r_eq_rr, L2.r_ne_rr, L2.r_lt_int, L2.r_lte_int, L2.r_gt_int, L2.r_gte_int, L2.r_lt_str, L2.r_lte_str, L2.r_in_str, L2.r_notin_str, L2.r_in_int_ref, L2.r_notin_int_ref, L2.r_is_int, L2.r_isnot_int, L2.r_in_str_ref, L2.r_notin_str_ref, L2.r_is_str, L2.r_isnot_str, L2.r_in_bl_ref, L2.r_notin_bl_ref, L2.r_is_bl, L2.r_isnot_bl, L2.r_in_non_ref, L2.r_notin_non_ref, L2.r_is_non, L2.r_isnot_non, L2.r_in_ref_ref, L2.r_notin_ref_ref, L2.r_is_ref, L2.r_isnot_ref, L2.r_add, L2.r_adds, L2.r_addr, L2.r_sub, L2.r_mul, L2.r_fdiv, L2.r_mod, L2.r_pow, L2.r_ixs, L2.r_ixr, L2.r_sls, L2.r_slr, L2.r_lens, L2.r_lenr, L2.r_min, L2.r_str, L2.r_ints, L2.r_intb, L2.r_all, L2.r_sw, L2.r_join, L2.r_up, L2.r_isa_non, L2.r_isa_bl, L2.r_isa_int, L2.r_isa_str, L2.r_b, List.getElem?_cons_zero, List.getElem?_cons_succ, List.set_cons_zero, List.set_cons_succ, List.length_map, Bool.not_true, Bool.not_false, Bool.false_eq_true, if_true, if_false, decide_true, decide_false])
namespace K21
open PySem L2
theorem all_mk {l : PySem.W.OpenLaw} {w : World} {K : PySem.W.Frag} {h : Heap} {mg : Str → Option Value} {fa f1 f2 f3 f4 f5 f6 f7 f8 f9 aV : Addr} (X : K.In h) (G : h.Ns mainGlobals mg) (hfa : mg "law" = some (.ref fa))
    {od1 an1 od2 an2 od3 an3 od4 an4 od5 an5 od6 an6 od7 an7 od8 an8 od9 an9 : Option Addr} {sl1 sl2 sl3 sl4 sl5 sl6 sl7 sl8 sl9 : Array (Option Value)} {oc1 kV1 dc1 pm1 cd1 ct1 oc2 kV2 dc2 pm2 cd2 ct2 oc3 kV3 dc3 pm3 cd3 ct3 oc4 kV4 dc4 pm4 cd4 ct4 oc5 kV5 dc5 pm5 cd5 ct5 oc6 kV6 dc6 pm6 cd6 ct6 oc7 kV7 dc7 pm7 cd7 ct7 oc8 kV8 dc8 pm8 cd8 ct8 oc9 kV9 dc9 pm9 cd9 ct9 : Value}
    (a1 : PySem.W.nsIn K mainGlobals "number_text" = some (some (.ref f1)))
    (l1 : K.lookup f1 = some ⟨oc1, od1, .func (PySem.W.fnOf "number_text" "number_text" (defArgs s_number_text) (defBody s_number_text) (defScope s_number_text) .none kV1 dc1 pm1 an1 cd1 ct1), sl1⟩) (c1 : PySem.W.codeIn K cd1 "number_text" = true) (k1 : PySem.W.keepIn K (.ref f1) = true)
    (a2 : PySem.W.nsIn K mainGlobals "by_followers" = some (some (.ref f2)))
    (l2 : K.lookup f2 = some ⟨oc2, od2, .func (PySem.W.fnOf "by_followers" "by_followers" (defArgs s_by_followers) (defBody s_by_followers) (defScope s_by_followers) .none kV2 dc2 pm2 an2 cd2 ct2), sl2⟩) (c2 : PySem.W.codeIn K cd2 "by_followers" = true) (k2 : PySem.W.keepIn K (.ref f2) = true)
    (a3 : PySem.W.nsIn K mainGlobals "word_text" = some (some (.ref f3)))
    (l3 : K.lookup f3 = some ⟨oc3, od3, .func (PySem.W.fnOf "word_text" "word_text" (defArgs s_word_text) (defBody s_word_text) (defScope s_word_text) .none kV3 dc3 pm3 an3 cd3 ct3), sl3⟩) (c3 : PySem.W.codeIn K cd3 "word_text" = true) (k3 : PySem.W.keepIn K (.ref f3) = true)
    (a4 : PySem.W.nsIn K mainGlobals "_law_cell_at" = some (some (.ref f4)))
    (l4 : K.lookup f4 = some ⟨oc4, od4, .func (PySem.W.fnOf "_law_cell_at" "_law_cell_at" (defArgs s__law_cell_at) (defBody s__law_cell_at) (defScope s__law_cell_at) .none kV4 dc4 pm4 an4 cd4 ct4), sl4⟩) (c4 : PySem.W.codeIn K cd4 "_law_cell_at" = true) (k4 : PySem.W.keepIn K (.ref f4) = true)
    (a5 : PySem.W.nsIn K mainGlobals "_law_word" = some (some (.ref f5)))
    (l5 : K.lookup f5 = some ⟨oc5, od5, .func (PySem.W.fnOf "_law_word" "_law_word" (defArgs s__law_word) (defBody s__law_word) (defScope s__law_word) .none kV5 dc5 pm5 an5 cd5 ct5), sl5⟩) (c5 : PySem.W.codeIn K cd5 "_law_word" = true) (k5 : PySem.W.keepIn K (.ref f5) = true)
    (a6 : PySem.W.nsIn K mainGlobals "_law_due" = some (some (.ref f6)))
    (l6 : K.lookup f6 = some ⟨oc6, od6, .func (PySem.W.fnOf "_law_due" "_law_due" (defArgs s__law_due) (defBody s__law_due) (defScope s__law_due) .none kV6 dc6 pm6 an6 cd6 ct6), sl6⟩) (c6 : PySem.W.codeIn K cd6 "_law_due" = true) (k6 : PySem.W.keepIn K (.ref f6) = true)
    (a7 : PySem.W.nsIn K mainGlobals "_law_text" = some (some (.ref f7)))
    (l7 : K.lookup f7 = some ⟨oc7, od7, .func (PySem.W.fnOf "_law_text" "_law_text" (defArgs s__law_text) (defBody s__law_text) (defScope s__law_text) .none kV7 dc7 pm7 an7 cd7 ct7), sl7⟩) (c7 : PySem.W.codeIn K cd7 "_law_text" = true) (k7 : PySem.W.keepIn K (.ref f7) = true)
    (a8 : PySem.W.nsIn K mainGlobals "_law_reads" = some (some (.ref f8)))
    (l8 : K.lookup f8 = some ⟨oc8, od8, .func (PySem.W.fnOf "_law_reads" "_law_reads" (defArgs s__law_reads) (defBody s__law_reads) (defScope s__law_reads) .none kV8 dc8 pm8 an8 cd8 ct8), sl8⟩) (c8 : PySem.W.codeIn K cd8 "_law_reads" = true) (k8 : PySem.W.keepIn K (.ref f8) = true)
    (a9 : PySem.W.nsIn K mainGlobals "law" = some (some (.ref f9)))
    (l9 : K.lookup f9 = some ⟨oc9, od9, .func (PySem.W.fnOf "law" "law" (defArgs s_law) (defBody s_law) (defScope s_law) .none kV9 dc9 pm9 an9 cd9 ct9), sl9⟩) (c9 : PySem.W.codeIn K cd9 "law" = true) (k9 : PySem.W.keepIn K (.ref f9) = true)
    (z0 : PySem.W.nsIn K mainGlobals "isinstance" = some none)
    (z1 : PySem.W.nsIn K mainGlobals "int" = some none)
    (z2 : PySem.W.nsIn K mainGlobals "bool" = some none)
    (z3 : PySem.W.nsIn K mainGlobals "str" = some none)
    (z4 : PySem.W.nsIn K mainGlobals "list" = some none)
    (z5 : PySem.W.nsIn K mainGlobals "tuple" = some none)
    (z6 : PySem.W.nsIn K mainGlobals "len" = some none)
    (z7 : PySem.W.nsIn K mainGlobals "range" = some none)
    (z8 : PySem.W.nsIn K mainGlobals "all" = some none)
    (z9 : PySem.W.nsIn K mainGlobals "min" = some none)
    (z10 : PySem.W.nsIn K mainGlobals "max" = some none)
    (z11 : PySem.W.nsIn K mainGlobals "reversed" = some none)
    {tO0 : Value} {tD0 : Option Addr} {tI0 : Array Value} {tN0 : Nat} {tS0 : Array (Option Value)} (kt0 : PySem.W.nsIn K mainGlobals "EVEN" = some (some (.ref aV))) (lt0 : K.lookup aV = some ⟨tO0, tD0, .seq tI0 tN0, tS0⟩) (ctp0 : tO0 = .type "tuple") (zt0 : tI0.size ≤ sizeLine) (vt0 : Vals ([V.str "even", V.int 0]) tI0.toList) :
    ∃ fd : FuncData, (∀ (s : Shared) (v : Value), BindsTo s fd ⟨[v], []⟩ [("_law_script", v)]) ∧ ∀ base : Heap, K.In base → base.Ns mainGlobals mg → FnOk l.prog w K mg base CX0 4 fa fd ["_law_script"] (spLaw K) := by
  have e := hfa.symm.trans (PySem.W.mg_of X G a9)
  cases e
  have T : Txt mg aV := ⟨PySem.W.mg_none_of X G z0, PySem.W.mg_none_of X G z1, PySem.W.mg_none_of X G z2, PySem.W.mg_none_of X G z3, PySem.W.mg_none_of X G z4, PySem.W.mg_none_of X G z5, PySem.W.mg_none_of X G z6, PySem.W.mg_none_of X G z7, PySem.W.mg_none_of X G z8, PySem.W.mg_none_of X G z9, PySem.W.mg_none_of X G z10, PySem.W.mg_none_of X G z11, ⟨_, PySem.W.mg_of X G kt0, rfl⟩⟩
  have hT_EVEN : ∀ H, SqT K H aV [V.str "even", V.int 0] := fun H => .inr ⟨_, tI0, tN0, lt0, ctp0, rfl, zt0, vt0⟩
  have F1 := fun_mk (st := s_number_text) l1 c1 k1
  have b1 := F1.binds (ps := ["number"]) fun _ _ _ _ _ _ us hl => match us, hl with | [_], _ => rfl
  have F2 := fun_mk (st := s_by_followers) l2 c2 k2
  have b2 := F2.binds (ps := ["words"]) fun _ _ _ _ _ _ us hl => match us, hl with | [_], _ => rfl
  have F3 := fun_mk (st := s_word_text) l3 c3 k3
  have b3 := F3.binds (ps := ["word"]) fun _ _ _ _ _ _ us hl => match us, hl with | [_], _ => rfl
  have F4 := fun_mk (st := s__law_cell_at) l4 c4 k4
  have b4 := F4.binds (ps := ["_law_script", "_law_k"]) fun _ _ _ _ _ _ us hl => match us, hl with | [_, _], _ => rfl
  have F5 := fun_mk (st := s__law_word) l5 c5 k5
  have b5 := F5.binds (ps := ["_law_cell", "_law_way"]) fun _ _ _ _ _ _ us hl => match us, hl with | [_, _], _ => rfl
  have F6 := fun_mk (st := s__law_due) l6 c6 k6
  have b6 := F6.binds (ps := ["_law_words"]) fun _ _ _ _ _ _ us hl => match us, hl with | [_], _ => rfl
  have F7 := fun_mk (st := s__law_text) l7 c7 k7
  have b7 := F7.binds (ps := ["_law_word_here"]) fun _ _ _ _ _ _ us hl => match us, hl with | [_], _ => rfl
  have F8 := fun_mk (st := s__law_reads) l8 c8 k8
  have b8 := F8.binds (ps := ["_law_word_here"]) fun _ _ _ _ _ _ us hl => match us, hl with | [_], _ => rfl
  have F9 := fun_mk (st := s_law) l9 c9 k9
  have b9 := F9.binds (ps := ["_law_script"]) fun _ _ _ _ _ _ us hl => match us, hl with | [_], _ => rfl
  refine ⟨PySem.W.fnOf "law" "law" (defArgs s_law) (defBody s_law) (defScope s_law) .none kV9 dc9 pm9 an9 cd9 ct9, fun s v => .of_eq rfl, fun base _ _ => ?_⟩
  have C_number_text : Cal l.prog w K mg base "number_text" _ _ _ := ⟨f1, _, ok_number_textN F1 T, PySem.W.mg_of X G a1, F1.kp, b1⟩
  have C_by_followers : Cal l.prog w K mg base "by_followers" _ _ _ := ⟨f2, _, ok_by_followers F2 T hT_EVEN, PySem.W.mg_of X G a2, F2.kp, b2⟩
  have C_word_text : Cal l.prog w K mg base "word_text" _ _ _ := ⟨f3, _, ok_word_text F3 T hT_EVEN ⟨C_number_text⟩, PySem.W.mg_of X G a3, F3.kp, b3⟩
  have C__law_cell_at : Cal l.prog w K mg base "_law_cell_at" _ _ _ := ⟨f4, _, ok__law_cell_at F4 T, PySem.W.mg_of X G a4, F4.kp, b4⟩
  have C__law_word : Cal l.prog w K mg base "_law_word" _ _ _ := ⟨f5, _, ok__law_word F5 T, PySem.W.mg_of X G a5, F5.kp, b5⟩
  have C__law_due : Cal l.prog w K mg base "_law_due" _ _ _ := ⟨f6, _, ok__law_due F6 T, PySem.W.mg_of X G a6, F6.kp, b6⟩
  have C__law_text : Cal l.prog w K mg base "_law_text" _ _ _ := ⟨f7, _, ok__law_text F7 T, PySem.W.mg_of X G a7, F7.kp, b7⟩
  have C__law_reads : Cal l.prog w K mg base "_law_reads" _ _ _ := ⟨f8, _, ok__law_reads F8 T ⟨C_word_text, C__law_text⟩, PySem.W.mg_of X G a8, F8.kp, b8⟩
  have C : CL l.prog w K mg base := ⟨C__law_cell_at, C__law_word, C_by_followers, C__law_due, C__law_reads⟩
  exact ok_law F9 T C
theorem walk {l : PySem.W.OpenLaw} {q : Program} {loose : List Str} {XP : (Str → Option Value) → Heap → Prop} {YP : World → Heap → Prop} {d : DefRec} {K : Params → PySem.W.Frag} (hn : l.most = some 63) (hdf : d.params.defaults = [])
    (hY : ∀ (w : World) (h : Heap), YP w h → (K w.params).In h)
    (F : ∀ (w : World) (mg : Str → Option Value) (fa : Addr) (h : Heap), (K w.params).In h → h.Ns mainGlobals mg → mg d.name = some (.ref fa) →
      ∃ fd : FuncData, (∀ (s : Shared) (u : Value), BindsTo s fd ⟨[u], []⟩ [("_law_script", u)]) ∧ ∀ base : Heap, (K w.params).In base → base.Ns mainGlobals mg → FnOk l.prog w (K w.params) mg base CX0 4 fa fd ["_law_script"] (spLaw (K w.params))) :
    PySem.W.WalkO q loose XP YP l.row.toRowW d [] (fun f vs => PySem.call f vs) :=
  L2.walk_of (n := 63) (k := 4) (x := "_law_script") (CX := fun _ => CX0) (sp := fun w => spLaw (K w.params)) hn (by decide) hdf ⟨rfl, by decide, by decide⟩ hY F (fun _ _ a ns hl _ hS => ⟨a, ns, rfl, hS, hl, fun _ => rfl⟩) fun _ _ _ _ _ z => z
end K21
open PySem PySem.W PyProof.Rows
set_option maxRecDepth 100000 in
set_option maxHeartbeats 0 in
theorem PySem.Challenge.cw_playboard_k21_by_followers_holds : PySem.Challenge.rw_playboard_k21_by_followers.Holds := by
  w_on; o_law; k_head; (case hw => w_witness2)
  k_fill
  refine K21.walk (l := PySem.Challenge.rw_playboard_k21_by_followers) rfl rfl (fun w h Y => PySem.W.kIn_of Y) ?F
  case F =>
    intro w mg fa h KX G hmg
    refine' K21.all_mk KX G hmg ?a1 ?l1 ?c1 ?k1 ?a2 ?l2 ?c2 ?k2 ?a3 ?l3 ?c3 ?k3 ?a4 ?l4 ?c4 ?k4 ?a5 ?l5 ?c5 ?k5 ?a6 ?l6 ?c6 ?k6 ?a7 ?l7 ?c7 ?k7 ?a8 ?l8 ?c8 ?k8 ?a9 ?l9 ?c9 ?k9 ?z0 ?z1 ?z2 ?z3 ?z4 ?z5 ?z6 ?z7 ?z8 ?z9 ?z10 ?z11 ?kt0 ?lt0 ?ctp0 ?zt0 ?vt0
    (case a1 => k_is)
    (case l1 => k_is)
    (case c1 => k_is)
    (case k1 => k_is)
    (case a2 => k_is)
    (case l2 => k_is)
    (case c2 => k_is)
    (case k2 => k_is)
    (case a3 => k_is)
    (case l3 => k_is)
    (case c3 => k_is)
    (case k3 => k_is)
    (case a4 => k_is)
    (case l4 => k_is)
    (case c4 => k_is)
    (case k4 => k_is)
    (case a5 => k_is)
    (case l5 => k_is)
    (case c5 => k_is)
    (case k5 => k_is)
    (case a6 => k_is)
    (case l6 => k_is)
    (case c6 => k_is)
    (case k6 => k_is)
    (case a7 => k_is)
    (case l7 => k_is)
    (case c7 => k_is)
    (case k7 => k_is)
    (case a8 => k_is)
    (case l8 => k_is)
    (case c8 => k_is)
    (case k8 => k_is)
    (case a9 => k_is)
    (case l9 => k_is)
    (case c9 => k_is)
    (case k9 => k_is)
    (case z0 => k_is)
    (case z1 => k_is)
    (case z2 => k_is)
    (case z3 => k_is)
    (case z4 => k_is)
    (case z5 => k_is)
    (case z6 => k_is)
    (case z7 => k_is)
    (case z8 => k_is)
    (case z9 => k_is)
    (case z10 => k_is)
    (case z11 => k_is)
    (case kt0 => k_is)
    (case lt0 => k_is)
    (case ctp0 => rfl)
    (case zt0 => decide)
    (case vt0 => exact .cons ⟨_, rfl⟩ (.cons ⟨_, rfl⟩ (.nil)))
