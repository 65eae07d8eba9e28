import PyProof.Rows.All
import Wide.All
import OpenK.AllK
import Wide.FinOn
import Lean
import PyProof.EqAt
import PyProof.EqKinds
import PyProof.TupleCall
import PySem.Challenge.RW_playboard_k10_places_looked_at
set_option Elab.async false
set_option linter.all false
set_option maxRecDepth 100000
set_option maxHeartbeats 4000000
namespace L2
open PySem PySem.Spec PyProof.Rows
abbrev Key := Sum Int Str
def keyIs : Key → Value → Bool
  | .inl k, v => Value.isInt k v
  | .inr x, v => Value.isStrOf x v
def keyH (w : World) : Key → Int
  | .inl k => hashInt k
  | .inr x => hashStr w x
theorem keyIs_shape : ∀ {k : Key} {v : Value}, keyIs k v = true → (∃ i t, k = Sum.inl i ∧ v = Value.int i t) ∨ (∃ x t, k = Sum.inr x ∧ v = Value.str x t)
  | .inl i, v, h => by
    obtain ⟨t, e⟩ := Value.isInt_shape (k := i) (v := v) h
    exact .inl ⟨i, t, rfl, e⟩
  | .inr x, v, h => by
    obtain ⟨t, e⟩ := Value.isStrOf_shape (x := x) (v := v) h
    exact .inr ⟨x, t, rfl, e⟩
theorem keyIs_int (i : Int) (t : Tok) : keyIs (.inl i) (.int i t) = true := by simp [keyIs, Value.isInt]
theorem keyIs_str (x : Str) (t : Tok) : keyIs (.inr x) (.str x t) = true := by simp [keyIs, Value.isStrOf]
theorem key_ll (a b : Int) : decide ((Sum.inl a : Key) = Sum.inl b) = (a == b) := by
  by_cases e : a = b
  · subst e; simp
  · have h : ¬ (Sum.inl a : Key) = Sum.inl b := fun q => e (Sum.inl.inj q)
    rw [decide_eq_false h]
    exact (beq_eq_false_iff_ne.mpr e).symm
theorem key_rr (a b : Str) : decide ((Sum.inr a : Key) = Sum.inr b) = decide (a = b) := by
  by_cases e : a = b
  · subst e; simp
  · have h : ¬ (Sum.inr a : Key) = Sum.inr b := fun q => e (Sum.inr.inj q)
    rw [decide_eq_false h, decide_eq_false e]
theorem key_lr (a : Int) (b : Str) : decide ((Sum.inl a : Key) = Sum.inr b) = false := decide_eq_false (fun q => nomatch q)
theorem key_rl (a : Str) (b : Int) : decide ((Sum.inr a : Key) = Sum.inl b) = false := decide_eq_false (fun q => nomatch q)
def mixKind (prog : Program) (w : World) : PySem.KeyKind prog w Key where
  is := keyIs
  hash := keyH w
  inj := fun v a b ha hb => by
    rcases keyIs_shape ha with ⟨i, t, rfl, rfl⟩ | ⟨x, t, rfl, rfl⟩
    · rcases keyIs_shape hb with ⟨j, u, rfl, e⟩ | ⟨y, u, rfl, e⟩
      · injection e with e1 _; rw [e1]
      · exact nomatch e
    · rcases keyIs_shape hb with ⟨j, u, rfl, e⟩ | ⟨y, u, rfl, e⟩
      · exact nomatch e
      · injection e with e1 _; rw [e1]
  byValue := fun k v h => by
    rcases keyIs_shape h with ⟨i, t, rfl, rfl⟩ | ⟨x, t, rfl, rfl⟩ <;> rfl
  pyHash := fun hv h => by
    rcases keyIs_shape hv with ⟨i, t, rfl, rfl⟩ | ⟨x, t, rfl, rfl⟩
    · exact wpAny_pyHash_int h
    · exact wpAny_pyHash_str h
  eqBool := fun hu hv h => by
    rcases keyIs_shape hu with ⟨i, t, rfl, rfl⟩ | ⟨x, t, rfl, rfl⟩
    · rcases keyIs_shape hv with ⟨j, u, rfl, rfl⟩ | ⟨y, u, rfl, rfl⟩
      · rw [key_ll] at h; exact wpAny_eqBool_int h
      · rw [key_lr] at h; exact SeqAt.EqAt.int_str i t y u _ _ _ _ h
    · rcases keyIs_shape hv with ⟨j, u, rfl, rfl⟩ | ⟨y, u, rfl, rfl⟩
      · rw [key_rl] at h; exact SeqAt.EqAt.str_int x t j u _ _ _ _ h
      · rw [key_rr] at h; exact wpAny_eqBool_str h
  «strs» := fun k x t v h => by
    rcases keyIs_shape h with ⟨i, u, rfl, e⟩ | ⟨y, u, rfl, e⟩
    · exact nomatch e
    · injection e with e1 _
      subst e1
      cases v <;> rfl
theorem mixKind_int (prog : Program) (w : World) (i : Int) (t : Tok) : (mixKind prog w).is (.inl i) (.int i t) = true := keyIs_int i t
theorem mixKind_str (prog : Program) (w : World) (x : Str) (t : Tok) : (mixKind prog w).is (.inr x) (.str x t) = true := keyIs_str x t
end L2
namespace L2
open PySem PySem.Spec PyProof.Rows
inductive V where
  | non | bl (b : Bool) | int (i : Int) | str (x : Str) | byt (b : Array UInt8) | flt (b : UInt64) | ref (a : Addr) | ty (n : String)
  deriving DecidableEq
def RelV : V → Value → Prop
  | .non, u => u = Value.none
  | .bl b, u => u = Value.bool b
  | .int i, u => ∃ t, u = Value.int i t
  | .str x, u => ∃ t, u = Value.str x t
  | .byt b, u => ∃ t, u = Value.bytes b t
  | .flt b, u => ∃ t, u = Value.float b t
  | .ref a, u => u = Value.ref a
  | .ty n, u => u = Value.type n
abbrev Vals : List V → List Value → Prop := Paired RelV
theorem Vals.length {xs : List V} {us : List Value} (r : Vals xs us) : xs.length = us.length := Paired.length r
theorem Vals.get : ∀ {xs : List V} {us : List Value} {i : Nat} {x : V}, Vals xs us → xs[i]? = some x → ∃ u, us[i]? = some u ∧ RelV x u
  | _, _, _, _, .nil, e => by simp at e
  | _, _, 0, _, .cons r _, e => by simp at e; subst e; exact ⟨_, rfl, r⟩
  | _, _, i + 1, x, .cons _ t, e => by
    obtain ⟨u, h1, h2⟩ := Vals.get (i := i) (x := x) t (by simpa using e)
    exact ⟨u, by simpa using h1, h2⟩
theorem Vals.set {x : V} {u : Value} (r : RelV x u) : ∀ {xs : List V} {us : List Value} (i : Nat), Vals xs us → Vals (xs.set i x) (us.set i u)
  | _, _, _, .nil => .nil
  | _, _, 0, .cons _ t => .cons r t
  | _, _, i + 1, .cons q t => .cons q (Vals.set r i t)
theorem Vals.append : ∀ {xs ys : List V} {us ws : List Value}, Vals xs us → Vals ys ws → Vals (xs ++ ys) (us ++ ws)
  | _, _, _, _, .nil, s => s
  | _, _, _, _, .cons r t, s => .cons r (Vals.append t s)
theorem Vals.take : ∀ {xs : List V} {us : List Value} (n : Nat), Vals xs us → Vals (xs.take n) (us.take n)
  | _, _, 0, _ => .nil
  | _, _, _ + 1, .nil => .nil
  | _, _, n + 1, .cons r t => .cons r (Vals.take n t)
theorem Vals.drop : ∀ {xs : List V} {us : List Value} (n : Nat), Vals xs us → Vals (xs.drop n) (us.drop n)
  | _, _, 0, r => r
  | _, _, _ + 1, .nil => .nil
  | _, _, n + 1, .cons _ t => Vals.drop n t
theorem Vals.none_of : ∀ {xs : List V} {us : List Value} {i : Nat}, Vals xs us → xs[i]? = none → us[i]? = none := fun {xs us i} r e => by
  have h1 := r.length
  have h2 : xs.length ≤ i := List.getElem?_eq_none_iff.mp e
  exact List.getElem?_eq_none_iff.mpr (by omega)
def RelO : Option V → Option Value → Prop
  | some v, some u => RelV v u
  | none, none => True
  | _, _ => False
def KV {κ : Type} : List (κ × V) → List (κ × Value) → Prop := Paired fun (p : κ × V) (q : κ × Value) => p.1 = q.1 ∧ RelV p.2 q.2
def kV : Key → V
  | .inl i => .int i
  | .inr x => .str x
inductive HO where
  | lst (xs : List V)
  | tup (xs : List V)
  | dK (kvs : List (Key × V)) | dT (kvs : List (List Key × V))
  | set (S : Int → Bool) (n : Nat)
  | ins (C dx : Addr) (fs : List (Str × V))
  | own (x : Addr)
  | xd (fs : List (Str × V))
  | met (f x : Addr)
  | rng (lo hi : Int)
  | frz (o : Obj) (u : HO)
  | tbl (ps : Array Value)
  | ext (φ : Heap → Prop)
abbrev Hp := Addr → Option HO
def upd (H : Hp) (a : Addr) (o : HO) : Hp := fun b => if b = a then some o else H b
theorem upd_same {H : Hp} {a : Addr} {o : HO} : upd H a o a = some o := by unfold upd; rw [if_pos rfl]
theorem upd_ne {H : Hp} {a b : Addr} {o : HO} (h : b ≠ a) : upd H a o b = H b := by unfold upd; rw [if_neg h]
theorem ne_of_none {H : Hp} {a b : Addr} {o : HO} (h : H a = some o) (h' : H b = none) : a ≠ b := by
  intro e; subst e; rw [h] at h'; cases h'
section
variable (P : Program) (w : World)
def ObjOk (H : Hp) (h : Heap) (a : Addr) : HO → Prop
  | .lst xs => xs.length ≤ sizeLine ∧ ∃ (its : List Value) (n : Nat), Vals xs its ∧ h.get? a = some { cls := .type "list", data := .seq its.toArray n }
  | .tup xs => xs.length ≤ sizeLine ∧ ∃ its : List Value, Vals xs its ∧ IsTup h a its.toArray
  | .dK kvs => kvs.length ≤ sizeLine ∧ (a == sysModules) = false ∧ ∃ vs, KV kvs vs ∧ h.DictOf (mixKind P w) a vs
  | .dT kvs => kvs.length ≤ sizeLine ∧ (a == sysModules) = false ∧ ∃ xs : List (List Key × Addr × Value),
      Paired (fun (p : List Key × V) (q : List Key × Addr × Value) => p.1 = q.1 ∧ H q.2.1 = some (.tup (p.1.map kV)) ∧ RelV p.2 q.2.2) kvs xs ∧
      ∃ o es ep, h.get? a = some o ∧ o.ExactDict ∧ o.data = .dict es ep ∧ es.toList = xs.map (entryOfKey (tupleKind (mixKind P w))) ∧ (xs.map (·.1)).Nodup
  | .set S n => h.SetOf (intKind P w) a S n
  | .ins C dx fs => H dx = some (.own a) ∧ fs.length ≤ 1000 ∧ dx ≠ a ∧ h.get? a = some (PySem.W.instObj C dx) ∧
      ∃ mA, h.Ns1 dx mA ∧ (∀ f, RelO (fs.lookup f) (mA f)) ∧ PySem.Within mA (fs.map (·.1))
  | .own _ => ∃ o, h.get? a = some o
  | .xd fs => ∃ mA, h.Ns1 a mA ∧ ∀ f, RelO (fs.lookup f) (mA f)
  | .rng lo hi => ∃ t u v, h.get? a = some { cls := .type "range", data := .fields #[.int lo t, .int hi u, .int 1 v] }
  | .frz o u => h.get? a = some o ∧ ObjOk H h a u
  | .tbl ps => h.get? a = some { cls := .none, data := .fields ps }
  | .met f x => h.get? a = some (PySem.W.methodObj (.ref f) (.ref x))
  | .ext φ => φ h ∧ (∃ o, h.get? a = some o) ∧ ∀ h1 h2 : Heap, φ h1 → (∀ o, h1.get? a = some o → h2.get? a = some o) → φ h2
def HOk (H : Hp) (h : Heap) : Prop := ∀ a o, H a = some o → ObjOk P w H h a o
end
section
variable {P : Program} {w : World} {H H' : Hp} {h h' : Heap} {a : Addr} {o : HO}
theorem ObjOk.lt (x : ObjOk P w H h a o) : a < h.objs.size := by
  cases o with
  | lst xs => obtain ⟨_, _, _, _, e⟩ := x; exact Heap.lt_size e
  | tup xs => obtain ⟨_, _, _, p⟩ := x; exact p.lt
  | dK kvs => obtain ⟨_, _, _, _, o, _, _, e, _⟩ := x; exact Heap.lt_size e
  | dT kvs => obtain ⟨_, _, _, _, o, _, _, e, _⟩ := x; exact Heap.lt_size e
  | set S n => obtain ⟨o, _, _, _, e, _⟩ := x; exact Heap.lt_size e
  | ins C dx fs => obtain ⟨_, _, _, e, _⟩ := x; exact Heap.lt_size e
  | own y => obtain ⟨_, e⟩ := x; exact Heap.lt_size e
  | xd fs => obtain ⟨_, ⟨_, _, _, e, _⟩, _⟩ := x; exact Heap.lt_size e
  | rng lo hi => obtain ⟨_, _, _, e⟩ := x; exact Heap.lt_size e
  | frz ob u => obtain ⟨e, _⟩ := x; exact Heap.lt_size e
  | tbl ps => exact Heap.lt_size (show h.get? a = some _ from x)
  | met f y => exact Heap.lt_size (show h.get? a = some _ from x)
  | ext φ => obtain ⟨_, ⟨_, e⟩, _⟩ := x; exact Heap.lt_size e
theorem Paired.mapP {α β : Type} {F G : α → β → Prop} : ∀ {l₁ : List α} {l₂ : List β}, Paired F l₁ l₂ → (∀ a b, F a b → G a b) → Paired G l₁ l₂
  | _, _, .nil, _ => .nil
  | _, _, .cons r t, f => .cons (f _ _ r) (Paired.mapP t f)
theorem ObjOk.stay (x : ObjOk P w H h a o) (k : ∀ b u, (b = a ∨ H b = some (.own a)) → h.get? b = some u → h'.get? b = some u)
    (ho : ∀ b, H b = some (.own a) → H' b = some (.own a)) (ht : ∀ b xs, H b = some (.tup xs) → H' b = some (.tup xs)) : ObjOk P w H' h' a o := by
  induction o with
  | lst xs => obtain ⟨z, its, n, r, e⟩ := x; exact ⟨z, its, n, r, k _ _ (.inl rfl) e⟩
  | tup xs => obtain ⟨z, its, r, ob, e, c⟩ := x; exact ⟨z, its, r, ob, k _ _ (.inl rfl) e, c⟩
  | dK kvs => obtain ⟨z, y, vs, r, ob, es, ep, e, c⟩ := x; exact ⟨z, y, vs, r, ob, es, ep, k _ _ (.inl rfl) e, c⟩
  | dT kvs =>
    obtain ⟨z, y, xs, r, ob, es, ep, e, c⟩ := x
    exact ⟨z, y, xs, Paired.mapP r fun p q z => ⟨z.1, ht _ _ z.2.1, z.2.2⟩, ob, es, ep, k _ _ (.inl rfl) e, c⟩
  | set S n => obtain ⟨ob, es, ep, t, e, c⟩ := x; exact ⟨ob, es, ep, t, k _ _ (.inl rfl) e, c⟩
  | ins C dx fs =>
    obtain ⟨d, z, ne, e, mA, ⟨od, es, ep, e2, c⟩, r⟩ := x
    exact ⟨ho _ d, z, ne, k _ _ (.inl rfl) e, mA, ⟨od, es, ep, k _ _ (.inr d) e2, c⟩, r⟩
  | own y => obtain ⟨ob, e⟩ := x; exact ⟨ob, k _ _ (.inl rfl) e⟩
  | xd fs => obtain ⟨mA, ⟨od, es, ep, e, c⟩, r⟩ := x; exact ⟨mA, ⟨od, es, ep, k _ _ (.inl rfl) e, c⟩, r⟩
  | rng lo hi => obtain ⟨t, u, v, e⟩ := x; exact ⟨t, u, v, k _ _ (.inl rfl) e⟩
  | frz ob u ih => obtain ⟨e, q⟩ := x; exact ⟨k _ _ (.inl rfl) e, ih q⟩
  | tbl ps =>
    have e : h.get? a = some { cls := .none, data := .fields ps } := x
    show h'.get? a = some { cls := .none, data := .fields ps }
    exact k a _ (.inl rfl) e
  | met f y =>
    have e : h.get? a = some (PySem.W.methodObj (.ref f) (.ref y)) := x
    show h'.get? a = some (PySem.W.methodObj (.ref f) (.ref y))
    exact k a _ (.inl rfl) e
  | ext φ => obtain ⟨p, ⟨o, e⟩, st⟩ := x; exact ⟨st _ _ p fun o q => k _ _ (.inl rfl) q, ⟨o, k _ _ (.inl rfl) e⟩, st⟩
theorem HOk.lt (x : HOk P w H h) (e : H a = some o) : a < h.objs.size := (x a o e).lt
theorem HOk.fresh (x : HOk P w H h) (e : h.objs.size ≤ a) : H a = none := by
  cases q : H a with
  | none => rfl
  | some u => exact absurd (Nat.lt_of_lt_of_le (x.lt q) e) (Nat.lt_irrefl _)
theorem HOk.kept (x : HOk P w H h) (k : ∀ b u, h.get? b = some u → h'.get? b = some u) : HOk P w H h' := fun a o e =>
  (x a o e).stay (fun b u _ q => k b u q) (fun _ q => q) fun _ _ q => q
theorem HOk.laid (x : HOk P w H h) (k : ∀ b u, h.get? b = some u → h'.get? b = some u) (hp : h.objs.size ≤ a) (new : ObjOk P w (upd H a o) h' a o) : HOk P w (upd H a o) h' := fun b u e => by
  have hn := x.fresh hp
  by_cases hb : b = a
  · subst hb; rw [upd_same] at e; cases e; exact new
  · rw [upd_ne hb] at e
    exact (x b u e).stay (fun c v _ q => k c v q) (fun c q => by rw [upd_ne (ne_of_none q hn)]; exact q) fun c xs q => by rw [upd_ne (ne_of_none q hn)]; exact q
end
def Rd (H : Hp) (a : Addr) (u : HO) : Prop := H a = some u ∨ ∃ o, H a = some (.frz o u)
theorem Rd.of {H : Hp} {a : Addr} {u : HO} (h : H a = some u) : Rd H a u := .inl h
theorem Rd.ok {P : Program} {w : World} {H : Hp} {h : Heap} {a : Addr} {u : HO} (r : Rd H a u) (x : HOk P w H h) : ObjOk P w H h a u := by
  rcases r with r | ⟨o, r⟩
  · exact x a u r
  · obtain ⟨_, q⟩ := x a _ r
    exact q
def Mut : Option HO → Prop
  | some (.lst _) => True
  | some (.dK _) => True
  | some (.dT _) => True
  | some (.set _ _) => True
  | some (.ins _ _ _) => True
  | some (.ext _) => True
  | _ => False
section
variable {P : Program} {w : World} {H : Hp} {h h' : Heap} {x e : Addr} {o' : HO}
theorem HOk.write (ok : HOk P w H h) (mu : Mut (H x)) (he : e = x ∨ H e = some (.own x)) (k : ∀ b u, b ≠ e → h.get? b = some u → h'.get? b = some u) (heo : ∃ u, h'.get? e = some u)
    (new : ObjOk P w (upd H x o') h' x o') : HOk P w (upd H x o') h' := fun b u q => by
  have nown : ∀ c y, H c = some (.own y) → c ≠ x := fun c y r z => by subst z; rw [r] at mu; exact mu
  have ntup : ∀ c xs, H c = some (.tup xs) → c ≠ x := fun c xs r z => by subst z; rw [r] at mu; exact mu
  by_cases hb : b = x
  · subst hb; rw [upd_same] at q; cases q; exact new
  · rw [upd_ne hb] at q
    by_cases hbe : b = e
    · have q' : H b = some (.own x) := by
        rcases he with z | z
        · exact absurd (hbe.trans z) hb
        · rw [hbe]; exact z
      rw [q] at q'; cases q'
      obtain ⟨v, hv⟩ := heo
      exact ⟨v, by rw [hbe]; exact hv⟩
    · refine (ok b u q).stay (fun c v hc r => k c v ?_ r) (fun c r => by rw [upd_ne (nown c b r)]; exact r) fun c xs r => by rw [upd_ne (ntup c xs r)]; exact r
      rcases hc with rfl | hc
      · exact hbe
      · rintro rfl
        rcases he with z | z
        · exact nown c b hc z
        · rw [hc] at z; cases z; exact hb rfl
end
structure Un (fs ex : List Addr) (H H' : Hp) (h h' : Heap) : Prop where
  keep : ∀ b o, h.get? b = some o → H b = none → b ∉ fs → b ∉ ex → h'.get? b = some o
  slot : ∀ b o, h.get? b = some o → H b = none → b ∈ fs → b ∉ ex → ∃ sl, h'.get? b = some { o with slots := sl }
  free : ∀ b o, h.get? b = some o → H b = none → b ∉ ex → H' b = none
  there : ∀ b o, h.get? b = some o → b ∉ ex → ∃ o', h'.get? b = some o'
  tups : ∀ b xs, H b = some (.tup xs) → H' b = some (.tup xs)
  frzs : ∀ b o u, H b = some (.frz o u) → H' b = some (.frz o u)
  tbls : ∀ b ps, H b = some (.tbl ps) → ∃ more, H' b = some (.tbl (ps ++ more))
section
variable {fs fs' ex ex' : List Addr} {H H1 H2 : Hp} {h h1 h2 h' : Heap} {a x e : Addr} {o : HO}
theorem Un.any (u : Un fs ex H H1 h h1) {b : Addr} {ob : Obj} (q : h.get? b = some ob) (n : H b = none) (hx : b ∉ ex) : ∃ sl, h1.get? b = some { ob with slots := sl } := by
  by_cases hb : b ∈ fs
  · exact u.slot b ob q n hb hx
  · exact ⟨ob.slots, u.keep b ob q n hb hx⟩
theorem Un.trans (a : Un fs ex H H1 h h1) (b : Un fs ex H1 H2 h1 h2) : Un fs ex H H2 h h2 where
  keep := fun c ob q n hc hx => b.keep c ob (a.keep c ob q n hc hx) (a.free c ob q n hx) hc hx
  slot := fun c ob q n hc hx => by
    obtain ⟨sl, e1⟩ := a.slot c ob q n hc hx
    obtain ⟨sl', e2⟩ := b.slot c _ e1 (a.free c ob q n hx) hc hx
    exact ⟨sl', e2⟩
  free := fun c ob q n hx => by
    obtain ⟨o', e1⟩ := a.there c ob q hx
    exact b.free c o' e1 (a.free c ob q n hx) hx
  there := fun c ob q hx => by
    obtain ⟨o', e1⟩ := a.there c ob q hx
    exact b.there c o' e1 hx
  tups := fun c xs q => b.tups c xs (a.tups c xs q)
  frzs := fun c ob xs q => b.frzs c ob xs (a.frzs c ob xs q)
  tbls := fun c ps q => by
    obtain ⟨m1, e1⟩ := a.tbls c ps q
    obtain ⟨m2, e2⟩ := b.tbls c _ e1
    exact ⟨m1 ++ m2, by rw [e2, Array.append_assoc]⟩
theorem Un.kept (k : ∀ b u, h.get? b = some u → h'.get? b = some u) : Un fs ex H H h h' :=
  ⟨fun b ob q _ _ _ => k b ob q, fun b ob q _ _ _ => ⟨ob.slots, k b ob q⟩, fun _ _ _ n _ => n, fun b ob q _ => ⟨ob, k b ob q⟩, fun _ _ q => q, fun _ _ _ q => q, fun _ ps q => ⟨#[], by rw [q]; simp⟩⟩
theorem Un.refl : Un fs ex H H h h := Un.kept fun _ _ q => q
theorem Un.laid (k : ∀ b u, h.get? b = some u → h'.get? b = some u) (hp : h.objs.size ≤ a) (hn : H a = none) : Un fs ex H (upd H a o) h h' where
  keep := fun b u q _ _ _ => k b u q
  slot := fun b u q _ _ _ => ⟨u.slots, k b u q⟩
  free := fun b u q n _ => by rw [upd_ne (Nat.ne_of_lt (Nat.lt_of_lt_of_le (Heap.lt_size q) hp))]; exact n
  there := fun b u q _ => ⟨u, k b u q⟩
  tups := fun b xs q => by rw [upd_ne (ne_of_none q hn)]; exact q
  frzs := fun b u xs q => by rw [upd_ne (ne_of_none q hn)]; exact q
  tbls := fun b ps q => ⟨#[], by rw [upd_ne (ne_of_none q hn), q]; simp⟩
theorem Un.write (mu : Mut (H x)) (he : e = x ∨ H e = some (.own x)) (k : ∀ b u, b ≠ e → h.get? b = some u → h'.get? b = some u) (heo : ∃ u, h'.get? e = some u) : Un fs ex H (upd H x o) h h' := by
  have hx : ∀ b, H b = none → b ≠ x := fun b n z => by subst z; rw [n] at mu; exact mu
  have hb : ∀ b, H b = none → b ≠ e := fun b n z => by
    subst z
    rcases he with r | r
    · exact hx b n r
    · rw [n] at r; cases r
  have hm : ∀ b u, H b = some u → ¬ Mut (some u) → b ≠ x := fun b u q nm z => by subst z; rw [q] at mu; exact nm mu
  refine ⟨fun b u q n _ _ => k b u (hb b n) q, fun b u q n _ _ => ⟨u.slots, k b u (hb b n) q⟩, fun b u q n _ => by rw [upd_ne (hx b n)]; exact n, fun b u q _ => ?_,
    fun b xs q => by rw [upd_ne (hm b _ q fun z => z)]; exact q, fun b u xs q => by rw [upd_ne (hm b _ q fun z => z)]; exact q, fun b ps q => ⟨#[], by rw [upd_ne (hm b _ q fun z => z), q]; simp⟩⟩
  by_cases hbe : b = e
  · subst hbe; exact heo
  · exact ⟨u, k b u hbe q⟩
theorem Un.mono (u : Un fs ex H H1 h h1) (hs : ∀ b ∈ fs, b ∈ fs') (hx : ∀ b ∈ ex, b ∈ ex') : Un fs' ex' H H1 h h1 :=
  ⟨fun b ob q n hb he => u.keep b ob q n (fun z => hb (hs b z)) fun z => he (hx b z), fun _ _ q n _ he => u.any q n fun z => he (hx _ z), fun b ob q n he => u.free b ob q n fun z => he (hx b z), fun b ob q he => u.there b ob q fun z => he (hx b z), u.tups, u.frzs, u.tbls⟩
end
def trk (h : Heap) (H : Hp) : List Addr := (List.range h.objs.size).filter fun a => (H a).isSome
def hidT (h : Heap) (H : Hp) : Heap := PySem.W.hideAll h (trk h H)
theorem hidT_size (h : Heap) (H : Hp) : (hidT h H).objs.size = h.objs.size := PySem.W.hideAll_size _ _
theorem hidT_get {h : Heap} {H : Hp} {b : Addr} {o : Obj} (e : h.get? b = some o) (n : H b = none) : (hidT h H).get? b = some o :=
  PySem.W.hideAll_get _ e fun hm => by
    have q : (H b).isSome = true := (List.mem_filter.mp hm).2
    rw [n] at q; simp at q
theorem of_hidT {h : Heap} {H : Hp} {b : Addr} {o : Obj} (e : (hidT h H).get? b = some o) : h.get? b = some o ∧ H b = none := by
  have e' : h.get? b = some o := PySem.W.of_hideAll (trk h H) e
  refine ⟨e', ?_⟩
  cases q : H b with
  | none => rfl
  | some x =>
    have hm : b ∈ trk h H := List.mem_filter.mpr ⟨List.mem_range.mpr (Heap.lt_size e'), by simp [q]⟩
    have z : (hidT h H).get? b = none := PySem.W.hideAll_none (trk h H) hm
    rw [z] at e; cases e
def allNews (g h : Heap) (L : Addr) : List (Addr × Obj) := (List.range h.objs.size).filterMap fun a => if a = L ∨ (g.get? a).isSome = true then none else (h.get? a).map fun o => (a, o)
def rest (g h : Heap) (L d : Addr) : List (Addr × Obj) := (allNews g h L).filter fun p => decide (p.1 ≠ d)
end L2
namespace L2
open PySem PySem.Spec PyProof.Rows
structure Mod (K : PySem.W.Frag) (mg : Str → Option Value) (base : Heap) : Prop where
  kin : K.In base
  glob : base.Ns mainGlobals mg
  blt : ∃ mb, base.Ns builtinsNs mb ∧ ∀ x : Str, x ≠ "__name__" → mb x = bootBuiltins x
  nolimit : base.NoLimit
structure Cx where
  prog : Program
  w : World
  K : PySem.W.Frag
  mg : Str → Option Value
  base : Heap
  A : Around
  N : List Str
  s₀ : Shared
  H₀ : Hp
  env : Env
  outer : List Env
  stack : List Env
  ex : List Addr
  fn : Str → Bool
  calm : Bool
  pn : List (Addr × Obj)
  xe : Value → Shared → Prop
def frs (l : List Env) : List Addr := l.filterMap (·.frame)
abbrev Cx.fs (X : Cx) : List Addr := frs X.outer
def Vis (sc : Scope) (x : Str) : Prop := sc.names.lookup x = some .local ∨ sc.names.lookup x = some .cell ∨ sc.names.lookup x = some .free
def Loc (sc : Scope) (x : Str) : Prop := sc.names.lookup x = some .local ∨ sc.names.lookup x = some .cell
def Look (env : Env) (h : Heap) (m : Str → Option Value) (x : Str) (u : Value) : Prop :=
  (env.kindOf x = some .local ∧ m x = some u) ∨ ((env.kindOf x = some .cell ∨ env.kindOf x = some .free) ∧ ∃ c, env.cells.lookup x = some c ∧ h.IsCell c (some u))
structure Cx.Ok (X : Cx) : Prop where
  mod : Mod X.K X.mg X.base
  kind : X.env.scope.kind = .function
  glob : X.env.globals = mainGlobals
  blt : X.env.builtins = builtinsNs
  above : X.s₀.heap.objs.size ≤ X.env.locals
  inj : ∀ x y c, X.env.cells.lookup x = some c → X.env.cells.lookup y = some c → x = y
  has : ∀ x, (X.env.kindOf x = some .cell ∨ X.env.kindOf x = some .free) → ∃ c, X.env.cells.lookup x = some c
  cab : ∀ x c, X.fn x = true → X.env.cells.lookup x = some c → X.s₀.heap.objs.size ≤ c
  hd : X.calm = true → X.A.handled = none
  frames : X.A.frames = some X.stack
  stk : X.stack = X.outer ∨ (X.stack = X.env :: X.outer ∧ X.env.frame = some X.env.locals)
  exf : ∀ b ∈ X.ex, b ≠ X.env.locals ∧ ∀ x c, X.env.cells.lookup x = some c → c ≠ b
  bs : ∀ b o, X.base.get? b = some o → X.s₀.heap.get? b = some o ∧ X.H₀ b = none
  bsz : X.base.objs.size ≤ X.s₀.heap.objs.size
  noex : ∀ b o, X.base.get? b = some o → b ∉ X.ex
  exfs : ∀ b ∈ X.ex, b ∉ X.fs
  funs : X.s₀.heap.FunFrames X.base X.outer
  frf : ∀ b ∈ X.fs, X.H₀ b = none
structure Inv (X : Cx) (pins : List (Addr × Obj)) (σ : List (Option V)) (H : Hp) (s : Shared) : Prop where
  ok : X.Ok
  os : s.os = X.s₀.os
  bare : AllBare s.gens
  base : Un X.fs X.ex X.H₀ H X.s₀.heap s.heap
  loc : ∃ m, s.heap.Ns X.env.locals m ∧ ∀ (i : Nat) (x : Str) (v : V), X.N[i]? = some x → σ[i]? = some (some v) → Vis X.env.scope x → ∃ u, RelV v u ∧ Look X.env s.heap m x u
  cell : ∀ x c, X.env.cells.lookup x = some c → ∃ v, s.heap.IsCell c v
  free : H X.env.locals = none
  freeC : ∀ x c, X.env.cells.lookup x = some c → H c = none
  pin : ∀ p ∈ X.pn ++ pins, s.heap.get? p.1 = some p.2 ∧ H p.1 = none ∧ p.1 ≠ X.env.locals ∧ p.1 ∉ X.fs ∧ ∀ v, p.2.data ≠ .cell v
  hok : HOk X.prog X.w H s.heap
  len : σ.length = X.N.length
section
variable {X : Cx} {pins : List (Addr × Obj)} {σ : List (Option V)} {H H' : Hp} {s : Shared} {h' : Heap}
theorem Cx.Ok.nofr (ok : X.Ok) {b : Addr} {o : Obj} (e : X.base.get? b = some o) : b ∉ X.fs := fun hb => by
  have := (ok.funs.mem hb).1
  rw [e] at this; cases this
theorem Inv.bs (I : Inv X pins σ H s) : ∀ b o, X.base.get? b = some o → s.heap.get? b = some o ∧ H b = none := fun b o e =>
  ⟨I.base.keep b o (I.ok.bs b o e).1 (I.ok.bs b o e).2 (I.ok.nofr e) (I.ok.noex b o e), I.base.free b o (I.ok.bs b o e).1 (I.ok.bs b o e).2 (I.ok.noex b o e)⟩
theorem Inv.bk (I : Inv X pins σ H s) : ∀ b o, X.base.get? b = some o → s.heap.get? b = some o := fun b o e => (I.bs b o e).1
theorem Inv.mod (I : Inv X pins σ H s) : Mod X.K X.mg X.base := I.ok.mod
theorem Inv.kIn (I : Inv X pins σ H s) : X.K.In s.heap := I.ok.mod.kin.keeps I.bk
theorem Inv.nolimit (I : Inv X pins σ H s) : s.heap.NoLimit := I.ok.mod.nolimit.keeps I.bk
theorem Inv.lt (I : Inv X pins σ H s) : X.env.locals < s.heap.objs.size := let ⟨_, hn, _⟩ := I.loc; hn.lt
theorem Inv.sz (I : Inv X pins σ H s) : X.s₀.heap.objs.size ≤ s.heap.objs.size := Nat.le_trans I.ok.above (Nat.le_of_lt I.lt)
theorem Inv.nofs (I : Inv X pins σ H s) {a : Addr} (h : s.heap.objs.size ≤ a) : a ∉ X.fs := fun hb => by
  obtain ⟨_, o, ho, _⟩ := I.ok.funs.mem hb
  exact absurd (Nat.lt_of_lt_of_le (Heap.lt_size ho) (Nat.le_trans I.sz h)) (Nat.lt_irrefl _)
theorem Inv.cne (I : Inv X pins σ H s) : ∀ x c, X.env.cells.lookup x = some c → c ≠ X.env.locals := fun x c e z => by
  obtain ⟨v, o, ho, hd⟩ := I.cell x c e
  obtain ⟨m, ⟨o', es, ep, ho', hd', _⟩, _⟩ := I.loc
  rw [z, ho'] at ho; cases ho; rw [hd'] at hd; cases hd
theorem Inv.funs (I : Inv X pins σ H s) : s.heap.FunFrames X.base X.outer := by
  have all : ∀ (l : List Env), (∀ b ∈ frs l, b ∈ X.fs) → X.s₀.heap.FunFrames X.base l → s.heap.FunFrames X.base l := by
    intro l
    induction l with
    | nil => intro _ _; trivial
    | cons env r ih =>
      intro hs hl
      obtain ⟨hk, ⟨L, o, hf, hn, ho, hd⟩, hr⟩ := hl
      have hL : L ∈ X.fs := hs L (by unfold frs; rw [List.filterMap_cons, hf]; exact List.mem_cons_self)
      obtain ⟨sl, e⟩ := I.base.slot L o ho (I.ok.frf L hL) hL fun z => I.ok.exfs L z hL
      exact ⟨hk, ⟨L, _, hf, hn, e, hd⟩, ih (fun b hb => hs b (by unfold frs; rw [List.filterMap_cons, hf]; exact List.mem_cons_of_mem _ hb)) hr⟩
  exact all X.outer (fun _ hb => hb) I.ok.funs
theorem Inv.stack (I : Inv X pins σ H s) : s.heap.FunFrames X.base X.stack := by
  rcases I.ok.stk with e | ⟨e, hf⟩
  · rw [e]; exact I.funs
  · rw [e]
    obtain ⟨m, hn, _⟩ := I.loc
    refine .cons (by rw [I.ok.kind]; decide) hf hn ?_ I.funs
    exact Heap.get?_none_of_le (Nat.le_trans I.ok.bsz I.ok.above)
theorem Inv.stkSub (I : Inv X pins σ H s) : ∀ b ∈ frs X.stack, b ∈ X.env.locals :: X.fs := fun b hb => by
  rcases I.ok.stk with e | ⟨e, hf⟩
  · rw [e] at hb; exact List.mem_cons_of_mem _ hb
  · rw [e] at hb
    unfold frs at hb
    rw [List.filterMap_cons, hf] at hb
    exact hb
theorem Inv.stkFree (I : Inv X pins σ H s) : ∀ b ∈ frs X.stack, H b = none := fun b hb => by
  rcases List.mem_cons.mp (I.stkSub b hb) with e | hb
  · rw [e]; exact I.free
  · obtain ⟨_, o, ho, _⟩ := I.ok.funs.mem hb
    exact I.base.free b o ho (I.ok.frf b hb) fun z => I.ok.exfs b z hb
theorem Inv.step {g' : Array GenState} {t' : Nat} {d' : Drawn} {ch : List Addr} (I : Inv X pins σ H s)
    (hch : ∀ b ∈ ch, (b ∈ X.ex ∨ X.s₀.heap.objs.size ≤ b) ∧ b ≠ X.env.locals ∧ (∀ x c, X.env.cells.lookup x = some c → c ≠ b) ∧ ∀ p ∈ X.pn ++ pins, p.1 ≠ b)
    (keep : ∀ b o, b ≠ X.env.locals → b ∉ X.fs → b ∉ ch → s.heap.get? b = some o → H b = none → h'.get? b = some o)
    (slot : ∀ b o, b ≠ X.env.locals → b ∈ X.fs → b ∉ ch → s.heap.get? b = some o → H b = none → ∃ sl, h'.get? b = some { o with slots := sl }) (free : ∀ b o, b ∉ ch → s.heap.get? b = some o → H b = none → H' b = none)
    (there : ∀ b o, b ∉ ch → s.heap.get? b = some o → ∃ o', h'.get? b = some o')
    (tups : ∀ b xs, H b = some (.tup xs) → H' b = some (.tup xs)) (frzs : ∀ b o u, H b = some (.frz o u) → H' b = some (.frz o u)) (tbls : ∀ b ps, H b = some (.tbl ps) → ∃ more, H' b = some (.tbl (ps ++ more)))
    (ns : ∀ m, s.heap.Ns X.env.locals m → h'.Ns X.env.locals m) (hok : HOk X.prog X.w H' h') (hg : AllBare g') :
    Inv X pins σ H' { s with heap := h', gens := g', drawn := d', toks := t' } := by
  have neL : ∀ b o, X.s₀.heap.get? b = some o → b ≠ X.env.locals := fun b o e => Nat.ne_of_lt (Nat.lt_of_lt_of_le (Heap.lt_size e) I.ok.above)
  have neC : ∀ b o, X.s₀.heap.get? b = some o → b ∉ X.ex → b ∉ ch := fun b o e hx hb => by
    rcases (hch b hb).1 with z | z
    · exact hx z
    · exact absurd (Nat.lt_of_lt_of_le (Heap.lt_size e) z) (Nat.lt_irrefl _)
  have cellK : ∀ x c, X.env.cells.lookup x = some c → ∀ v, s.heap.IsCell c v → h'.IsCell c v := fun x c e v ⟨o, ho, hd⟩ => by
    have nch : c ∉ ch := fun z => (hch c z).2.2.1 x c e rfl
    by_cases hc : c ∈ X.fs
    · obtain ⟨sl, q⟩ := slot c o (I.cne x c e) hc nch ho (I.freeC x c e)
      exact ⟨_, q, hd⟩
    · exact ⟨o, keep c o (I.cne x c e) hc nch ho (I.freeC x c e), hd⟩
  refine ⟨I.ok, I.os, hg, ⟨fun b o e n hb hx => ?_, fun b o e n hb hx => ?_, fun b o e n hx => ?_, fun b o e hx => ?_, fun b xs e => tups b xs (I.base.tups b xs e), fun b o xs e => frzs b o xs (I.base.frzs b o xs e), fun b ps e => ?_⟩, ?_, fun x c e => ?_, ?_, fun x c e => ?_, fun p hp => ?_, hok, I.len⟩
  · exact keep b o (neL b o e) hb (neC b o e hx) (I.base.keep b o e n hb hx) (I.base.free b o e n hx)
  · obtain ⟨sl, e1⟩ := I.base.slot b o e n hb hx
    obtain ⟨sl', e2⟩ := slot b _ (neL b o e) hb (neC b o e hx) e1 (I.base.free b o e n hx)
    exact ⟨sl', e2⟩
  · obtain ⟨o', e1⟩ := I.base.there b o e hx
    exact free b o' (neC b o e hx) e1 (I.base.free b o e n hx)
  · obtain ⟨o', e1⟩ := I.base.there b o e hx
    exact there b o' (neC b o e hx) e1
  · obtain ⟨m1, e1⟩ := I.base.tbls b ps e
    obtain ⟨m2, e2⟩ := tbls b _ e1
    exact ⟨m1 ++ m2, by rw [e2, Array.append_assoc]⟩
  · obtain ⟨m, hn, hl⟩ := I.loc
    refine ⟨m, ns m hn, fun i x v e1 e2 e3 => ?_⟩
    obtain ⟨u, r, l⟩ := hl i x v e1 e2 e3
    refine ⟨u, r, ?_⟩
    rcases l with l | ⟨k, c, e, z⟩
    · exact .inl l
    · exact .inr ⟨k, c, e, cellK x c e _ z⟩
  · obtain ⟨v, z⟩ := I.cell x c e
    exact ⟨v, cellK x c e v z⟩
  · obtain ⟨m, ⟨o, _, _, ho, _⟩, _⟩ := I.loc
    exact free _ o (fun z => (hch _ z).2.1 rfl) ho I.free
  · obtain ⟨v, o, ho, hd⟩ := I.cell x c e
    exact free c o (fun z => (hch c z).2.2.1 x c e rfl) ho (I.freeC x c e)
  · obtain ⟨e, n, ne, nf, d⟩ := I.pin p hp
    have nch : p.1 ∉ ch := fun z => (hch p.1 z).2.2.2 p hp rfl
    exact ⟨keep p.1 p.2 ne nf nch e n, free p.1 p.2 nch e n, ne, nf, d⟩
theorem Inv.un {t' : Nat} (I : Inv X pins σ H s) (u : Un X.fs [] H H' s.heap h') (hok : HOk X.prog X.w H' h') : Inv X pins σ H' { s with heap := h', toks := t' } := by
  obtain ⟨m, ⟨o, es, ep, ho, r⟩, _⟩ := id I.loc
  obtain ⟨sl, hL⟩ := u.any ho I.free (by simp)
  exact I.step (g' := s.gens) (d' := s.drawn) (ch := []) (fun _ z => nomatch z) (fun b o _ hb _ e n => u.keep b o e n hb (by simp)) (fun b o _ hb _ e n => u.slot b o e n hb (by simp)) (fun b o _ e n => u.free b o e n (by simp)) (fun b o _ e => u.there b o e (by simp)) u.tups u.frzs u.tbls (fun m' hm => by
    obtain ⟨o', es', ep', ho', r'⟩ := hm
    rw [ho] at ho'; cases ho'
    exact ⟨_, es', ep', hL, r'⟩) hok I.bare
theorem Inv.call {g' : Array GenState} {t' : Nat} {d' : Drawn} {ch : List Addr} (I : Inv X pins σ H s) (u : Un (frs X.stack) ch H H' s.heap h') (hok : HOk X.prog X.w H' h') (hg : AllBare g')
    (hch : ∀ b ∈ ch, (b ∈ X.ex ∨ X.s₀.heap.objs.size ≤ b) ∧ b ≠ X.env.locals ∧ (∀ x c, X.env.cells.lookup x = some c → c ≠ b) ∧ ∀ p ∈ X.pn ++ pins, p.1 ≠ b) :
    Inv X pins σ H' { s with heap := h', gens := g', drawn := d', toks := t' } := by
  obtain ⟨m, ⟨o, es, ep, ho, r⟩, _⟩ := id I.loc
  obtain ⟨sl, hL⟩ := u.any ho I.free fun z => (hch _ z).2.1 rfl
  exact I.step (ch := ch) hch (fun b o hL hb hc e n => u.keep b o e n (fun z => (List.mem_cons.mp (I.stkSub b z)).elim hL hb) hc) (fun b o _ _ hc e n => u.any e n hc) (fun b o hc e n => u.free b o e n hc) (fun b o hc e => u.there b o e hc) u.tups u.frzs u.tbls (fun m' hm => by
    obtain ⟨o', es', ep', ho', r'⟩ := hm
    rw [ho] at ho'; cases ho'
    exact ⟨_, es', ep', hL, r'⟩) hok hg
theorem Inv.turned {t' : Nat} {it : Addr} (I : Inv X pins σ H s) (k : ∀ b o, b ≠ it → s.heap.get? b = some o → h'.get? b = some o) (hn : H it = none) (hL : it ≠ X.env.locals)
    (h1 : it ∈ X.ex ∨ X.s₀.heap.objs.size ≤ it) (h2 : ∀ x c, X.env.cells.lookup x = some c → c ≠ it) (h3 : ∀ p ∈ X.pn ++ pins, p.1 ≠ it) : Inv X pins σ H { s with heap := h', toks := t' } := by
  have nit : ∀ b u, H b = some u → b ≠ it := fun b u e z => by rw [z, hn] at e; cases e
  refine I.step (g' := s.gens) (d' := s.drawn) (ch := [it]) (fun b hb => ?_) (fun b o _ _ hc e _ => k b o (fun z => hc (by simp [z])) e) (fun b o _ _ hc e _ => ⟨o.slots, k b o (fun z => hc (by simp [z])) e⟩) (fun _ _ _ _ n => n)
    (fun b o hc e => ⟨o, k b o (fun z => hc (by simp [z])) e⟩) (fun _ _ e => e) (fun _ _ _ e => e) (fun b ps e => ⟨#[], by rw [e]; simp⟩) (fun m hm => ?_) (fun b u e => ?_) I.bare
  · have e : b = it := by simpa using hb
    subst e
    exact ⟨h1, hL, h2, h3⟩
  · obtain ⟨o, es, ep, ho, r⟩ := hm
    exact ⟨o, es, ep, k _ o (Ne.symm hL) ho, r⟩
  · refine (I.hok b u e).stay (fun c v hc q => k c v ?_ q) (fun _ q => q) fun _ _ q => q
    rcases hc with z | z
    · rw [z]; exact nit b u e
    · exact nit c _ z
theorem Inv.tok (I : Inv X pins σ H s) (t : Nat) : Inv X pins σ H { s with toks := t } := I.un (h' := s.heap) (t' := t) Un.refl I.hok
theorem Inv.kept {t' : Nat} (I : Inv X pins σ H s) (k : ∀ b u, s.heap.get? b = some u → h'.get? b = some u) : Inv X pins σ H { s with heap := h', toks := t' } := I.un (Un.kept k) (I.hok.kept k)
theorem Inv.laid {a : Addr} {o : HO} {t' : Nat} (I : Inv X pins σ H s) (k : ∀ b u, s.heap.get? b = some u → h'.get? b = some u) (hp : s.heap.objs.size ≤ a) (new : ObjOk X.prog X.w (upd H a o) h' a o) :
    Inv X pins σ (upd H a o) { s with heap := h', toks := t' } := I.un (Un.laid k hp (I.hok.fresh hp)) (I.hok.laid k hp new)
theorem Inv.write {x e : Addr} {o : HO} {t' : Nat} (I : Inv X pins σ H s) (mu : Mut (H x)) (he : e = x ∨ H e = some (.own x)) (k : ∀ b u, b ≠ e → s.heap.get? b = some u → h'.get? b = some u) (heo : ∃ u, h'.get? e = some u)
    (new : ObjOk X.prog X.w (upd H x o) h' x o) : Inv X pins σ (upd H x o) { s with heap := h', toks := t' } := I.un (Un.write mu he k heo) (I.hok.write mu he k heo new)
theorem Inv.pins_of {pins' : List (Addr × Obj)} (I : Inv X pins σ H s) (h : ∀ p ∈ pins', s.heap.get? p.1 = some p.2 ∧ H p.1 = none ∧ p.1 ≠ X.env.locals ∧ p.1 ∉ X.fs ∧ ∀ v, p.2.data ≠ .cell v) : Inv X pins' σ H s :=
  ⟨I.ok, I.os, I.bare, I.base, I.loc, I.cell, I.free, I.freeC, fun p hp => (List.mem_append.mp hp).elim (fun z => I.pin p (List.mem_append_left _ z)) (h p), I.hok, I.len⟩
theorem nodup_ix {N : List Str} (hN : N.Nodup) {i j : Nat} {x : Str} (a : N[i]? = some x) (b : N[j]? = some x) : i = j := by
  obtain ⟨h1, e1⟩ := List.getElem?_eq_some_iff.mp a
  obtain ⟨h2, e2⟩ := List.getElem?_eq_some_iff.mp b
  exact (List.getElem_inj hN).mp (e1.trans e2.symm)
theorem store_ok2 {M : Model} {A : Around} {E : Value → Shared → Prop} {i : Nat} {x : Str} {v : V} {u : Value} {Q : Unit → Shared → Prop} (I : Inv X pins σ H s) (hN : X.N.Nodup) (hi : X.N[i]? = some x) (hx : Loc X.env.scope x) (r : RelV v u)
    (h : ∀ s', Inv X pins (σ.set i (some v)) H s' → (∃ a, Heap.SameBut a s.heap s'.heap ∧ (a = X.env.locals ∨ X.env.cells.lookup x = some a)) → Q () s') (hf : X.fn x = true ∨ X.env.scope.names.lookup x = some .local := by first | exact .inl rfl | exact .inr rfl | assumption) : wpAny M A (storeName X.env x u) Q E s := by
  obtain ⟨m, hn, hl⟩ := id I.loc
  have hcls : (X.env.scope.kind == .class || (X.env.scope.kind == .module && X.env.locals != X.env.globals)) = false := by rw [I.ok.kind]; rfl
  have hiσ : i < σ.length := by rw [I.len]; exact (List.getElem?_eq_some_iff.mp hi).1
  have cne := I.cne
  have tracked : ∀ {a : Addr} {h' : Heap}, (∃ o, s.heap.get? a = some o ∧ H a = none) → Heap.SameBut a s.heap h' → HOk X.prog X.w H h' := fun {a h'} ha hs b ob e => by
    obtain ⟨_, _, hfree⟩ := ha
    refine (I.hok b ob e).stay (fun c w' hc q => (hs.2 c ?_).trans q) (fun _ q => q) fun _ _ q => q
    rintro rfl
    rcases hc with rfl | hc
    · rw [hfree] at e; cases e
    · rw [hfree] at hc; cases hc
  rcases hx with hk | hk
  · refine wpAny_storeName_local hk hn (fun h' hn' hs => ?_) hcls
    obtain ⟨oL, _, _, hoL, _⟩ := id hn
    refine h _ ⟨I.ok, I.os, I.bare, ⟨fun b o e n hb hx => ?_, fun b o e n hb hx => ?_, I.base.free, fun b o e hx => ?_, I.base.tups, I.base.frzs, I.base.tbls⟩, ⟨_, hn', fun j y v' e1 e2 e3 => ?_⟩, fun y c e => ?_, I.free, I.freeC, fun p hp => ?_, tracked ⟨oL, hoL, I.free⟩ hs, by simpa using I.len⟩ ⟨_, hs, .inl rfl⟩
    · exact (hs.2 b (Nat.ne_of_lt (Nat.lt_of_lt_of_le (Heap.lt_size e) I.ok.above))).trans (I.base.keep b o e n hb hx)
    · obtain ⟨sl, e1⟩ := I.base.slot b o e n hb hx
      exact ⟨sl, (hs.2 b (Nat.ne_of_lt (Nat.lt_of_lt_of_le (Heap.lt_size e) I.ok.above))).trans e1⟩
    · obtain ⟨o', e1⟩ := I.base.there b o e hx
      exact ⟨o', (hs.2 b (Nat.ne_of_lt (Nat.lt_of_lt_of_le (Heap.lt_size e) I.ok.above))).trans e1⟩
    · by_cases hj : j = i
      · subst hj
        rw [hi] at e1; cases e1
        rw [List.getElem?_set_self hiσ] at e2
        cases e2
        exact ⟨u, r, .inl ⟨hk, by simp⟩⟩
      · rw [List.getElem?_set_ne (Ne.symm hj)] at e2
        obtain ⟨u', r', q⟩ := hl j y v' e1 e2 e3
        refine ⟨u', r', ?_⟩
        rcases q with ⟨k, e⟩ | ⟨k, c, e, z⟩
        · refine .inl ⟨k, ?_⟩
          have : y ≠ x := fun e => hj (nodup_ix hN e1 (e ▸ hi))
          simp [this, e]
        · exact .inr ⟨k, c, e, z.sameBut hs (cne y c e)⟩
    · obtain ⟨w', z⟩ := I.cell y c e
      exact ⟨w', z.sameBut hs (cne y c e)⟩
    · obtain ⟨e, n, ne, nf, d⟩ := I.pin p hp
      exact ⟨(hs.2 p.1 ne).trans e, n, ne, nf, d⟩
  · have hfn : X.fn x = true := by
      rcases hf with z | z
      · exact z
      · rw [z] at hk; cases hk
    obtain ⟨c, hc⟩ := I.ok.has x (.inl hk)
    obtain ⟨w', z⟩ := I.cell x c hc
    refine wpAny_storeName_cell I.ok.kind hk hc z (fun h' hc' hs => ?_)
    obtain ⟨oc, hoc, hocd⟩ := id z
    refine h { s with heap := h' } ⟨I.ok, I.os, I.bare, ⟨fun b o e n hb hx => ?_, fun b o e n hb hx => ?_, I.base.free, fun b o e hx => ?_, I.base.tups, I.base.frzs, I.base.tbls⟩, ⟨m, hn.sameBut hs (Ne.symm (cne x c hc)), fun j y v' e1 e2 e3 => ?_⟩, fun y c' e => ?_, I.free, I.freeC, fun p hp => ?_, tracked ⟨oc, hoc, I.freeC x c hc⟩ hs, by simpa using I.len⟩ ⟨c, hs, .inr hc⟩
    · exact (hs.2 b (Nat.ne_of_lt (Nat.lt_of_lt_of_le (Heap.lt_size e) (I.ok.cab x c hfn hc)))).trans (I.base.keep b o e n hb hx)
    · obtain ⟨sl, e1⟩ := I.base.slot b o e n hb hx
      exact ⟨sl, (hs.2 b (Nat.ne_of_lt (Nat.lt_of_lt_of_le (Heap.lt_size e) (I.ok.cab x c hfn hc)))).trans e1⟩
    · obtain ⟨o', e1⟩ := I.base.there b o e hx
      exact ⟨o', (hs.2 b (Nat.ne_of_lt (Nat.lt_of_lt_of_le (Heap.lt_size e) (I.ok.cab x c hfn hc)))).trans e1⟩
    · by_cases hj : j = i
      · subst hj
        rw [hi] at e1; cases e1
        rw [List.getElem?_set_self hiσ] at e2
        cases e2
        exact ⟨u, r, .inr ⟨.inl hk, c, hc, hc'⟩⟩
      · rw [List.getElem?_set_ne (Ne.symm hj)] at e2
        obtain ⟨u', r', q⟩ := hl j y v' e1 e2 e3
        refine ⟨u', r', ?_⟩
        rcases q with q | ⟨k, c', e, z'⟩
        · exact .inl q
        · refine .inr ⟨k, c', e, z'.sameBut hs ?_⟩
          rintro rfl
          exact hj (nodup_ix hN e1 (I.ok.inj _ _ _ e hc ▸ hi))
    · by_cases hcc : c' = c
      · subst hcc; exact ⟨_, hc'⟩
      · obtain ⟨w2, z2⟩ := I.cell y c' e
        exact ⟨w2, z2.sameBut hs hcc⟩
    · obtain ⟨e, n, ne, nf, d⟩ := I.pin p hp
      refine ⟨(hs.2 p.1 ?_).trans e, n, ne, nf, d⟩
      intro q
      rw [q, hoc] at e
      have q' : oc = p.2 := Option.some.inj e
      exact d w' (by rw [← q']; exact hocd)
theorem store_ok {M : Model} {A : Around} {E : Value → Shared → Prop} {i : Nat} {x : Str} {v : V} {u : Value} {Q : Unit → Shared → Prop} (I : Inv X pins σ H s) (hN : X.N.Nodup) (hi : X.N[i]? = some x) (hx : Loc X.env.scope x) (r : RelV v u)
    (h : ∀ s', Inv X pins (σ.set i (some v)) H s' → Q () s') (hf : X.fn x = true ∨ X.env.scope.names.lookup x = some .local := by first | exact .inl rfl | exact .inr rfl | assumption) : wpAny M A (storeName X.env x u) Q E s :=
  store_ok2 I hN hi hx r (fun s' I' _ => h s' I') hf
theorem Inv.call' {s' : Shared} {ch : List Addr} (I : Inv X pins σ H s) (ho : s'.os = s.os) (u : Un (frs X.stack) ch H H' s.heap s'.heap) (hok : HOk X.prog X.w H' s'.heap) (hg : AllBare s'.gens)
    (hch : ∀ b ∈ ch, (b ∈ X.ex ∨ X.s₀.heap.objs.size ≤ b) ∧ b ≠ X.env.locals ∧ (∀ x c, X.env.cells.lookup x = some c → c ≠ b) ∧ ∀ p ∈ X.pn ++ pins, p.1 ≠ b) : Inv X pins σ H' s' := by
  obtain ⟨h', g', d', t', o'⟩ := s'
  have e : o' = s.os := ho
  subst e
  exact I.call (g' := g') (t' := t') (d' := d') u hok hg hch
end
abbrev XK := Value → Option Addr → Hp → Prop
abbrev St := List (Option V)
abbrev VK := V → Hp → Prop
abbrev TE := St → Hp → VK → Prop
abbrev TT := St → Hp → (Bool → Hp → Prop) → Prop
abbrev TA := St → Hp → (List V → Hp → Prop) → Prop
structure Ends where
  nx : St → Hp → Prop
  rt : VK
  bk : St → Hp → Prop := fun _ _ => False
  ct : St → Hp → Prop := fun _ _ => False
abbrev TS := Ends → St → Hp → Prop
def EP (X : Cx) (pins : List (Addr × Obj)) (σ : St) (Q : VK) (u : Value) (s' : Shared) : Prop := ∃ v H', Inv X pins σ H' s' ∧ RelV v u ∧ Q v H'
def TP (X : Cx) (pins : List (Addr × Obj)) (σ : St) (Q : Bool → Hp → Prop) (b : Bool) (s' : Shared) : Prop := ∃ H', Inv X pins σ H' s' ∧ Q b H'
def AP (X : Cx) (pins : List (Addr × Obj)) (σ : St) (Q : List V → Hp → Prop) (us : List Value) (s' : Shared) : Prop := ∃ vs H', Inv X pins σ H' s' ∧ Vals vs us ∧ Q vs H'
def SP (X : Cx) (pins : List (Addr × Obj)) (D : Ends) (f : Flow) (s' : Shared) : Prop :=
  match f with
  | .next => ∃ σ' H', Inv X pins σ' H' s' ∧ D.nx σ' H'
  | .brk => ∃ σ' H', Inv X pins σ' H' s' ∧ D.bk σ' H'
  | .cont => ∃ σ' H', Inv X pins σ' H' s' ∧ D.ct σ' H'
  | .ret u => ∃ v σ' H', Inv X pins σ' H' s' ∧ RelV v u ∧ D.rt v H'
def PE (X : Cx) (e : Expr) (t : TE) : Prop :=
  ∀ (pins : List (Addr × Obj)) (s : Shared) (σ : St) (H : Hp) (Q : VK), Inv X pins σ H s → t σ H Q → wpAny (model X.prog X.w) X.A (eval e X.env) (EP X pins σ Q) X.xe s
def PT (X : Cx) (e : Expr) (t : TT) : Prop :=
  ∀ (pins : List (Addr × Obj)) (s : Shared) (σ : St) (H : Hp) (Q : Bool → Hp → Prop), Inv X pins σ H s → t σ H Q → wpAny (model X.prog X.w) X.A (isTrue e X.env (eval e X.env)) (TP X pins σ Q) X.xe s
def PW (X : Cx) (e : Expr) (t : TT) : Prop :=
  ∀ (whole : Sem Value) (pins : List (Addr × Obj)) (s : Shared) (σ : St) (H : Hp) (Q : Bool → Hp → Prop), Inv X pins σ H s → t σ H Q → wpAny (model X.prog X.w) X.A (isTrue e X.env whole) (TP X pins σ Q) X.xe s
theorem PW.pt {X : Cx} {e : Expr} {t : TT} (h : PW X e t) : PT X e t := h _
def PA (X : Cx) (es : List Expr) (t : TA) : Prop :=
  ∀ (pos : Pos) (pins : List (Addr × Obj)) (s : Shared) (σ : St) (H : Hp) (Q : List V → Hp → Prop), Inv X pins σ H s → t σ H Q → wpAny (model X.prog X.w) X.A (spliced (backTo pos (starEach es X.env))) (AP X pins σ Q) X.xe s
def PS (X : Cx) (st : Stmt) (t : TS) : Prop :=
  ∀ (pins : List (Addr × Obj)) (s : Shared) (σ : St) (H : Hp) (D : Ends), Inv X pins σ H s → t D σ H → wpAny (model X.prog X.w) X.A (exec st X.env) (SP X pins D) X.xe s
def PSs (X : Cx) (st : List Stmt) (t : TS) : Prop :=
  ∀ (pins : List (Addr × Obj)) (s : Shared) (σ : St) (H : Hp) (D : Ends), Inv X pins σ H s → t D σ H → wpAny (model X.prog X.w) X.A (execs st X.env) (SP X pins D) X.xe s
theorem thn {α : Type} {t : Sem α} {Q Q' : α → Shared → Prop} {M : Model} {A : Around} {E : Value → Shared → Prop} {s : Shared} (h : wpAny M A t Q E s) (hQ : ∀ a s, Q a s → Q' a s) : wpAny M A t Q' E s := wpAny_mono h hQ fun _ _ x => x
end L2
namespace L2
open PySem PySem.Spec PyProof.Rows
section
variable {X : Cx}
def tVar (i : Nat) : TE := fun σ H Q => ∃ v, σ[i]? = some (some v) ∧ Q v H
def tC (v : V) : TE := fun _ H Q => Q v H
theorem pe_var {i : Nat} {x : Str} {pos : Pos} (hN : X.N[i]? = some x) (hv : Vis X.env.scope x) (hd : (x == ("__debug__" : Str)) = false := by decide) (hcd : (x == ("__classdict__" : Str)) = false := by decide) : PE X (.Name x pos) (tVar i) := by
  intro pins s σ H Q I h
  obtain ⟨v, e, h⟩ := h
  obtain ⟨m, hn, hl⟩ := I.loc
  obtain ⟨u, r, l⟩ := hl i x v hN e hv
  have fin : EP X pins σ Q u s := ⟨v, H, I, r, h⟩
  rcases l with ⟨hk, hm⟩ | ⟨hk, c, hc, hcell⟩
  · exact wpAny_Name (wpAny_loadName_local I.ok.kind hk hn hm fin) hd
  · rcases hk with hk | hk
    · exact wpAny_Name (wpAny_loadName_cell I.ok.kind hk hc hcell fin) hd
    · exact wpAny_Name (wpAny_loadName_free I.ok.kind hk hc hcell fin hcd) hd
theorem pe_int {i j pos} : PE X (.Constant (.int i) j pos) (tC (.int i)) := fun _ _ _ H _ I h => wpAny_Constant_int ⟨.int i, H, I.tok _, ⟨_, rfl⟩, h⟩
theorem pe_bl {b j pos} : PE X (.Constant (.bool b) j pos) (tC (.bl b)) := fun _ _ _ H _ I h => Constant_bool ⟨.bl b, H, I, rfl, h⟩
theorem pe_non {j pos} : PE X (.Constant .none j pos) (tC .non) := fun _ _ _ H _ I h => Constant_none ⟨.non, H, I, rfl, h⟩
theorem pe_str {x j pos} : PE X (.Constant (.str x) j pos) (tC (.str x)) := fun _ _ _ H _ I h => Calls.Constant_str ⟨.str x, H, I.tok _, ⟨_, rfl⟩, h⟩
def Gl (X : Cx) (x : Str) : Prop := X.env.kindOf x = some .globalImplicit
theorem ld_glob {E : Value → Shared → Prop} {pins : List (Addr × Obj)} {s : Shared} {σ : St} {H : Hp} {x : Str} {u : Value} {pos : Pos} {Q : Value → Shared → Prop} (I : Inv X pins σ H s) (hg : Gl X x) (hm : X.mg x = some u) (h : Q u s)
    (hd : (x == ("__debug__" : Str)) = false := by decide) : wpAny (model X.prog X.w) X.A (eval (.Name x pos) X.env) Q E s :=
  Calls.Name_function_global I.ok.kind hg (Calls.loadGlobal_global (by rw [I.ok.glob]; exact I.mod.glob.keeps I.bk) hm h) hd
theorem ld_blt {E : Value → Shared → Prop} {pins : List (Addr × Obj)} {s : Shared} {σ : St} {H : Hp} {x : Str} {u : Value} {pos : Pos} {Q : Value → Shared → Prop} (I : Inv X pins σ H s) (hg : Gl X x) (hm : X.mg x = none) (hv : bootBuiltins x = some u) (h : Q u s)
    (hn : x ≠ "__name__" := by decide) (hd : (x == ("__debug__" : Str)) = false := by decide) : wpAny (model X.prog X.w) X.A (eval (.Name x pos) X.env) Q E s := by
  obtain ⟨mb, h1, h2⟩ := I.mod.blt
  exact Calls.Name_function_global I.ok.kind hg (Calls.loadGlobal_builtin (by rw [I.ok.glob]; exact I.mod.glob.keeps I.bk) hm (by rw [I.ok.blt]; exact h1.keeps I.bk) ((h2 x hn).trans hv) h) hd
theorem pe_glob {x : Str} {v : V} {u : Value} {pos : Pos} (hg : Gl X x) (hm : X.mg x = some u) (r : RelV v u) (hd : (x == ("__debug__" : Str)) = false := by decide) : PE X (.Name x pos) (tC v) :=
  fun _ _ _ H _ I h => ld_glob I hg hm ⟨v, H, I, r, h⟩ hd
theorem pe_bltn {x : Str} {v : V} {u : Value} {pos : Pos} (hg : Gl X x) (hm : X.mg x = none) (hv : bootBuiltins x = some u) (r : RelV v u) (hn : x ≠ "__name__" := by decide) (hd : (x == ("__debug__" : Str)) = false := by decide) : PE X (.Name x pos) (tC v) :=
  fun _ _ _ H _ I h => ld_blt I hg hm hv ⟨v, H, I, r, h⟩ hn hd
def t2I (ta tb : TE) (k : Int → Int → Hp → Prop) : St → Hp → Prop := fun σ H => ta σ H fun x H1 => tb σ H1 fun y H2 => ∃ i j, x = .int i ∧ y = .int j ∧ k i j H2
def tAdd (ta tb : TE) : TE := fun σ H Q => t2I ta tb (fun i j H2 => Q (.int (i + j)) H2) σ H
def tSub (ta tb : TE) : TE := fun σ H Q => t2I ta tb (fun i j H2 => Q (.int (i - j)) H2) σ H
def tMul (ta tb : TE) : TE := fun σ H Q => t2I ta tb (fun i j H2 => (-(2 ^ 64) < i ∧ i < 2 ^ 64) ∧ Q (.int (i * j)) H2) σ H
variable {a b : Expr} {ta tb : TE} {pos : Pos}
def PC (X : Cx) (op : CmpOp) (a b : Expr) (t : TE) : Prop :=
  ∀ (pins : List (Addr × Obj)) (s : Shared) (σ : St) (H : Hp) (Q : VK), Inv X pins σ H s → t σ H Q →
    wpAny (model X.prog X.w) X.A (eval a X.env) (fun v s₁ => wpAny (model X.prog X.w) X.A (eval b X.env) (fun u s₂ => wpAny (model X.prog X.w) X.A (compareOp op v u) (EP X pins σ Q) X.xe s₂) X.xe s₁) X.xe s
def tCmp (p : Int → Int → Bool) (ta tb : TE) : TE := fun σ H Q => t2I ta tb (fun i j H2 => Q (.bl (p i j)) H2) σ H
abbrev tLt : TE → TE → TE := tCmp fun i j => decide (i < j)
abbrev tLe : TE → TE → TE := tCmp fun i j => decide (i ≤ j)
abbrev tGt : TE → TE → TE := tCmp fun i j => decide (j < i)
abbrev tGe : TE → TE → TE := tCmp fun i j => decide (j ≤ i)
abbrev tEqI : TE → TE → TE := tCmp fun i j => decide (i = j)
abbrev tNeI : TE → TE → TE := tCmp fun i j => !decide (i = j)
def tIsN (ta : TE) : TE := fun σ H Q => ta σ H fun x H1 => Q (.bl (decide (x = .non))) H1
def tNotN (ta : TE) : TE := fun σ H Q => ta σ H fun x H1 => Q (.bl (!decide (x = .non))) H1
def tB (t : TE) : TT := fun σ H Q => t σ H fun x H1 => ∃ c, x = .bl c ∧ Q c H1
variable {tA tB' : TT} {rest : List Expr}
def tAnd (t u : TT) : TT := fun σ H Q => t σ H fun c H1 => if c = true then u σ H1 Q else Q false H1
def tOr (t u : TT) : TT := fun σ H Q => t σ H fun c H1 => if c = true then Q true H1 else u σ H1 Q
def tNot (t : TT) : TT := fun σ H Q => t σ H fun c H1 => Q (!c) H1
theorem pw_and1 (ha : PT X a tA) : PW X (.BoolOp .And [a] pos) tA := by
  intro wh pins s σ H Q I h
  refine isTrue_and (thn (ha pins s σ H Q I h) fun c s1 e => ?_)
  cases c with
  | true => exact isTrue_and_nil e
  | false => exact e
theorem pw_or1 (ha : PT X a tA) : PW X (.BoolOp .Or [a] pos) tA := by
  intro wh pins s σ H Q I h
  refine isTrue_or (thn (ha pins s σ H Q I h) fun c s1 e => ?_)
  cases c with
  | false => exact isTrue_or_nil e
  | true => exact e
theorem pw_and (ha : PT X a tA) (hb : PW X (.BoolOp .And (b :: rest) pos) tB') : PW X (.BoolOp .And (a :: b :: rest) pos) (tAnd tA tB') := by
  intro wh pins s σ H Q I h
  refine isTrue_and (thn (ha pins s σ H _ I h) fun c s1 ⟨H1, I1, q1⟩ => ?_)
  cases c with
  | true => exact hb wh pins s1 σ H1 Q I1 q1
  | false => exact ⟨H1, I1, q1⟩
theorem pw_or (ha : PT X a tA) (hb : PW X (.BoolOp .Or (b :: rest) pos) tB') : PW X (.BoolOp .Or (a :: b :: rest) pos) (tOr tA tB') := by
  intro wh pins s σ H Q I h
  refine isTrue_or (thn (ha pins s σ H _ I h) fun c s1 ⟨H1, I1, q1⟩ => ?_)
  cases c with
  | true => exact ⟨H1, I1, q1⟩
  | false => exact hb wh pins s1 σ H1 Q I1 q1
theorem pt_not (ha : PT X a tA) : PT X (.UnaryOp .Not a pos) (tNot tA) := by
  intro pins s σ H Q I h
  exact isTrue_not (ha pins s σ H (fun c H1 => Q (!c) H1) I h)
def tAndV (ta tb : TE) : TE := fun σ H Q => ta σ H fun x H1 => ∃ c, x = .bl c ∧ if c = true then tb σ H1 Q else Q (.bl false) H1
def tOrV (ta tb : TE) : TE := fun σ H Q => ta σ H fun x H1 => ∃ c, x = .bl c ∧ if c = true then Q (.bl true) H1 else tb σ H1 Q
def tNotV (ta : TE) : TE := fun σ H Q => ta σ H fun x H1 => ∃ c, x = .bl c ∧ Q (.bl (!c)) H1
theorem pe_one {op} {t : TE} (h : PE X a t) : PE X (.BoolOp op [a] pos) t := fun pins s σ H Q I hw => BoolOp_one (h pins s σ H Q I hw)
def tIf (t : TT) (ta tb : TE) : TE := fun σ H Q => t σ H fun c H1 => if c = true then ta σ H1 Q else tb σ H1 Q
theorem pe_ifExp {c : Expr} (hc : PT X c tA) (ha : PE X a ta) (hb : PE X b tb) : PE X (.IfExp c a b pos) (tIf tA ta tb) := by
  intro pins s σ H Q I h
  refine wpAny_IfExp (thn (hc pins s σ H _ I h) fun d s1 ⟨H1, I1, q1⟩ => ?_)
  cases d with
  | true => exact ha pins s1 σ H1 Q I1 q1
  | false => exact hb pins s1 σ H1 Q I1 q1
end
end L2
namespace L2
open PySem PySem.Spec PyProof.Rows
def SqL (K : PySem.W.Frag) (H : Hp) (a : Addr) (xs : List V) : Prop :=
  Rd H a (.lst xs) ∨
    ∃ (o : Obj) (its : Array Value) (n : Nat), K.lookup a = some o ∧ o.cls = .type "list" ∧ o.dict = none ∧ o.data = .seq its n ∧ its.size ≤ sizeLine ∧ Vals xs its.toList
def SqT (K : PySem.W.Frag) (H : Hp) (a : Addr) (xs : List V) : Prop :=
  Rd H a (.tup xs) ∨
    ∃ (o : Obj) (its : Array Value) (n : Nat), K.lookup a = some o ∧ o.cls = .type "tuple" ∧ o.data = .seq its n ∧ its.size ≤ sizeLine ∧ Vals xs its.toList
def absV : Value → Option V
  | .none => some .non
  | .bool b => some (.bl b)
  | .int i _ => some (.int i)
  | .str x _ => some (.str x)
  | .bytes b _ => some (.byt b)
  | .float b _ => some (.flt b)
  | .ref a => some (.ref a)
  | .type n => some (.ty n)
  | _ => none
theorem RelV.abs {x : V} {u : Value} (r : RelV x u) : absV u = some x := by
  cases x with
  | non => cases r; rfl
  | bl _ => cases r; rfl
  | int _ => obtain ⟨t, rfl⟩ := r; rfl
  | str _ => obtain ⟨t, rfl⟩ := r; rfl
  | byt _ => obtain ⟨t, rfl⟩ := r; rfl
  | flt _ => obtain ⟨t, rfl⟩ := r; rfl
  | ref _ => cases r; rfl
  | ty _ => cases r; rfl
theorem RelV.inj {x y : V} {u : Value} (r : RelV x u) (q : RelV y u) : x = y := Option.some.inj (r.abs.symm.trans q.abs)
theorem Vals.inj : ∀ {xs ys : List V} {us : List Value}, Vals xs us → Vals ys us → xs = ys
  | _, _, _, .nil, .nil => rfl
  | _, _, _, .cons r t, .cons r' t' => by rw [r.inj r', Vals.inj t t']
section
variable {X : Cx} {pins : List (Addr × Obj)} {σ : St} {H : Hp} {s : Shared} {a : Addr} {xs ys : List V}
theorem SqL.of {K : PySem.W.Frag} (h : H a = some (.lst xs)) : SqL K H a xs := .inl (.inl h)
theorem SqT.of {K : PySem.W.Frag} (h : H a = some (.tup xs)) : SqT K H a xs := .inl (.inl h)
theorem Inv.list (I : Inv X pins σ H s) (h : SqL X.K H a xs) : ∃ its : List Value, Vals xs its ∧ PlainL s.heap a its.toArray ∧ xs.length ≤ sizeLine := by
  rcases h with h | ⟨o, its, n, hk, hc, hd, hs, hz, r⟩
  · obtain ⟨z, its, n, r, e⟩ := h.ok I.hok
    exact ⟨its, r, ⟨_, n, e, rfl, rfl, rfl⟩, z⟩
  · refine ⟨its.toList, r, ⟨o, n, I.kIn a o hk, hc, hd, by simpa using hs⟩, ?_⟩
    have e := r.length
    simp only [Array.length_toList] at e
    omega
theorem Inv.tuple (I : Inv X pins σ H s) (h : SqT X.K H a xs) : ∃ its : List Value, Vals xs its ∧ IsTup s.heap a its.toArray ∧ xs.length ≤ sizeLine := by
  rcases h with h | ⟨o, its, n, hk, hc, hs, hz, r⟩
  · obtain ⟨z, its, r, p⟩ := h.ok I.hok
    exact ⟨its, r, p, z⟩
  · refine ⟨its.toList, r, ⟨o, I.kIn a o hk, hc, n, by simpa using hs⟩, ?_⟩
    have e := r.length
    simp only [Array.length_toList] at e
    omega
theorem Inv.list_inj (I : Inv X pins σ H s) (h : SqL X.K H a xs) (h' : SqL X.K H a ys) : xs = ys := by
  obtain ⟨its, r, ⟨o, n, e, _, _, d⟩, _⟩ := I.list h
  obtain ⟨its', r', ⟨o', n', e', _, _, d'⟩, _⟩ := I.list h'
  rw [e] at e'; cases e'
  rw [d] at d'
  injection d' with d1 _
  have : its = its' := by simpa using congrArg Array.toList d1
  subst this
  exact r.inj r'
end
abbrev Cx.wish (X : Cx) (E : Value → Shared → Prop) : Cx := { X with xe := E }
abbrev Cx.nox (X : Cx) : Cx := X.wish fun _ _ => False
theorem Cx.Ok.wish {X : Cx} (ok : X.Ok) (E : Value → Shared → Prop) : (X.wish E).Ok :=
  ⟨ok.mod, ok.kind, ok.glob, ok.blt, ok.above, ok.inj, ok.has, ok.cab, ok.hd, ok.frames, ok.stk, ok.exf, ok.bs, ok.bsz, ok.noex, ok.exfs, ok.funs, ok.frf⟩
theorem Cx.Ok.unwish {X : Cx} {E : Value → Shared → Prop} (ok : (X.wish E).Ok) : X.Ok :=
  ⟨ok.mod, ok.kind, ok.glob, ok.blt, ok.above, ok.inj, ok.has, ok.cab, ok.hd, ok.frames, ok.stk, ok.exf, ok.bs, ok.bsz, ok.noex, ok.exfs, ok.funs, ok.frf⟩
section
variable {X : Cx} {pins : List (Addr × Obj)} {σ : St} {H : Hp} {s : Shared} {E : Value → Shared → Prop}
theorem Inv.wish (I : Inv X pins σ H s) (E : Value → Shared → Prop) : Inv (X.wish E) pins σ H s := ⟨I.ok.wish E, I.os, I.bare, I.base, I.loc, I.cell, I.free, I.freeC, I.pin, I.hok, I.len⟩
theorem Inv.unwish (I : Inv (X.wish E) pins σ H s) : Inv X pins σ H s := ⟨I.ok.unwish, I.os, I.bare, I.base, I.loc, I.cell, I.free, I.freeC, I.pin, I.hok, I.len⟩
theorem SP.unwish {D : Ends} {f : Flow} {s' : Shared} (h : SP (X.wish E) pins D f s') : SP X pins D f s' := by
  cases f with
  | next => obtain ⟨σ', H', I, q⟩ := h; exact ⟨σ', H', I.unwish, q⟩
  | brk => obtain ⟨σ', H', I, q⟩ := h; exact ⟨σ', H', I.unwish, q⟩
  | cont => obtain ⟨σ', H', I, q⟩ := h; exact ⟨σ', H', I.unwish, q⟩
  | ret u => obtain ⟨v, σ', H', I, r, q⟩ := h; exact ⟨v, σ', H', I.unwish, r, q⟩
theorem PE.nox {e : Expr} {t : TE} (h : PE X.nox e t) : PE X e t := fun pins s σ H Q I hw =>
  wpAny_mono (h pins s σ H Q (I.wish _) hw) (fun _ _ ⟨v, H', I', r, q⟩ => ⟨v, H', I'.unwish, r, q⟩) fun _ _ z => False.elim z
theorem PT.nox {e : Expr} {t : TT} (h : PT X.nox e t) : PT X e t := fun pins s σ H Q I hw =>
  wpAny_mono (h pins s σ H Q (I.wish _) hw) (fun _ _ ⟨H', I', q⟩ => ⟨H', I'.unwish, q⟩) fun _ _ z => False.elim z
theorem PSs.nox {st : List Stmt} {t : TS} (h : PSs X.nox st t) : PSs X st t := fun pins s σ H D I hw =>
  wpAny_mono (h pins s σ H D (I.wish _) hw) (fun _ _ q => q.unwish) fun _ _ z => False.elim z
end
section
variable {X : Cx} {st : Stmt} {rest : List Stmt} {t u : TS} {e : Expr} {te : TE} {pos : Pos}
def tNext : TS := fun D σ H => D.nx σ H
def tSeq (t u : TS) : TS := fun D σ H => t { D with nx := u D } σ H
theorem pss_nil : PSs X [] tNext := fun _ _ σ H _ I h => wpAny_execs_nil ⟨σ, H, I, h⟩
theorem pss_cons (h1 : PS X st t) (h2 : PSs X rest u) : PSs X (st :: rest) (tSeq t u) := by
  intro pins s σ H D I h
  refine wpAny_execs_cons (thn (h1 pins s σ H { D with nx := u D } I h) fun f s1 q => ?_)
  cases f with
  | next =>
    obtain ⟨σ', H', I', q⟩ := q
    exact h2 pins s1 σ' H' D I' q
  | ret v => exact q
  | brk => exact q
  | cont => exact q
theorem pss_one (h1 : PS X st t) : PSs X [st] t := by
  intro pins s σ H D I h
  refine wpAny_execs_cons (thn (h1 pins s σ H D I h) fun f s1 q => ?_)
  cases f with
  | next => exact wpAny_execs_nil q
  | ret v => exact q
  | brk => exact q
  | cont => exact q
def tBreak : TS := fun D σ H => D.bk σ H
def tCont : TS := fun D σ H => D.ct σ H
theorem Inv.quiet {pins : List (Addr × Obj)} {σ : St} {H : Hp} {s : Shared} (I : Inv X pins σ H s) : interactive X.env = false := by simp [interactive, I.ok.kind]
def tDrop (te : TE) : TS := fun D σ H => te σ H fun _ H1 => D.nx σ H1
theorem ps_expr (he : PE X e te) (hs : swapsWith e none pos.line X.env = pure false := by rfl) : PS X (.Expr e pos) (tDrop te) := by
  intro pins s σ H D I h
  exact wpAny_Expr_any (thn (he pins s σ H _ I h) fun v s1 ⟨x, H1, I1, r1, q1⟩ => ⟨σ, H1, I1, q1⟩) I.quiet hs
def tRet (te : TE) : TS := fun D σ H => te σ H D.rt
theorem ps_ret (he : PE X e te) : PS X (.Return (some e) pos) (tRet te) := by
  intro pins s σ H D I h
  exact wpAny_Return_some (thn (he pins s σ H _ I h) fun v s1 ⟨x, H1, I1, r1, q1⟩ => ⟨x, σ, H1, I1, r1, q1⟩)
def tRetN : TS := fun D _ H => D.rt .non H
def tIfS (c : TT) (t u : TS) : TS := fun D σ H => c σ H fun b H1 => if b = true then t D σ H1 else u D σ H1
theorem ps_if {c : Expr} {a b : List Stmt} {tc : TT} (hc : PT X c tc) (ha : PSs X a t) (hb : PSs X b u) : PS X (.If c a b pos) (tIfS tc t u) := by
  intro pins s σ H D I h
  refine wpAny_If (thn (hc pins s σ H _ I h) fun d s1 ⟨H1, I1, q1⟩ => ?_)
  cases d with
  | true => exact ha pins s1 σ H1 D I1 q1
  | false => exact hb pins s1 σ H1 D I1 q1
def tNever : TS := fun _ _ _ => False
theorem ps_never : PS X st tNever := fun _ _ _ _ _ _ h => h.elim
end
abbrev TG := V → St → Hp → (St → Hp → Prop) → Prop
abbrev TGs := List V → St → Hp → (St → Hp → Prop) → Prop
def PG (X : Cx) (target : Expr) (t : TG) : Prop :=
  ∀ (pins : List (Addr × Obj)) (s : Shared) (σ : St) (H : Hp) (v : V) (u : Value) (Q : St → Hp → Prop), Inv X pins σ H s → RelV v u → t v σ H Q →
    wpAny (model X.prog X.w) X.A (assign target X.env u) (fun _ s' => ∃ σ' H', Inv X pins σ' H' s' ∧ Q σ' H') X.xe s
def PGs (X : Cx) (ts : List Expr) (t : TGs) : Prop :=
  ∀ (pins : List (Addr × Obj)) (s : Shared) (σ : St) (H : Hp) (vs : List V) (us : List Value) (Q : St → Hp → Prop), Inv X pins σ H s → Vals vs us → t vs σ H Q →
    wpAny (model X.prog X.w) X.A (assignInOrder ((assignEach ts X.env).map (·.2)) us) (fun _ s' => ∃ σ' H', Inv X pins σ' H' s' ∧ Q σ' H') X.xe s
abbrev TSet := V → V → V → Hp → (Hp → Prop) → Prop
def PSet (X : Cx) (t : TSet) : Prop :=
  ∀ (pins : List (Addr × Obj)) (s : Shared) (σ : St) (H : Hp) (o i v : V) (ov iv u : Value) (Q : Hp → Prop), Inv X pins σ H s → RelV o ov → RelV i iv → RelV v u → t o i v H Q →
    wpAny (model X.prog X.w) X.A (setItem ov iv u) (fun _ s' => ∃ H', Inv X pins σ H' s' ∧ Q H') X.xe s
abbrev TIp := V → V → Hp → VK → Prop
def PIp (X : Cx) (op : Operator) (t : TIp) : Prop :=
  ∀ (pins : List (Addr × Obj)) (s : Shared) (σ : St) (H : Hp) (x y : V) (v u : Value) (Q : VK), Inv X pins σ H s → RelV x v → RelV y u → t x y H Q →
    wpAny (model X.prog X.w) X.A (inplaceOp op v u) (EP X pins σ Q) X.xe s
section
variable {X : Cx} {pos : Pos}
def gName (i : Nat) : TG := fun v σ H Q => Q (σ.set i (some v)) H
theorem pg_name {i : Nat} {x : Str} (hN : X.N.Nodup) (hi : X.N[i]? = some x) (hx : Loc X.env.scope x) (hf : X.fn x = true ∨ X.env.scope.names.lookup x = some .local := by first | exact .inl rfl | exact .inr rfl | assumption) : PG X (.Name x pos) (gName i) := by
  intro pins s σ H v u Q I r h
  exact wpAny_assign_Name (store_ok I hN hi hx r (fun s' I' => ⟨_, H, I', h⟩) hf)
def gNil : TGs := fun vs σ H Q => vs = [] ∧ Q σ H
def gCons (t : TG) (u : TGs) : TGs := fun vs σ H Q => ∃ v r, vs = v :: r ∧ t v σ H fun σ' H' => u r σ' H' Q
theorem pgs_nil : PGs X [] gNil := by
  intro pins s σ H vs us Q I r h
  obtain ⟨e, h⟩ := h
  subst e
  cases r
  exact assignInOrder_nil ⟨σ, H, I, h⟩
theorem pgs_cons {e : Expr} {es : List Expr} {t : TG} {u : TGs} (h1 : PG X e t) (h2 : PGs X es u)
    (hs : (assignEach (e :: es) X.env).map (·.2) = assign e X.env :: (assignEach es X.env).map (·.2) := by rfl) : PGs X (e :: es) (gCons t u) := by
  intro pins s σ H vs us Q I r h
  obtain ⟨v, vr, e1, h⟩ := h
  subst e1
  cases r with
  | cons r rr =>
    rw [hs]
    refine assignInOrder_cons (thn (h1 pins s σ H _ _ _ I r h) fun _ s1 ⟨σ1, H1, I1, q1⟩ => ?_)
    exact h2 pins s1 σ1 H1 _ _ Q I1 rr q1
def gTup (K : PySem.W.Frag) (n : Nat) (t : TGs) : TG := fun v σ H Q => ∃ a xs, v = .ref a ∧ SqT K H a xs ∧ xs.length = n ∧ t xs σ H Q
theorem pg_tup {es : List Expr} {k : Nat} {t : TGs} {n : Nat} (hc : X.calm = true) (h : PGs X es t)
    (hn : (assignEach es X.env).length = n := by rfl) (hst : (assignEach es X.env).findIdx? (·.1) = none := by rfl) : PG X (.Tuple es k pos) (gTup X.K n t) := by
  intro pins s σ H v u Q I r hw
  obtain ⟨a, xs, e1, hq, hl, hw⟩ := hw
  subst e1
  cases r
  obtain ⟨its, rv, ht, hz⟩ := I.tuple hq
  refine assign_Tuple_tuple (I.ok.hd hc) ht (by simp [hn, ← hl, rv.length]) hst fun h' hx => ?_
  have I1 : Inv X pins σ H { s with heap := h' } := I.kept (t' := s.toks) fun b o e => hx b o (Nat.ne_of_lt (Heap.lt_size e)) e
  exact h pins _ σ H xs _ Q I1 (by simpa using rv) hw
def gSub (to ti : TE) (t : TSet) : TG := fun v σ H Q => to σ H fun o H1 => ti σ H1 fun i H2 => t o i v H2 fun H3 => Q σ H3
theorem pg_sub {o i : Expr} {to ti : TE} {t : TSet} (ho : PE X o to) (hi : PE X i ti) (hs : PSet X t)
    (ha : ∀ v, assign (.Subscript o i pos) X.env v = (do
      let ov ← holding [v] (eval o X.env)
      let iv ← holding [v, ov] (eval i X.env)
      standAt pos
      holding [v, ov, iv] (setItem ov iv v)
      release [v, ov, iv] []) := by intro _; rfl) : PG X (.Subscript o i pos) (gSub to ti t) := by
  intro pins s σ H v u Q I r h
  rw [ha]
  refine wpAny_bind (wpAny_holding (thn (ho pins s σ H _ I h) fun ov s1 ⟨x, H1, I1, r1, q1⟩ => ?_))
  refine wpAny_bind (wpAny_holding (thn (hi pins s1 σ H1 _ I1 q1) fun iv s2 ⟨y, H2, I2, r2, q2⟩ => ?_))
  refine wpAny_bind (wpAny_standAt (wpAny_bind (wpAny_holding (thn (hs pins s2 σ H2 x y v ov iv u _ I2 r1 r2 r q2) fun _ s3 ⟨H3, I3, q3⟩ => ?_))))
  exact wpAny_release ⟨σ, H3, I3, q3⟩
def tAsg (te : TE) (g : TG) : TS := fun D σ H => te σ H fun x H1 => g x σ H1 D.nx
theorem ps_asg {tg e : Expr} {te : TE} {g : TG} (he : PE X e te) (hg : PG X tg g) (hs : swapsWithSole [tg] e pos.line X.env = pure false := by rfl) (hw : swappedStores [tg] e X.env = pure none := by rfl)
    (h1 : (assignEach [tg] X.env).map (·.2) = [assign tg X.env] := by rfl) : PS X (.Assign [tg] e pos) (tAsg te g) := by
  intro pins s σ H D I h
  refine wpAny_Assign_stores (thn (he pins s σ H _ I h) fun v s1 ⟨x, H1, I1, r1, q1⟩ => ?_) hs hw
  rw [h1]
  exact thn (hg pins s1 σ H1 x v _ I1 r1 q1) fun _ s2 q => q
theorem ps_set {i : Nat} {x : Str} {e : Expr} {te : TE} {pos' : Pos} (hN : X.N.Nodup) (hi : X.N[i]? = some x) (hx : Loc X.env.scope x) (he : PE X e te) (hs : swapsWith e (some (.Name x pos')) pos.line X.env = pure false := by rfl) (hf : X.fn x = true ∨ X.env.scope.names.lookup x = some .local := by first | exact .inl rfl | exact .inr rfl | assumption) :
    PS X (.Assign [.Name x pos'] e pos) (tAsg te (gName i)) := by
  intro pins s σ H D I h
  refine wpAny_Assign_Name (thn (he pins s σ H _ I h) fun v s1 ⟨y, H1, I1, r1, q1⟩ => ?_) hs
  exact store_ok I1 hN hi hx r1 (fun s2 I2 => ⟨_, H1, I2, q1⟩) hf
def tPar (i j : Nat) (ta : TA) : TS := fun D σ H => ta σ H fun vs H1 => ∃ v w, vs = [v, w] ∧ D.nx ((σ.set i (some v)).set j (some w)) H1
def tAug (i : Nat) (te : TE) (ti : TIp) : TS := fun D σ H => ∃ x, σ[i]? = some (some x) ∧ te σ H fun y H1 => ti x y H1 fun z H2 => D.nx (σ.set i (some z)) H2
def tAugS (to ti te : TE) (tget : V → V → Hp → VK → Prop) (tip : TIp) (tset : TSet) : TS := fun D σ H => to σ H fun o H1 => ti σ H1 fun i H2 => tget o i H2 fun x H3 => te σ H3 fun y H4 => tip x y H4 fun z H5 => tset o i z H5 fun H6 => D.nx σ H6
def PGet (X : Cx) (t : V → V → Hp → VK → Prop) : Prop :=
  ∀ (pins : List (Addr × Obj)) (s : Shared) (σ : St) (H : Hp) (o i : V) (ov iv : Value) (Q : VK), Inv X pins σ H s → RelV o ov → RelV i iv → t o i H Q →
    wpAny (model X.prog X.w) X.A (getItem ov iv) (EP X pins σ Q) X.xe s
def ipI (f : Int → Int → Int) : TIp := fun x y H Q => ∃ i j, x = .int i ∧ y = .int j ∧ Q (.int (f i j)) H
end
section
variable {X : Cx} {pos : Pos}
def tWhile (c : TT) (tb : TS) : TS := fun D σ H => ∃ W : Nat → St → Hp → Prop, (∃ m, W m σ H) ∧ ∀ m σ H, W m σ H →
  c σ H fun b H1 => if b = true then ∃ N : St → Hp → Prop, (∀ σ' H', N σ' H' → ∃ m', m' < m ∧ W m' σ' H') ∧ tb { D with nx := N, ct := N, bk := D.nx } σ H1 else D.nx σ H1
end
structure It where
  go : Nat → Hp → Prop
  yld : Nat → Hp → V → Hp → Prop
  stop : Nat → Hp → Prop
def FpOk (X : Cx) (pins : List (Addr × Obj)) (H : Hp) (b : Addr) : Prop :=
  H b = none ∧ b ≠ X.env.locals ∧ b ∉ X.fs ∧ (b ∈ X.ex ∨ X.s₀.heap.objs.size ≤ b) ∧ (∀ x c, X.env.cells.lookup x = some c → c ≠ b) ∧ ∀ p ∈ X.pn ++ pins, p.1 ≠ b
theorem Inv.fpOk {X : Cx} {pins : List (Addr × Obj)} {σ : St} {H H' : Hp} {s : Shared} {b : Addr} (I : Inv X pins σ H s) (hb : s.heap.objs.size ≤ b) (hn : H' b = none) : FpOk X pins H' b := by
  refine ⟨hn, Nat.ne_of_gt (Nat.lt_of_lt_of_le I.lt hb), I.nofs hb, .inr (Nat.le_trans I.sz hb), fun x c e z => ?_, fun p hp z => ?_⟩
  · obtain ⟨v, q⟩ := I.cell x c e
    exact absurd (Nat.lt_of_lt_of_le q.lt (by rw [z]; exact hb)) (Nat.lt_irrefl _)
  · exact absurd (Nat.lt_of_lt_of_le (Heap.lt_size (I.pin p hp).1) (by rw [z]; exact hb)) (Nat.lt_irrefl _)
structure Turn (P : Program) (w : World) (K : PySem.W.Frag) (tg : Expr) (J : It) (fp : List Addr) (it : Addr) (tn : Nat → Heap → Prop) : Prop where
  mem : it ∈ fp
  obj : ∀ i h, tn i h → ∀ b ∈ fp, ∃ o, h.get? b = some o ∧ ∀ v, o.data ≠ .cell v
  keep : ∀ i h h', tn i h → (∀ b ∈ fp, ∀ o, h.get? b = some o → h'.get? b = some o) → tn i h'
  item : ∀ (X : Cx), X.prog = P → X.w = w → X.K = K → X.calm = true → ∀ (i : Nat) (pins : List (Addr × Obj)) (s : Shared) (σ : St) (H : Hp) (E : Value → Shared → Prop), Inv X pins σ H s → (∀ b ∈ fp, FpOk X pins H b) → tn i s.heap → J.go i H →
    wpAny (model P w) X.A (pyNext (.ref it)) (fun r s1 => ∃ u, r = some u ∧
      wpAny (model P w) X.A (letOwnedTupleGo tg (.ref it) u) (fun _ s2 => ∃ x H', Inv X pins σ H' s2 ∧ RelV x u ∧ J.yld i H x H' ∧ tn (i + 1) s2.heap ∧ ∀ b ∈ fp, H' b = none) E s1) E s
  done : ∀ (X : Cx), X.prog = P → X.w = w → X.K = K → X.calm = true → ∀ (i : Nat) (pins : List (Addr × Obj)) (s : Shared) (σ : St) (H : Hp) (E : Value → Shared → Prop), Inv X pins σ H s → (∀ b ∈ fp, FpOk X pins H b) → tn i s.heap → J.stop i H →
    wpAny (model P w) X.A (pyNext (.ref it)) (fun r s1 => r = none ∧ Inv X pins σ H s1) E s
  self : ∀ (A : Around) (i : Nat) (s : Shared) (Q : Value → Shared → Prop) (E : Value → Shared → Prop), tn i s.heap → Q (.ref it) s → wpAny (model P w) A (pyIter (.ref it)) Q E s
abbrev TI := St → Hp → (It → Hp → Prop) → Prop
def PIE (X : Cx) (pins : List (Addr × Obj)) (σ : St) (tg : Expr) (R : It → Hp → Prop) (itv : Value) (s2 : Shared) : Prop :=
  ∃ (it : Addr) (fp : List Addr) (tn : Nat → Heap → Prop) (J : It) (H' : Hp), itv = .ref it ∧ Inv X pins σ H' s2 ∧ Turn X.prog X.w X.K tg J fp it tn ∧ tn 0 s2.heap ∧ (∀ b ∈ fp, FpOk X pins H' b) ∧ R J H'
def PI (X : Cx) (tg iter : Expr) (wi : TI) : Prop :=
  ∀ (pins : List (Addr × Obj)) (s : Shared) (σ : St) (H : Hp) (R : It → Hp → Prop), Inv X pins σ H s → wi σ H R →
    wpAny (model X.prog X.w) X.A (eval iter X.env) (fun v s1 => wpAny (model X.prog X.w) X.A (pyIter v) (PIE X pins σ tg R) X.xe s1) X.xe s
theorem go_of {M : Model} {A : Around} {E : Value → Shared → Prop} {s : Shared} {tg : Expr} {it : Addr} {u : Value} {o : Obj} {n : String} {vs : Array Value} {Q : Unit → Shared → Prop} (ho : s.heap.get? it = some o) (hc : o.cls = .type n) (hd : o.data = .fields vs)
    (hn : ["enumerate", "zip", "dict_itemiterator", "dict_reverseitemiterator", "odict_iterator", "itertools.zip_longest", "itertools.pairwise"].contains n = false) (hQ : Q () s) : wpAny M A (letOwnedTupleGo tg (.ref it) u) Q E s := by
  unfold letOwnedTupleGo
  cases tg <;> first
    | exact wpAny_pure hQ
    | (cases u <;> first
        | exact wpAny_pure hQ
        | (refine wpAny_bind (wpAny_load ho ?_)
           rw [hc, hd]
           show wpAny M A (if (["enumerate", "zip", "dict_itemiterator", "dict_reverseitemiterator", "odict_iterator", "itertools.zip_longest", "itertools.pairwise"].contains n && vs[0]? == some (rawInt _)) = true then _ else _) Q E s
           rw [if_neg (by intro h; rw [hn, Bool.false_and] at h; cases h)]
           exact wpAny_pure hQ))
def Itl (K : PySem.W.Frag) (a : Addr) : It :=
  ⟨fun i H => ∃ xs x, SqL K H a xs ∧ xs[i]? = some x, fun i H x H' => H' = H ∧ ∀ xs, SqL K H a xs → xs[i]? = some x, fun i H => ∃ xs, SqL K H a xs ∧ xs.length ≤ i⟩
def Itt (K : PySem.W.Frag) (a : Addr) : It :=
  ⟨fun i H => ∃ xs x, SqT K H a xs ∧ xs[i]? = some x, fun i H x H' => H' = H ∧ ∀ xs, SqT K H a xs → xs[i]? = some x, fun i H => ∃ xs, SqT K H a xs ∧ xs.length ≤ i⟩
def Itr (lo : Int) (n : Nat) : It := ⟨fun i _ => i < n, fun i H x H' => H' = H ∧ x = .int (lo + i), fun i _ => n ≤ i⟩
theorem turn_list {P : Program} {w : World} {K : PySem.W.Frag} {tg : Expr} (a it : Addr) : Turn P w K tg (Itl K a) [it] it (fun i h => h.IsListIter it a i) where
  mem := by simp
  obj := fun i h st b hb => by
    have e : b = it := by simpa using hb
    subst e
    obtain ⟨o, e, c, d⟩ := st
    exact ⟨o, e, fun v z => by rw [d] at z; cases z⟩
  keep := fun i h h' st k => st.at fun o e => k it (by simp) o e
  item := by
    intro X hP hw hK hc i pins s σ H E I hf st hg
    subst hP hw hK
    obtain ⟨xs, x, hq, hx⟩ := hg
    obtain ⟨its, rv, p, hz⟩ := I.list hq
    obtain ⟨u, hu, ru⟩ := rv.get hx
    obtain ⟨f0, f1, f2, f3, f4, f5⟩ := hf it (by simp)
    refine wpAny_pyNext_list_item st p.isList (x := u) (by simpa using hu) fun h' st' sb => ?_
    have I1 : Inv X pins σ H { s with heap := h' } := I.turned (t' := s.toks) (fun b o hb e => (sb.2 b hb).trans e) f0 f1 f3 f4 f5
    obtain ⟨o, e, c, d⟩ := id st'
    exact ⟨u, rfl, go_of (s := { s with heap := h' }) e c d (by decide) ⟨x, H, I1, ru, ⟨rfl, fun ys hy => by rw [I.list_inj hy hq]; exact hx⟩, st', fun b hb => (hf b hb).1⟩⟩
  done := by
    intro X hP hw hK hc i pins s σ H E I hf st hg
    subst hP hw hK
    obtain ⟨xs, hq, hx⟩ := hg
    obtain ⟨its, rv, p, hz⟩ := I.list hq
    obtain ⟨f0, f1, f2, f3, f4, f5⟩ := hf it (by simp)
    have hl := rv.length
    exact wpAny_pyNext_list_end (I.ok.hd hc) st p.isList (by simp; omega) fun h' eb => ⟨rfl, I.turned (t' := s.toks) (fun b o hb e => eb b o hb e) f0 f1 f3 f4 f5⟩
  self := fun _ _ _ _ _ st h => wpAny_pyIter_listiter st h
theorem turn_range {P : Program} {w : World} {K : PySem.W.Frag} {tg : Expr} (it : Addr) (lo : Int) (n : Nat) : Turn P w K tg (Itr lo n) [it] it (fun i h => IsRangeIter h it (lo + (i : Nat) * 1) ((n : Int) - (i : Nat)) 1) where
  mem := by simp
  obj := fun i h st b hb => by
    have e : b = it := by simpa using hb
    subst e
    exact ⟨_, st, fun v z => by
      have z' : Data.fields _ = Data.cell v := z
      cases z'⟩
  keep := fun i h h' st k => k it (by simp) _ st
  item := by
    intro X hP hw hK hc i pins s σ H E I hf st hg
    subst hP hw hK
    obtain ⟨f0, f1, f2, f3, f4, f5⟩ := hf it (by simp)
    have W := Walks.range (prog := X.prog) (w := X.w) (I.ok.hd hc) it lo 1 n
    refine W.item i s _ _ hg st fun v h' tk hv st' kk => ?_
    obtain ⟨t, rfl⟩ := hv
    have I1 : Inv X pins σ H { s with heap := h', toks := tk } := I.turned (fun b o hb e => kk b o (by simpa using hb) e) f0 f1 f3 f4 f5
    refine ⟨_, rfl, go_of (s := { s with heap := h', toks := tk }) (n := "range_iterator") st' rfl rfl (by decide) ⟨.int (lo + i), H, I1, ⟨t, ?_⟩, ⟨rfl, rfl⟩, st', fun b hb => (hf b hb).1⟩⟩
    rw [Int.mul_one]
  done := by
    intro X hP hw hK hc i pins s σ H E I hf st hg
    subst hP hw hK
    obtain ⟨f0, f1, f2, f3, f4, f5⟩ := hf it (by simp)
    exact wpAny_pyNext_range_end (I.ok.hd hc) st (by have : n ≤ i := hg; omega) fun h' eb => ⟨rfl, I.turned (t' := s.toks) (fun b o hb e => eb b o hb e) f0 f1 f3 f4 f5⟩
  self := fun _ _ _ _ _ st h => wpAny_pyIter_rangeiter st h
end L2
namespace L2
open PySem PySem.Spec PyProof.Rows
section
variable {X : Cx} {tg : Expr}
def iList (K : PySem.W.Frag) (tl : TE) : TI := fun σ H R => tl σ H fun x H1 => ∃ a, x = .ref a ∧ (∃ xs, SqL K H1 a xs) ∧ R (Itl K a) H1
def iTup (K : PySem.W.Frag) (tl : TE) : TI := fun σ H R => tl σ H fun x H1 => ∃ a, x = .ref a ∧ (∃ xs, SqT K H1 a xs) ∧ R (Itt K a) H1
theorem pi_list {l : Expr} {tl : TE} (hl : PE X l tl) : PI X tg l (iList X.K tl) := by
  intro pins s σ H R I h
  refine thn (hl pins s σ H _ I h) fun v s1 ⟨x, H1, I1, r1, q1⟩ => ?_
  obtain ⟨a, e, ⟨xs, hq⟩, q⟩ := q1
  subst e
  cases r1
  obtain ⟨its, rv, p, hz⟩ := I1.list hq
  refine wpAny_pyIter_list p.isList ?_
  refine ⟨s1.heap.objs.size, [s1.heap.objs.size], _, _, H1, rfl, I1.kept (t' := s1.toks) fun b o e => Heap.get?_push_of_some _ e, turn_list a _, ⟨_, Heap.get?_push_size _ rfl, rfl, rfl⟩, fun b hb => ?_, q⟩
  have e : b = s1.heap.objs.size := by simpa using hb
  subst e
  exact I1.fpOk (Nat.le_refl _) (I1.hok.fresh (Nat.le_refl _))
theorem range_it {pins : List (Addr × Obj)} {σ : St} {H : Hp} {s : Shared} {R : It → Hp → Prop} {E : Value → Shared → Prop} {lo hi : Int} {t u v : Tok} {tk : Nat} (I : Inv X pins σ H s) (h1 : -(2 ^ 62) ≤ lo) (h2 : lo < 2 ^ 62) (h3 : -(2 ^ 62) ≤ hi) (h4 : hi < 2 ^ 62)
    (q : R (Itr lo (hi - lo).toNat) H) : wpAny (model X.prog X.w) X.A (pyIter (.ref s.heap.objs.size)) (PIE X pins σ tg R) E { s with heap := s.heap.push { cls := .type "range", data := .fields #[.int lo t, .int hi u, .int 1 v] }, toks := tk } := by
  refine wpAny_pyIter_range (IsRange.new ..) (small_one h1 h2 h3 h4) ?_
  have I1 : Inv X pins σ H { s with heap := s.heap.push { cls := .type "range", data := .fields #[.int lo t, .int hi u, .int 1 v] }, toks := tk } := I.kept fun b o e => Heap.get?_push_of_some _ e
  refine ⟨(s.heap.push { cls := .type "range", data := .fields #[.int lo t, .int hi u, .int 1 v] }).objs.size, [(s.heap.push { cls := .type "range", data := .fields #[.int lo t, .int hi u, .int 1 v] }).objs.size], _, _, H, rfl,
    I1.kept (t' := tk) fun b o e => Heap.get?_push_of_some _ e, turn_range _ lo (hi - lo).toNat, ?_, fun b hb => ?_, q⟩
  · have e1 : lo + ((0 : Nat) : Int) * 1 = lo := by simp
    have e2 : (((hi - lo).toNat : Nat) : Int) - ((0 : Nat) : Int) = Builtin.Range.rangeSize lo hi 1 := by rw [rangeSize_one]; split <;> omega
    show IsRangeIter _ _ (lo + ((0 : Nat) : Int) * 1) ((((hi - lo).toNat : Nat) : Int) - ((0 : Nat) : Int)) 1
    rw [e1, e2]
    exact Heap.get?_push_size _ rfl
  · have e : b = (s.heap.push { cls := .type "range", data := .fields #[.int lo t, .int hi u, .int 1 v] }).objs.size := by simpa using hb
    subst e
    exact I1.fpOk (Nat.le_refl _) (I1.hok.fresh (Nat.le_refl _))
def iRng1 (ta : TA) : TI := fun σ H R => ta σ H fun vs H1 => ∃ j : Int, vs = [.int j] ∧ -(2 ^ 62) ≤ j ∧ j < 2 ^ 62 ∧ R (Itr 0 j.toNat) H1
def iRng2 (ta : TA) : TI := fun σ H R => ta σ H fun vs H1 => ∃ i j : Int, vs = [.int i, .int j] ∧ (-(2 ^ 62) ≤ i ∧ i < 2 ^ 62 ∧ -(2 ^ 62) ≤ j ∧ j < 2 ^ 62) ∧ R (Itr i (j - i).toNat) H1
theorem pi_range1 {a : Expr} {ta : TA} {p pos : Pos} (hg : Gl X "range") (hm : X.mg "range" = none) (ha : PA X [a] ta) (hs : starEach [a] X.env = [(false, eval a X.env)] := by rfl) : PI X tg (.Call (.Name "range" p) [a] [] pos) (iRng1 ta) := by
  intro pins s σ H R I h
  refine Call_ (ld_blt I hg hm boot_range (PyProof.Rows.callWith_type1 (thn (ha pos pins s σ H _ I h) fun us s1 ⟨vs, H1, I1, r1, q1⟩ => ?_) hs rfl))
  obtain ⟨j, e, q1, q2, q⟩ := q1
  subst e
  cases r1 with
  | cons r rr =>
    cases rr
    obtain ⟨t, rfl⟩ := r
    exact call_range_1 (range_it I1 (by omega) (by omega) q1 q2 (by simpa using q))
def tFor (wi : TI) (g : TG) (tb : TS) : TS := fun D σ H => wi σ H fun J H1 => ∃ W : Nat → Nat → St → Hp → Prop, (∃ m, W 0 m σ H1) ∧ ∀ i m σ H, W i m σ H →
  (J.stop i H ∧ D.nx σ H) ∨ (J.go i H ∧ ∃ N : St → Hp → Prop, (∀ σ' H', N σ' H' → ∃ m', m' < m ∧ W (i + 1) m' σ' H') ∧ ∀ x H', J.yld i H x H' → g x σ H' fun σ2 H2 => tb { D with nx := N, ct := N, bk := D.nx } σ2 H2)
def pinsAt (fp : List Addr) (h : Heap) : List (Addr × Obj) := fp.filterMap fun b => (h.get? b).map fun o => (b, o)
theorem mem_pinsAt {fp : List Addr} {h : Heap} {b : Addr} {o : Obj} (hb : b ∈ fp) (e : h.get? b = some o) : (b, o) ∈ pinsAt fp h := List.mem_filterMap.mpr ⟨b, hb, by rw [e]; rfl⟩
theorem of_pinsAt {fp : List Addr} {h : Heap} {p : Addr × Obj} (hp : p ∈ pinsAt fp h) : p.1 ∈ fp ∧ h.get? p.1 = some p.2 := by
  obtain ⟨b, hb, e⟩ := List.mem_filterMap.mp hp
  cases q : h.get? b with
  | none => rw [q] at e; cases e
  | some o =>
    rw [q] at e
    have e' : (b, o) = p := Option.some.inj e
    subst e'
    exact ⟨hb, q⟩
theorem Inv.pinned {pins : List (Addr × Obj)} {σ : St} {H : Hp} {s : Shared} {fp : List Addr} (I : Inv X pins σ H s) (hf : ∀ b ∈ fp, FpOk X pins H b) (ho : ∀ b ∈ fp, ∃ o, s.heap.get? b = some o ∧ ∀ v, o.data ≠ .cell v) : Inv X (pins ++ pinsAt fp s.heap) σ H s :=
  I.pins_of fun p hp => (List.mem_append.mp hp).elim (fun z => I.pin p (List.mem_append_right _ z)) fun z => by
    obtain ⟨hb, e⟩ := of_pinsAt z
    obtain ⟨f0, f1, f2, _⟩ := hf p.1 hb
    obtain ⟨o, e', d⟩ := ho p.1 hb
    rw [e] at e'; cases e'
    exact ⟨e, f0, f1, f2, d⟩
theorem Inv.unpinned {pins pl : List (Addr × Obj)} {σ : St} {H : Hp} {s : Shared} (I : Inv X (pins ++ pl) σ H s) : Inv X pins σ H s := I.pins_of fun p hp => I.pin p (List.mem_append_right _ (List.mem_append_left _ hp))
theorem ps_for {iter : Expr} {body : List Stmt} {wi : TI} {g : TG} {tb : TS} {pos : Pos} (hp : PassesOwn (model X.prog X.w) X.A X.env X.xe) (hc : X.calm = true) (hi : PI X tg iter wi) (hg : PG X tg g) (hb : PSs X body tb)
    (hs : ∀ x, foldedSetIterable iter X.env x = pure x := by intro _; rfl) : PS X (.For tg iter body [] pos) (tFor wi g tb) := by
  intro pins s σ H D I h
  refine wpAny_For (thn (hi pins s σ H _ I h) fun v s1 h1 => thn h1 fun itv s2 h2 => ?_) hs
  obtain ⟨it, fp, tn, J, H2, e, I2, T, st2, f2, W, ⟨m0, w0⟩, turn⟩ := h2
  subst e
  have stat : ∀ {H' : Hp}, (∀ b ∈ fp, H' b = none) → ∀ b ∈ fp, FpOk X pins H' b := fun hn b hb => ⟨hn b hb, (f2 b hb).2⟩
  refine codeAny_forLoop_any (fun n s' => ∃ i σ' H', Inv X pins σ' H' s' ∧ tn i s'.heap ∧ (∀ b ∈ fp, H' b = none) ∧ W i n σ' H') ?_ m0 ⟨0, σ, H2, I2, st2, fun b hb => (f2 b hb).1, w0⟩
  rintro n s3 ⟨i, σ3, H3, I3, st3, fr3, w3⟩
  rcases turn i n σ3 H3 w3 with ⟨stop, qn⟩ | ⟨go, N, hN, step⟩
  · refine wpAny_passesOwn hp (thn (T.done X rfl rfl rfl hc i pins s3 σ3 H3 X.xe I3 (stat fr3) st3 stop) fun r s4 ⟨hr, I4⟩ => ?_)
    subst hr
    exact wpAny_execs_nil ⟨σ3, H3, I4, qn⟩
  · refine wpAny_passesOwn hp (thn (T.item X rfl rfl rfl hc i pins s3 σ3 H3 X.xe I3 (stat fr3) st3 go) fun r s4 ⟨u, hr, h4⟩ => ?_)
    subst hr
    refine wpAny_passesOwn hp (thn h4 fun _ s5 ⟨x, H5, I5, r5, y5, st5, fr5⟩ => ?_)
    have I5' := I5.pinned (stat fr5) (T.obj _ _ st5)
    refine wpAny_passesOwn hp (thn (hg _ s5 σ3 H5 x u _ I5' r5 (step x H5 y5)) fun _ s6 ⟨σ6, H6, I6, q6⟩ => ?_)
    refine wpAny_passesOwn hp (thn (hb _ s6 σ6 H6 _ I6 q6) fun f s7 q7 => ?_)
    have again : ∀ {σ7 : St} {H7 : Hp}, Inv X (pins ++ pinsAt fp s5.heap) σ7 H7 s7 → N σ7 H7 → ∃ m, m < n ∧ ∃ i σ' H', Inv X pins σ' H' s7 ∧ tn i s7.heap ∧ (∀ b ∈ fp, H' b = none) ∧ W i m σ' H' := fun {σ7 H7} I7 n7 => by
      obtain ⟨m', hm, w7⟩ := hN σ7 H7 n7
      refine ⟨m', hm, i + 1, σ7, H7, I7.unpinned, T.keep _ _ _ st5 fun b hb o e => (I7.pin (b, o) (List.mem_append_right _ (List.mem_append_right _ (mem_pinsAt hb e)))).1, fun b hb => ?_, w7⟩
      obtain ⟨o, e, d⟩ := T.obj _ _ st5 b hb
      exact (I7.pin (b, o) (List.mem_append_right _ (List.mem_append_right _ (mem_pinsAt hb e)))).2.1
    cases f with
    | next => obtain ⟨σ7, H7, I7, n7⟩ := q7; exact again I7 n7
    | cont => obtain ⟨σ7, H7, I7, n7⟩ := q7; exact again I7 n7
    | brk => obtain ⟨σ7, H7, I7, q7⟩ := q7; exact ⟨σ7, H7, I7.unpinned, q7⟩
    | ret v => obtain ⟨x7, σ7, H7, I7, r7, q7⟩ := q7; exact ⟨x7, σ7, H7, I7.unpinned, r7, q7⟩
end
theorem for_list {K : PySem.W.Frag} {a : Addr} {xs : List V} {g : TG} {tb : TS} {D : Ends} {σ : St} {H : Hp} (Pv : Nat → St → Hp → Prop) (h0 : Pv 0 σ H) (hl : ∀ i σ H, i ≤ xs.length → Pv i σ H → SqL K H a xs)
    (hs : ∀ i x σ H, xs[i]? = some x → Pv i σ H → g x σ H fun σ2 H2 => tb { D with nx := Pv (i + 1), ct := Pv (i + 1), bk := D.nx } σ2 H2) (hd : ∀ σ H, Pv xs.length σ H → D.nx σ H) :
    ∃ W : Nat → Nat → St → Hp → Prop, (∃ m, W 0 m σ H) ∧ ∀ i m σ H, W i m σ H →
      ((Itl K a).stop i H ∧ D.nx σ H) ∨ ((Itl K a).go i H ∧ ∃ N : St → Hp → Prop, (∀ σ' H', N σ' H' → ∃ m', m' < m ∧ W (i + 1) m' σ' H') ∧ ∀ x H', (Itl K a).yld i H x H' → g x σ H' fun σ2 H2 => tb { D with nx := N, ct := N, bk := D.nx } σ2 H2) := by
  refine ⟨fun i m σ H => m = xs.length - i ∧ i ≤ xs.length ∧ Pv i σ H, ⟨xs.length, by simp, Nat.zero_le _, h0⟩, ?_⟩
  rintro i m σ H ⟨rfl, hi, p⟩
  have q := hl i σ H hi p
  by_cases hlt : i < xs.length
  · refine .inr ⟨⟨xs, xs[i], q, by simp [hlt]⟩, Pv (i + 1), fun σ' H' p' => ⟨xs.length - (i + 1), by omega, rfl, hlt, p'⟩, fun x H' y => ?_⟩
    obtain ⟨e, y⟩ := y
    subst e
    exact hs i x σ _ (y xs q) p
  · have e : i = xs.length := by omega
    subst e
    exact .inl ⟨⟨xs, q, Nat.le_refl _⟩, hd σ H p⟩
theorem for_range {lo : Int} {n : Nat} {g : TG} {tb : TS} {D : Ends} {σ : St} {H : Hp} (Pv : Nat → St → Hp → Prop) (h0 : Pv 0 σ H)
    (hs : ∀ i σ H, i < n → Pv i σ H → g (.int (lo + i)) σ H fun σ2 H2 => tb { D with nx := Pv (i + 1), ct := Pv (i + 1), bk := D.nx } σ2 H2) (hd : ∀ σ H, Pv n σ H → D.nx σ H) :
    ∃ W : Nat → Nat → St → Hp → Prop, (∃ m, W 0 m σ H) ∧ ∀ i m σ H, W i m σ H →
      ((Itr lo n).stop i H ∧ D.nx σ H) ∨ ((Itr lo n).go i H ∧ ∃ N : St → Hp → Prop, (∀ σ' H', N σ' H' → ∃ m', m' < m ∧ W (i + 1) m' σ' H') ∧ ∀ x H', (Itr lo n).yld i H x H' → g x σ H' fun σ2 H2 => tb { D with nx := N, ct := N, bk := D.nx } σ2 H2) := by
  refine ⟨fun i m σ H => m = n - i ∧ i ≤ n ∧ Pv i σ H, ⟨n, by simp, Nat.zero_le _, h0⟩, ?_⟩
  rintro i m σ H ⟨rfl, hi, p⟩
  by_cases hlt : i < n
  · refine .inr ⟨hlt, Pv (i + 1), fun σ' H' p' => ⟨n - (i + 1), by omega, rfl, hlt, p'⟩, fun x H' y => ?_⟩
    obtain ⟨e, y⟩ := y
    subst e y
    exact hs i σ _ hlt p
  · have e : i = n := by omega
    subst e
    exact .inl ⟨Nat.le_refl _, hd σ H p⟩
end L2
namespace L2
open PySem PySem.Spec PyProof.Rows
abbrev R2 := V → V → Hp → VK → Prop
def OpR (X : Cx) (f : Value → Value → Sem Value) (r : R2) : Prop :=
  ∀ (pins : List (Addr × Obj)) (s : Shared) (σ : St) (H : Hp) (x y : V) (v u : Value) (Q : VK), Inv X pins σ H s → RelV x v → RelV y u → r x y H Q →
    wpAny (model X.prog X.w) X.A (f v u) (EP X pins σ Q) X.xe s
def UnR (X : Cx) (f : Value → Sem Value) (r : V → Hp → VK → Prop) : Prop :=
  ∀ (pins : List (Addr × Obj)) (s : Shared) (σ : St) (H : Hp) (x : V) (v : Value) (Q : VK), Inv X pins σ H s → RelV x v → r x H Q →
    wpAny (model X.prog X.w) X.A (f v) (EP X pins σ Q) X.xe s
def CallR (X : Cx) (f : Value) (r : List V → Hp → VK → Prop) : Prop :=
  ∀ (pins : List (Addr × Obj)) (s : Shared) (σ : St) (H : Hp) (xs : List V) (us : List Value) (Q : VK), Inv X pins σ H s → Vals xs us → r xs H Q →
    wpAny (model X.prog X.w) X.A (call f us) (EP X pins σ Q) X.xe s
def TruR (X : Cx) (r : V → Hp → (Bool → Hp → Prop) → Prop) : Prop :=
  ∀ (pins : List (Addr × Obj)) (s : Shared) (σ : St) (H : Hp) (x : V) (v : Value) (Q : Bool → Hp → Prop), Inv X pins σ H s → RelV x v → r x H Q →
    wpAny (model X.prog X.w) X.A (truthy v) (TP X pins σ Q) X.xe s
def tOp (r : R2) (ta tb : TE) : TE := fun σ H Q => ta σ H fun x H1 => tb σ H1 fun y H2 => r x y H2 Q
def tUn (r : V → Hp → VK → Prop) (ta : TE) : TE := fun σ H Q => ta σ H fun x H1 => r x H1 Q
def rI (C : Int → Int → Prop) (g : Int → Int → V) : R2 := fun x y H Q => ∃ i j, x = .int i ∧ y = .int j ∧ C i j ∧ Q (g i j) H
def rI0 (g : Int → Int → V) : R2 := fun x y H Q => ∃ i j, x = .int i ∧ y = .int j ∧ Q (g i j) H
def rU (g : Int → V) : V → Hp → VK → Prop := fun x H Q => ∃ i, x = .int i ∧ Q (g i) H
section
variable {X : Cx} {a b c : Expr} {ta tb tc : TE} {pos : Pos}
theorem binT (ha : PE X a ta) (hb : PE X b tb) {pins : List (Addr × Obj)} {s : Shared} {σ : St} {H : Hp} {R : V → V → Hp → Prop} (I : Inv X pins σ H s)
    (h : ta σ H fun x H1 => tb σ H1 fun y H2 => R x y H2) {Q : Value → Shared → Prop} {f : Value → Value → Sem Value}
    (hf : ∀ v u s2 x y H2, Inv X pins σ H2 s2 → RelV x v → RelV y u → R x y H2 → wpAny (model X.prog X.w) X.A (f v u) Q X.xe s2) :
    wpAny (model X.prog X.w) X.A (eval a X.env) (fun v s₁ => wpAny (model X.prog X.w) X.A (eval b X.env) (fun u s₂ => wpAny (model X.prog X.w) X.A (f v u) Q X.xe s₂) X.xe s₁) X.xe s := by
  refine thn (ha pins s σ H _ I h) fun v s1 ⟨x, H1, I1, r1, q1⟩ => ?_
  refine thn (hb pins s1 σ H1 _ I1 q1) fun u s2 ⟨y, H2, I2, r2, q2⟩ => ?_
  exact hf v u s2 x y H2 I2 r1 r2 q2
theorem pe_op {op : Operator} {r : R2} (ho : OpR X (binaryOp op) r) (ha : PE X a ta) (hb : PE X b tb) : PE X (.BinOp a op b pos) (tOp r ta tb) := by
  intro pins s σ H Q I h
  exact wpAny_BinOp (binT ha hb I h fun v u s2 x y H2 I2 rx ry q => ho pins s2 σ H2 x y v u Q I2 rx ry q)
theorem opI {f : Value → Value → Sem Value} {C : Int → Int → Prop} {g : Int → Int → Int}
    (rule : ∀ (i j : Int) (t u : Tok) (s : Shared) (Q : Value → Shared → Prop) (E : Value → Shared → Prop), C i j → Q (.int (g i j) s.toks) { s with toks := s.toks + 1 } → wpAny (model X.prog X.w) X.A (f (.int i t) (.int j u)) Q E s) :
    OpR X f (rI C fun i j => .int (g i j)) := by
  intro pins s σ H x y v u Q I rx ry h
  obtain ⟨i, j, rfl, rfl, hc, q⟩ := h
  obtain ⟨t, rfl⟩ := rx
  obtain ⟨t', rfl⟩ := ry
  exact rule i j t t' s _ _ hc ⟨.int (g i j), H, I.tok _, ⟨_, rfl⟩, q⟩
theorem opI0 {f : Value → Value → Sem Value} {g : Int → Int → Int}
    (rule : ∀ (i j : Int) (t u : Tok) (s : Shared) (Q : Value → Shared → Prop) (E : Value → Shared → Prop), Q (.int (g i j) s.toks) { s with toks := s.toks + 1 } → wpAny (model X.prog X.w) X.A (f (.int i t) (.int j u)) Q E s) :
    OpR X f (rI0 fun i j => .int (g i j)) := by
  intro pins s σ H x y v u Q I rx ry h
  obtain ⟨i, j, rfl, rfl, q⟩ := h
  obtain ⟨t, rfl⟩ := rx
  obtain ⟨t', rfl⟩ := ry
  exact rule i j t t' s _ _ ⟨.int (g i j), H, I.tok _, ⟨_, rfl⟩, q⟩
theorem opB0 {f : Value → Value → Sem Value} {g : Int → Int → Bool}
    (rule : ∀ (i j : Int) (t u : Tok) (s : Shared) (Q : Value → Shared → Prop) (E : Value → Shared → Prop), Q (.bool (g i j)) s → wpAny (model X.prog X.w) X.A (f (.int i t) (.int j u)) Q E s) :
    OpR X f (rI0 fun i j => .bl (g i j)) := by
  intro pins s σ H x y v u Q I rx ry h
  obtain ⟨i, j, rfl, rfl, q⟩ := h
  obtain ⟨t, rfl⟩ := rx
  obtain ⟨t', rfl⟩ := ry
  exact rule i j t t' s _ _ ⟨.bl (g i j), H, I, rfl, q⟩
def CDiv (i j : Int) : Prop := 0 < j ∧ j < 1073741824
def CDivN (i j : Int) : Prop := j ≠ 0 ∧ j.natAbs < 1073741824
def CPow (i j : Int) : Prop := 0 ≤ j ∧ j ≤ 1000000 ∧ i.natAbs < 2 ^ 64
def CMul (i j : Int) : Prop := (-(2 ^ 64) < i ∧ i < 2 ^ 64) ∨ (-(2 ^ 64) < j ∧ j < 2 ^ 64)
theorem CMul.ok {i j : Int} (h : CMul i j) : IntMulOk i j := by
  rcases h with ⟨h1, h2⟩ | ⟨h1, h2⟩
  · exact .of_left (intBits_le_64 h1 h2)
  · exact .of_right (intBits_le_64 h1 h2)
theorem op_add : OpR X (binaryOp .Add) (rI0 fun i j => .int (i + j)) := opI0 fun _ _ _ _ _ _ _ q => add_int q
theorem op_sub : OpR X (binaryOp .Sub) (rI0 fun i j => .int (i - j)) := opI0 fun _ _ _ _ _ _ _ q => sub_int q
theorem op_mul : OpR X (binaryOp .Mult) (rI CMul fun i j => .int (i * j)) := opI fun _ _ _ _ _ _ _ hc q => mul_int q hc.ok
theorem op_fdiv : OpR X (binaryOp .FloorDiv) (rI CDiv fun i j => .int (i / j)) := opI fun i j _ _ _ _ _ hc q => by
  have h1 : (0 : Int) < j := hc.1
  have h2 : j < 1073741824 := hc.2
  exact floordiv_int (by omega) (by rw [Int.fdiv_eq_ediv_of_nonneg i (by omega)]; exact q) (.inl (PyProof.noPylong_small (by omega)))
theorem op_mod : OpR X (binaryOp .Mod) (rI (fun _ j => 0 < j) fun i j => .int (i % j)) := opI fun i j _ _ _ _ _ hc q => by
  have h1 : (0 : Int) < j := hc
  exact mod_int' (by omega) (by rw [Int.fmod_eq_emod_of_nonneg i (by omega)]; exact q)
theorem op_pow : OpR X (binaryOp .Pow) (rI CPow fun i j => .int (i ^ j.toNat)) := opI fun _ _ _ _ _ _ _ hc q => pow_int_small hc.1 hc.2.1 hc.2.2 q
theorem unI {f : Value → Sem Value} {g : Int → Int}
    (rule : ∀ (i : Int) (t : Tok) (s : Shared) (Q : Value → Shared → Prop) (E : Value → Shared → Prop), Q (.int (g i) s.toks) { s with toks := s.toks + 1 } → wpAny (model X.prog X.w) X.A (f (.int i t)) Q E s) :
    UnR X f (rU fun i => .int (g i)) := by
  intro pins s σ H x v Q I rx h
  obtain ⟨i, rfl, q⟩ := h
  obtain ⟨t, rfl⟩ := rx
  exact rule i t s _ _ ⟨.int (g i), H, I.tok _, ⟨_, rfl⟩, q⟩
theorem un_neg : UnR X (unaryOp .USub) (rU fun i => .int (-i)) := unI fun _ _ _ _ _ q => neg_int q
end
def scal : V → V → Bool
  | .non, .non => true | .non, .int _ => true | .int _, .non => true | .non, .bl _ => true | .bl _, .non => true | .non, .str _ => true | .str _, .non => true
  | .int _, .int _ => true | .bl _, .bl _ => true | .str _, .str _ => true | .byt _, .byt _ => true
  | .int _, .str _ => true | .str _, .int _ => true | .bl _, .str _ => true | .str _, .bl _ => true
  | _, _ => false
def rEq : R2 := fun x y H Q => scal x y = true ∧ Q (.bl (decide (x = y))) H
def rNe : R2 := fun x y H Q => scal x y = true ∧ Q (.bl (!decide (x = y))) H
theorem dec_int {i j : Int} : decide (V.int i = V.int j) = (i == j) := by
  rw [Bool.eq_iff_iff]
  simp
theorem dec_bl {i j : Bool} : decide (V.bl i = V.bl j) = (i == j) := by
  rw [Bool.eq_iff_iff]
  simp
theorem dec_str {i j : Str} : decide (V.str i = V.str j) = (i == j) := by
  rw [Bool.eq_iff_iff]
  simp
theorem dec_byt {i j : Array UInt8} : decide (V.byt i = V.byt j) = (i.toList == j.toList) := by
  rw [Bool.eq_iff_iff]
  cases i
  cases j
  simp
section
variable {X : Cx} {a b c : Expr} {ta tb tc : TE} {pos : Pos}
theorem fin_bl {pins : List (Addr × Obj)} {σ : St} {H : Hp} {s : Shared} {Q : VK} {k k' : Bool} (I : Inv X pins σ H s) (q : Q (.bl k) H) (e : k = k') : EP X pins σ Q (.bool k') s := by
  subst e
  exact ⟨.bl k, H, I, rfl, q⟩
theorem op_eq : OpR X (compareOp .Eq) rEq := by
  intro pins s σ H x y v u Q I rx ry h
  obtain ⟨hs, q⟩ := h
  cases x with
  | non =>
    cases rx
    cases y with
    | non => cases ry; exact PySem.EqNone.eq_none_none (fin_bl I q (by simp))
    | bl j => cases ry; exact PySem.EqNone.eq_none_bool (fin_bl I q (by simp))
    | int j => obtain ⟨t', rfl⟩ := ry; exact PySem.EqNone.eq_none_int (fin_bl I q (by simp))
    | str j => obtain ⟨t', rfl⟩ := ry; exact PySem.EqNone.eq_none_str (fin_bl I q (by simp))
    | _ => exact absurd (show false = true from hs) Bool.false_ne_true
  | bl i =>
    cases rx
    cases y with
    | non => cases ry; exact PySem.EqNone.eq_bool_none (fin_bl I q (by simp))
    | bl j => cases ry; exact eq_bool (fin_bl I q dec_bl)
    | str j => obtain ⟨t', rfl⟩ := ry; exact PySem.EqMixed.eq_bool_str (fin_bl I q (by simp))
    | _ => exact absurd (show false = true from hs) Bool.false_ne_true
  | int i =>
    obtain ⟨t, rfl⟩ := rx
    cases y with
    | non => cases ry; exact PySem.EqNone.eq_int_none (fin_bl I q (by simp))
    | int j => obtain ⟨t', rfl⟩ := ry; exact eq_int (fin_bl I q dec_int)
    | str j => obtain ⟨t', rfl⟩ := ry; exact PySem.EqMixed.eq_int_str (fin_bl I q (by simp))
    | _ => exact absurd (show false = true from hs) Bool.false_ne_true
  | str i =>
    obtain ⟨t, rfl⟩ := rx
    cases y with
    | non => cases ry; exact PySem.EqNone.eq_str_none (fin_bl I q (by simp))
    | bl j => cases ry; exact PySem.EqMixed.eq_str_bool (fin_bl I q (by simp))
    | int j => obtain ⟨t', rfl⟩ := ry; exact PySem.EqMixed.eq_str_int (fin_bl I q (by simp))
    | str j => obtain ⟨t', rfl⟩ := ry; exact eq_str (fin_bl I q dec_str)
    | _ => exact absurd (show false = true from hs) Bool.false_ne_true
  | byt i =>
    obtain ⟨t, rfl⟩ := rx
    cases y with
    | byt j => obtain ⟨t', rfl⟩ := ry; exact PySem.W.eq_bytes (fin_bl I q dec_byt)
    | _ => exact absurd (show false = true from hs) Bool.false_ne_true
  | _ => cases y <;> exact absurd (show false = true from hs) Bool.false_ne_true
theorem op_ne : OpR X (compareOp .NotEq) rNe := by
  intro pins s σ H x y v u Q I rx ry h
  obtain ⟨hs, q⟩ := h
  cases x with
  | non =>
    cases rx
    cases y with
    | non => cases ry; exact PySem.EqNone.ne_none_none (fin_bl I q (by simp))
    | bl j => cases ry; exact PySem.EqNone.ne_none_bool (fin_bl I q (by simp))
    | int j => obtain ⟨t', rfl⟩ := ry; exact PySem.EqNone.ne_none_int (fin_bl I q (by simp))
    | str j => obtain ⟨t', rfl⟩ := ry; exact PySem.EqNone.ne_none_str (fin_bl I q (by simp))
    | _ => exact absurd (show false = true from hs) Bool.false_ne_true
  | bl i =>
    cases rx
    cases y with
    | non => cases ry; exact PySem.EqNone.ne_bool_none (fin_bl I q (by simp))
    | bl j => cases ry; exact ne_bool (fin_bl I q (congrArg not dec_bl))
    | str j => obtain ⟨t', rfl⟩ := ry; exact PySem.EqMixed.ne_bool_str (fin_bl I q (by simp))
    | _ => exact absurd (show false = true from hs) Bool.false_ne_true
  | int i =>
    obtain ⟨t, rfl⟩ := rx
    cases y with
    | non => cases ry; exact PySem.EqNone.ne_int_none (fin_bl I q (by simp))
    | int j => obtain ⟨t', rfl⟩ := ry; exact ne_int (fin_bl I q (congrArg not dec_int))
    | str j => obtain ⟨t', rfl⟩ := ry; exact PySem.EqMixed.ne_int_str (fin_bl I q (by simp))
    | _ => exact absurd (show false = true from hs) Bool.false_ne_true
  | str i =>
    obtain ⟨t, rfl⟩ := rx
    cases y with
    | non => cases ry; exact PySem.EqNone.ne_str_none (fin_bl I q (by simp))
    | bl j => cases ry; exact PySem.EqMixed.ne_str_bool (fin_bl I q (by simp))
    | int j => obtain ⟨t', rfl⟩ := ry; exact PySem.EqMixed.ne_str_int (fin_bl I q (by simp))
    | str j => obtain ⟨t', rfl⟩ := ry; exact ne_str (fin_bl I q (congrArg not dec_str))
    | _ => exact absurd (show false = true from hs) Bool.false_ne_true
  | byt i =>
    obtain ⟨t, rfl⟩ := rx
    cases y with
    | byt j => obtain ⟨t', rfl⟩ := ry; exact PySem.W.ne_bytes (fin_bl I q (congrArg not dec_byt))
    | _ => exact absurd (show false = true from hs) Bool.false_ne_true
  | _ => cases y <;> exact absurd (show false = true from hs) Bool.false_ne_true
theorem op_lt : OpR X (compareOp .Lt) (rI0 fun i j => .bl (decide (i < j))) := opB0 fun _ _ _ _ _ _ _ q => lt_int q
theorem op_le : OpR X (compareOp .LtE) (rI0 fun i j => .bl (decide (i ≤ j))) := opB0 fun _ _ _ _ _ _ _ q => le_int q
theorem op_gt : OpR X (compareOp .Gt) (rI0 fun i j => .bl (decide (j < i))) := opB0 fun _ _ _ _ _ _ _ q => gt_int q
theorem op_ge : OpR X (compareOp .GtE) (rI0 fun i j => .bl (decide (j ≤ i))) := opB0 fun _ _ _ _ _ _ _ q => ge_int q
theorem op_lt_str : OpR X (compareOp .Lt) (fun x y H Q => ∃ i j, x = .str i ∧ y = .str j ∧ Q (.bl (decide (i.cps.toList < j.cps.toList))) H) := by
  intro pins s σ H x y v u Q I rx ry h
  obtain ⟨i, j, rfl, rfl, q⟩ := h
  obtain ⟨t, rfl⟩ := rx
  obtain ⟨t', rfl⟩ := ry
  exact lt_str (fin_bl I q rfl)
theorem op_in_str : OpR X (compareOp .In) (fun x y H Q => ∃ i j, x = .str i ∧ y = .str j ∧ Q (.bl (!(Builtin.Str.occurrences j i 0 j.length 1).isEmpty)) H) := by
  intro pins s σ H x y v u Q I rx ry h
  obtain ⟨i, j, rfl, rfl, q⟩ := h
  obtain ⟨t, rfl⟩ := rx
  obtain ⟨t', rfl⟩ := ry
  exact in_str (fin_bl I q rfl)
theorem op_isN : OpR X (compareOp .Is) (fun x y H Q => y = .non ∧ Q (.bl (decide (x = .non))) H) := by
  intro pins s σ H x y v u Q I rx ry h
  obtain ⟨rfl, q⟩ := h
  cases ry
  refine is_none_gen (fin_bl I q ?_)
  cases x <;> first
    | (cases rx; rfl)
    | (obtain ⟨t, rfl⟩ := rx; rfl)
theorem op_notN : OpR X (compareOp .IsNot) (fun x y H Q => y = .non ∧ Q (.bl (!decide (x = .non))) H) := by
  intro pins s σ H x y v u Q I rx ry h
  obtain ⟨rfl, q⟩ := h
  cases ry
  refine isnot_none_gen (fin_bl I q ?_)
  cases x <;> first
    | (cases rx; rfl)
    | (obtain ⟨t, rfl⟩ := rx; rfl)
theorem op_notin_str : OpR X (compareOp .NotIn) (fun x y H Q => ∃ i j, x = .str i ∧ y = .str j ∧ Q (.bl (!(!(Builtin.Str.occurrences j i 0 j.length 1).isEmpty))) H) := by
  intro pins s σ H x y v u Q I rx ry h
  obtain ⟨i, j, rfl, rfl, q⟩ := h
  obtain ⟨t, rfl⟩ := rx
  obtain ⟨t', rfl⟩ := ry
  exact notIn_str (fin_bl I q rfl)
def isObj : HO → Bool
  | .lst _ => true
  | .ins _ _ _ => true
  | _ => false
theorem OpR.or {f : Value → Value → Sem Value} {r r' : R2} (h : OpR X f r) (h' : OpR X f r') : OpR X f (fun x y H Q => r x y H Q ∨ r' x y H Q) := by
  intro pins s σ H x y v u Q I rx ry q
  rcases q with q | q
  · exact h pins s σ H x y v u Q I rx ry q
  · exact h' pins s σ H x y v u Q I rx ry q
theorem nomark (b : Expr) {op : CmpOp} (h : op ≠ .In := by decide) (h2 : op ≠ .NotIn := by decide) : behindInMarks op b = false := by
  have e1 : (op == CmpOp.In) = false := by cases op <;> first | rfl | exact absurd rfl h
  have e2 : (op == CmpOp.NotIn) = false := by cases op <;> first | rfl | exact absurd rfl h2
  cases b <;> simp [behindInMarks, e1, e2]
theorem pe_cmpR {op : CmpOp} {r : R2} (ho : OpR X (compareOp op) r) (ha : PE X a ta) (hb : PE X b tb) (hm : behindInMarks op b = false) : PE X (.Compare a [op] [b] pos) (tOp r ta tb) := by
  intro pins s σ H Q I h
  exact wpAny_Compare1 (binT ha hb I h fun v u s2 x y H2 I2 rx ry q => ho pins s2 σ H2 x y v u Q I2 rx ry q) hm
def tTest (t : TE) : TT := fun σ H Q => t σ H fun x H' => ∃ k, x = .bl k ∧ Q k H'
def tChain (r r' : R2) (ta tb tc : TE) : TE := fun σ H Q => ta σ H fun x H1 => tb σ H1 fun y H2 => r x y H2 fun z H3 => ∃ k, z = .bl k ∧
  (if k = true then tc σ H3 fun w' H4 => r' y w' H4 Q else Q (.bl false) H3)
def TruV (K : PySem.W.Frag) (x : V) (H : Hp) (k : Bool) : Prop :=
  match x with
  | .non => k = false
  | .bl b => k = b
  | .int i => k = (i != 0)
  | .str y => y.length ≤ sizeLine ∧ k = ((y.length : Int) != 0)
  | .byt y => y.size ≤ sizeLine ∧ k = ((y.size : Int) != 0)
  | .ref p => (∃ xs, SqL K H p xs ∧ k = !xs.isEmpty) ∨ (∃ xs, SqT K H p xs ∧ k = !xs.isEmpty) ∨ ∃ kvs, H p = some (.dK kvs) ∧ k = !kvs.isEmpty
  | _ => False
theorem line63 : (sizeLine : Nat) < 2 ^ 63 := by rw [sizeLine_eq]; decide
theorem op_add_str : OpR X (binaryOp .Add) (fun x y H Q => ∃ i j, x = .str i ∧ y = .str j ∧ i.length + j.length ≤ sizeLine ∧ Q (.str (i ++ j)) H) := by
  intro pins s σ H x y v u Q I rx ry h
  obtain ⟨i, j, rfl, rfl, hz, q⟩ := h
  obtain ⟨t, rfl⟩ := rx
  obtain ⟨t', rfl⟩ := ry
  exact add_str (fun t' tk => ⟨.str (i ++ j), H, I.tok _, ⟨_, rfl⟩, q⟩) hz
def PlainIxT (b : Expr) : Prop := ∀ o i, subscripted b false o i = operate [o, i] (getItem o i)
theorem vals1 {x : V} {us : List Value} (r : Vals [x] us) : ∃ u, us = [u] ∧ RelV x u := by
  cases r with
  | cons r1 r2 => cases r2; exact ⟨_, rfl, r1⟩
theorem vals2 {x y : V} {us : List Value} (r : Vals [x, y] us) : ∃ u w', us = [u, w'] ∧ RelV x u ∧ RelV y w' := by
  cases r with
  | cons r1 r2 =>
    cases r2 with
    | cons r3 r4 => cases r4; exact ⟨_, _, rfl, r1, r3⟩
theorem call_min2 (hc : X.calm = true) : CallR X (.builtin "min") (fun xs H Q => ∃ i j, xs = [.int i, .int j] ∧ Q (.int (if j < i then j else i)) H) := by
  intro pins s σ H xs us Q I r h
  obtain ⟨i, j, rfl, q⟩ := h
  obtain ⟨u, w', rfl, ⟨t, rfl⟩, ⟨t', rfl⟩⟩ := vals2 r
  refine min_two_ints (I.ok.hd hc) fun h' tk k => ⟨_, H, I.kept k, ?_, q⟩
  by_cases hj : j < i
  · rw [if_pos hj, if_pos hj]; exact ⟨_, rfl⟩
  · rw [if_neg hj, if_neg hj]; exact ⟨_, rfl⟩
theorem call_int1 : CallR X (.type "int") (fun xs H Q => (∃ i, xs = [.int i] ∧ Q (.int i) H) ∨ ∃ k, xs = [.bl k] ∧ Q (.int (if k then 1 else 0)) H) := by
  intro pins s σ H xs us Q I r h
  rcases h with ⟨i, rfl, q⟩ | ⟨k, rfl, q⟩
  · obtain ⟨u, rfl, t, rfl⟩ := vals1 r
    exact call_int_int ⟨.int i, H, I, ⟨_, rfl⟩, q⟩
  · obtain ⟨u, rfl, r1⟩ := vals1 r
    cases r1
    exact call_int_bool ⟨.int (if k then 1 else 0), H, I.tok _, ⟨_, rfl⟩, q⟩
theorem call_str_int : CallR X (.type "str") (fun xs H Q => ∃ i, xs = [.int i] ∧ i.natAbs.log2 < 1920 ∧ Q (.str (toString i)) H) := by
  intro pins s σ H xs us Q I r h
  obtain ⟨i, rfl, hz, q⟩ := h
  obtain ⟨u, rfl, t, rfl⟩ := vals1 r
  exact PySem.P.str_of_int hz ⟨.str _, H, I.tok _, ⟨_, rfl⟩, q⟩
def LenV (K : PySem.W.Frag) (x : V) (H : Hp) (n : Nat) : Prop :=
  match x with
  | .str y => y.length ≤ sizeLine ∧ n = y.length
  | .byt y => y.size ≤ sizeLine ∧ n = y.size
  | .ref p => (∃ xs, SqL K H p xs ∧ n = xs.length) ∨ ∃ xs, SqT K H p xs ∧ n = xs.length
  | _ => False
end
end L2
namespace L2
open PySem PySem.Spec PyProof.Rows
structure ObjM (h : Heap) (x dx C : Addr) (mA : Str → Option Value) : Prop where
  obj : h.get? x = some (PySem.W.instObj C dx)
  ns : h.Ns1 dx mA
  ne : dx ≠ x
theorem lookIn_ns {h : Heap} {dx : Addr} {mA : Str → Option Value} (n : h.Ns1 dx mA) : ∃ od, h.get? dx = some od ∧ ∀ name, PySem.W.lookIn name od = some (mA name) := by
  obtain ⟨o, es, ep, ho, hd, hk, _, hm⟩ := n
  refine ⟨o, ho, fun name => ?_⟩
  have e := hm name
  unfold nsFind findBy at e
  rw [← Array.find?_toList] at e
  unfold PySem.W.lookIn
  rw [hd]
  dsimp only
  split
  · rename_i y q
    rw [q] at e
    exact congrArg some e
  · rename_i q
    rw [q] at e
    have a : es.toList.any (·.refKey) = false := by
      rw [List.any_eq_false]
      intro y hy
      obtain ⟨z, t, hkey⟩ := hk y (Array.mem_toList_iff.mp hy)
      simp [DictEntry.refKey, hkey]
    have a' : ¬ es.toList.any (·.refKey) = true := by rw [a]; exact Bool.false_ne_true
    rw [if_neg a']
    exact congrArg some e
theorem ObjM.look {h : Heap} {x dx C : Addr} {mA : Str → Option Value} (I : ObjM h x dx C mA) : ∃ od, PySem.W.InstAt h x (PySem.W.instObj C dx) C (some od) ∧ ∀ name, PySem.W.lookIn name od = some (mA name) :=
  let ⟨od, ho, hl⟩ := lookIn_ns I.ns
  ⟨od, ⟨I.obj, rfl, rfl, ho⟩, hl⟩
section
variable {prog : Program} {w : World} {A : Around} {E : Value → Shared → Prop} {s : Shared} {K : PySem.W.Frag} {x dx C f : Addr} {mA : Str → Option Value} {name : Str} {v : Value}
theorem get_map {expr : Bool} {Q : Value → Shared → Prop} (X : K.In s.heap) (I : ObjM s.heap x dx C mA) (hg : PySem.W.plainGet K C name = true) (hh : PySem.W.hasDictIn K C = true)
    (ha : PySem.W.findIn K (.ref C) name = some none) (hv : mA name = some v) (hv' : PySem.W.handedIn v = true) (h : Q v { s with toks := s.toks + 1 }) :
    wpAny (model prog w) A (getAttr (.ref x) name expr) Q E s := by
  obtain ⟨od, J, hl⟩ := I.look
  exact PySem.W.get_value X J (PySem.W.plainGet_of hg).1 (PySem.W.findObj_own hh ha rfl (by rw [hl, hv])) hv' h
theorem get_meth {pl : Sem Bool} {Q : Value × List Value → Shared → Prop} (X : K.In s.heap) (I : ObjM s.heap x dx C mA) (hg : PySem.W.plainGet K C name = true)
    (hf : PySem.W.findIn K (.ref C) name = some (some (.ref f))) (ht : PySem.W.isFn K (.ref f) = true) (hv : mA name = none) (h : Q (.ref f, [.ref x]) s) :
    wpAny (model prog w) A (getMethod (.ref x) name pl) Q E s := by
  obtain ⟨od, J, hl⟩ := I.look
  exact PySem.W.method_fn X J (PySem.W.plainGet_of hg).1 (PySem.W.plainGet_of hg).2 hf (beq_iff_eq.mp ht) (by show (PySem.W.lookIn name od).map (·.isSome) = some false; rw [hl, hv]; rfl) h
theorem set_map {ns : List Str} {Q : Unit → Shared → Prop} (X : K.In s.heap) (I : ObjM s.heap x dx C mA)
    (hs : PySem.W.findIn K (.ref C) "__setattr__" = some (some (.builtin "object.__setattr__"))) (hp : PySem.W.plainOver K C = true) (ht : PySem.W.takerIn K C name = some none) (hh : PySem.W.hasDictIn K C = true)
    (hw : PySem.Within mA ns) (hsz : ns.length ≤ sizeLine)
    (h : ∀ h', ObjM h' x dx C (fun y => if y = name then some v else mA y) → Heap.SameBut dx s.heap h' → Q () { s with heap := h', toks := s.toks + 2 }) :
    wpAny (model prog w) A (setAttr (.ref x) name v) Q E s := by
  obtain ⟨od, J, hl⟩ := I.look
  refine PySem.W.set_plain X J hs (PySem.W.osa_open (s := { s with toks := s.toks + 1 }) (r := none) X J hp ht fun b => ?_)
  obtain ⟨cd, hc, hd'⟩ := PySem.W.any_some hh
  have hx : s.heap.get? x = some ⟨.ref C, some dx, .plain, #[]⟩ := I.obj
  refine wpAny_bind (wpAny_pure (wpAny_bind (wpAny_bind (wpAny_loadPart hx (wpAny_bind (PySem.W.Looks.here (s := { s with toks := s.toks + 1 }) (PySem.W.looks_clsIn X hc) ?_))))))
  rw [hd']
  refine wpAny_pure (a := some dx) (wpAny_bind (wpAny_pure (wpAny_bind ?_)))
  refine wpAny_nsSet1 (s := { s with toks := s.toks + 1 }) I.ns fun h' hn2 hs2 => ?_
  obtain ⟨oD, esD, epD, hoD, hdD, hcD⟩ := hn2.count (PySem.Within.cons name v hw)
  refine wpAny_bind (wpAny_lookBehind hoD (by rw [hdD]; exact pastItsLine_dict (Nat.le_trans hcD (by rw [List.length_cons]; omega))) ?_)
  exact wpAny_pure (h _ ⟨(hs2.2 _ (Ne.symm I.ne)).trans I.obj, hn2, I.ne⟩ hs2)
theorem make_map {R : Result → Shared → Prop} {vs : List Value} {kw : List (Str × Value)} (X : K.In s.heap) (hm : PySem.W.makesIn K C = true)
    (hi : PySem.W.findIn K (.ref C) "__init__" = some (some (.ref f))) (hf : PySem.W.typeIn K (.ref f) = some (.type "function"))
    (h : codeAny (model prog w) (A.under (.builtin "type.__call__" ⟨.ref C :: vs, kw⟩)) (.call (.ref f) ⟨.ref (s.heap.objs.size + 1) :: vs, kw⟩) (PySem.W.InitBack (s.heap.objs.size + 1) R)
      { s with heap := (s.heap.push PySem.W.emptyDict).push (PySem.W.instObj C s.heap.objs.size) }) :
    codeAny (model prog w) A (.call (.ref C) ⟨vs, kw⟩) R s := by
  obtain ⟨hh, g, d, t, os⟩ := s
  exact PySem.W.make_core (PySem.W.makes_of X hm) (PySem.W.looks_findIn X hi) (fun self => PySem.W.bind_fn X self hf) (.inl rfl) h
end
def putF (f : Str) (v : V) : List (Str × V) → List (Str × V)
  | [] => [(f, v)]
  | (g, x) :: r => if g = f then (g, v) :: r else (g, x) :: putF f v r
theorem lookup_putF (f g : Str) (v : V) : ∀ fs : List (Str × V), (putF f v fs).lookup g = if g = f then some v else fs.lookup g
  | [] => by
    show List.lookup g [(f, v)] = _
    by_cases h : g = f
    · have hb : (g == f) = true := beq_iff_eq.mpr h
      simp only [List.lookup, hb, if_pos h]
    · have hb : (g == f) = false := beq_eq_false_iff_ne.mpr h
      simp only [List.lookup, hb, if_neg h]
  | (k, x) :: r => by
    have ih := lookup_putF f g v r
    rw [show putF f v ((k, x) :: r) = (if k = f then (k, v) :: r else (k, x) :: putF f v r) from rfl]
    by_cases hk : k = f
    · rw [if_pos hk]
      by_cases h : g = k
      · have hb : (g == k) = true := beq_iff_eq.mpr h
        simp only [List.lookup, hb, if_pos (h.trans hk)]
      · have hb : (g == k) = false := beq_eq_false_iff_ne.mpr h
        simp only [List.lookup, hb, if_neg (fun e : g = f => h (e.trans hk.symm))]
    · rw [if_neg hk]
      by_cases h : g = k
      · have hb : (g == k) = true := beq_iff_eq.mpr h
        simp only [List.lookup, hb, if_neg (fun e : g = f => hk (h.symm.trans e))]
      · have hb : (g == k) = false := beq_eq_false_iff_ne.mpr h
        simp only [List.lookup, hb]
        exact ih
theorem keys_putF (f : Str) (v : V) : ∀ fs : List (Str × V), f ∈ (putF f v fs).map (·.1) ∧ ∀ g, g ∈ fs.map (·.1) → g ∈ (putF f v fs).map (·.1)
  | [] => ⟨by simp [putF], fun g h => by simp at h⟩
  | (k, x) :: r => by
    obtain ⟨i1, i2⟩ := keys_putF f v r
    rw [show putF f v ((k, x) :: r) = (if k = f then (k, v) :: r else (k, x) :: putF f v r) from rfl]
    by_cases hk : k = f
    · rw [if_pos hk]
      subst hk
      exact ⟨by simp, fun g h => by simpa using h⟩
    · rw [if_neg hk]
      refine ⟨?_, fun g h => ?_⟩
      · rw [List.map_cons]
        exact List.mem_cons_of_mem _ i1
      · rw [List.map_cons] at h ⊢
        rcases List.mem_cons.mp h with e | e
        · exact List.mem_cons.mpr (.inl e)
        · exact List.mem_cons_of_mem _ (i2 g e)
theorem length_putF (f : Str) (v : V) : ∀ fs : List (Str × V), (putF f v fs).length ≤ fs.length + 1
  | [] => by simp [putF]
  | (k, x) :: r => by
    have ih := length_putF f v r
    rw [show putF f v ((k, x) :: r) = (if k = f then (k, v) :: r else (k, x) :: putF f v r) from rfl]
    by_cases hk : k = f
    · rw [if_pos hk, List.length_cons, List.length_cons]; omega
    · rw [if_neg hk, List.length_cons, List.length_cons]; omega
theorem RelO.some_of {v : V} {o : Option Value} (r : RelO (some v) o) : ∃ u, o = some u ∧ RelV v u := by
  cases o with
  | none => exact (show False from r).elim
  | some u => exact ⟨u, rfl, r⟩
theorem RelO.none_of {o : Option Value} (r : RelO none o) : o = none := by
  cases o with
  | none => rfl
  | some u => exact (show False from r).elim
theorem handed_of {v : V} {u : Value} (r : RelV v u) : PySem.W.handedIn u = true := by
  cases v with
  | non => cases (show u = Value.none from r); rfl
  | bl b => cases (show u = Value.bool b from r); rfl
  | int i => obtain ⟨t, e⟩ := (show ∃ t, u = Value.int i t from r); cases e; rfl
  | str x => obtain ⟨t, e⟩ := (show ∃ t, u = Value.str x t from r); cases e; rfl
  | byt b => obtain ⟨t, e⟩ := (show ∃ t, u = Value.bytes b t from r); cases e; rfl
  | flt b => obtain ⟨t, e⟩ := (show ∃ t, u = Value.float b t from r); cases e; rfl
  | ref a => cases (show u = Value.ref a from r); rfl
  | ty n => cases (show u = Value.type n from r); rfl
section
variable {P : Program} {w : World} {H H' : Hp} {h h' : Heap} {a C dx : Addr} {fs fs' : List (Str × V)}
theorem ins_get (hok : HOk P w H h) (e : H a = some (.ins C dx fs)) : ∃ mA, ObjM h a dx C mA ∧ (∀ f, RelO (fs.lookup f) (mA f)) ∧ PySem.Within mA (fs.map (·.1)) ∧ fs.length ≤ 1000 ∧ H dx = some (.own a) := by
  obtain ⟨d, z, ne, ob, mA, n, r, q⟩ := (show ObjOk P w H h a (.ins C dx fs) from hok a _ e)
  exact ⟨mA, ⟨ob, n, ne⟩, r, q, z, d⟩
end
structure Cls (K : PySem.W.Frag) (C : Addr) : Prop where
  pg : PySem.W.plainGet K C Str.empty = true
  hd : PySem.W.hasDictIn K C = true
  po : PySem.W.plainOver K C = true
  sa : PySem.W.findIn K (.ref C) "__setattr__" = some (some (.builtin "object.__setattr__"))
theorem Cls.get {K : PySem.W.Frag} {C : Addr} (c : Cls K C) (f : Str) : PySem.W.plainGet K C f = true := c.pg
def NoAttr (K : PySem.W.Frag) (C : Addr) (f : Str) : Prop := PySem.W.findIn K (.ref C) f = some none
theorem NoAttr.taker {K : PySem.W.Frag} {C : Addr} {f : Str} (n : NoAttr K C f) : PySem.W.takerIn K C f = some none := by
  unfold PySem.W.takerIn
  rw [show PySem.W.findIn K (.ref C) f = some none from n]
  rfl
structure Con (K : PySem.W.Frag) (C : Addr) (f : Str) (v : V) (u : Value) : Prop where
  at_ : PySem.W.findIn K (.ref C) f = some (some u)
  rel : RelV v u
  get : PySem.W.specialIn K u "__get__" = some none
  cp : PySem.W.copiedNames.contains f = false
structure Meth (K : PySem.W.Frag) (C : Addr) (m : Str) (f : Addr) : Prop where
  at_ : PySem.W.findIn K (.ref C) m = some (some (.ref f))
  fn : PySem.W.isFn K (.ref f) = true
  kp : PySem.W.keepIn K (.ref f) = true
section
variable {X : Cx} {pins : List (Addr × Obj)} {σ : St} {H : Hp} {s : Shared} {a C dx : Addr} {fs : List (Str × V)} {f : Str} {v : V} {A : Around} {E : Value → Shared → Prop}
theorem getattr_ok {b : Bool} {Q : Value → Shared → Prop} (I : Inv X pins σ H s) (e : H a = some (.ins C dx fs)) (c : Cls X.K C) (n : NoAttr X.K C f) (l : fs.lookup f = some v)
    (h : ∀ u s', Inv X pins σ H s' → RelV v u → Q u s') : wpAny (model X.prog X.w) A (getAttr (.ref a) f b) Q E s := by
  obtain ⟨mA, O, r, _, _, _⟩ := ins_get I.hok e
  obtain ⟨u, hu, ru⟩ := RelO.some_of (v := v) (o := mA f) (by rw [← l]; exact r f)
  exact get_map I.kIn O (c.get f) c.hd n hu (handed_of ru) (h u _ (I.tok _) ru)
theorem getmeth_ok {m : Str} {g : Addr} {pl : Sem Bool} {Q : Value × List Value → Shared → Prop} (I : Inv X pins σ H s) (e : H a = some (.ins C dx fs)) (c : Cls X.K C) (k : Meth X.K C m g) (l : fs.lookup m = none)
    (h : Q (.ref g, [.ref a]) s) : wpAny (model X.prog X.w) A (getMethod (.ref a) m pl) Q E s := by
  obtain ⟨mA, O, r, _, _, _⟩ := ins_get I.hok e
  have hn : mA m = none := RelO.none_of (by rw [← l]; exact r m)
  exact get_meth I.kIn O (c.get m) k.at_ k.fn hn h
theorem setattr_ok {y : V} {u : Value} {Q : Unit → Shared → Prop} (I : Inv X pins σ H s) (e : H a = some (.ins C dx fs)) (c : Cls X.K C) (n : NoAttr X.K C f) (hl : fs.length < 1000) (ry : RelV y u)
    (h : ∀ s', Inv X pins σ (upd H a (.ins C dx (putF f y fs))) s' → Q () s') : wpAny (model X.prog X.w) A (setAttr (.ref a) f u) Q E s := by
  obtain ⟨mA, O, r, wi, _, ho⟩ := ins_get I.hok e
  have hz : (fs.map (·.1)).length ≤ sizeLine := by rw [List.length_map, sizeLine_eq]; omega
  refine set_map I.kIn O c.sa c.po n.taker c.hd wi hz fun h' O' sb => h _ ?_
  have hd : ∃ o, h'.get? dx = some o := let ⟨o, _, _, e', _⟩ := O'.ns; ⟨o, e'⟩
  refine I.write (x := a) (e := dx) (by rw [e]; exact True.intro) (.inr ho) (fun b q hb z => (sb.2 b hb).trans z) hd ?_
  refine ⟨by rw [upd_ne O.ne]; exact ho, ?_, O.ne, O'.obj, _, O'.ns, fun g => ?_, fun g hg => ?_⟩
  · have := length_putF f y fs; omega
  · show RelO ((putF f y fs).lookup g) (if g = f then some u else mA g)
    rw [lookup_putF]
    by_cases q : g = f
    · rw [if_pos q, if_pos q]; exact ry
    · rw [if_neg q, if_neg q]; exact r g
  · by_cases q : g = f
    · rw [q]; exact (keys_putF f y fs).1
    · refine (keys_putF f y fs).2 g (wi g fun z => hg ?_)
      show (if g = f then some u else mA g) = none
      rw [if_neg q]; exact z
theorem Inv.made (I : Inv X pins σ H s) : Inv X pins σ (upd (upd H s.heap.objs.size (.own (s.heap.objs.size + 1))) (s.heap.objs.size + 1) (.ins C s.heap.objs.size []))
    { s with heap := (s.heap.push PySem.W.emptyDict).push (PySem.W.instObj C s.heap.objs.size) } := by
  have e1 : (s.heap.push PySem.W.emptyDict).get? s.heap.objs.size = some PySem.W.emptyDict := Heap.get?_push_size s.heap rfl
  have e2 : ((s.heap.push PySem.W.emptyDict).push (PySem.W.instObj C s.heap.objs.size)).get? (s.heap.objs.size + 1) = some (PySem.W.instObj C s.heap.objs.size) := by
    have := Heap.get?_push_size (s.heap.push PySem.W.emptyDict) (o := PySem.W.instObj C s.heap.objs.size) rfl
    rwa [Heap.size_push] at this
  have e3 : (s.heap.push PySem.W.emptyDict).Ns s.heap.objs.size (fun _ => none) := ⟨PySem.W.emptyDict, #[], _, e1, rfl, (fun e he => absurd he (by simp)), fun _ => rfl⟩
  have I1 := I.laid (a := s.heap.objs.size) (o := .own (s.heap.objs.size + 1)) (h' := s.heap.push PySem.W.emptyDict) (t' := s.toks) (fun b u q => Heap.get?_push_of_some _ q) (Nat.le_refl _) ⟨_, e1⟩
  refine I1.laid (a := s.heap.objs.size + 1) (o := .ins C s.heap.objs.size []) (t' := s.toks) (fun b u q => Heap.get?_push_of_some _ q) (Nat.le_of_eq (Heap.size_push _ _)) ?_
  have ne : s.heap.objs.size ≠ s.heap.objs.size + 1 := Nat.ne_of_lt (Nat.lt_succ_self _)
  refine ⟨by rw [upd_ne ne, upd_same], Nat.zero_le _, ne, e2, fun _ => none, (Heap.Ns1.of_empty e3).at fun o q => Heap.get?_push_of_some _ q, fun _ => True.intro, fun y hy => absurd rfl hy⟩
theorem attr_of {prog : Program} {w : World} {env : Env} {e : Expr} {f : Str} {pos : Pos} {s : Shared} {Q : Value → Shared → Prop} (hb : attributeBase e f env (eval e env) = eval e env)
    (h : wpAny (model prog w) A (eval e env) (fun o s₁ => wpAny (model prog w) A (getAttr o f true) Q E s₁) E s) : wpAny (model prog w) A (eval (.Attribute e f pos) env) Q E s :=
  Attribute_any_ h (by rw [arm_eval_Attribute, hb])
end
def tFld (K : PySem.W.Frag) (ta : TE) (f : Str) : TE := fun σ H Q => ta σ H fun x H1 => ∃ a C dx fs v, x = .ref a ∧ H1 a = some (.ins C dx fs) ∧ Cls K C ∧ NoAttr K C f ∧ fs.lookup f = some v ∧ Q v H1
def tCon (K : PySem.W.Frag) (ta : TE) (f : Str) : TE := fun σ H Q => ta σ H fun x H1 => ∃ a C dx fs v u, x = .ref a ∧ H1 a = some (.ins C dx fs) ∧ Cls K C ∧ Con K C f v u ∧ fs.lookup f = none ∧ Q v H1
def sFld (K : PySem.W.Frag) (ta tv : TE) (f : Str) : TS := fun D σ H => tv σ H fun y H1 => ta σ H1 fun x H2 => ∃ a C dx fs, x = .ref a ∧ H2 a = some (.ins C dx fs) ∧ Cls K C ∧ NoAttr K C f ∧ fs.length < 1000 ∧
  D.nx σ (upd H2 a (.ins C dx (putF f y fs)))
def InOp (X : Cx) (op : Operator) (rd : V → V → Hp → VK → Prop) : Prop :=
  ∀ (pins : List (Addr × Obj)) (s : Shared) (σ : St) (H : Hp) (x y : V) (u v : Value) (Q : VK), Inv X pins σ H s → RelV x u → RelV y v → rd x y H Q → wpAny (model X.prog X.w) X.A (inplaceOp op u v) (EP X pins σ Q) X.xe s
def sFldAug (K : PySem.W.Frag) (ta tv : TE) (rd : V → V → Hp → VK → Prop) (f : Str) : TS := fun D σ H => ta σ H fun x H1 => ∃ a C dx fs v, x = .ref a ∧ H1 a = some (.ins C dx fs) ∧ Cls K C ∧ NoAttr K C f ∧ fs.lookup f = some v ∧
  tv σ H1 fun y H2 => rd v y H2 fun z H3 => ∃ dx' fs', H3 a = some (.ins C dx' fs') ∧ fs'.length < 1000 ∧ D.nx σ (upd H3 a (.ins C dx' (putF f z fs')))
section
variable {X : Cx} {o e value : Expr} {f : Str} {pos pos' tpos : Pos} {ta tv : TE}
theorem ps_fld (ha : PE X o ta) (hv : PE X value tv) (hs : swapsWith value (some (.Attribute o f pos')) pos.line X.env = pure false) : PS X (.Assign [.Attribute o f pos'] value pos) (sFld X.K ta tv f) := by
  intro pins s σ H D I h
  refine plainObj_wpAny_Assign_Attribute (thn (hv pins s σ H _ I h) fun u s1 ⟨y, H1, I1, ry, q⟩ => thn (ha pins s1 σ H1 _ I1 q) fun ov s2 ⟨x, H2, I2, rx, a, C, dx, fs, ex, ea, c, n, l, q2⟩ => ?_) hs
  subst ex
  obtain rfl : ov = Value.ref a := rx
  exact setattr_ok I2 ea c n l ry fun s3 I3 => ⟨σ, _, I3, q2⟩
def rAdd : V → V → Hp → VK → Prop := fun x y H Q => ∃ i j, x = .int i ∧ y = .int j ∧ Q (.int (i + j)) H
def rSub : V → V → Hp → VK → Prop := fun x y H Q => ∃ i j, x = .int i ∧ y = .int j ∧ Q (.int (i - j)) H
end
section
variable {X : Cx} {pins : List (Addr × Obj)} {σ : St} {H : Hp} {s : Shared} {A : Around} {E : Value → Shared → Prop} {Q : Value → Shared → Prop} {c : Value} {b : Bool}
inductive TyOf (K : PySem.W.Frag) (H : Hp) : V → Value → Prop where
  | non : TyOf K H .non (.type "NoneType")
  | bl (x : Bool) : TyOf K H (.bl x) (.type "bool")
  | int (i : Int) : TyOf K H (.int i) (.type "int")
  | str (x : Str) : TyOf K H (.str x) (.type "str")
  | flt (x : UInt64) : TyOf K H (.flt x) (.type "float")
  | lst {a : Addr} {xs : List V} (e : H a = some (.lst xs)) : TyOf K H (.ref a) (.type "list")
  | frz {a : Addr} {o : Obj} {xs : List V} (e : H a = some (.frz o (.lst xs))) : TyOf K H (.ref a) (.type "list")
  | tup {a : Addr} {xs : List V} (e : H a = some (.tup xs)) : TyOf K H (.ref a) (.type "tuple")
  | dK {a : Addr} {kvs : List (Key × V)} (e : H a = some (.dK kvs)) : TyOf K H (.ref a) (.type "dict")
  | dT {a : Addr} {kvs : List (List Key × V)} (e : H a = some (.dT kvs)) : TyOf K H (.ref a) (.type "dict")
  | ins {a C dx : Addr} {fs : List (Str × V)} (e : H a = some (.ins C dx fs)) (cl : Cls K C) (ha : PySem.W.findIn K (.ref C) "__class__" = some (some (.builtin "object.__class__")))
      (hn : PySem.W.specialIn K (.builtin "object.__class__") "__get__" = some (some (.builtin "getset_descriptor.__get__"))) (htk : PySem.W.takesIn K (.builtin "object.__class__") = some true)
      (hm : PySem.W.mroIn K C (.type "object") = some true) : TyOf K H (.ref a) (.ref C)
theorem isinst_ok {x : V} {u t : Value} (I : Inv X pins σ H s) (rx : RelV x u) (ty : TyOf X.K H x t) (e : PySem.W.kitOne X.K t c = some b) (h : ∀ tk, Q (.bool b) { s with toks := tk }) :
    wpAny (model X.prog X.w) A (call (.builtin "isinstance") [u, c]) Q E s := by
  cases ty with
  | non => cases (show u = Value.none from rx); exact PySem.W.kia_one PySem.W.kitx_none I.kIn True.intro e (fun z => nomatch z) h
  | bl y => cases (show u = Value.bool y from rx); exact PySem.W.kia_one PySem.W.kitx_bool I.kIn True.intro e (fun z => nomatch z) h
  | int i => obtain ⟨t, q⟩ := (show ∃ t, u = Value.int i t from rx); cases q; exact PySem.W.kia_one PySem.W.kitx_int I.kIn True.intro e (fun z => nomatch z) h
  | str y => obtain ⟨t, q⟩ := (show ∃ t, u = Value.str y t from rx); cases q; exact PySem.W.kia_one PySem.W.kitx_str I.kIn True.intro e (fun z => nomatch z) h
  | flt y => obtain ⟨t, q⟩ := (show ∃ t, u = Value.float y t from rx); cases q; exact PySem.W.kia_one PySem.W.kitx_float I.kIn True.intro e (fun z => nomatch z) h
  | @lst a xs ea =>
    cases (show u = Value.ref a from rx)
    obtain ⟨_, _, n, _, h1⟩ := (show ObjOk X.prog X.w H s.heap a (.lst xs) from I.hok a _ ea)
    exact PySem.W.kia_one PySem.W.kitx_list I.kIn ⟨_, h1, rfl⟩ e (fun z => nomatch z) h
  | @frz a ob xs ea =>
    cases (show u = Value.ref a from rx)
    obtain ⟨_, _, _, n, _, h1⟩ := (show ObjOk X.prog X.w H s.heap a (.frz ob (.lst xs)) from I.hok a _ ea)
    exact PySem.W.kia_one PySem.W.kitx_list I.kIn ⟨_, h1, rfl⟩ e (fun z => nomatch z) h
  | @tup a xs ea =>
    cases (show u = Value.ref a from rx)
    obtain ⟨_, _, _, p⟩ := (show ObjOk X.prog X.w H s.heap a (.tup xs) from I.hok a _ ea)
    obtain ⟨o, h1, h2, _⟩ := p
    exact PySem.W.kia_one PySem.W.kitx_tuple I.kIn ⟨o, h1, h2⟩ e (fun z => nomatch z) h
  | @dK a kvs ea =>
    cases (show u = Value.ref a from rx)
    obtain ⟨_, _, vs, _, p⟩ := (show ObjOk X.prog X.w H s.heap a (.dK kvs) from I.hok a _ ea)
    obtain ⟨o, es, ep, h1, h2, _⟩ := p
    exact PySem.W.kia_one PySem.W.kitx_dict I.kIn ⟨o, h1, h2.1⟩ e (fun z => nomatch z) h
  | @dT a kvs ea =>
    cases (show u = Value.ref a from rx)
    obtain ⟨_, _, xs, _, o, es, ep, h1, h2, _⟩ := (show ObjOk X.prog X.w H s.heap a (.dT kvs) from I.hok a _ ea)
    exact PySem.W.kia_one PySem.W.kitx_dict I.kIn ⟨o, h1, h2.1⟩ e (fun z => nomatch z) h
  | @ins a C dx fs ea cl ha hn htk hm =>
    cases (show u = Value.ref a from rx)
    obtain ⟨mA, O, _⟩ := ins_get I.hok ea
    obtain ⟨od, J, _⟩ := O.look
    exact PySem.W.kia_one (PySem.W.kitx_own (cl.get _) cl.hd ha hn htk hm) I.kIn J e (fun z => nomatch z) h
end
end L2
namespace L2
open PySem PySem.Spec PyProof.Rows
structure Room (k : Nat) (A : Around) : Prop where
  hd : A.handled = none
  dp : A.depth + 3 * k + 5 < recursionLimit
  un : A.units + 16 * k + 200 < cLine
theorem Room.mono {j k : Nat} {A : Around} (r : Room k A) (h : j ≤ k) : Room j A := ⟨r.hd, by have := r.dp; omega, by have := r.un; omega⟩
theorem Room.deeper {k : Nat} {A : Around} (r : Room (k + 1) A) (env : Env) : Room k (A.deeper env) :=
  ⟨r.hd, by have := r.dp; show A.depth + 1 + 3 * k + 5 < _; omega, by have := r.un; show A.units + 3 + 16 * k + 200 < _; omega⟩
theorem Room.in1 {k : Nat} {A : Around} (r : Room (k + 1) A) : Room k A.in1 :=
  ⟨r.hd, by have := r.dp; show A.depth + 3 * k + 5 < _; omega, by have := r.un; show A.units + 1 + 16 * k + 200 < _; omega⟩
theorem make_depth {A : Around} {C : Addr} {us : List Value} {kw : List (Str × Value)} : (A.under (.builtin "type.__call__" ⟨.ref C :: us, kw⟩)).depth = A.depth + 1 := by
  first | rfl | simp [Around.under, Code.weight, Code.isCreation, Code.isGuard, Code.isCaller, Code.frames, Code.isFrame, guardIds]
theorem make_units {A : Around} {C : Addr} {us : List Value} {kw : List (Str × Value)} : (A.under (.builtin "type.__call__" ⟨.ref C :: us, kw⟩)).units = A.units + 1 := by
  first | rfl | simp [Around.under, Code.cUnits, Code.frames, Code.isFrame]
theorem Room.make {k : Nat} {A : Around} (r : Room (k + 1) A) (C : Addr) (us : List Value) (kw : List (Str × Value)) : Room k (A.under (.builtin "type.__call__" ⟨.ref C :: us, kw⟩)) :=
  ⟨r.hd, by have := r.dp; rw [make_depth]; omega, by have := r.un; rw [make_units]; omega⟩
theorem Room.depth {k : Nat} {A : Around} (r : Room k A) : A.depth < recursionLimit := by have := r.dp; omega
theorem Room.units {k : Nat} {A : Around} (r : Room k A) : A.units + 64 < cLine := by have := r.un; omega
def tNil : TA := fun _ H Q => Q [] H
def tCons (ta : TE) (tr : TA) : TA := fun σ H Q => ta σ H fun x H1 => tr σ H1 fun xs H2 => Q (x :: xs) H2
section
variable {X : Cx} {e : Expr} {es : List Expr} {te : TE} {t : TA} {pos : Pos}
theorem pa_nil : PA X [] tNil := fun _ _ _ _ H Q I h => Calls.spliced_nil ⟨[], H, I, .nil, h⟩
theorem pa_cons (ha : PE X e te) (hr : PA X es t) (hs : starEach (e :: es) X.env = (false, eval e X.env) :: starEach es X.env := by rfl) : PA X (e :: es) (tCons te t) := by
  intro pos pins s σ H Q I h
  rw [hs]
  show wpAny _ _ (spliced ((false, eval e X.env) :: backTo pos (starEach es X.env))) _ _ s
  refine Calls.spliced_cons (thn (ha pins s σ H _ I h) fun u s1 ⟨x, H1, I1, r1, q1⟩ => ?_)
  exact thn (hr pos pins s1 σ H1 _ I1 q1) fun us s2 ⟨xs, H2, I2, r2, q2⟩ => ⟨x :: xs, H2, I2, .cons r1 r2, q2⟩
def tTup (t : TA) : TE := fun σ H Q => t σ H fun xs H1 => xs.length ≤ sizeLine ∧ ∀ p, H1 p = none → Q (.ref p) (upd H1 p (.tup xs))
def tLst (t : TA) : TE := fun σ H Q => t σ H fun xs H1 => xs.length ≤ sizeLine ∧ ∀ p, H1 p = none → Q (.ref p) (upd H1 p (.lst xs))
theorem pe_tup {x1} (h : PA X es t) : PE X (.Tuple es x1 pos) (tTup t) := by
  intro pins s σ H Q I hq
  refine wpAny_Tuple_spliced (thn (h pos pins s σ H _ I hq) fun us s1 ⟨xs, H1, I1, r, z, q⟩ => ⟨by rw [← r.length]; exact z, ?_⟩)
  have hf : H1 s1.heap.objs.size = none := I1.hok.fresh (Nat.le_refl _)
  refine ⟨.ref s1.heap.objs.size, upd H1 s1.heap.objs.size (.tup xs), I1.laid (t' := s1.toks) (fun b u e => Heap.get?_push_of_some _ e) (Nat.le_refl _) ?_, rfl, q _ hf⟩
  exact ⟨z, us, r, ⟨_, Heap.get?_push_size _ rfl, rfl, _, rfl⟩⟩
theorem pe_lst (h : PA X es t) : PE X (.List es pos) (tLst t) := by
  intro pins s σ H Q I hq
  refine wpAny_List_spliced (thn (h pos pins s σ H _ I hq) fun us s1 ⟨xs, H1, I1, r, z, q⟩ => ⟨by rw [← r.length]; exact z, ?_⟩)
  have hf : H1 s1.heap.objs.size = none := I1.hok.fresh (Nat.le_refl _)
  refine ⟨.ref s1.heap.objs.size, upd H1 s1.heap.objs.size (.lst xs), I1.laid (t' := s1.toks) (fun b u e => Heap.get?_push_of_some _ e) (Nat.le_refl _) ?_, rfl, q _ hf⟩
  exact ⟨z, us, 0, r, Heap.get?_push_size _ rfl⟩
end
abbrev Sp := List V → Hp → VK → XK → Prop
abbrev CXT := List Env → Hp → Shared → XK → Value → Shared → Prop
structure Env0 (P : Program) (w : World) (K : PySem.W.Frag) (mg : Str → Option Value) (base : Heap) (A : Around) (outer : List Env) (s : Shared) (H : Hp) : Prop where
  frames : A.frames = some outer
  mod : Mod K mg base
  bs : ∀ b o, base.get? b = some o → s.heap.get? b = some o ∧ H b = none
  bsz : base.objs.size ≤ s.heap.objs.size
  funs : s.heap.FunFrames base outer
  frf : ∀ b ∈ frs outer, H b = none
  hok : HOk P w H s.heap
  bare : AllBare s.gens
def CE (outer : List Env) (P : Program) (w : World) (H : Hp) (s : Shared) (Q : VK) (u : Value) (s' : Shared) : Prop :=
  ∃ v H', s'.os = s.os ∧ AllBare s'.gens ∧ Un (frs outer) [] H H' s.heap s'.heap ∧ HOk P w H' s'.heap ∧ RelV v u ∧ Q v H'
def CR (CX : CXT) (outer : List Env) (P : Program) (w : World) (H : Hp) (s : Shared) (Q : VK) (E : XK) (r : Result) (s' : Shared) : Prop :=
  match r with
  | .ok (.ret u) => CE outer P w H s Q u s'
  | .ok _ => False
  | .error e => CX outer H s E e s'
structure FnOk (P : Program) (w : World) (K : PySem.W.Frag) (mg : Str → Option Value) (base : Heap) (CX : CXT) (k : Nat) (f : Addr) (fd : FuncData) (ps : List Str) (sp : Sp) : Prop where
  len : ∀ vs H Q E, sp vs H Q E → vs.length = ps.length
  run : ∀ (A : Around) (outer : List Env) (s : Shared) (H : Hp) (args : Args) (us : List Value) (vs : List V) (Q : VK) (E : XK), Room k A → Env0 P w K mg base A outer s H → BindsTo s fd args (ps.zip us) → Vals vs us → sp vs H Q E →
    codeAny (model P w) A (.call (.ref f) args) (CR CX outer P w H s Q E) s
theorem FnOk.mono {P : Program} {w : World} {K : PySem.W.Frag} {mg : Str → Option Value} {base : Heap} {CX : CXT} {j k : Nat} {f : Addr} {fd : FuncData} {ps : List Str} {sp : Sp} (F : FnOk P w K mg base CX j f fd ps sp) (h : j ≤ k) :
    FnOk P w K mg base CX k f fd ps sp := ⟨F.len, fun A outer s H args us vs Q E hr => F.run A outer s H args us vs Q E (hr.mono h)⟩
theorem FnOk.imp {P : Program} {w : World} {K : PySem.W.Frag} {mg : Str → Option Value} {base : Heap} {CX : CXT} {k : Nat} {f : Addr} {fd : FuncData} {ps : List Str} {sp sp' : Sp} (F : FnOk P w K mg base CX k f fd ps sp)
    (h : ∀ vs H Q E, sp' vs H Q E → sp vs H Q E) : FnOk P w K mg base CX k f fd ps sp' :=
  ⟨fun vs H Q E q => F.len vs H Q E (h _ _ _ _ q), fun A outer s H args us vs Q E hr he hb hv hs => F.run A outer s H args us vs Q E hr he hb hv (h _ _ _ _ hs)⟩
theorem Env0.make {P : Program} {w : World} {K : PySem.W.Frag} {mg : Str → Option Value} {base : Heap} {A : Around} {outer : List Env} {s : Shared} {H : Hp} (e : Env0 P w K mg base A outer s H) (C : Addr) (us : List Value) (kw : List (Str × Value)) :
    Env0 P w K mg base (A.under (.builtin "type.__call__" ⟨.ref C :: us, kw⟩)) outer s H := ⟨by first | exact e.frames | (simpa [Around.under, Code.envs, Code.isFrame, pushEnvs] using e.frames), e.mod, e.bs, e.bsz, e.funs, e.frf, e.hok, e.bare⟩
theorem Env0.in1 {P : Program} {w : World} {K : PySem.W.Frag} {mg : Str → Option Value} {base : Heap} {A : Around} {outer : List Env} {s : Shared} {H : Hp} (e : Env0 P w K mg base A outer s H) :
    Env0 P w K mg base A.in1 outer s H := ⟨e.frames, e.mod, e.bs, e.bsz, e.funs, e.frf, e.hok, e.bare⟩
section
variable {X : Cx} {pins : List (Addr × Obj)} {σ : St} {H : Hp} {s s' : Shared}
theorem Inv.env0 (I : Inv X pins σ H s) : Env0 X.prog X.w X.K X.mg X.base X.A X.stack s H :=
  ⟨I.ok.frames, I.ok.mod, I.bs, Nat.le_trans I.ok.bsz I.sz, I.stack, I.stkFree, I.hok, I.bare⟩
theorem Inv.after {Q : VK} {u : Value} (I : Inv X pins σ H s) (h : CE X.stack X.prog X.w H s Q u s') : EP X pins σ Q u s' := by
  obtain ⟨v, H', os, bare, un, hok, r, q⟩ := h
  obtain ⟨hh, g, d, t, os'⟩ := s'
  obtain rfl : os' = s.os := os
  exact ⟨v, H', I.call (h' := hh) (g' := g) (d' := d) (t' := t) (ch := []) un hok bare (fun b z => absurd z (by simp)), r, q⟩
end
def tCall (sp : Sp) (dvs : List V) (E : XK) (t : TA) : TE := fun σ H Q => t σ H fun vs H1 => sp (vs ++ dvs) H1 Q E
def tMeth (C : Addr) (m : Str) (sp : Sp) (dvs : List V) (E : XK) (ta : TE) (t : TA) : TE := fun σ H Q => ta σ H fun x H1 => ∃ a dx fs, x = .ref a ∧ H1 a = some (.ins C dx fs) ∧ fs.lookup m = none ∧
  t σ H1 fun vs H2 => sp (x :: (vs ++ dvs)) H2 Q E
def tMake (C : Addr) (sp : Sp) (dvs : List V) (E : XK) (t : TA) : TE := fun σ H Q => t σ H fun vs H1 => ∀ x dx, H1 x = none → H1 dx = none → dx ≠ x →
  sp (.ref x :: (vs ++ dvs)) (upd (upd H1 dx (.own x)) x (.ins C dx [])) (fun v H2 => v = .non ∧ Q (.ref x) H2) E
def Binds (K : PySem.W.Frag) (fd : FuncData) (ps : List Str) (ds : List Value) : Prop :=
  ∀ (s : Shared) (us : List Value), K.In s.heap → (us ++ ds).length = ps.length → BindsTo s fd ⟨us, []⟩ (ps.zip (us ++ ds))
theorem Binds.all {K : PySem.W.Frag} {fd : FuncData} {ps : List Str} (h : ∀ us : List Value, us.length = ps.length → bindArgs fd ⟨us, []⟩ = pure (ps.zip us)) : Binds K fd ps [] := fun s us _ hl => by
  rw [List.append_nil] at hl ⊢
  exact .of_eq (h us hl)
def Passes (CX : CXT) (X : Cx) (E : XK) : Prop := ∀ (pins : List (Addr × Obj)) (σ : St) (H : Hp) (s : Shared) (e : Value) (s' : Shared), Inv X pins σ H s → CX X.stack H s E e s' → X.xe e s'
section
variable {X : Cx} {CX : CXT} {k : Nat} {f C : Addr} {fd : FuncData} {ps : List Str} {sp : Sp} {dvs : List V} {ds : List Value} {E : XK} {x m : Str} {p pos apos : Pos} {e o : Expr} {es : List Expr} {ta : TE} {t : TA}
theorem run_fn {pins : List (Addr × Obj)} {σ : St} {H : Hp} {s : Shared} {Q : VK} {us : List Value} {vs : List V} (F : FnOk X.prog X.w X.K X.mg X.base CX k f fd ps sp) (hr : Room k X.A) (hb : Binds X.K fd ps ds) (hd : Vals dvs ds) (hx : Passes CX X E)
    (I : Inv X pins σ H s) (r : Vals vs us) (h : sp (vs ++ dvs) H Q E) : wpAny (model X.prog X.w) X.A (call (.ref f) us) (EP X pins σ Q) X.xe s := by
  have r2 : Vals (vs ++ dvs) (us ++ ds) := r.append hd
  have hl : (us ++ ds).length = ps.length := by rw [← r2.length]; exact F.len _ _ _ _ h
  refine wpAny_call (codeAny_mono (F.run X.A X.stack s H ⟨us, []⟩ (us ++ ds) (vs ++ dvs) Q E hr I.env0 (hb s us I.kIn hl) r2 h) fun r s' hq => ?_)
  cases r with
  | error e => exact hx pins σ H s e s' I hq
  | ok fl =>
    cases fl with
    | ret u => exact I.after hq
    | next => exact False.elim hq
    | brk => exact False.elim hq
    | cont => exact False.elim hq
theorem pe_call (F : FnOk X.prog X.w X.K X.mg X.base CX k f fd ps sp) (hr : Room k X.A) (hg : Gl X x) (hm : X.mg x = some (.ref f)) (hk : PySem.W.keepIn X.K (.ref f) = true) (hb : Binds X.K fd ps ds) (hd : Vals dvs ds) (hx : Passes CX X E)
    (ha : PA X (e :: es) t) (hdb : (x == ("__debug__" : Str)) = false := by decide) (he : starEach (e :: es) X.env = (false, eval e X.env) :: starEach es X.env := by rfl) (hpl : (backTo pos (starEach es X.env)).any (·.1) = false := by rfl) :
    PE X (.Call (.Name x p) (e :: es) [] pos) (tCall sp dvs E t) := by
  intro pins s σ H Q I h
  refine wpAny_Call_Name_kw (ld_glob I hg hm ?_ hdb)
  refine PySem.W.callWith_K (h₀ := X.base) I.ok.mod.kin hk (thn (ha pos pins s σ H _ I h) fun us s1 ⟨vs, H1, I1, r, q⟩ => ⟨I1.kIn, ?_⟩) he hpl
  exact run_fn F hr hb hd hx I1 r q
structure Mk (K : PySem.W.Frag) (C f : Addr) : Prop where
  makes : PySem.W.makesIn K C = true
  init : PySem.W.findIn K (.ref C) "__init__" = some (some (.ref f))
  fn : PySem.W.isFn K (.ref f) = true
  kp : PySem.W.keepIn K (.ref C) = true
theorem run_make {pins : List (Addr × Obj)} {σ : St} {H : Hp} {s : Shared} {Q : VK} {us : List Value} {vs : List V} (M : Mk X.K C f) (F : FnOk X.prog X.w X.K X.mg X.base CX k f fd ps sp) (hr : Room (k + 1) X.A) (hb : Binds X.K fd ps ds) (hd : Vals dvs ds)
    (hx : Passes CX X E) (I : Inv X pins σ H s) (r : Vals vs us)
    (h : ∀ x dx, H x = none → H dx = none → dx ≠ x → sp (.ref x :: (vs ++ dvs)) (upd (upd H dx (.own x)) x (.ins C dx [])) (fun v H2 => v = .non ∧ Q (.ref x) H2) E) :
    wpAny (model X.prog X.w) X.A (call (.ref C) us) (EP X pins σ Q) X.xe s := by
  have hq := h (s.heap.objs.size + 1) s.heap.objs.size (I.hok.fresh (Nat.le_succ _)) (I.hok.fresh (Nat.le_refl _)) (Nat.ne_of_lt (Nat.lt_succ_self _))
  have I2 := Inv.made (C := C) I
  have r2 : Vals (V.ref (s.heap.objs.size + 1) :: (vs ++ dvs)) (Value.ref (s.heap.objs.size + 1) :: (us ++ ds)) := .cons rfl (r.append hd)
  have hl : (Value.ref (s.heap.objs.size + 1) :: us ++ ds).length = ps.length := by
    have e := r2.length
    rw [F.len _ _ _ _ hq] at e
    exact e.symm
  refine wpAny_call (make_map (f := f) I.kIn M.makes M.init (beq_iff_eq.mp M.fn) (codeAny_mono (F.run _ X.stack _ _ ⟨Value.ref (s.heap.objs.size + 1) :: us, []⟩ (Value.ref (s.heap.objs.size + 1) :: (us ++ ds)) _ _ E (hr.make C us [])
    (I2.env0.make C us []) (hb _ (Value.ref (s.heap.objs.size + 1) :: us) I2.kIn hl) r2 hq) fun r s' hq' => ?_))
  cases r with
  | error e => exact hx pins σ _ _ e s' I2 hq'
  | ok fl =>
    cases fl with
    | ret u =>
      obtain ⟨v, H', I3, rv, ev, q3⟩ := I2.after hq'
      subst ev
      exact ⟨rv, ⟨V.ref (s.heap.objs.size + 1), H', I3, rfl, q3⟩⟩
    | next => exact False.elim hq'
    | brk => exact False.elim hq'
    | cont => exact False.elim hq'
theorem pe_make (M : Mk X.K C f) (F : FnOk X.prog X.w X.K X.mg X.base CX k f fd ps sp) (hr : Room (k + 1) X.A) (hg : Gl X x) (hm : X.mg x = some (.ref C)) (hb : Binds X.K fd ps ds) (hd : Vals dvs ds) (hx : Passes CX X E)
    (ha : PA X (e :: es) t) (hdb : (x == ("__debug__" : Str)) = false := by decide) (he : starEach (e :: es) X.env = (false, eval e X.env) :: starEach es X.env := by rfl) (hpl : (backTo pos (starEach es X.env)).any (·.1) = false := by rfl) :
    PE X (.Call (.Name x p) (e :: es) [] pos) (tMake C sp dvs E t) := by
  intro pins s σ H Q I h
  refine wpAny_Call_Name_kw (ld_glob I hg hm ?_ hdb)
  refine PySem.W.callWith_K (h₀ := X.base) I.ok.mod.kin M.kp (thn (ha pos pins s σ H _ I h) fun us s1 ⟨vs, H1, I1, r, q⟩ => ⟨I1.kIn, ?_⟩) he hpl
  exact run_make M F hr hb hd hx I1 r q
end
def PK (X : Cx) (kws : List Keyword) (t : TA) : Prop :=
  ∀ (pos : Pos) (pins : List (Addr × Obj)) (s : Shared) (σ : St) (H : Hp) (Q : List V → Hp → Prop), Inv X pins σ H s → t σ H Q → wpAny (model X.prog X.w) X.A (evalAll ((backToKw pos (keywordEach kws X.env)).map (·.2))) (AP X pins σ Q) X.xe s
section
variable {X : Cx} {CX : CXT} {k : Nat} {f C : Addr} {fd : FuncData} {ps ks : List Str} {sp : Sp} {E : XK} {x m : Str} {p pos apos kpos : Pos} {e o : Expr} {es : List Expr} {kws : List Keyword} {te ta : TE} {t tk : TA} {nm : Option Str}
structure KBinds (K : PySem.W.Frag) (fd : FuncData) (ps ks : List Str) (g : List Value → List Value → List Value) (gV : List V → List V → List V) : Prop where
  to : ∀ (s : Shared) (us ws : List Value), K.In s.heap → (g us ws).length = ps.length → BindsTo s fd ⟨us, ks.zip ws⟩ (ps.zip (g us ws))
  rel : ∀ {vs : List V} {us : List Value} {zs : List V} {ws : List Value}, Vals vs us → Vals zs ws → Vals (gV vs zs) (g us ws)
def tCallK (sp : Sp) (gV : List V → List V → List V) (E : XK) (t tk : TA) : TE := fun σ H Q => t σ H fun vs H1 => tk σ H1 fun zs H2 => sp (gV vs zs) H2 Q E
variable {g : List Value → List Value → List Value} {gV : List V → List V → List V}
end
structure FnScope (N P : List Str) (sc : Scope) : Prop where
  kind : sc.kind = .function
  co : sc.isCoroutine = false
  gen : sc.isGenerator = false
  nd : N.Nodup
  pre : N.take P.length = P
  par : ∀ x ∈ P, sc.names.lookup x = some .local ∨ sc.names.lookup x = some .cell
  nofree : ∀ y ∈ sc.names, y.2 ≠ .free
theorem bindL_out {kindOf : Str → Option NameKind} {x : Str} : ∀ {binds : List (Str × Value)} {m : Str → Option Value}, (∀ v, (x, v) ∉ binds) → bindL kindOf binds m x = m x
  | [], _, _ => rfl
  | (n, v) :: r, m, h => by
    unfold bindL
    rw [bindL_out fun w hw => h w (List.mem_cons_of_mem _ hw)]
    split
    · have : x ≠ n := by rintro rfl; exact h v List.mem_cons_self
      simp [this]
    · rfl
theorem bindC_out {kindOf : Str → Option NameKind} {x : Str} : ∀ {binds : List (Str × Value)} {m : Str → Option Value}, (∀ v, (x, v) ∉ binds) → bindC kindOf binds m x = m x
  | [], _, _ => rfl
  | (n, v) :: r, m, h => by
    unfold bindC
    rw [bindC_out fun w hw => h w (List.mem_cons_of_mem _ hw)]
    split
    · rfl
    · have : x ≠ n := by rintro rfl; exact h v List.mem_cons_self
      simp [this]
theorem bindL_get {kindOf : Str → Option NameKind} {x : Str} {v : Value} : ∀ {P : List Str} {vs : List Value} {i : Nat} {m : Str → Option Value}, P.Nodup → P[i]? = some x → vs[i]? = some v → kindOf x = some .local →
    bindL kindOf (P.zip vs) m x = some v
  | [], _, _, _, _, h, _, _ => by simp at h
  | _ :: _, [], _, _, _, _, h, _ => by simp at h
  | p :: P, w :: vs, 0, m, nd, h1, h2, hk => by
    simp at h1 h2; subst h1; subst h2
    show bindL kindOf ((p, w) :: P.zip vs) m p = _
    unfold bindL
    rw [bindL_out fun v hv => (List.nodup_cons.mp nd).1 (List.of_mem_zip hv).1, if_pos hk]
    simp
  | p :: P, w :: vs, i + 1, m, nd, h1, h2, hk => by
    show bindL kindOf ((p, w) :: P.zip vs) m x = _
    unfold bindL
    exact bindL_get (i := i) (List.nodup_cons.mp nd).2 (by simpa using h1) (by simpa using h2) hk
theorem bindC_get {kindOf : Str → Option NameKind} {x : Str} {v : Value} : ∀ {P : List Str} {vs : List Value} {i : Nat} {m : Str → Option Value}, P.Nodup → P[i]? = some x → vs[i]? = some v → kindOf x ≠ some .local →
    bindC kindOf (P.zip vs) m x = some v
  | [], _, _, _, _, h, _, _ => by simp at h
  | _ :: _, [], _, _, _, _, h, _ => by simp at h
  | p :: P, w :: vs, 0, m, nd, h1, h2, hk => by
    simp at h1 h2; subst h1; subst h2
    show bindC kindOf ((p, w) :: P.zip vs) m p = _
    unfold bindC
    rw [bindC_out fun v hv => (List.nodup_cons.mp nd).1 (List.of_mem_zip hv).1, if_neg hk]
    simp
  | p :: P, w :: vs, i + 1, m, nd, h1, h2, hk => by
    show bindC kindOf ((p, w) :: P.zip vs) m x = _
    unfold bindC
    exact bindC_get (i := i) (List.nodup_cons.mp nd).2 (by simpa using h1) (by simpa using h2) hk
def start (N : List Str) (vs : List V) : St := vs.map some ++ List.replicate (N.length - vs.length) none
def cxOf (CX : CXT) (P : Program) (w : World) (K : PySem.W.Frag) (mg : Str → Option Value) (base : Heap) (N : List Str) (qual : Str) (scope : Scope) (f : Addr) (cd : Value) (A : Around) (outer : List Env) (s : Shared) (H : Hp) (E : XK) : Cx where
  prog := P
  w := w
  K := K
  mg := mg
  base := base
  A := A.deeper (envOfC qual scope s.heap.objs.size f cd)
  N := N
  s₀ := s
  H₀ := H
  env := envOfC qual scope s.heap.objs.size f cd
  outer := outer
  stack := envOfC qual scope s.heap.objs.size f cd :: outer
  ex := []
  calm := true
  fn := fun _ => true
  pn := []
  xe := fun e s' => wpAny (model P w) (A.deeper (envOfC qual scope s.heap.objs.size f cd)) (leaving (envOfC qual scope s.heap.objs.size f cd) e) (fun _ s'' => CX outer H s E e s'') (fun e' s'' => CX outer H s E e' s'') s'
theorem cell_has {sc : Scope} {n : Nat} {x : Str} (h : sc.names.lookup x = some .cell) : ∃ c, (cellsFrom n sc.names []).lookup x = some c := by
  have q := PySem.W.cellsFrom_some sc.names n [] (.inl h)
  exact Option.isSome_iff_exists.mp q
theorem inv_start {CX : CXT} {P : Program} {w : World} {K : PySem.W.Frag} {mg : Str → Option Value} {base : Heap} {N ps : List Str} {qual : Str} {scope : Scope} {f : Addr} {cd : Value} {A : Around} {outer : List Env} {s s1 : Shared} {H : Hp} {E : XK} {us : List Value} {vs : List V}
    (S : FnScope N ps scope) (hd : A.handled = none) (e0 : Env0 P w K mg base A outer s H) (hl : vs.length = ps.length) (r : Vals vs us)
    (x : InCallC s s.heap.objs.size (bindL (envOfC qual scope s.heap.objs.size f cd).kindOf (ps.zip us) fun _ => none) (cellsFrom (s.heap.objs.size + 1) scope.names []) (bindC (envOfC qual scope s.heap.objs.size f cd).kindOf (ps.zip us) fun _ => none) s1) :
    Inv (cxOf CX P w K mg base N qual scope f cd A outer s H E) [] (start N vs) H s1 := by
  have hpl : ps.length ≤ N.length := by have := congrArg List.length S.pre; rw [List.length_take] at this; omega
  obtain ⟨h1, tk, rfl, hk⟩ := x.done
  have noA : ∀ b : Addr, b ∉ (cxOf CX P w K mg base N qual scope f cd A outer s H E).ex := fun b z => absurd (show b ∈ ([] : List Addr) from z) (by simp)
  refine ⟨⟨e0.mod, S.kind, rfl, rfl, Nat.le_refl _, fun y z c h1 h2 => ?_, fun y hy => ?_, fun y c _ h => ?_, fun _ => hd, Around.frames_deeper e0.frames, .inr ⟨rfl, rfl⟩, fun b z => absurd z (noA b), e0.bs, e0.bsz, fun b _ _ => noA b, fun b z => absurd z (noA b), e0.funs, e0.frf⟩,
    rfl, e0.bare, Un.kept hk, ⟨_, x.toInCall.ns, fun i y v h1 h2 h3 => ?_⟩, fun y c h => ⟨_, x.cell y c h⟩, e0.hok.fresh (Nat.le_refl _), fun y c h => ?_, fun p hp => absurd (show p ∈ ([] : List (Addr × Obj)) from hp) (by simp), e0.hok.kept hk, ?_⟩
  · exact name_of_addr x.apart (PySem.mem_of_lookup h1) (PySem.mem_of_lookup h2)
  · have hy : scope.names.lookup y = some .cell ∨ scope.names.lookup y = some .free := hy
    rcases hy with hy | hy
    · exact cell_has hy
    · exact absurd rfl (S.nofree _ (PySem.mem_of_lookup hy))
  · exact Nat.le_of_lt (x.above y c (PySem.mem_of_lookup h))
  · have hi : i < vs.length := by
      unfold start at h2
      by_cases hi : i < vs.length
      · exact hi
      · rw [List.getElem?_append_right (by simpa using hi)] at h2
        rw [List.getElem?_replicate] at h2
        split at h2 <;> cases h2
    have ha : vs[i]? = some v := by
      unfold start at h2
      rw [List.getElem?_append_left (by simpa using hi), List.getElem?_map] at h2
      cases e : vs[i]? with
      | none => rw [e] at h2; cases h2
      | some a => rw [e] at h2; cases h2; rfl
    obtain ⟨u, hu, rv⟩ := r.get ha
    have hp : ps[i]? = some y := by
      rw [← S.pre, List.getElem?_take_of_lt (by omega)]; exact h1
    have ndP : ps.Nodup := by rw [← S.pre]; exact S.nd.sublist (List.take_sublist _ _)
    refine ⟨u, rv, ?_⟩
    rcases S.par y (List.mem_of_getElem? hp) with k | k
    · exact .inl ⟨k, bindL_get ndP hp hu k⟩
    · obtain ⟨c, e⟩ := cell_has (n := s.heap.objs.size + 1) k
      refine .inr ⟨.inl k, c, e, ?_⟩
      have q := x.cell y c e
      rw [bindC_get ndP hp hu (by show scope.names.lookup y ≠ _; rw [k]; decide)] at q
      exact q
  · exact e0.hok.fresh (Nat.le_of_lt (x.above y c (PySem.mem_of_lookup h)))
  · unfold start
    show _ = N.length
    rw [List.length_append, List.length_map, List.length_replicate]
    omega
theorem fn_of {CX : CXT} {P : Program} {w : World} {K : PySem.W.Frag} {mg : Str → Option Value} {base : Heap} {k : Nat} {f : Addr} {name qual : Str} {params : Arguments} {body : List Stmt} {scope : Scope} {dV kV doc pm cdv ct oc : Value} {an od : Option Addr}
    {osl : Array (Option Value)} {N ps : List Str} {sp : Sp} (lk : K.lookup f = some ⟨oc, od, .func (PySem.W.fnOf name qual params body scope dV kV doc pm an cdv ct), osl⟩) (hcd : PySem.W.codeIn K cdv qual = true) (S : FnScope N ps scope)
    (len : ∀ vs H Q E, sp vs H Q E → vs.length = ps.length)
    (hbody : ∀ (A : Around) (outer : List Env) (s : Shared) (H : Hp) (vs : List V) (Q : VK) (E : XK), Room k (A.deeper (envOfC qual scope s.heap.objs.size f cdv)) → sp vs H Q E →
      ∃ t, PSs (cxOf CX P w K mg base N qual scope f cdv A outer s H E) body t ∧ t { nx := fun _ H' => Q .non H', rt := Q } (start N vs) H) :
    FnOk P w K mg base CX (k + 1) f (PySem.W.fnOf name qual params body scope dV kV doc pm an cdv ct) ps sp := by
  refine ⟨len, fun A outer s H args us vs Q E hr e0 hb r hsp => ?_⟩
  have hl := len _ _ _ _ hsp
  have KX : K.In s.heap := e0.mod.kin.keeps fun b o e => (e0.bs b o e).1
  have lim : s.heap.NoLimit := e0.mod.nolimit.keeps fun b o e => (e0.bs b o e).1
  have hkind : ∀ y ∈ ps.zip us, scope.names.lookup y.1 = some .local ∨ (scope.names.lookup y.1 = some .cell ∧ ((cellsFrom (s.heap.objs.size + 1) scope.names []).lookup y.1).isSome = true) := fun ⟨n, v⟩ hy => by
    rcases S.par n (List.of_mem_zip hy).1 with q | q
    · exact .inl q
    · exact .inr ⟨q, PySem.W.cellsFrom_some _ _ _ (.inl q)⟩
  refine codeAny_call_function hr.depth (KX _ _ lk) rfl S.co S.gen rfl (PySem.W.codeRec_of KX hcd) (hb _ _ _ _ ?_)
  refine wpAny_newFunctionEnv_cells S.kind hkind fun env he s1 x => ?_
  subst he
  refine ⟨lim.keeps x.toInCall.keep, codeAny_func ?_⟩
  obtain ⟨t, ht, hq⟩ := hbody A outer s H vs Q E (hr.deeper _) hsp
  have I : Inv (cxOf CX P w K mg base N qual scope f cdv A outer s H E) [] (start N vs) H s1 := inv_start S hr.hd e0 hl r x
  refine wpAny_mono (ht [] s1 (start N vs) H _ I hq) (fun fl s' hs => ?_) fun e s' hs => hs
  have fin : ∀ {σ' : St} {H' : Hp} {v : V} {u : Value}, Inv (cxOf CX P w K mg base N qual scope f cdv A outer s H E) [] σ' H' s' → RelV v u → Q v H' → CE outer P w H s Q u s' :=
    fun {σ' H' v u} J rv q => ⟨v, H', J.os, J.bare, J.base, J.hok, rv, q⟩
  cases fl with
  | ret u =>
    obtain ⟨v, σ', H', J, rv, q⟩ := hs
    exact fin J rv q
  | next =>
    obtain ⟨σ', H', J, q⟩ := hs
    exact fin (v := V.non) (u := Value.none) J rfl q
  | brk =>
    obtain ⟨_, _, _, q⟩ := hs
    exact False.elim q
  | cont =>
    obtain ⟨_, _, _, q⟩ := hs
    exact False.elim q
end L2
namespace L2
open PySem PySem.Spec PyProof.Rows
section
variable {X : Cx} {x : Str} {p pos : Pos} {e : Expr} {es : List Expr} {t : TA} {id T : String} {r : List V → Hp → VK → Prop}
def tCB (r : List V → Hp → VK → Prop) (t : TA) : TE := fun σ H Q => t σ H fun vs H1 => r vs H1 Q
theorem pe_callB (hc : CallR X (.builtin id) r) (hg : Gl X x) (hm : X.mg x = none) (hv : bootBuiltins x = some (.builtin id)) (ha : PA X (e :: es) t) (hn : x ≠ "__name__" := by decide) (hdb : (x == ("__debug__" : Str)) = false := by decide)
    (he : starEach (e :: es) X.env = (false, eval e X.env) :: starEach es X.env := by rfl) (hpl : (backTo pos (starEach es X.env)).any (·.1) = false := by rfl) : PE X (.Call (.Name x p) (e :: es) [] pos) (tCB r t) := by
  intro pins s σ H Q I h
  refine wpAny_Call_Name_kw (ld_blt I hg hm hv ?_ hn hdb)
  exact PyProof.Rows.callWith_builtin1 (thn (ha pos pins s σ H _ I h) fun us s1 ⟨vs, H1, I1, r1, q1⟩ => hc pins s1 σ H1 vs us Q I1 r1 q1) he hpl
theorem pe_callTy (hc : CallR X (.type T) r) (hg : Gl X x) (hm : X.mg x = none) (hv : bootBuiltins x = some (.type T)) (ha : PA X (e :: es) t) (hn : x ≠ "__name__" := by decide) (hdb : (x == ("__debug__" : Str)) = false := by decide)
    (he : starEach (e :: es) X.env = (false, eval e X.env) :: starEach es X.env := by rfl) (hpl : (backTo pos (starEach es X.env)).any (·.1) = false := by rfl) : PE X (.Call (.Name x p) (e :: es) [] pos) (tCB r t) := by
  intro pins s σ H Q I h
  refine wpAny_Call_Name_kw (ld_blt I hg hm hv ?_ hn hdb)
  exact PyProof.Rows.callWith_type1 (thn (ha pos pins s σ H _ I h) fun us s1 ⟨vs, H1, I1, r1, q1⟩ => hc pins s1 σ H1 vs us Q I1 r1 q1) he hpl
end
end L2
namespace HT
open PySem PyProof.Rows
def lexLt : List Int → List Int → Bool
  | [], [] => false
  | [], _ :: _ => true
  | _ :: _, [] => false
  | x :: xs, y :: ys => if x = y then lexLt xs ys else decide (x < y)
section
open PySem.SeqAt
open PySem.AutoSeq1 (wpAny_loadPart')
open PySem.MeetsSeq PySem.MeetsSeq2 PySem.MeetsSeq3
end
section
variable {prog : Program} {w : World} {A : Around} {E : Value → Shared → Prop} {s : Shared}
def sIx (n d : Nat) : Option Int → Nat
  | none => d
  | some v => if v < 0 then (v + (n : Int)).toNat else min v.toNat n
theorem sIx_le (n d : Nat) (hd : d ≤ n) (o : Option Int) : sIx n d o ≤ n := by
  cases o with
  | none => exact hd
  | some v =>
    show (if v < 0 then (v + (n : Int)).toNat else min v.toNat n) ≤ n
    by_cases hv : v < 0
    · rw [if_pos hv]; omega
    · rw [if_neg hv]; exact Nat.min_le_right _ _
end
end HT
namespace L2
open PySem PySem.Spec PyProof.Rows
abbrev TO := St → Hp → (Option Int → Hp → Prop) → Prop
def PO (X : Cx) (e : Option Expr) (t : TO) : Prop :=
  ∀ (pins : List (Addr × Obj)) (s : Shared) (σ : St) (H : Hp) (Q : Option Int → Hp → Prop), Inv X pins σ H s → t σ H Q →
    wpAny (model X.prog X.w) X.A (evalPart e X.env) (fun u s' => ∃ o H', Inv X pins σ H' s' ∧ IsPart u o ∧ Q o H') X.xe s
def tNoPart : TO := fun _ H Q => Q none H
def tPart (t : TE) : TO := fun σ H Q => t σ H fun x H1 => ∃ i, x = .int i ∧ Q (some i) H1
theorem intsAre_of {ns : List Int} : ∀ {us : List Value}, Vals (ns.map V.int) us → IntsAre us ns := by
  induction ns with
  | nil => intro us r; rw [List.map_nil] at r; cases r; exact .nil
  | cons n ns ih =>
    intro us r
    rw [List.map_cons] at r
    cases r with
    | cons r1 r2 =>
      obtain ⟨t, e⟩ := r1
      subst e
      exact .cons n t (ih r2)
section
variable {X : Cx} {e : Expr} {te : TE} {lo hi : Option Expr} {tl th : TO} {pos p2 : Pos}
theorem po_none : PO X none tNoPart := by
  intro pins s σ H Q I h
  rw [evalPart_none]
  exact wpAny_pure ⟨none, H, I, .none, h⟩
def SlR (X : Cx) (r : V → Option Int → Option Int → Hp → VK → Prop) : Prop :=
  ∀ (pins : List (Addr × Obj)) (s : Shared) (σ : St) (H : Hp) (x : V) (v vl vu : Value) (lo hi : Option Int) (sl : Addr) (Q : VK), Inv X pins σ H s → RelV x v → s.heap.IsSliceOf sl vl vu .none → IsPart vl lo → IsPart vu hi → r x lo hi H Q →
    ∃ T id, typeLookup (.type T) "__getitem__" = pure (some (.builtin id)) ∧ s.TypeIs v T ∧ wpAny (model X.prog X.w) X.A (getItem v (.ref sl)) (EP X pins σ Q) X.xe s
theorem SlR.or {r r' : V → Option Int → Option Int → Hp → VK → Prop} (h : SlR X r) (h' : SlR X r') : SlR X (fun x lo hi H Q => r x lo hi H Q ∨ r' x lo hi H Q) := by
  intro pins s σ H x v vl vu lo hi sl Q I rx hs pl pu q
  rcases q with q | q
  · exact h pins s σ H x v vl vu lo hi sl Q I rx hs pl pu q
  · exact h' pins s σ H x v vl vu lo hi sl Q I rx hs pl pu q
def tSl (r : V → Option Int → Option Int → Hp → VK → Prop) (te : TE) (tl th : TO) : TE := fun σ H Q => te σ H fun x H1 => tl σ H1 fun l H2 => th σ H2 fun u H3 => r x l u H3 Q
theorem pe_slice {r : V → Option Int → Option Int → Hp → VK → Prop} (hr : SlR X r) (he : PE X e te) (hl : PO X lo tl) (hu : PO X hi th) : PE X (.Subscript e (.Slice lo hi none p2) pos) (tSl r te tl th) := by
  intro pins s σ H Q I h
  refine Subscript_ (thn (he pins s σ H _ I h) fun v s1 ⟨x, H1, I1, r1, q1⟩ => ?_)
  refine wpAny_Slice (thn (hl pins s1 σ H1 _ I1 q1) fun vl s2 ⟨l, H2, I2, pl, q2⟩ => thn (hu pins s2 σ H2 _ I2 q2) fun vu s3 ⟨u, H3, I3, pu, q3⟩ => ?_)
  rw [evalPart_none]
  refine wpAny_pure ?_
  have I4 : Inv X pins σ H3 { s3 with heap := s3.heap.push { cls := .type "slice", data := .fields #[vl, vu, .none] } } := I3.kept (t' := s3.toks) fun b ob q => Heap.get?_push_of_some _ q
  obtain ⟨T, id, hT, ht, hg⟩ := hr pins { s3 with heap := s3.heap.push { cls := .type "slice", data := .fields #[vl, vu, .none] } } σ H3 x v vl vu l u s3.heap.objs.size Q I4 r1 (Heap.IsSliceOf.new ..) pl pu q3
  show wpAny (model X.prog X.w) X.A (subscriptTail e (.Slice lo hi none p2) v (.ref s3.heap.objs.size)) (EP X pins σ Q) X.xe { s3 with heap := s3.heap.push { cls := .type "slice", data := .fields #[vl, vu, .none] } }
  exact tail_any (ops := [.ref s3.heap.objs.size, v]) ht hT hg (by with_unfolding_all rfl)
def cutV (xs : List V) (lo hi : Option Int) : List V := (xs.drop (HT.sIx xs.length 0 lo)).take (HT.sIx xs.length xs.length hi - HT.sIx xs.length 0 lo)
theorem cutV_length (xs : List V) (lo hi : Option Int) : (cutV xs lo hi).length ≤ xs.length := by
  unfold cutV
  rw [List.length_take, List.length_drop]
  omega
def rSlT (K : PySem.W.Frag) : V → Option Int → Option Int → Hp → VK → Prop := fun x lo hi H Q => ∃ a xs, x = .ref a ∧ SqT K H a xs ∧
  ¬ (HT.sIx xs.length 0 lo = 0 ∧ HT.sIx xs.length xs.length hi = xs.length) ∧ ∀ p, H p = none → Q (.ref p) (upd H p (.tup (cutV xs lo hi)))
def rLtT (K : PySem.W.Frag) : R2 := fun x y H Q => ∃ a b ns ms, x = .ref a ∧ y = .ref b ∧ SqT K H a (ns.map V.int) ∧ SqT K H b (ms.map V.int) ∧ Q (.bl (HT.lexLt ns ms)) H
def rCatT (K : PySem.W.Frag) : R2 := fun x y H Q => ∃ a b xs ys, x = .ref a ∧ y = .ref b ∧ SqT K H a xs ∧ SqT K H b ys ∧ xs ≠ [] ∧ xs.length + ys.length ≤ sizeLine ∧
  (ys = [] → Q (.ref a) H) ∧ (ys ≠ [] → ∀ p, H p = none → Q (.ref p) (upd H p (.tup (xs ++ ys))))
end
end L2
namespace L2
open PySem PySem.Spec PyProof.Rows
def ixN (n : Nat) (i : Int) : Option Nat := if 0 ≤ i then (if i < n then some i.toNat else none) else if -(n : Int) ≤ i then some (i + n).toNat else none
def atI {α : Type} (xs : List α) (i : Int) : Option α := (ixN xs.length i).bind fun j => xs[j]?
theorem ixN_seq {n : Nat} {i : Int} {j : Nat} (h : ixN n i = some j) : seqIndex? i n = some j ∧ j < n ∧ -(n : Int) ≤ i ∧ i < n := by
  unfold ixN at h
  by_cases h0 : 0 ≤ i
  · rw [if_pos h0] at h
    by_cases h1 : i < n
    · rw [if_pos h1] at h
      have e : i.toNat = j := Option.some.inj h
      exact ⟨by rw [seqIndex_of h0 h1, e], by omega, by omega, h1⟩
    · rw [if_neg h1] at h; cases h
  · rw [if_neg h0] at h
    by_cases h1 : -(n : Int) ≤ i
    · rw [if_pos h1] at h
      have e : (i + n).toNat = j := Option.some.inj h
      exact ⟨by rw [seqIndex_neg (by omega) h1, e], by omega, h1, by omega⟩
    · rw [if_neg h1] at h; cases h
theorem atI_get {α : Type} {xs : List α} {i : Int} {v : α} (h : atI xs i = some v) : ∃ j, seqIndex? i xs.length = some j ∧ xs[j]? = some v ∧ j < xs.length ∧ -(xs.length : Int) ≤ i ∧ i < xs.length := by
  unfold atI at h
  cases e : ixN xs.length i with
  | none => rw [e] at h; cases h
  | some j =>
    rw [e] at h
    obtain ⟨h1, h2, h3, h4⟩ := ixN_seq e
    exact ⟨j, h1, h, h2, h3, h4⟩
theorem atI_nat {α : Type} {xs : List α} {j : Nat} {v : α} (h : xs[j]? = some v) : atI xs (j : Int) = some v := by
  have hj : j < xs.length := (List.getElem?_eq_some_iff.mp h).1
  have e : ixN xs.length (j : Int) = some j := by
    unfold ixN
    rw [if_pos (by omega), if_pos (by omega)]; simp
  unfold atI; rw [e]; exact h
theorem atI_last {α : Type} (xs : List α) (v : α) : atI (xs ++ [v]) (-1) = some v := by
  have hl : (xs ++ [v]).length = xs.length + 1 := by simp
  have e : ixN (xs ++ [v]).length (-1) = some xs.length := by
    unfold ixN
    rw [hl, if_neg (by decide), if_pos (by omega)]
    congr 1
    omega
  unfold atI
  rw [e]
  show (xs ++ [v])[xs.length]? = some v
  simp
def PlainIx (b : Expr) : Prop := ∀ o i, subscripted b false o i = operate [o, i] (getItem o i)
def IxR (X : Cx) (r : R2) : Prop :=
  ∀ (value slice : Expr) (pins : List (Addr × Obj)) (s : Shared) (σ : St) (H : Hp) (x y : V) (v u : Value) (Q : VK), Inv X pins σ H s → RelV x v → RelV y u → r x y H Q →
    subscripted slice false v u = operate [v, u] (getItem v u) → wpAny (model X.prog X.w) X.A (subscriptTail value slice v u) (EP X pins σ Q) X.xe s
def MtR (X : Cx) (id : String) (r : V → List V → Hp → VK → Prop) : Prop :=
  ∀ (pins : List (Addr × Obj)) (s : Shared) (σ : St) (H : Hp) (x : V) (xs : List V) (v : Value) (us : List Value) (Q : VK), Inv X pins σ H s → RelV x v → Vals xs us → r x xs H Q →
    wpAny (model X.prog X.w) X.A (call (.builtin id) (v :: us)) (EP X pins σ Q) X.xe s
section
variable {X : Cx} {a b : Expr} {ta tb : TE} {pos : Pos}
theorem IxR.or {r r' : R2} (h : IxR X r) (h' : IxR X r') : IxR X (fun x y H Q => r x y H Q ∨ r' x y H Q) := by
  intro value slice pins s σ H x y v u Q I rx ry q hs
  rcases q with q | q
  · exact h value slice pins s σ H x y v u Q I rx ry q hs
  · exact h' value slice pins s σ H x y v u Q I rx ry q hs
theorem MtR.or {id : String} {r r' : V → List V → Hp → VK → Prop} (h : MtR X id r) (h' : MtR X id r') : MtR X id (fun x xs H Q => r x xs H Q ∨ r' x xs H Q) := by
  intro pins s σ H x xs v us Q I rx rs q
  rcases q with q | q
  · exact h pins s σ H x xs v us Q I rx rs q
  · exact h' pins s σ H x xs v us Q I rx rs q
theorem pe_ix {r : R2} (hr : IxR X r) (ha : PE X a ta) (hb : PE X b tb) (hs : PlainIx b) : PE X (.Subscript a b pos) (tOp r ta tb) := by
  intro pins s σ H Q I h
  exact Subscript_ (binT ha hb I h fun v u s2 x y H2 I2 rx ry q => hr a b pins s2 σ H2 x y v u Q I2 rx ry q (hs _ _))
def rIxL (K : PySem.W.Frag) : R2 := fun x y H Q => ∃ p xs i v, x = .ref p ∧ y = .int i ∧ SqL K H p xs ∧ atI xs i = some v ∧ Q v H
def rIxT (K : PySem.W.Frag) : R2 := fun x y H Q => ∃ p xs i v, x = .ref p ∧ y = .int i ∧ SqT K H p xs ∧ atI xs i = some v ∧ Q v H
def rIxS : R2 := fun x y H Q => ∃ z i c, x = .str z ∧ y = .int i ∧ z.length ≤ sizeLine ∧ atI z.cps.toList i = some c ∧ Q (.str ⟨#[c]⟩) H
theorem ix_list : IxR X (rIxL X.K) := by
  intro value slice pins s σ H x y v u Q I rx ry h hs
  obtain ⟨p, xs, i, z, rfl, rfl, hq, he, q⟩ := h
  cases rx
  obtain ⟨t, rfl⟩ := ry
  obtain ⟨its, r, pl, hz⟩ := I.list hq
  obtain ⟨j, h1, h2, h3, h4, h5⟩ := atI_get he
  obtain ⟨w, ew, rw'⟩ := r.get h2
  have hl := r.length
  have hn := line63
  have fin : EP X pins σ Q w s := ⟨z, H, I, rw', q⟩
  by_cases h0 : 0 ≤ i
  · have hj : i.toNat = j := by
      rw [seqIndex_of h0 h5] at h1
      exact Option.some.inj h1
    exact item_listR pl.isList h0 (by omega) (by rw [hj]; simpa using ew) fin hs
  · have hj : (i + (its.toArray.size : Int)).toNat = j := by
      rw [seqIndex_neg (by omega) h4] at h1
      rw [List.size_toArray, ← hl]
      exact Option.some.inj h1
    exact subscriptTail_builtinR (x := w) pl.isList.typeIs slot_list_getitem.lookup
      (wpAny_getItem_list_neg (Q := fun r s' => r = w ∧ EP X pins σ Q r s') pl.isList (by omega) (by rw [List.size_toArray] <;> omega) (by omega) (by rw [hj]; simpa using ew) ⟨rfl, fin⟩) hs
theorem ix_tup : IxR X (rIxT X.K) := by
  intro value slice pins s σ H x y v u Q I rx ry h hs
  obtain ⟨p, xs, i, z, rfl, rfl, hq, he, q⟩ := h
  cases rx
  obtain ⟨t, rfl⟩ := ry
  obtain ⟨its, r, pl, hz⟩ := I.tuple hq
  obtain ⟨j, h1, h2, h3, h4, h5⟩ := atI_get he
  obtain ⟨w, ew, rw'⟩ := r.get h2
  have hl := r.length
  have hn := line63
  have fin : EP X pins σ Q w s := ⟨z, H, I, rw', q⟩
  exact subscriptTail_builtinR (x := w) pl.typeIs slot_tuple_getitem.lookup
    (getItem_tuple (j := j) (Q := fun r s' => r = w ∧ EP X pins σ Q r s') pl (by omega) (by omega) (by rw [List.size_toArray, ← hl]; exact h1) (by simpa using ew) ⟨rfl, fin⟩) hs
theorem ix_str : IxR X rIxS := by
  intro value slice pins s σ H x y v u Q I rx ry h hs
  obtain ⟨z, i, c, rfl, rfl, hz, he, q⟩ := h
  obtain ⟨t, rfl⟩ := rx
  obtain ⟨t', rfl⟩ := ry
  obtain ⟨j, h1, h2, h3, h4, h5⟩ := atI_get he
  have hl : z.cps.toList.length = z.length := by simp [Str.length]
  rw [hl] at h1 h4 h5
  have hn := line63
  exact tail_any (typeIs_str s z t) slot_str_getitem.lookup (getItem_str (c := c) (by
    have e1 : decide (i < -(2 ^ 63 : Int)) = false := decide_eq_false (by omega)
    have e2 : decide (i ≥ 2 ^ 63) = false := decide_eq_false (by omega)
    rw [e1, e2, Bool.or_false]) (by rw [h1]; simpa using h2) ⟨.str ⟨#[c]⟩, H, I.tok _, ⟨_, rfl⟩, q⟩) hs
def rIx (K : PySem.W.Frag) : R2 := fun x y H Q => rIxL K x y H Q ∨ rIxT K x y H Q ∨ rIxS x y H Q
theorem ix_seq : IxR X (rIx X.K) := ix_list.or (ix_tup.or ix_str)
theorem mapSeq_set (its : List Value) (n j : Nat) (u : Value) : Obj.mapSeq (·.setIfInBounds j u) { cls := .type "list", data := .seq its.toArray n } = { cls := .type "list", data := .seq (its.set j u).toArray n } := by
  simp [Obj.mapSeq]
theorem Inv.lst {pins : List (Addr × Obj)} {σ : St} {H : Hp} {s : Shared} {p : Addr} {xs : List V} (I : Inv X pins σ H s) (h : H p = some (.lst xs)) :
    ∃ (its : List Value) (n : Nat), Vals xs its ∧ s.heap.get? p = some { cls := .type "list", data := .seq its.toArray n } ∧ xs.length ≤ sizeLine := by
  obtain ⟨z, its, n, r, e⟩ := I.hok p _ h
  exact ⟨its, n, r, e, z⟩
theorem Inv.lstUpd {pins : List (Addr × Obj)} {σ : St} {H : Hp} {s : Shared} {p : Addr} {xs ys : List V} {its its' : List Value} {n n' : Nat} {f : Obj → Obj} (I : Inv X pins σ H s) (h : H p = some (.lst xs))
    (ho : s.heap.get? p = some { cls := .type "list", data := .seq its.toArray n }) (hf : f { cls := .type "list", data := .seq its.toArray n } = { cls := .type "list", data := .seq its'.toArray n' }) (r : Vals ys its') (hz : ys.length ≤ sizeLine) (t : Nat) :
    Inv X pins σ (upd H p (.lst ys)) { s with heap := s.heap.update p f, toks := t } := by
  have e : (s.heap.update p f).get? p = some { cls := .type "list", data := .seq its'.toArray n' } := by
    rw [Heap.get?_update_self f ho (by rw [hf] <;> rfl), hf]
  refine I.write (x := p) (e := p) (by rw [h]; trivial) (.inl rfl) (fun b u hb q => (Heap.get?_update_other _ _ (Ne.symm hb)).trans q) ⟨_, e⟩ ?_
  exact ⟨hz, its', n', r, e⟩
def rSetL : V → V → V → Hp → (Hp → Prop) → Prop := fun o i v H Q => ∃ p xs k j, o = .ref p ∧ i = .int k ∧ H p = some (.lst xs) ∧ ixN xs.length k = some j ∧ Q (upd H p (.lst (xs.set j v)))
theorem set_list : PSet X rSetL := by
  intro pins s σ H o i v ov iv u Q I ro ri rv h
  obtain ⟨p, xs, k, j, rfl, rfl, hp, hj, q⟩ := h
  cases ro
  obtain ⟨t, rfl⟩ := ri
  obtain ⟨its, n, r, ho, hz⟩ := I.lst hp
  obtain ⟨h1, h2, h3, h4⟩ := ixN_seq hj
  have hl := r.length
  have hn := line63
  have I' : Inv X pins σ (upd H p (.lst (xs.set j v))) { s with heap := s.heap.update p (Obj.mapSeq (·.setIfInBounds j u)) } :=
    I.lstUpd hp ho (mapSeq_set its n j u) (r.set rv j) (by rw [List.length_set]; exact hz) s.toks
  by_cases h0 : 0 ≤ k
  · have hk : k.toNat = j := by
      rw [seqIndex_of h0 h4] at h1
      exact Option.some.inj h1
    exact PySem.W.ki_setAt ho h0 (by omega) (by rw [List.size_toArray, ← hl]; exact h4) (by rw [hk]; exact ⟨_, I', q⟩)
  · have hk : (k + (its.toArray.size : Int)).toNat = j := by
      rw [seqIndex_neg (by omega) h3] at h1
      rw [List.size_toArray, ← hl]
      exact Option.some.inj h1
    exact PySem.W.ki_setBack ho (by omega) (by rw [List.size_toArray, ← hl]; exact h3) (by omega) (by rw [hk]; exact ⟨_, I', q⟩)
theorem slice_bounds (lo hi : Option Int) (n : Nat) : (sliceBounds lo hi none n).1 = ((HT.sIx n 0 lo : Nat) : Int) ∧ (sliceBounds lo hi none n).2.1 = ((HT.sIx n n hi : Nat) : Int) ∧ (sliceBounds lo hi none n).2.2 = 1 := by
  refine ⟨?_, ?_, rfl⟩
  · cases lo with
    | none => simp [sliceBounds, HT.sIx]
    | some i =>
      simp only [sliceBounds, HT.sIx, Option.getD_none, show (1 : Int) > 0 by decide, if_true]
      by_cases h : i < 0
      · simp only [h, if_true] <;> omega
      · simp only [h, if_false] <;> omega
  · cases hi with
    | none => simp [sliceBounds, HT.sIx]
    | some i =>
      simp only [sliceBounds, HT.sIx, Option.getD_none, show (1 : Int) > 0 by decide, if_true]
      by_cases h : i < 0
      · simp only [h, if_true] <;> omega
      · simp only [h, if_false] <;> omega
theorem slicePick_cut (its : List Value) (lo hi : Option Int) : slicePick its.toArray lo hi none = ((its.drop (HT.sIx its.length 0 lo)).take (HT.sIx its.length its.length hi - HT.sIx its.length 0 lo)).toArray := by
  obtain ⟨h1, h2, h3⟩ := slice_bounds lo hi its.toArray.size
  unfold slicePick
  rw [h1, h2, h3]
  simp only [sliceRange_one, pick_run, List.size_toArray] <;> rfl
def rSlL (K : PySem.W.Frag) : V → Option Int → Option Int → Hp → VK → Prop := fun x lo hi H Q => ∃ a xs, x = .ref a ∧ SqL K H a xs ∧ ∀ p, H p = none → Q (.ref p) (upd H p (.lst (cutV xs lo hi)))
theorem sl_list : SlR X (rSlL X.K) := by
  intro pins s σ H x v vl vu lo hi sl Q I rx hs pl pu h
  obtain ⟨a, xs, rfl, hx, q⟩ := h
  cases rx
  obtain ⟨its, r, ht, hz⟩ := I.list hx
  have hlen := r.length
  refine ⟨"list", _, slot_list_getitem.lookup, ht.isList.typeIs, ?_⟩
  refine wpAny_getItem_list_slice ht.isList hs pl pu .none (by simp) ?_ (by rw [List.size_toArray] <;> omega)
  rw [slicePick_cut, ← hlen]
  refine ⟨.ref s.heap.objs.size, _, I.laid (t' := s.toks) (o := .lst (cutV xs lo hi)) (fun b ob q => Heap.get?_push_of_some _ q) (Nat.le_refl _) ?_, rfl, q _ (I.hok.fresh (Nat.le_refl _))⟩
  exact ⟨Nat.le_trans (cutV_length xs lo hi) hz, _, 0, (r.drop (HT.sIx xs.length 0 lo)).take (HT.sIx xs.length xs.length hi - HT.sIx xs.length 0 lo), Heap.get?_push_size _ rfl⟩
def flatV : V → Bool
  | .non => true
  | .bl _ => true
  | .int _ => true
  | .str _ => true
  | _ => false
def eqV : V → V → Bool
  | .non, .non => true
  | .bl a, .bl b => a == b
  | .bl a, .int b => (if a then 1 else 0) == b
  | .int a, .bl b => a == (if b then 1 else 0)
  | .int a, .int b => a == b
  | .str a, .str b => a == b
  | _, _ => false
theorem eqAt_V {A : Around} {s : Shared} {y x : V} {u v : Value} (ry : RelV y u) (rx : RelV x v) (fy : flatV y = true) (fx : flatV x = true) : SeqAt.EqAt A s u v (eqV y x) := by
  cases y with
  | non =>
    cases ry
    cases x with
    | non => cases rx; exact SeqAt.EqAt.same _
    | bl b => cases rx; exact SeqAt.EqAt.none_bool b
    | int b => obtain ⟨t, rfl⟩ := rx; exact SeqAt.EqAt.none_int b t
    | str b => obtain ⟨t, rfl⟩ := rx; exact SeqAt.EqAt.none_str b t
    | _ => exact absurd (show false = true from fx) Bool.false_ne_true
  | bl a =>
    cases ry
    cases x with
    | non => cases rx; exact SeqAt.EqAt.bool_none a
    | bl b => cases rx; exact SeqAt.EqAt.bool_bool a b
    | int b => obtain ⟨t, rfl⟩ := rx; exact SeqAt.EqAt.bool_int a b t
    | str b => obtain ⟨t, rfl⟩ := rx; exact SeqAt.EqAt.bool_str a b t
    | _ => exact absurd (show false = true from fx) Bool.false_ne_true
  | int a =>
    obtain ⟨t', rfl⟩ := ry
    cases x with
    | non => cases rx; exact SeqAt.EqAt.int_none a t'
    | bl b => cases rx; exact SeqAt.EqAt.int_bool a t' b
    | int b => obtain ⟨t, rfl⟩ := rx; exact SeqAt.EqAt.int_int a t' b t
    | str b => obtain ⟨t, rfl⟩ := rx; exact SeqAt.EqAt.int_str a t' b t
    | _ => exact absurd (show false = true from fx) Bool.false_ne_true
  | str a =>
    obtain ⟨t', rfl⟩ := ry
    cases x with
    | non => cases rx; exact SeqAt.EqAt.str_none a t'
    | bl b => cases rx; exact SeqAt.EqAt.str_bool a t' b
    | int b => obtain ⟨t, rfl⟩ := rx; exact SeqAt.EqAt.str_int a t' b t
    | str b => obtain ⟨t, rfl⟩ := rx; exact SeqAt.EqAt.str_str a t' b t
    | _ => exact absurd (show false = true from fx) Bool.false_ne_true
  | _ => exact absurd (show false = true from fy) Bool.false_ne_true
def eqU (x : V) (u : Value) : Bool := match u with
  | .none => eqV .non x
  | .bool b => eqV (.bl b) x
  | .int i _ => eqV (.int i) x
  | .str z _ => eqV (.str z) x
  | _ => false
theorem eqU_of {x y : V} {u : Value} (r : RelV y u) (f : flatV y = true) : eqU x u = eqV y x := by
  cases y with
  | non => cases r; rfl
  | bl b => cases r; rfl
  | int i => obtain ⟨t, rfl⟩ := r; rfl
  | str z => obtain ⟨t, rfl⟩ := r; rfl
  | _ => exact absurd (show false = true from f) Bool.false_ne_true
theorem any_eqU {x : V} : ∀ {xs : List V} {us : List Value}, Vals xs us → xs.all flatV = true → us.any (eqU x) = xs.any fun y => eqV y x
  | _, _, .nil, _ => rfl
  | y :: xs, u :: us, .cons r t, f => by
    rw [List.all_cons, Bool.and_eq_true] at f
    rw [List.any_cons, List.any_cons, eqU_of r f.1, any_eqU t f.2]
theorem mem_eqAt {A : Around} {s : Shared} {x : V} {v : Value} (rx : RelV x v) (fx : flatV x = true) : ∀ {xs : List V} {us : List Value}, Vals xs us → xs.all flatV = true → ∀ u ∈ us, SeqAt.EqAt A s u v (eqU x u)
  | _, _, .nil, _ => fun u hu => by cases hu
  | y :: xs, u :: us, .cons r t, f => fun u' hu => by
    rw [List.all_cons, Bool.and_eq_true] at f
    rcases List.mem_cons.mp hu with rfl | hu
    · rw [eqU_of r f.1]; exact eqAt_V r rx f.1 fx
    · exact mem_eqAt rx fx t f.2 u' hu
def inV (x : V) (xs : List V) : Bool := xs.any fun y => eqV y x
def rIn (K : PySem.W.Frag) (neg : Bool) : R2 := fun x y H Q => ∃ p xs, y = .ref p ∧ (SqL K H p xs ∨ SqT K H p xs) ∧ flatV x = true ∧ xs.all flatV = true ∧ Q (.bl (if neg then !inV x xs else inV x xs)) H
theorem op_in_seq : OpR X (compareOp .In) (rIn X.K false) := by
  intro pins s σ H x y v u Q I rx ry h
  obtain ⟨p, xs, rfl, hq, fx, fs, q⟩ := h
  cases ry
  rcases hq with hq | hq
  · obtain ⟨its, r, pl, hz⟩ := I.list hq
    refine SeqAt.in_listAt (eqU x) pl.isList (fun w hw => mem_eqAt rx fx r fs w (by simpa using hw)) ⟨.bl _, H, I, rfl, ?_⟩
    rw [show its.toArray.any (eqU x) = its.any (eqU x) by simp, any_eqU r fs]
    exact q
  · obtain ⟨its, r, pl, hz⟩ := I.tuple hq
    refine SeqAt.in_tupleAt (eqU x) pl (fun w hw => mem_eqAt rx fx r fs w (by simpa using hw)) ⟨.bl _, H, I, rfl, ?_⟩
    rw [show its.toArray.any (eqU x) = its.any (eqU x) by simp, any_eqU r fs]
    exact q
theorem op_notIn_seq : OpR X (compareOp .NotIn) (rIn X.K true) := by
  intro pins s σ H x y v u Q I rx ry h
  obtain ⟨p, xs, rfl, hq, fx, fs, q⟩ := h
  cases ry
  rcases hq with hq | hq
  · obtain ⟨its, r, pl, hz⟩ := I.list hq
    refine SeqAt.notIn_listAt (eqU x) pl.isList (fun w hw => mem_eqAt rx fx r fs w (by simpa using hw)) ⟨.bl _, H, I, rfl, ?_⟩
    rw [show its.toArray.any (eqU x) = its.any (eqU x) by simp, any_eqU r fs]
    exact q
  · obtain ⟨its, r, pl, hz⟩ := I.tuple hq
    refine SeqAt.notIn_tupleAt (eqU x) pl (fun w hw => mem_eqAt rx fx r fs w (by simpa using hw)) ⟨.bl _, H, I, rfl, ?_⟩
    rw [show its.toArray.any (eqU x) = its.any (eqU x) by simp, any_eqU r fs]
    exact q
theorem call_len_seq : CallR X (.builtin "len") (fun xs H Q => ∃ p ys, xs = [.ref p] ∧ (SqL X.K H p ys ∨ SqT X.K H p ys) ∧ Q (.int ys.length) H) := by
  intro pins s σ H xs us Q I r h
  obtain ⟨p, ys, rfl, hq, q⟩ := h
  obtain ⟨u, rfl, rx⟩ := vals1 r
  cases rx
  have hn := line63
  rcases hq with hq | hq
  · obtain ⟨its, r', pl, hz⟩ := I.list hq
    have hlen := r'.length
    exact Calls.call_len_list pl.isList (by simp only [List.size_toArray] <;> omega) ⟨.int ys.length, H, I.tok _, ⟨s.toks + 1, by rw [List.size_toArray, hlen]⟩, q⟩
  · obtain ⟨its, r', pl, hz⟩ := I.tuple hq
    have hlen := r'.length
    exact len_tuple pl (by simp only [List.size_toArray] <;> omega) ⟨.int ys.length, H, I.tok _, ⟨s.toks + 1, by rw [List.size_toArray, hlen]⟩, q⟩
theorem call_len_str : CallR X (.builtin "len") (fun xs H Q => ∃ z, xs = [.str z] ∧ z.length ≤ sizeLine ∧ Q (.int z.length) H) := by
  intro pins s σ H xs us Q I r h
  obtain ⟨z, rfl, hz, q⟩ := h
  obtain ⟨u, rfl, t, rfl⟩ := vals1 r
  have hn := line63
  exact len_str (by omega) ⟨.int z.length, H, I.tok _, ⟨_, rfl⟩, q⟩
theorem CallR.or {f : Value} {r r' : List V → Hp → VK → Prop} (h : CallR X f r) (h' : CallR X f r') : CallR X f (fun xs H Q => r xs H Q ∨ r' xs H Q) := by
  intro pins s σ H xs us Q I rs q
  rcases q with q | q
  · exact h pins s σ H xs us Q I rs q
  · exact h' pins s σ H xs us Q I rs q
theorem call_list_of : CallR X (.type "list") (fun xs H Q => ∃ p ys, xs = [.ref p] ∧ (SqL X.K H p ys ∨ SqT X.K H p ys) ∧ ∀ l, H l = none → Q (.ref l) (upd H l (.lst ys))) := by
  intro pins s σ H xs us Q I r h
  obtain ⟨p, ys, rfl, hq, q⟩ := h
  obtain ⟨u, rfl, rx⟩ := vals1 r
  cases rx
  have fin : ∀ (its : List Value), Vals ys its → ys.length ≤ sizeLine → ∀ (h' : Heap) (c' : Nat), (∀ b o', s.heap.get? b = some o' → h'.get? b = some o') →
      h'.get? s.heap.objs.size = some { cls := .type "list", dict := none, data := .seq its.toArray c', slots := #[] } → EP X pins σ Q (.ref s.heap.objs.size) { s with heap := h' } := fun its r' hz h' c' kp e =>
    ⟨.ref s.heap.objs.size, _, I.laid (t' := s.toks) kp (Nat.le_refl _) (show ObjOk X.prog X.w _ h' _ (.lst ys) from ⟨hz, its, c', r', e⟩), rfl, q _ (I.hok.fresh (Nat.le_refl _))⟩
  rcases hq with hq | hq
  · obtain ⟨its, r', pl, hz⟩ := I.list hq
    have hlen := r'.length
    obtain ⟨o, ho, hc, n, hd⟩ := pl.isList
    exact call_list_seq p (.inl rfl) ho hc hd (fun h' c' kp e => fin its r' hz h' c' kp e) (by simp only [List.size_toArray] <;> omega)
  · obtain ⟨its, r', pl, hz⟩ := I.tuple hq
    have hlen := r'.length
    obtain ⟨o, ho, hc, n, hd⟩ := pl
    exact call_list_seq p (.inr rfl) ho hc hd (fun h' c' kp e => fin its r' hz h' c' kp e) (by simp only [List.size_toArray] <;> omega)
def tyV (K : PySem.W.Frag) (T : String) (x : V) (H : Hp) : Prop := match x with
  | .str _ => T = "str"
  | .int _ => T = "int"
  | .ref p => (T = "list" ∧ ∃ xs, SqL K H p xs) ∨ (T = "tuple" ∧ ∃ o, K.lookup p = some o ∧ o.cls = .type "tuple" ∧ o.dict = none) ∨
      (T = "dict" ∧ ((∃ kvs, H p = some (.dK kvs)) ∨ ∃ kvs, H p = some (.dT kvs))) ∨ (T = "set" ∧ ∃ S n, H p = some (.set S n))
  | _ => False
theorem tyV_is {pins : List (Addr × Obj)} {σ : St} {H : Hp} {s : Shared} {T : String} {x : V} {v : Value} (I : Inv X pins σ H s) (r : RelV x v) (ty : tyV X.K T x H) :
    s.TypeIs v T ∧ ∀ a, v = .ref a → ∃ ob, s.heap.get? a = some ob ∧ ob.dict = none := by
  cases x with
  | str z =>
    obtain ⟨t, rfl⟩ := r
    cases (show T = "str" from ty)
    exact ⟨typeIs_str s z t, fun _ e => nomatch e⟩
  | int i =>
    obtain ⟨t, rfl⟩ := r
    cases (show T = "int" from ty)
    exact ⟨typeIs_int s i t, fun _ e => nomatch e⟩
  | ref p =>
    cases r
    rcases ty with ⟨rfl, xs, hq⟩ | ⟨rfl, o, hk, hc, hd⟩ | ⟨rfl, hk⟩ | ⟨rfl, S, n, hk⟩
    · obtain ⟨its, _, pl, _⟩ := I.list hq
      refine ⟨pl.isList.typeIs, fun a e => ?_⟩
      cases e
      obtain ⟨o, n, e, c, hd, _⟩ := pl
      exact ⟨o, e, hd⟩
    · refine ⟨⟨o, I.kIn p o hk, hc⟩, fun a e => ?_⟩
      cases e
      exact ⟨o, I.kIn _ o hk, hd⟩
    · have z : ∃ o, s.heap.get? p = some o ∧ o.ExactDict := by
        rcases hk with ⟨kvs, hk⟩ | ⟨kvs, hk⟩
        · obtain ⟨_, _, _, _, o, _, _, e, ex, _⟩ := I.hok p _ hk
          exact ⟨o, e, ex⟩
        · obtain ⟨_, _, _, _, o, _, _, e, ex, _⟩ := I.hok p _ hk
          exact ⟨o, e, ex⟩
      obtain ⟨o, e, ex⟩ := z
      refine ⟨⟨o, e, ex.1⟩, fun a e2 => ?_⟩
      cases e2
      exact ⟨o, e, ex.2.1⟩
    · obtain ⟨o, _, _, _, e, ex, _⟩ := I.hok p _ hk
      refine ⟨⟨o, e, ex.1⟩, fun a e2 => ?_⟩
      cases e2
      exact ⟨o, e, ex.2.1⟩
  | _ => exact False.elim ty
def tBM0 (K : PySem.W.Frag) (T : String) (r : V → List V → Hp → VK → Prop) (to : TE) : TE := fun σ H Q => to σ H fun x H1 => tyV K T x H1 ∧ r x [] H1 Q
def tBM (K : PySem.W.Frag) (T : String) (r : V → List V → Hp → VK → Prop) (to : TE) (t : TA) : TE := fun σ H Q => to σ H fun x H1 => tyV K T x H1 ∧ t σ H1 fun xs H2 => r x xs H2 Q
variable {o e : Expr} {es : List Expr} {to : TE} {t : TA} {name : Str} {apos cpos : Pos} {T id : String} {r : V → List V → Hp → VK → Prop}
end
end L2
namespace L2
open PySem PySem.Spec PyProof.Rows
def MtM (X : Cx) (id : String) (r : V → List V → Hp → VK → Prop) : Prop :=
  ∀ (pins : List (Addr × Obj)) (s : Shared) (σ : St) (H : Hp) (x : V) (xs : List V) (v : Value) (us : List Value) (Q : VK), Inv X pins σ H s → RelV x v → Vals xs us → r x xs H Q →
    wpAny (model X.prog X.w) X.A (call (.builtin id) (v :: us)) (EP X pins σ Q) X.xe s
theorem Vals.one : ∀ {x : V} {us : List Value}, Vals [x] us → ∃ u, us = [u] ∧ RelV x u
  | _, _, .cons r .nil => ⟨_, rfl, r⟩
theorem Vals.zero : ∀ {us : List Value}, Vals [] us → us = []
  | _, .nil => rfl
theorem Vals.dropLast {xs : List V} {us : List Value} (h : Vals xs us) : Vals xs.dropLast us.dropLast := by
  induction h with
  | nil => exact .nil
  | cons r t ih =>
    cases t with
    | nil => exact .nil
    | cons q t' => exact .cons r ih
theorem Vals.eraseIdx : ∀ {xs : List V} {us : List Value} (i : Nat), Vals xs us → Vals (xs.eraseIdx i) (us.eraseIdx i)
  | _, _, _, .nil => .nil
  | _, _, 0, .cons _ t => t
  | _, _, i + 1, .cons r t => .cons r (Vals.eraseIdx i t)
theorem Vals.reverse {xs : List V} {us : List Value} (h : Vals xs us) : Vals xs.reverse us.reverse := by
  induction h with
  | nil => exact .nil
  | cons r t ih => rw [List.reverse_cons, List.reverse_cons]; exact Vals.append ih (.cons r .nil)
theorem Vals.rep {xs : List V} {us : List Value} (h : Vals xs us) : ∀ k : Nat, Vals (List.replicate k xs).flatten (List.replicate k us).flatten
  | 0 => .nil
  | k + 1 => by
    rw [List.replicate_succ, List.replicate_succ, List.flatten_cons, List.flatten_cons]
    exact Vals.append h (Vals.rep h k)
theorem len_erase {α : Type} : ∀ (l : List α) (i : Nat), (l.eraseIdx i).length ≤ l.length
  | [], _ => Nat.le_refl _
  | _ :: _, 0 => Nat.le_succ _
  | _ :: r, i + 1 => Nat.succ_le_succ (len_erase r i)
theorem foldl_rep (its : List Value) : ∀ (k : Nat) (acc : List Value),
    List.foldl (fun x1 x2 => x1 ++ x2) acc.toArray (List.replicate k its.toArray) = (acc ++ (List.replicate k its).flatten).toArray
  | 0, acc => by simp
  | k + 1, acc => by
    have e : acc.toArray ++ its.toArray = (acc ++ its).toArray := by simp
    have e2 : (acc ++ its) ++ (List.replicate k its).flatten = acc ++ (List.replicate (k + 1) its).flatten := by
      rw [List.replicate_succ, List.flatten_cons, List.append_assoc]
    rw [← e2, ← foldl_rep its k (acc ++ its), ← e, List.replicate_succ, List.foldl_cons]
section
variable {X : Cx} {pins : List (Addr × Obj)} {σ : St} {H : Hp} {s : Shared} {l b : Addr} {xs ys zs : List V}
theorem Inv.lset {its its' : List Value} {n : Nat} {f : Array Value → Array Value} {t' : Nat} (I : Inv X pins σ H s) (hH : H l = some (.lst xs))
    (e : s.heap.get? l = some { cls := .type "list", data := .seq its.toArray n }) (hf : f its.toArray = its'.toArray) (hv : Vals ys its') (hz : ys.length ≤ sizeLine) :
    Inv X pins σ (upd H l (.lst ys)) { s with heap := s.heap.update l (Obj.mapSeq f), toks := t' } := by
  have q := PySem.IsL.update e f
  rw [hf] at q
  refine I.write (x := l) (e := l) (by rw [hH]; exact trivial) (.inl rfl) (fun b' u hb hu => (Heap.get?_update_other s.heap (Obj.mapSeq f) (Ne.symm hb)).trans hu) ⟨_, q⟩ ?_
  exact ⟨hz, its', _, hv, q⟩
theorem Inv.lnew {its : List Value} {t' : Nat} (I : Inv X pins σ H s) (hv : Vals ys its) (hz : ys.length ≤ sizeLine) :
    Inv X pins σ (upd H s.heap.objs.size (.lst ys)) { s with heap := s.heap.push { cls := .type "list", data := .seq its.toArray }, toks := t' } :=
  I.laid (fun _ _ q => Heap.get?_push_of_some _ q) (Nat.le_refl _) ⟨hz, its, 0, hv, Heap.get?_push_size _ rfl⟩
theorem Inv.fresh (I : Inv X pins σ H s) : H s.heap.objs.size = none := I.hok.fresh (Nat.le_refl _)
theorem Inv.lstM (I : Inv X pins σ H s) (hH : H l = some (.lst xs)) : xs.length ≤ sizeLine ∧ ∃ (its : List Value) (n : Nat), Vals xs its ∧ xs.length = its.length ∧ s.heap.get? l = some { cls := .type "list", data := .seq its.toArray n } := by
  obtain ⟨z, its, n, r, e⟩ := I.hok l _ hH
  exact ⟨z, its, n, r, r.length, e⟩
theorem notLongL {n : Nat} (h : n ≤ sizeLine) : Builtin.List.listTooLong n = false := by
  unfold Builtin.List.listTooLong
  exact decide_eq_false (by omega)
end
section
variable {X : Cx}
def rAppend : V → List V → Hp → VK → Prop := fun x vs H Q => ∃ l xs y, x = .ref l ∧ vs = [y] ∧ H l = some (.lst xs) ∧ xs.length < sizeLine ∧ Q .non (upd H l (.lst (xs ++ [y])))
theorem mt_append : MtM X "list.append" rAppend := by
  intro pins s σ H x vs v us Q I rx rv h
  obtain ⟨l, xs, y, rfl, rfl, hH, hz, q⟩ := h
  cases rx
  obtain ⟨u, rfl, ru⟩ := rv.one
  obtain ⟨z, its, n, r, hl, e⟩ := I.lstM hH
  refine call_meets F.slot_list_append ⟨_, e, rfl⟩ F.entry_list_append (F.args_list_append_2 _ _) (PySem.list_append l its.toArray n u (by rw [List.size_toArray]; omega)) ⟨e, ?_⟩
  refine ⟨.non, _, I.lset (its' := its ++ [u]) hH e (by simp) (r.append (.cons ru .nil)) ?_, rfl, q⟩
  rw [List.length_append, List.length_singleton]
  omega
def rExtend : V → List V → Hp → VK → Prop := fun x vs H Q => ∃ l b xs zs, x = .ref l ∧ vs = [.ref b] ∧ H l = some (.lst xs) ∧ H b = some (.lst zs) ∧ xs.length + zs.length ≤ sizeLine ∧ Q .non (upd H l (.lst (xs ++ zs)))
def rPop : V → List V → Hp → VK → Prop := fun x vs H Q => ∃ l xs y, x = .ref l ∧ vs = [] ∧ H l = some (.lst xs) ∧ xs[xs.length - 1]? = some y ∧ Q y (upd H l (.lst xs.dropLast))
def rPopAt : V → List V → Hp → VK → Prop := fun x vs H Q => ∃ l xs i k y, x = .ref l ∧ vs = [.int i] ∧ H l = some (.lst xs) ∧ -(2 ^ 63) ≤ i ∧ i < 2 ^ 63 ∧ seqIndex? i xs.length = some k ∧ xs[k]? = some y ∧ Q y (upd H l (.lst (xs.eraseIdx k)))
def rReverse : V → List V → Hp → VK → Prop := fun x vs H Q => ∃ l xs, x = .ref l ∧ vs = [] ∧ H l = some (.lst xs) ∧ Q .non (upd H l (.lst xs.reverse))
def rClear : V → List V → Hp → VK → Prop := fun x vs H Q => ∃ l xs, x = .ref l ∧ vs = [] ∧ H l = some (.lst xs) ∧ Q .non (upd H l (.lst []))
def rCat : R2 := fun x y H Q => ∃ l b xs zs, x = .ref l ∧ y = .ref b ∧ H l = some (.lst xs) ∧ H b = some (.lst zs) ∧ xs.length + zs.length ≤ sizeLine ∧ ∀ p, H p = none → Q (.ref p) (upd H p (.lst (xs ++ zs)))
theorem op_cat : OpR X (binaryOp .Add) rCat := by
  intro pins s σ H x y v u Q I rx ry h
  obtain ⟨l, b, xs, zs, rfl, rfl, hH, hB, hz, q⟩ := h
  cases rx
  cases ry
  obtain ⟨z, its, n, r, hl, e⟩ := I.lstM hH
  obtain ⟨z2, its2, n2, r2, hl2, e2⟩ := I.lstM hB
  refine PySem.P.add_list e e2 ?_ (by rw [List.size_toArray, List.size_toArray]; omega)
  have ea : its.toArray ++ its2.toArray = (its ++ its2).toArray := by simp
  rw [ea]
  exact ⟨.ref _, _, I.lnew (t' := s.toks) (r.append r2) (by rw [List.length_append]; omega), rfl, q _ I.fresh⟩
def rRep : R2 := fun x y H Q => ∃ l k xs, x = .ref l ∧ y = .int k ∧ H l = some (.lst xs) ∧ -(2 ^ 63) ≤ k ∧ k < 2 ^ 63 ∧ xs.length * k.toNat ≤ sizeLine ∧
  ∀ p, H p = none → Q (.ref p) (upd H p (.lst (List.replicate k.toNat xs).flatten))
end
section
variable {prog : Program} {w : World} {A : Around} {E : Value → Shared → Prop} {s : Shared}
theorem bounds_run {a c n : Nat} (hac : a ≤ c) (hc : c ≤ n) : sliceBounds (some (a : Int)) (some (c : Int)) none n = ((a : Int), (c : Int), 1) := by
  simp only [sliceBounds, Option.getD_none]
  have h1 : ¬ ((a : Int) < 0) := by omega
  have h2 : ¬ ((c : Int) < 0) := by omega
  simp only [h1, h2, if_false, show (1 : Int) > 0 by decide, if_true]
  congr 1
  · omega
  · congr 1; omega
set_option maxRecDepth 100000 in
theorem setItem_slice {l b sl : Addr} {items new : Array Value} {n n2 : Nat} {vl vu : Value} {a c : Nat} {Q : Unit → Shared → Prop}
    (e : s.heap.get? l = some { cls := .type "list", data := .seq items n }) (e2 : s.heap.get? b = some { cls := .type "list", data := .seq new n2 }) (hne : l ≠ b)
    (hs : s.heap.IsSliceOf sl vl vu .none) (pl : IsPart vl (some (a : Int))) (pu : IsPart vu (some (c : Int))) (hac : a ≤ c) (hc : c ≤ items.size)
    (hsz : items.size + new.size ≤ sizeLine) (h : Q () { s with heap := s.heap.update l (Obj.mapSeq fun xs => xs.extract 0 a ++ new ++ xs.extract c xs.size) }) :
    wpAny (model prog w) A (setItem (.ref l) (.ref sl) (.ref b)) Q E s := by
  have hl : s.heap.IsList l items := PySem.IsL.isList e
  have hb : s.heap.IsList b new := PySem.IsL.isList e2
  obtain ⟨os, hos, hcs, hds⟩ := id hs
  have hTs : s.TypeIs (.ref sl) "slice" := ⟨os, hos, hcs⟩
  have hstep : ¬ ((rawPart none == rawInt 0) = true) := Bool.false_ne_true
  have hsame : Builtin.List.listSameRef (.ref l) (.ref b) = false := by
    unfold Builtin.List.listSameRef
    exact beq_eq_false_iff_ne.mpr hne
  have hmax : (max (a : Int) (c : Int)).toNat = c := by omega
  have hz' : ((fun xs : Array Value => xs.extract 0 a ++ new ++ xs.extract c xs.size) items).size ≤ sizeLine + 1 := by
    simp only [Array.size_append, Array.size_extract]
    omega
  unfold setItem
  try with_reducible refine wpAny_holding ?_
  first | refine wpAny_bind (wpAny_pure ?_) | skip
  refine wpAny_bind (wpAny_sequenceKey hl.typeIs (by decide) ?_)
  refine wpAny_bind (wpAny_callSpecial?_slot (name := Str.ofString "__setitem__") hl.typeIs slot_list_setitem
    (wpAny_call_entry slot_list_setitem hl.typeIs entry_list_setitem ?_ (args_list_setitem _ _ _)))
  show wpAny _ _ (Builtin.List.listSubscript? (.ref sl) >>= _) _ _ s
  refine wpAny_bind ?_
  unfold Builtin.List.listSubscript?
  refine wpAny_bind (wpAny_specialOf hTs slice_no_index ?_)
  simp only [Option.isNone_none, if_true]
  refine wpAny_pure ?_
  show wpAny _ _ (typeOf (.ref sl) >>= _) _ _ s
  refine wpAny_bind (wpAny_typeOf hTs ?_)
  first
    | rw [if_neg (by decide)]
    | refine PySem.W.KFB.if_not (by decide) ?_
  rw [listSliceParts_eq]
  refine wpAny_bind (wpAny_bind (wpAny_field hos hds (x := .none) rfl (wpAny_bind (wpAny_listPart .none ?_))))
  rw [if_neg hstep]
  refine wpAny_bind (wpAny_field hos hds (x := vl) rfl (wpAny_bind (wpAny_listPart pl ?_)))
  refine wpAny_bind (wpAny_field hos hds (x := vu) rfl (wpAny_bind (wpAny_listPart pu (wpAny_pure ?_))))
  first
    | simp only [hsame, Bool.false_eq_true, if_false]
    | refine PySem.W.KFB.if_not hsame ?_
    | (dsimp only
       rw [if_neg (by rw [hsame]; exact Bool.false_ne_true)])
  refine wpAny_bind (m := Builtin.List.listAllItems (.ref b) "must assign iterable to extended slice") ?_
  unfold Builtin.List.listAllItems
  refine wpAny_bind (wpAny_typeOf hb.typeIs ?_)
  first
    | refine PySem.W.KFB.if_so (by decide) ?_
    | rw [if_pos (by decide)]
    | simp only [beq_self_eq_true, Bool.true_or, if_true]
  unfold Builtin.List.listItems
  refine wpAny_bind (wpAny_seqItems e2 rfl (wpAny_pure ?_))
  refine wpAny_bind (wpAny_bind (wpAny_seqItems e rfl (wpAny_pure ?_)))
  refine wpAny_bind (wpAny_of_eq ((sliceIndices_raw (some (a : Int)) (some (c : Int)) none items.size (by simp)).trans (congrArg (pure : Int × Int × Int → Sem (Int × Int × Int)) (bounds_run hac hc))) ?_)
  show wpAny _ _ (if ((1 : Int) == 1) = true then _ else _) _ _ s
  rw [if_pos (by decide)]
  refine wpAny_bind (wpAny_rule ?_)
  first
    | simp only [notLongL hsz, Bool.false_eq_true, if_false]
    | refine PySem.W.KFB.if_not (notLongL hsz) ?_
  first | refine wpAny_bind (wpAny_pure ?_) | skip
  show wpAny _ _ (updateSeq l (fun xs => xs.extract 0 ((a : Int)).toNat ++ new ++ xs.extract (max (a : Int) (c : Int)).toNat xs.size) >>= _) _ _ s
  rw [hmax, Int.toNat_natCast]
  refine wpAny_bind (wpAny_updateSeq (hz := Nat.le_trans (Nat.le_add_right _ _) hsz) (_hz' := hz') e rfl ?_)
  refine wpAny_bind (wpAny_letGo ?_)
  first
    | exact wpAny_bind (wpAny_pure (wpAny_pure ⟨.none, rfl, wpAny_pure h⟩))
    | exact wpAny_pure ⟨.none, rfl, wpAny_pure h⟩
end
section
variable {X : Cx}
end
end L2
namespace L2
open PySem PySem.Spec PyProof.Rows
section
variable {κ : Type} [DecidableEq κ]
def valV (kvs : List (κ × V)) (k : κ) : Option V := (kvs.find? fun kv => decide (kv.1 = k)).map (·.2)
def putK (kvs : List (κ × V)) (k : κ) (v : V) : List (κ × V) :=
  if (kvs.any fun kv => decide (kv.1 = k)) = true then kvs.map (fun kv => if kv.1 = k then (kv.1, v) else kv) else kvs ++ [(k, v)]
def dropK (kvs : List (κ × V)) (k : κ) : List (κ × V) := kvs.filter fun kv => decide (kv.1 ≠ k)
theorem valV_pos {p : κ × V} {r : List (κ × V)} {k : κ} (e : p.1 = k) : valV (p :: r) k = some p.2 := by simp [valV, List.find?_cons, e]
theorem valV_neg {p : κ × V} {r : List (κ × V)} {k : κ} (e : ¬ p.1 = k) : valV (p :: r) k = valV r k := by simp [valV, List.find?_cons, e]
theorem valV_any (k : κ) : ∀ kvs : List (κ × V), (kvs.any fun kv => decide (kv.1 = k)) = (valV kvs k).isSome
  | [] => rfl
  | p :: r => by
    rw [List.any_cons]
    by_cases e : p.1 = k
    · simp only [valV_pos e, decide_eq_true e, Bool.true_or, Option.isSome_some]
    · rw [valV_neg e, decide_eq_false e, Bool.false_or]; exact valV_any k r
theorem valV_map (k j : κ) (y : V) : ∀ kvs : List (κ × V), valV (kvs.map fun kv => if kv.1 = k then (kv.1, y) else kv) j = (valV kvs j).map fun x => if j = k then y else x
  | [] => rfl
  | p :: r => by
    have ih := valV_map k j y r
    rw [List.map_cons]
    by_cases h : p.1 = k
    · rw [if_pos h]
      by_cases e : p.1 = j
      · rw [valV_pos (p := (p.1, y)) e, valV_pos e, Option.map_some, if_pos (e.symm.trans h)]
      · rw [valV_neg (p := (p.1, y)) e, valV_neg e, ih]
    · rw [if_neg h]
      by_cases e : p.1 = j
      · rw [valV_pos (p := p) e, valV_pos e, Option.map_some, if_neg (fun z => h (e.trans z))]
      · rw [valV_neg (p := p) e, valV_neg e, ih]
theorem valV_snoc (k j : κ) (y : V) : ∀ kvs : List (κ × V), valV kvs k = none → valV (kvs ++ [(k, y)]) j = if j = k then some y else valV kvs j
  | [], _ => by
    by_cases e : k = j
    · rw [if_pos e.symm]; exact valV_pos (p := (k, y)) e
    · rw [if_neg (fun z => e z.symm)]; exact valV_neg (p := (k, y)) e
  | p :: r, hn => by
    rw [List.cons_append]
    have hk : ¬ p.1 = k := fun z => by rw [valV_pos z] at hn; cases hn
    rw [valV_neg hk] at hn
    have ih := valV_snoc k j y r hn
    by_cases e : p.1 = j
    · rw [valV_pos e, valV_pos e, if_neg (fun z => hk (e.trans z))]
    · rw [valV_neg e, valV_neg e, ih]
theorem length_putK (kvs : List (κ × V)) (k : κ) (v : V) : (putK kvs k v).length ≤ kvs.length + 1 := by
  unfold putK
  split
  · rw [List.length_map]; omega
  · rw [List.length_append, List.length_cons, List.length_nil]; omega
theorem RelO.isSome_eq {o : Option V} {u : Option Value} (r : RelO o u) : o.isSome = u.isSome := by
  cases o with
  | none => cases u with
    | none => rfl
    | some _ => exact (show False from r).elim
  | some _ => cases u with
    | none => exact (show False from r).elim
    | some _ => rfl
theorem RelO.getD {o : Option V} {u : Option Value} {d : V} {d' : Value} (r : RelO o u) (rd : RelV d d') : RelV (o.getD d) (u.getD d') := by
  cases o with
  | none => cases u with
    | none => exact rd
    | some _ => exact (show False from r).elim
  | some _ => cases u with
    | none => exact (show False from r).elim
    | some _ => exact r
theorem KV.val {kvs : List (κ × V)} {vs : List (κ × Value)} (r : KV kvs vs) (k : κ) : RelO (valV kvs k) (valueAt vs k) := by
  unfold KV at r
  induction r with
  | nil => exact True.intro
  | @cons p q ps qs h t ih =>
    obtain ⟨h1, h2⟩ := h
    by_cases e : p.1 = k
    · have e' : q.1 = k := h1.symm.trans e
      have b : valueAt (q :: qs) k = some q.2 := by simp [valueAt, List.find?_cons, e']
      rw [valV_pos e, b]; exact h2
    · have e' : ¬ q.1 = k := fun z => e (h1.trans z)
      have b : valueAt (q :: qs) k = valueAt qs k := by simp [valueAt, List.find?_cons, e']
      rw [valV_neg e, b]; exact ih
theorem KV.any {kvs : List (κ × V)} {vs : List (κ × Value)} (r : KV kvs vs) (k : κ) : (kvs.any fun kv => decide (kv.1 = k)) = vs.any fun kv => decide (kv.1 = k) := by
  unfold KV at r
  induction r with
  | nil => rfl
  | cons h t ih => rw [List.any_cons, List.any_cons, ih, h.1]
theorem KV.repl {kvs : List (κ × V)} {vs : List (κ × Value)} (r : KV kvs vs) (k : κ) {y : V} {u : Value} (ry : RelV y u) :
    KV (kvs.map fun kv => if kv.1 = k then (kv.1, y) else kv) (vs.map fun kv => if kv.1 = k then (kv.1, u) else kv) := by
  unfold KV at r ⊢
  induction r with
  | nil => exact .nil
  | @cons p q ps qs h t ih =>
    rw [List.map_cons, List.map_cons]
    refine .cons ?_ ih
    obtain ⟨h1, h2⟩ := h
    by_cases e : p.1 = k
    · rw [if_pos e, if_pos (h1.symm.trans e)]; exact ⟨h1, ry⟩
    · rw [if_neg e, if_neg (fun z => e (h1.trans z))]; exact ⟨h1, h2⟩
theorem KV.put {kvs : List (κ × V)} {vs : List (κ × Value)} (r : KV kvs vs) (k : κ) {y : V} {u : Value} (ry : RelV y u) : KV (putK kvs k y) (stored vs k u) := by
  unfold putK stored
  rw [r.any k]
  by_cases e : (vs.any fun kv => decide (kv.1 = k)) = true
  · rw [if_pos e, if_pos e]; exact r.repl k ry
  · rw [if_neg e, if_neg e]; exact Paired.snoc r ⟨rfl, ry⟩
theorem KV.drop {kvs : List (κ × V)} {vs : List (κ × Value)} (r : KV kvs vs) (k : κ) : KV (dropK kvs k) (without vs k) := by
  unfold KV at r ⊢
  unfold dropK without
  induction r with
  | nil => exact .nil
  | @cons p q ps qs h t ih =>
    obtain ⟨h1, h2⟩ := h
    rw [List.filter_cons, List.filter_cons]
    by_cases e : p.1 = k
    · have a : ¬ decide (p.1 ≠ k) = true := by simp [e]
      have b : ¬ decide (q.1 ≠ k) = true := by simp [h1.symm.trans e]
      rw [if_neg a, if_neg b]; exact ih
    · have e' : ¬ q.1 = k := fun z => e (h1.trans z)
      have a : decide (p.1 ≠ k) = true := by simp [e]
      have b : decide (q.1 ≠ k) = true := by simp [e']
      rw [if_pos a, if_pos b]; exact .cons ⟨h1, h2⟩ ih
theorem KV.keys {kvs : List (κ × V)} {vs : List (κ × Value)} (r : KV kvs vs) : kvs.map (·.1) = vs.map (·.1) := by
  unfold KV at r
  induction r with
  | nil => rfl
  | cons h t ih => rw [List.map_cons, List.map_cons, ih, h.1]
theorem KV.length {kvs : List (κ × V)} {vs : List (κ × Value)} (r : KV kvs vs) : kvs.length = vs.length := Paired.length r
end
theorem kV_is {P : Program} {w : World} {k : Key} {u : Value} (r : RelV (kV k) u) : (mixKind P w).is k u = true := by
  cases k with
  | inl i => obtain ⟨t, e⟩ := (show ∃ t, u = Value.int i t from r); subst e; exact mixKind_int P w i t
  | inr x => obtain ⟨t, e⟩ := (show ∃ t, u = Value.str x t from r); subst e; exact mixKind_str P w x t
theorem kV_inj {a b : Key} (e : kV a = kV b) : a = b := by
  cases a with
  | inl i => cases b with
    | inl j => have e' : V.int i = V.int j := e; injection e' with e'; rw [e']
    | inr y => exact nomatch (show V.int i = V.str y from e)
  | inr x => cases b with
    | inl j => exact nomatch (show V.str x = V.int j from e)
    | inr y => have e' : V.str x = V.str y := e; injection e' with e'; rw [e']
theorem kVs_inj : ∀ {a b : List Key}, a.map kV = b.map kV → a = b
  | [], [], _ => rfl
  | [], _ :: _, e => by simp at e
  | _ :: _, [], e => by simp at e
  | x :: xs, y :: ys, e => by
    rw [List.map_cons, List.map_cons] at e
    injection e with e1 e2
    rw [kV_inj e1, kVs_inj e2]
theorem items_are {P : Program} {w : World} : ∀ {ks : List Key} {us : List Value}, Vals (ks.map kV) us → ItemsAre (mixKind P w) ks us
  | [], _, r => by rw [List.map_nil] at r; cases r; exact .nil
  | k :: ks, _, r => by
    rw [List.map_cons] at r
    cases r with
    | cons h t => exact .cons (kV_is h) (items_are t)
abbrev KT (H : Hp) : List (List Key × V) → List (List Key × Addr × Value) → Prop := Paired fun p q => p.1 = q.1 ∧ H q.2.1 = some (.tup (p.1.map kV)) ∧ RelV p.2 q.2.2
theorem KT.val {H : Hp} {kvs : List (List Key × V)} {xs : List (List Key × Addr × Value)} (r : KT H kvs xs) (k : List Key) : RelO (valV kvs k) ((atKey xs k).map (·.2)) := by
  induction r with
  | nil => exact True.intro
  | @cons p q ps qs h t ih =>
    obtain ⟨h1, _, h2⟩ := h
    by_cases e : p.1 = k
    · have e' : q.1 = k := h1.symm.trans e
      have b : atKey (q :: qs) k = some q.2 := by simp [atKey, List.find?_cons, e']
      rw [valV_pos e, b]; exact h2
    · have e' : ¬ q.1 = k := fun z => e (h1.trans z)
      have b : atKey (q :: qs) k = atKey qs k := by simp [atKey, List.find?_cons, e']
      rw [valV_neg e, b]; exact ih
theorem KT.repl {H : Hp} {kvs : List (List Key × V)} {xs : List (List Key × Addr × Value)} (r : KT H kvs xs) (k : List Key) {y : V} {u : Value} (ry : RelV y u) :
    KT H (kvs.map fun kv => if kv.1 = k then (kv.1, y) else kv) (xs.map (putAt k u)) := by
  induction r with
  | nil => exact .nil
  | @cons p q ps qs h t ih =>
    rw [List.map_cons, List.map_cons]
    refine .cons ?_ ih
    obtain ⟨h1, h2, h3⟩ := h
    unfold putAt
    by_cases e : p.1 = k
    · rw [if_pos e, if_pos (h1.symm.trans e)]; exact ⟨h1, h2, ry⟩
    · rw [if_neg e, if_neg (fun z => e (h1.trans z))]; exact ⟨h1, h2, h3⟩
theorem KT.put {H : Hp} {kvs : List (List Key × V)} {xs : List (List Key × Addr × Value)} (r : KT H kvs xs) (k : List Key) {b : Addr} {y : V} {u : Value} (hb : H b = some (.tup (k.map kV))) (ry : RelV y u) :
    KT H (putK kvs k y) (storedH xs k b u) := by
  have e : (kvs.any fun kv => decide (kv.1 = k)) = (atKey xs k).isSome := by
    rw [valV_any, (r.val k).isSome_eq, Option.isSome_map]
  unfold putK storedH
  rw [e]
  by_cases q : (atKey xs k).isSome = true
  · rw [if_pos q, if_pos q]; exact r.repl k ry
  · rw [if_neg q, if_neg q]; exact Paired.snoc r ⟨rfl, hb, ry⟩
theorem KT.keeps {H H' : Hp} {kvs : List (List Key × V)} {xs : List (List Key × Addr × Value)} (r : KT H kvs xs) (ht : ∀ b ys, H b = some (.tup ys) → H' b = some (.tup ys)) : KT H' kvs xs :=
  Paired.mapP r fun _ _ z => ⟨z.1, ht _ _ z.2.1, z.2.2⟩
section
variable {P : Program} {w : World} {H : Hp} {h : Heap} {a : Addr}
end
def DGet (H : Hp) (a : Addr) (y : V) (r : Option V) : Prop :=
  (∃ kvs k, Rd H a (.dK kvs) ∧ y = kV k ∧ r = valV kvs k) ∨ ∃ kvs k b, Rd H a (.dT kvs) ∧ y = .ref b ∧ H b = some (.tup (k.map kV)) ∧ r = valV kvs k
def DPut (H : Hp) (a : Addr) (y v : V) (H' : Hp) : Prop :=
  (∃ kvs k, H a = some (.dK kvs) ∧ y = kV k ∧ kvs.length < sizeLine ∧ H' = upd H a (.dK (putK kvs k v))) ∨
  ∃ kvs k b, H a = some (.dT kvs) ∧ y = .ref b ∧ H b = some (.tup (k.map kV)) ∧ kvs.length < sizeLine ∧ H' = upd H a (.dT (putK kvs k v))
theorem DGet.k {H : Hp} {a : Addr} {kvs : List (Key × V)} {k : Key} (e : H a = some (.dK kvs)) : DGet H a (kV k) (valV kvs k) := .inl ⟨kvs, k, .inl e, rfl, rfl⟩
theorem DGet.t {H : Hp} {a b : Addr} {kvs : List (List Key × V)} {k : List Key} (e : H a = some (.dT kvs)) (eb : H b = some (.tup (k.map kV))) : DGet H a (.ref b) (valV kvs k) := .inr ⟨kvs, k, b, .inl e, rfl, eb, rfl⟩
theorem DPut.k {H : Hp} {a : Addr} {kvs : List (Key × V)} {k : Key} {v : V} (e : H a = some (.dK kvs)) (hl : kvs.length < sizeLine) : DPut H a (kV k) v (upd H a (.dK (putK kvs k v))) := .inl ⟨kvs, k, e, rfl, hl, rfl⟩
theorem DPut.t {H : Hp} {a b : Addr} {kvs : List (List Key × V)} {k : List Key} {v : V} (e : H a = some (.dT kvs)) (eb : H b = some (.tup (k.map kV))) (hl : kvs.length < sizeLine) :
    DPut H a (.ref b) v (upd H a (.dT (putK kvs k v))) := .inr ⟨kvs, k, b, e, rfl, eb, hl, rfl⟩
section
variable {X : Cx} {pins : List (Addr × Obj)} {σ : St} {H : Hp} {s : Shared} {a : Addr} {y v : V} {u r : Value} {o : Option V} {A : Around} {E : Value → Shared → Prop}
theorem Inv.big (I : Inv X pins σ H s) : sysModules < s.heap.objs.size := by
  have h : mainGlobals < s.heap.objs.size := (I.mod.glob.keeps I.bk).lt
  exact Nat.lt_trans (by decide) h
end
section
variable {X : Cx} {pins : List (Addr × Obj)} {σ : St} {H : Hp} {s : Shared} {a : Addr} {kvs : List (Key × V)} {k : Key} {u : Value} {A : Around} {E : Value → Shared → Prop}
end
def NoSl (i : Expr) : Prop := ∀ ov iv, subscripted i false ov iv = operate [ov, iv] (getItem ov iv)
def tDGet (td ty : TE) : TE := fun σ H Q => td σ H fun x H1 => ty σ H1 fun y H2 => ∃ a v, x = .ref a ∧ DGet H2 a y (some v) ∧ Q v H2
def tDIn (ty td : TE) : TE := fun σ H Q => ty σ H fun y H1 => td σ H1 fun x H2 => ∃ a o, x = .ref a ∧ DGet H2 a y o ∧ Q (.bl o.isSome) H2
def tDNotIn (ty td : TE) : TE := fun σ H Q => ty σ H fun y H1 => td σ H1 fun x H2 => ∃ a o, x = .ref a ∧ DGet H2 a y o ∧ Q (.bl (!o.isSome)) H2
def sDPut (td ty tv : TE) : TS := fun D σ H => tv σ H fun v H1 => td σ H1 fun x H2 => ty σ H2 fun y H3 => ∃ a H4, x = .ref a ∧ DPut H3 a y v H4 ∧ D.nx σ H4
def sDAug (td ty tv : TE) (rd : V → V → Hp → VK → Prop) : TS := fun D σ H => td σ H fun x H1 => ty σ H1 fun y H2 => ∃ a v, x = .ref a ∧ DGet H2 a y (some v) ∧
  tv σ H2 fun y2 H3 => rd v y2 H3 fun z H4 => ∃ H5, DPut H4 a y z H5 ∧ D.nx σ H5
def sDDel (td ty : TE) : TS := fun D σ H => td σ H fun x H1 => ty σ H1 fun y H2 => ∃ a kvs k, x = .ref a ∧ H2 a = some (.dK kvs) ∧ y = kV k ∧ (valV kvs k).isSome = true ∧ D.nx σ (upd H2 a (.dK (dropK kvs k)))
section
variable {X : Cx} {o i e value : Expr} {pos pos' tpos : Pos} {td ty tv : TE}
end
theorem dk_empty {P : Program} {w : World} {H : Hp} (h : Heap) (hb : sysModules < h.objs.size) : ObjOk P w H (h.push { cls := .type "dict", data := .dict #[] }) h.objs.size (.dK []) :=
  ⟨Nat.zero_le _, beq_eq_false_iff_ne.mpr (Ne.symm (Nat.ne_of_lt hb)), [], .nil, Heap.DictOf.new h⟩
def tDNewK : TE := fun _ H Q => ∀ p, H p = none → Q (.ref p) (upd H p (.dK []))
def tDNewT : TE := fun _ H Q => ∀ p, H p = none → Q (.ref p) (upd H p (.dT []))
section
variable {X : Cx} {pos : Pos}
theorem pe_dnewK : PE X (.Dict [] [] pos) tDNewK := fun pins s σ H Q I h =>
  wpAny_Dict_empty ⟨.ref s.heap.objs.size, _, I.laid (a := s.heap.objs.size) (o := .dK []) (t' := s.toks) (fun _ _ q => Heap.get?_push_of_some _ q) (Nat.le_refl _) (dk_empty s.heap I.big), rfl, h _ (I.hok.fresh (Nat.le_refl _))⟩
end
def tPairs : List (TE × TE) → St → Hp → (List (V × V) → Hp → Prop) → Prop
  | [], _, H, Q => Q [] H
  | (tk, tv) :: r, σ, H, Q => tk σ H fun x H1 => tv σ H1 fun y H2 => tPairs r σ H2 fun ps H3 => Q ((x, y) :: ps) H3
abbrev VV : List (V × V) → List (Value × Value) → Prop := Paired fun p q => RelV p.1 q.1 ∧ RelV p.2 q.2
def PPs (X : Cx) (pos : Pos) (keys : List (Option Expr)) (values : List Expr) (trs : List (TE × TE)) : Prop :=
  ∀ (pins : List (Addr × Obj)) (s : Shared) (σ : St) (H : Hp) (Q : List (V × V) → Hp → Prop), Inv X pins σ H s → tPairs trs σ H Q →
    wpAny (model X.prog X.w) X.A (evalPairs (pairTrees keys values X.env pos)) (fun vs s' => ∃ ps H', Inv X pins σ H' s' ∧ VV ps vs ∧ Q ps H') X.xe s
def mergeK (kvs more : List (Key × V)) : List (Key × V) := more.foldl (fun acc kv => putK acc kv.1 kv.2) kvs
theorem length_mergeK : ∀ (more kvs : List (Key × V)), (mergeK kvs more).length ≤ kvs.length + more.length
  | [], kvs => by show kvs.length ≤ kvs.length + 0; omega
  | p :: r, kvs => by
    have h1 := length_mergeK r (putK kvs p.1 p.2)
    have h2 := length_putK kvs p.1 p.2
    show (mergeK (putK kvs p.1 p.2) r).length ≤ _
    rw [List.length_cons]; omega
theorem carries_of {P : Program} {w : World} : ∀ {kvs : List (Key × V)} {ws : List (Value × Value)}, VV (kvs.map fun kv => (kV kv.1, kv.2)) ws → ∃ rs, Carries (mixKind P w) ws rs ∧ KV kvs rs
  | [], _, r => by rw [List.map_nil] at r; cases r; exact ⟨[], True.intro, .nil⟩
  | p :: kvs, _, r => by
    rw [List.map_cons] at r
    cases r with
    | @cons a b as bs h t =>
      obtain ⟨rs, c, q⟩ := carries_of (P := P) (w := w) t
      obtain ⟨b1, b2⟩ := b
      exact ⟨(p.1, b2) :: rs, ⟨kV_is h.1, rfl, c⟩, .cons ⟨rfl, h.2⟩ q⟩
def tDisp (trs : List (TE × TE)) : TE := fun σ H Q => ∀ p, H p = none → tPairs trs σ (upd H p (.dK [])) fun ps H2 => H2 p = some (.dK []) ∧ ∃ kvs : List (Key × V), ps = kvs.map (fun kv => (kV kv.1, kv.2)) ∧ kvs.length ≤ 15 ∧ Q (.ref p) (upd H2 p (.dK (mergeK [] kvs)))
structure M1 (X : Cx) (o : Expr) (m : Str) (apos : Pos) (e : Expr) (cpos : Pos) : Prop where
  base : attributeBase o m X.env (eval o X.env) = eval o X.env
  few : ((backTo cpos (starEach [e] X.env)).all (fun x => !x.1) && (backToKw cpos (keywordEach [] X.env)).all (fun x => x.1.isSome)
    && decide (([e] : List Expr).length + ([] : List Keyword).length + (if ([] : List Keyword).isEmpty then 0 else 1) < 30)) = true
  line : (apos.endLine == cpos.line) = true
  trees : backTo cpos (starEach [e] X.env) = [(false, eval e X.env)]
structure M2 (X : Cx) (o : Expr) (m : Str) (apos : Pos) (e f : Expr) (cpos : Pos) : Prop where
  base : attributeBase o m X.env (eval o X.env) = eval o X.env
  few : ((backTo cpos (starEach [e, f] X.env)).all (fun x => !x.1) && (backToKw cpos (keywordEach [] X.env)).all (fun x => x.1.isSome)
    && decide (([e, f] : List Expr).length + ([] : List Keyword).length + (if ([] : List Keyword).isEmpty then 0 else 1) < 30)) = true
  line : (apos.endLine == cpos.line) = true
  trees : backTo cpos (starEach [e, f] X.env) = [(false, eval e X.env), (false, eval f X.env)]
def IsD (H : Hp) (a : Addr) : Prop := (∃ kvs, Rd H a (.dK kvs)) ∨ ∃ kvs, Rd H a (.dT kvs)
section
variable {X : Cx} {pins : List (Addr × Obj)} {σ : St} {H : Hp} {s : Shared} {a : Addr} {y d : V} {u r : Value} {o : Option V} {A : Around} {E : Value → Shared → Prop}
end
def tDGet1 (td ty : TE) : TE := fun σ H Q => td σ H fun x H1 => ∃ a, x = .ref a ∧ IsD H1 a ∧ ty σ H1 fun y H2 => ∃ o, DGet H2 a y o ∧ Q (o.getD .non) H2
def tDGet2 (td ty tx : TE) : TE := fun σ H Q => td σ H fun x H1 => ∃ a, x = .ref a ∧ IsD H1 a ∧ ty σ H1 fun y H2 => tx σ H2 fun z H3 => ∃ o, DGet H3 a y o ∧ Q (o.getD z) H3
def tDPop1 (td ty : TE) : TE := fun σ H Q => td σ H fun x H1 => ∃ a, x = .ref a ∧ IsD H1 a ∧ ty σ H1 fun y H2 => ∃ kvs k v, H2 a = some (.dK kvs) ∧ y = kV k ∧ valV kvs k = some v ∧ Q v (upd H2 a (.dK (dropK kvs k)))
def tDPop2 (td ty tx : TE) : TE := fun σ H Q => td σ H fun x H1 => ∃ a, x = .ref a ∧ IsD H1 a ∧ ty σ H1 fun y H2 => tx σ H2 fun z H3 => ∃ kvs k, H3 a = some (.dK kvs) ∧ y = kV k ∧
  (∀ v, valV kvs k = some v → Q v (upd H3 a (.dK (dropK kvs k)))) ∧ (valV kvs k = none → Q z H3)
section
variable {X : Cx} {o e f : Expr} {apos cpos : Pos} {td ty tx : TE}
end
section
variable {X : Cx} {pins : List (Addr × Obj)} {σ : St} {H : Hp} {s : Shared} {a : Addr} {kvs : List (Key × V)} {A : Around} {E : Value → Shared → Prop}
end
section
variable {X : Cx} {pins : List (Addr × Obj)} {σ : St} {H : Hp} {s : Shared} {a : Addr} {y : V} {u : Value} {A : Around} {E : Value → Shared → Prop}
end
end L2
namespace Att
open PySem PySem.W PySem.Calls PyProof.Rows
theorem ints_of_wellAll {P : Params} {h : Heap} : ∀ (ns : List Int) (vs : List Value), WellAll P h vs (ns.map WData.int) → IntsAre vs ns := by
  intro ns
  induction ns with
  | nil =>
    intro vs w
    rw [List.map_nil] at w
    cases w
    exact .nil
  | cons n ns ih =>
    intro vs w
    rw [List.map_cons] at w
    cases w with
    | cons a b =>
      cases a
      exact .cons _ _ (ih _ b)
theorem script_of {l : OpenLaw} {n : Nat} (hn : l.most = some n) {P : Params} {h : Heap} {args : List WData} {vals : List Value}
    (hpre : l.row.toRowW.claim.pre args = true) (hwl : WellAll P h vals args) :
    ∃ a vs ns, vals = [Value.ref a] ∧ args = [WData.list (ns.map WData.int)] ∧ h.get? a = some { cls := .type "list", data := .seq vs.toArray } ∧ IntsAre vs ns ∧ ns.length ≤ n := by
  have hsh : WShape.hasAll [] args [.list .int] = true := (pre_splitW hpre).1
  have hc : l.pre.holds [] { args := args } = true := (pre_splitW hpre).2
  obtain ⟨d, r, rfl, h1, h2⟩ := hasAllW_cons hsh
  obtain rfl := hasAllW_nil h2
  obtain ⟨xs, rfl, h3⟩ := hasW_list h1
  obtain ⟨ns, rfl⟩ := items_int h3
  have hlen : ns.length ≤ n := by
    unfold OpenLaw.pre at hc
    have h4 : (WTm.not (.lt (.lit (.int (n : Int))) (.len (.arg 0)))).holds [] { args := [.list (ns.map .int)] } = true := by
      have h4 := (holds_andW hc).1
      rw [hn] at h4
      exact h4
    have h5 := condW_of h4 (w_not (w_lt w_lit (w_len_list (w_arg rfl))))
    rw [List.length_map] at h5
    refine Nat.le_of_not_lt fun q => ?_
    have q' : (n : Int) < ((ns.length : Nat) : Int) := by omega
    first
      | (rw [decide_eq_true q'] at h5; exact absurd h5 (by decide))
      | (simp at h5; omega)
  cases hwl with
  | cons w1 w2 =>
    cases w2
    cases w1 with
    | list ho hall => exact ⟨_, _, ns, rfl, rfl, ho, ints_of_wellAll ns _ hall, hlen⟩
theorem post_true (l : OpenLaw) (args : List WData) : l.row.toRowW.claim.post args (.bool true) args = true :=
  postW_of (r := l.row.toRowW) (X := (true == true))
    (show WShape.has [] (.bool true) .bool = true by first | rfl | decide | simp [WShape.has, WShape.arms, WShape.armsAll])
    (show (WTm.eq .res (.lit (.bool true))).value [] { args := args, res := some (.bool true), after := args } = some (.bool (true == true)) from w_eq_bool (w_res rfl) w_lit) rfl
theorem attach_call {l : OpenLaw} {n : Nat} {q : Program} {loose : List Str} {XP : (Str → Option Value) → Heap → Prop} {YP : World → Heap → Prop} {d : DefRec}
    (hn : l.most = some n) (hdf : d.params.defaults = [])
    (call : ∀ (w : World) (s₀ s₁ : Shared) (mg mb : Str → Option Value) (fa : Addr) (o : Obj) (pm cd doc : Value) (a : Addr) (vs : List Value) (ns : List Int),
      Ground q loose [] XP w s₀ mg mb s₁.heap → YP w s₁.heap →
      s₁.heap.get? fa = some o → o.data = .func (docDef d.name d.params d.body d.scope pm cd doc) → s₁.heap.CodeRec cd d.name → mg d.name = some (.ref fa) →
      s₁.heap.get? a = some { cls := .type "list", data := .seq vs.toArray } → IntsAre vs ns → ns.length ≤ n → s₁.gens = #[] →
      codeAny (model l.prog w) callerA (.call (.ref fa) ⟨[.ref a], []⟩) (fun r s' => r = .ok (.ret (.bool true)) ∧ OldK s₁.heap s'.heap ∧ s'.os = s₁.os ∧ AllBare s'.gens) s₁) :
    WalkO q loose XP YP l.row.toRowW d [] (fun f vs => PySem.call f vs) := by
  intro w s₀ s₁ mg mb G Y fa o pm cd doc dV kV ho hd hcd hD hmg hg args vals as hpre hlay hrd hwl hlo
  obtain rfl : dV = .none := Dflts.none hD hdf
  obtain rfl : kV = .none := Dflts.noKw hD
  obtain ⟨a, vs, ns, rfl, rfl, hobj, hints, hlen⟩ := script_of hn hpre hwl
  refine enter_call (codeAny_mono (call w s₀ s₁ mg mb fa o pm cd doc a vs ns G Y ho (fd_plain hd) hcd hmg hobj hints hlen hg) fun r s' hq => ?_)
  obtain ⟨rfl, h2, h3, h4⟩ := hq
  exact ⟨.inl ⟨.bool true, .bool true, [], rfl, fun _ => rfl, .bool true, post_true l _, fun _ => ⟨List.Pairwise.nil, fun _ hm => (nomatch hm)⟩⟩, h2, h3, h4⟩
section
variable {prog : Program} {w : World} {A : Around} {E : Value → Shared → Prop} {s : Shared} {K : Frag}
def noObjs (h : Heap) : Heap := { h with objs := #[] }
def ledger (h : Heap) (L d : Addr) : List (Addr × Obj) := (List.range h.objs.size).filterMap fun a => if a = L ∨ a = d then none else (h.get? a).map fun o => (a, o)
end
end Att
namespace L2
open PySem PySem.Spec PyProof.Rows
theorem vals_ints : ∀ {vs : List Value} {ns : List Int}, IntsAre vs ns → Vals (ns.map V.int) vs
  | _, _, .nil => .nil
  | _, _, .cons n t h => .cons ⟨t, rfl⟩ (vals_ints h)
def Only (H : Hp) : Prop := ∀ b, H b = none ∨ ∃ o xs, H b = some (.frz o (.lst xs))
theorem law_call {P : Program} {w : World} {K : PySem.W.Frag} {mg mb : Str → Option Value} {CX : CXT} {k : Nat} {fa a : Addr} {fd : FuncData} {x : Str} {sp : Sp} {s₁ : Shared} {vs : List Value} {ns : List Int}
    (KX : K.In s₁.heap) (hns : s₁.heap.Ns mainGlobals mg) (hb : s₁.heap.Ns builtinsNs mb) (hbb : ∀ x : Str, x ≠ "__name__" → mb x = bootBuiltins x) (hlim : s₁.heap.NoLimit) (hg : s₁.gens = #[])
    (ha : s₁.heap.get? a = some { cls := .type "list", data := .seq vs.toArray }) (hi : IntsAre vs ns) (hl : ns.length ≤ sizeLine) (hr : Room k callerA)
    (F : ∀ base : Heap, K.In base → base.Ns mainGlobals mg → FnOk P w K mg base CX k fa fd [x] sp) (hbind : ∀ (s : Shared) (u : Value), BindsTo s fd ⟨[u], []⟩ [(x, u)])
    (hsp : ∀ H : Hp, Only H → SqL K H a (ns.map V.int) → sp [.ref a] H (fun v _ => v = .bl true) fun _ _ _ => False)
    (hCX : ∀ H e s', CX [] H s₁ (fun _ _ _ => False) e s' → False) :
    codeAny (model P w) callerA (.call (.ref fa) ⟨[.ref a], []⟩) (fun r s' => r = .ok (.ret (.bool true)) ∧ OldK s₁.heap s'.heap ∧ s'.os = s₁.os ∧ AllBare s'.gens) s₁ := by
  have rv := vals_ints hi
  have lenV := hi.length
  have core : ∀ H : Hp, Only H → SqL K H a (ns.map V.int) → HOk P w H s₁.heap → (∀ b, H b ≠ none → b = a) → (H a ≠ none → K.lookup a = none) →
      codeAny (model P w) callerA (.call (.ref fa) ⟨[.ref a], []⟩) (fun r s' => r = .ok (.ret (.bool true)) ∧ OldK s₁.heap s'.heap ∧ s'.os = s₁.os ∧ AllBare s'.gens) s₁ := by
    intro H hO hS hok hA hK
    have base_of : ∀ {b : Addr} {o : Obj}, s₁.heap.get? b = some o → H b = none → (hidT s₁.heap H).get? b = some o := fun e n => hidT_get e n
    have noA : ∀ {b : Addr} {o : Obj} {es : Array DictEntry} {ep : Nat}, s₁.heap.get? b = some o → o.data = .dict es ep → H b = none := fun {b o es ep} e d => by
      cases q : H b with
      | none => rfl
      | some u =>
        have e' : b = a := hA b (by rw [q]; simp)
        subst e'
        rw [ha] at e; cases e
        have d' : Data.seq vs.toArray _ = Data.dict es ep := d
        cases d'
    have nsK : ∀ {b : Addr} {m : Str → Option Value}, s₁.heap.Ns b m → (hidT s₁.heap H).Ns b m := fun {b m} ⟨o, es, ep, e, d, r⟩ => ⟨o, es, ep, base_of e (noA e d), d, r⟩
    have hKb : K.In (hidT s₁.heap H) := fun b o e => base_of (KX b o e) (by
      cases q : H b with
      | none => rfl
      | some u =>
        have e' : b = a := hA b (by rw [q]; simp)
        subst e'
        rw [hK (by rw [q]; simp)] at e; cases e)
    have hM : Mod K mg (hidT s₁.heap H) := ⟨hKb, nsK hns, ⟨mb, nsK hb, hbb⟩, let ⟨mc, h1, h2⟩ := hlim; ⟨mc, nsK h1, h2⟩⟩
    have e0 : Env0 P w K mg (hidT s₁.heap H) callerA [] s₁ H := ⟨rfl, hM, fun b o e => of_hidT e, Nat.le_of_eq (hidT_size _ _), trivial, fun b hb => absurd (show b ∈ ([] : List Addr) from hb) (by simp), hok, .of_eq hg⟩
    refine codeAny_mono ((F _ hKb (nsK hns)).run callerA [] s₁ H ⟨[.ref a], []⟩ [.ref a] [.ref a] _ _ hr e0 (hbind s₁ (.ref a)) (.cons rfl .nil) (hsp H hO hS)) fun r s' h => ?_
    cases r with
    | error e => exact (hCX H e s' h).elim
    | ok fl =>
      cases fl with
      | next => exact False.elim h
      | brk => exact False.elim h
      | cont => exact False.elim h
      | ret u =>
        obtain ⟨v, H', os, bare, un, hok', r', q⟩ := h
        have q' : v = .bl true := q
        subst q'
        obtain rfl : u = Value.bool true := r'
        refine ⟨rfl, OldK.of_keep fun b o e => ?_, os, bare⟩
        cases q : H b with
        | none => exact un.keep b o e q (by intro z; exact absurd (show b ∈ ([] : List Addr) from z) (by simp)) (by simp)
        | some u =>
          rcases hO b with z | ⟨ob, xs, z⟩
          · rw [q] at z; cases z
          · have z2 := un.frzs b ob _ z
            obtain ⟨e1, _⟩ := hok b _ z
            obtain ⟨e2, _⟩ := hok' b _ z2
            rw [e] at e1; cases e1
            exact e2
  cases hk : K.lookup a with
  | some o =>
    have e := KX a o hk
    rw [ha] at e
    cases e
    refine core (fun _ => none) (fun _ => .inl rfl) (.inr ⟨_, vs.toArray, _, hk, rfl, rfl, rfl, by rw [List.size_toArray, lenV]; exact hl, by simpa using rv⟩) (fun b u z => by have z' : (none : Option HO) = some u := z; cases z') (fun b z => absurd rfl z) fun z => absurd rfl z
  | none =>
    refine core (fun b => if b = a then some (.frz { cls := .type "list", data := .seq vs.toArray } (.lst (ns.map V.int))) else none) (fun b => ?_) (.inl (.inr ⟨{ cls := .type "list", data := .seq vs.toArray }, if_pos rfl⟩)) (fun b u z => ?_) (fun b z => ?_) fun _ => hk
    · by_cases hb : b = a
      · exact .inr ⟨_, _, if_pos hb⟩
      · exact .inl (if_neg hb)
    · by_cases hb : b = a
      · have z' := (if_pos hb).symm.trans z
        cases z'
        subst hb
        exact ⟨ha, by rw [List.length_map]; exact hl, vs, _, rv, ha⟩
      · have z' := (if_neg hb).symm.trans z
        cases z'
    · by_cases hb : b = a
      · exact hb
      · exact absurd (if_neg hb) z
end L2
namespace L2
open PySem PySem.Spec PyProof.Rows
abbrev KOf {K : PySem.W.Frag} {h : Heap} (_ : K.In h) : PySem.W.Frag := K
theorem walk_of {l : PySem.W.OpenLaw} {n k : Nat} {q : Program} {loose : List Str} {XP : (Str → Option Value) → Heap → Prop} {YP : World → Heap → Prop} {d : DefRec} {K : Params → PySem.W.Frag} {CX : World → CXT} {sp : World → Sp} {x : Str}
    (hn : l.most = some n) (hn2 : n ≤ sizeLine) (hdf : d.params.defaults = []) (hr : Room k callerA)
    (hY : ∀ (w : World) (h : Heap), YP w h → (K w.params).In h)
    (F : ∀ (w : World) (mg : Str → Option Value) (fa : Addr) (h : Heap), (K w.params).In h → h.Ns mainGlobals mg → mg d.name = some (.ref fa) →
      ∃ fd : FuncData, (∀ (s : Shared) (u : Value), BindsTo s fd ⟨[u], []⟩ [(x, u)]) ∧
        ∀ base : Heap, (K w.params).In base → base.Ns mainGlobals mg → FnOk l.prog w (K w.params) mg base (CX w) k fa fd [x] (sp w))
    (hsp : ∀ (w : World) (H : Hp) (a : Addr) (ns : List Int), ns.length ≤ n → Only H → SqL (K w.params) H a (ns.map V.int) → sp w [.ref a] H (fun v _ => v = .bl true) fun _ _ _ => False)
    (hCX : ∀ (w : World) (H : Hp) (s : Shared) (e : Value) (s' : Shared), CX w [] H s (fun _ _ _ => False) e s' → False) :
    PySem.W.WalkO q loose XP YP l.row.toRowW d [] (fun f vs => PySem.call f vs) := by
  refine Att.attach_call hn hdf fun w s₀ s₁ mg mb fa o pm cd doc a vs ns G Y ho hd hcd hmg hobj hints hlen hg => ?_
  have KX := hY w _ Y
  obtain ⟨fd, hb, hF⟩ := F w mg fa _ KX G.T.g hmg
  exact law_call KX G.T.g G.T.b G.T.builtins G.T.nolimit hg hobj hints (Nat.le_trans hlen hn2) hr hF hb (fun H hO hS => hsp w H a ns hlen hO hS) fun H e s' => hCX w H s₁ e s'
end L2
namespace L2
open PySem PySem.Spec PyProof.Rows
def inClass (s : Stmt) (j : Nat) : Stmt := match s with
  | .ClassDef _ _ _ body _ _ _ _ _ _ _ => body.getD j (.Pass ⟨0, 0, 0, 0⟩)
  | _ => .Pass ⟨0, 0, 0, 0⟩
def defArgs (s : Stmt) : Arguments := match s with
  | .FunctionDef _ a _ _ _ _ _ _ _ _ => a
  | _ => { posonlyargs := [], args := [], vararg := none, kwonlyargs := [], kw_defaults := [], kwarg := none, defaults := [] }
def defBody (s : Stmt) : List Stmt := match s with
  | .FunctionDef _ _ b _ _ _ _ _ _ _ => b
  | _ => []
def defScope (s : Stmt) : Scope := match s with
  | .FunctionDef _ _ _ _ _ _ sc _ _ _ => sc
  | _ => { kind := .function, names := [], isGenerator := false, isCoroutine := false }
abbrev CX0 : CXT := fun _ _ _ _ _ _ => False
abbrev E0 : XK := fun _ _ _ => False
theorem pass0 {X : Cx} : Passes CX0 X E0 := fun _ _ _ _ _ _ _ h => h.elim
structure Fun (K : PySem.W.Frag) (x qual : Str) (st : Stmt) (f : Addr) (fd : FuncData) : Prop where
  ex : ∃ (oc : Value) (od : Option Addr) (kV doc pm : Value) (an : Option Addr) (cdv ct : Value) (osl : Array (Option Value)),
    fd = PySem.W.fnOf x qual (defArgs st) (defBody st) (defScope st) .none kV doc pm an cdv ct ∧ K.lookup f = some ⟨oc, od, .func fd, osl⟩ ∧ PySem.W.codeIn K cdv qual = true
  kp : PySem.W.keepIn K (.ref f) = true
section
variable {P : Program} {w : World} {K : PySem.W.Frag} {mg : Str → Option Value} {base : Heap}
theorem Fun.ok {x qual : Str} {st : Stmt} {f : Addr} {fd : FuncData} {N ps : List Str} {k : Nat} {sp : Sp} (F : Fun K x qual st f fd) (S : FnScope N ps (defScope st)) (len : ∀ vs H Q E, sp vs H Q E → vs.length = ps.length)
    (hbody : ∀ (cdv : Value) (A : Around) (outer : List Env) (s : Shared) (H : Hp) (vs : List V) (Q : VK) (E : XK), Room k (A.deeper (envOfC qual (defScope st) s.heap.objs.size f cdv)) → sp vs H Q E →
      ∃ t, PSs (cxOf CX0 P w K mg base N qual (defScope st) f cdv A outer s H E).nox (defBody st) t ∧ t { nx := fun _ H' => Q .non H', rt := Q } (start N vs) H) : FnOk P w K mg base CX0 (k + 1) f fd ps sp := by
  obtain ⟨oc, od, kV, doc, pm, an, cdv, ct, osl, rfl, lk, hcd⟩ := F.ex
  refine fn_of lk hcd S len fun A outer s H vs Q E hr hsp => ?_
  obtain ⟨t, h, q⟩ := hbody cdv A outer s H vs Q E hr hsp
  exact ⟨t, h.nox, q⟩
theorem Fun.binds {x qual : Str} {st : Stmt} {f : Addr} {fd : FuncData} {ps : List Str} (F : Fun K x qual st f fd)
    (h : ∀ (kV doc pm : Value) (an : Option Addr) (cdv ct : Value) (us : List Value), us.length = ps.length → bindArgs (PySem.W.fnOf x qual (defArgs st) (defBody st) (defScope st) .none kV doc pm an cdv ct) ⟨us, []⟩ = pure (ps.zip us)) : Binds K fd ps [] := by
  obtain ⟨oc, od, kV, doc, pm, an, cdv, ct, osl, rfl, lk, hcd⟩ := F.ex
  exact .all (h kV doc pm an cdv ct)
theorem fun_mk {x qual : Str} {st : Stmt} {f : Addr} {oc : Value} {od an : Option Addr} {osl : Array (Option Value)} {kV doc pm cdv ct : Value} (l : K.lookup f = some ⟨oc, od, .func (PySem.W.fnOf x qual (defArgs st) (defBody st) (defScope st) .none kV doc pm an cdv ct), osl⟩)
    (c : PySem.W.codeIn K cdv qual = true) (k : PySem.W.keepIn K (.ref f) = true) : Fun K x qual st f (PySem.W.fnOf x qual (defArgs st) (defBody st) (defScope st) .none kV doc pm an cdv ct) := ⟨⟨oc, od, kV, doc, pm, an, cdv, ct, osl, rfl, l, c⟩, k⟩
end
section
variable {X : Cx}
theorem pv (i : Nat) {x : Str} {pos : Pos} (hN : X.N[i]? = some x := by rfl) (hv : Vis X.env.scope x := by first | exact Or.inl rfl | exact Or.inr (Or.inl rfl) | exact Or.inr (Or.inr rfl)) (hd : (x == ("__debug__" : Str)) = false := by decide)
    (hcd : (x == ("__classdict__" : Str)) = false := by decide) : PE X (.Name x pos) (tVar i) := pe_var hN hv hd hcd
end
theorem iteF {A B : Prop} (h : B) : if false = true then A else B := by
  rw [if_neg Bool.false_ne_true]
  exact h
theorem iteT {A B : Prop} (h : A) : if true = true then A else B := by
  rw [if_pos rfl]
  exact h
def Same (H H' : Hp) : Prop := ∀ b o, H b = some o → H' b = some o
theorem Same.refl (H : Hp) : Same H H := fun _ _ h => h
theorem Same.trans {H H1 H2 : Hp} (a : Same H H1) (b : Same H1 H2) : Same H H2 := fun c o h => b c o (a c o h)
theorem Same.free {H H' : Hp} (e : Same H H') {l : Addr} (h : H' l = Option.none) : H l = Option.none := by
  cases q : H l with
  | none => rfl
  | some o =>
    rw [e l o q] at h
    cases h
theorem Same.seq {K : PySem.W.Frag} {H H' : Hp} {a : Addr} {xs : List V} (e : Same H H') (h : SqL K H a xs) : SqL K H' a xs := by
  rcases h with (h | ⟨o, h⟩) | h
  · exact .inl (.inl (e _ _ h))
  · exact .inl (.inr ⟨o, e _ _ h⟩)
  · exact .inr h
section
variable {κ : Type} [DecidableEq κ]
theorem nd_snoc : ∀ {l : List κ} {k : κ}, l.Nodup → ¬ k ∈ l → (l ++ [k]).Nodup
  | [], k, _, _ => by simp
  | a :: r, k, h, hk => by
    obtain ⟨h1, h2⟩ := List.nodup_cons.mp h
    show (a :: (r ++ [k])).Nodup
    refine List.nodup_cons.mpr ⟨fun m => ?_, nd_snoc h2 fun m => hk (List.mem_cons.mpr (Or.inr m))⟩
    rcases List.mem_append.mp m with q | q
    · exact h1 q
    · exact hk (List.mem_cons.mpr (Or.inl (List.mem_singleton.mp q).symm))
theorem dropK_pos {p : κ × V} {r : List (κ × V)} {k : κ} (e : p.1 = k) : dropK (p :: r) k = dropK r k := by
  unfold dropK
  rw [List.filter_cons, if_neg (by simp [e])]
theorem dropK_neg {p : κ × V} {r : List (κ × V)} {k : κ} (e : ¬ p.1 = k) : dropK (p :: r) k = p :: dropK r k := by
  unfold dropK
  rw [List.filter_cons, if_pos (by simp [e])]
theorem dropK_no : ∀ {kvs : List (κ × V)} {k : κ}, ¬ k ∈ kvs.map (·.1) → dropK kvs k = kvs
  | [], _, _ => rfl
  | p :: r, k, h => by
    have h' : ¬ k ∈ r.map (·.1) := fun m => by
      obtain ⟨q, hq, e⟩ := List.mem_map.mp m
      exact h (List.mem_map.mpr ⟨q, List.mem_cons.mpr (Or.inr hq), e⟩)
    rw [dropK_neg fun e => h (List.mem_map.mpr ⟨p, List.mem_cons.mpr (Or.inl rfl), e⟩), dropK_no h']
theorem dropK_mem {kvs : List (κ × V)} {k : κ} {p : κ × V} (h : p ∈ dropK kvs k) : p ∈ kvs := (List.mem_filter.mp h).1
theorem nd_dropK : ∀ {kvs : List (κ × V)} {k : κ}, (kvs.map (·.1)).Nodup → ((dropK kvs k).map (·.1)).Nodup
  | [], _, _ => List.nodup_nil
  | p :: r, k, h => by
    have h : (p.1 :: r.map (·.1)).Nodup := h
    obtain ⟨h1, h2⟩ := List.nodup_cons.mp h
    by_cases e : p.1 = k
    · rw [dropK_pos e]
      exact nd_dropK h2
    · rw [dropK_neg e]
      show (p.1 :: (dropK r k).map (·.1)).Nodup
      refine List.nodup_cons.mpr ⟨fun m => h1 ?_, nd_dropK h2⟩
      obtain ⟨q, hq, eq⟩ := List.mem_map.mp m
      exact List.mem_map.mpr ⟨q, dropK_mem hq, eq⟩
theorem dropK_len : ∀ {kvs : List (κ × V)} {k : κ}, (kvs.map (·.1)).Nodup → k ∈ kvs.map (·.1) → (dropK kvs k).length + 1 = kvs.length
  | [], _, _, m => by simp at m
  | p :: r, k, h, m => by
    have h : (p.1 :: r.map (·.1)).Nodup := h
    have m : k = p.1 ∨ k ∈ r.map (·.1) := List.mem_cons.mp m
    obtain ⟨h1, h2⟩ := List.nodup_cons.mp h
    by_cases e : p.1 = k
    · subst e
      rw [dropK_pos rfl, dropK_no h1]
      all_goals rfl
    · have m' : k ∈ r.map (·.1) := m.resolve_left fun z => e z.symm
      have q := dropK_len h2 m'
      rw [dropK_neg e, List.length_cons, List.length_cons]
      omega
end
end L2
namespace L2
open PySem PySem.Spec PyProof.Rows
def clOf (env : Env) : List (Str × NameKind) → List (Str × Addr) → List (Str × Addr)
  | [], cs => cs
  | (n, k) :: r, cs => clOf env r (if k == .free then (match env.cells.lookup n with | some a => (n, a) :: cs | none => cs) else cs)
theorem closureFor_go (env : Env) : ∀ (l : List (Str × NameKind)) (cs : List (Str × Addr)), (∀ x ∈ l, x.2 = .free → ∃ c, env.cells.lookup x.1 = some c) →
    (forIn l cs fun (x : Str × NameKind) r => if (x.2 == NameKind.free) = true then do let a ← cellOf env x.1; pure (ForInStep.yield ((x.1, a) :: r)) else pure (ForInStep.yield r) : Sem (List (Str × Addr))) = pure (clOf env l cs)
  | [], cs, _ => rfl
  | (n, k) :: r, cs, h => by
    have hr : ∀ x ∈ r, x.2 = .free → ∃ c, env.cells.lookup x.1 = some c := fun x hx => h x (List.mem_cons_of_mem _ hx)
    rw [List.forIn_cons, clOf]
    by_cases hk : (k == NameKind.free) = true
    · obtain ⟨c, hc⟩ := h (n, k) List.mem_cons_self (by simpa using hk)
      have hc' : env.cells.lookup n = some c := hc
      have e : cellOf env n = pure c := by unfold cellOf; rw [hc']
      simp only [hk, if_true, e, pure_bind, hc']
      exact closureFor_go env r _ hr
    · simp only [hk, if_false, pure_bind]
      exact closureFor_go env r _ hr
theorem closureFor_eq {scope : Scope} {env : Env} (h : ∀ x ∈ scope.names, x.2 = .free → ∃ c, env.cells.lookup x.1 = some c) : closureFor scope env = pure (clOf env scope.names []) := by
  have e := closureFor_go env scope.names [] h
  unfold closureFor
  show (forIn scope.names ([] : List (Str × Addr)) _ >>= fun r => pure r : Sem (List (Str × Addr))) = _
  rw [bind_pure]
  exact e
theorem clOf_old (env : Env) : ∀ (l : List (Str × NameKind)) (cs : List (Str × Addr)) (x : Str) (c : Addr), cs.lookup x = some c → env.cells.lookup x = some c → (clOf env l cs).lookup x = some c
  | [], _, _, _, h, _ => h
  | (n, k) :: r, cs, x, c, h, e => by
    rw [clOf]
    refine clOf_old env r _ x c ?_ e
    split
    · cases q : env.cells.lookup n with
      | none => exact h
      | some a =>
        show List.lookup x ((n, a) :: cs) = some c
        rw [List.lookup_cons]
        cases hx : x == n with
        | false => exact h
        | true =>
          have : x = n := by simpa using hx
          subst this
          rw [q] at e
          exact e
    · exact h
theorem clOf_sub (env : Env) : ∀ (l : List (Str × NameKind)) (cs : List (Str × Addr)) (x : Str) (c : Addr), (∀ y d, cs.lookup y = some d → env.cells.lookup y = some d) → (clOf env l cs).lookup x = some c → env.cells.lookup x = some c
  | [], cs, x, c, h, e => h x c e
  | (n, k) :: r, cs, x, c, h, e => by
    rw [clOf] at e
    refine clOf_sub env r _ x c ?_ e
    intro y d q
    split at q
    · cases z : env.cells.lookup n with
      | none => rw [z] at q; exact h y d q
      | some a =>
        rw [z] at q
        have q2 : List.lookup y ((n, a) :: cs) = some d := q
        rw [List.lookup_cons] at q2
        cases hx : y == n with
        | false => rw [hx] at q2; exact h y d q2
        | true =>
          rw [hx] at q2
          have hyn : y = n := by simpa using hx
          rw [hyn, z]
          exact q2
    · exact h y d q
theorem clOf_has (env : Env) : ∀ (l : List (Str × NameKind)) (cs : List (Str × Addr)) (x : Str) (c : Addr), (x, NameKind.free) ∈ l → env.cells.lookup x = some c → (clOf env l cs).lookup x = some c
  | [], _, _, _, h, _ => by simp at h
  | (n, k) :: r, cs, x, c, h, e => by
    rw [clOf]
    rcases List.mem_cons.mp h with h | h
    · have h1 : n = x := (congrArg Prod.fst h).symm
      have h2 : k = NameKind.free := (congrArg Prod.snd h).symm
      subst h1 h2
      refine clOf_old env r _ n c ?_ e
      rw [e]
      show List.lookup n (if (NameKind.free == NameKind.free) = true then (n, c) :: cs else cs) = some c
      rw [if_pos (by decide), List.lookup_cons]
      simp
    · exact clOf_has env r _ x c h e
theorem relabel_look (scope : Scope) (env : Env) (x : Str) : (relabel scope env).names.lookup x =
    (scope.names.lookup x).map fun k => if (k == .free && env.scope.kind == .function && env.kindOf x == some .cell) = true then NameKind.cell else k := by
  show (scope.names.map fun (p : Str × NameKind) => if (p.2 == .free && env.scope.kind == .function && env.kindOf p.1 == some .cell) = true then (p.1, NameKind.cell) else (p.1, p.2)).lookup x = _
  induction scope.names with
  | nil => rfl
  | cons p r ih =>
    obtain ⟨n, k⟩ := p
    rw [List.map_cons]
    show List.lookup x ((if (k == .free && env.scope.kind == .function && env.kindOf n == some .cell) = true then (n, NameKind.cell) else (n, k)) :: _) = _
    cases hx : x == n with
    | false =>
      have e1 : List.lookup x ((n, k) :: r) = List.lookup x r := by rw [List.lookup_cons, hx]
      rw [e1]
      split <;> (rw [List.lookup_cons, hx]; exact ih)
    | true =>
      have : x = n := by simpa using hx
      subst this
      have e1 : List.lookup x ((x, k) :: r) = some k := by rw [List.lookup_cons, hx]
      rw [e1]
      show _ = some _
      split
      · rename_i hc
        rw [List.lookup_cons, hx]
        show some NameKind.cell = some (if _ then _ else _)
        rw [if_pos hc]
      · rename_i hc
        rw [List.lookup_cons, hx]
        show some k = some (if _ then _ else _)
        rw [if_neg hc]
structure CompScope (X : Cx) (N : List Str) (src : List (Option Nat)) (scope : Scope) : Prop where
  kind : scope.kind = .function
  nocell : ∀ y ∈ scope.names, y.2 ≠ .cell
  names : ∀ y ∈ scope.names, y.2 = .local → scope.names.lookup y.1 = some .local
  fre : ∀ y ∈ scope.names, y.2 = .free → X.env.kindOf y.1 = some .cell ∨ X.env.kindOf y.1 = some .free
  len : src.length = N.length
  nd : N.Nodup
  src : ∀ (j i : Nat) (x : Str), N[j]? = some x → src[j]? = some (some i) → X.N[i]? = some x ∧ scope.names.lookup x = some .free
def compOk (dsc : Scope) (XN N : List Str) (src : List (Option Nat)) (scope : Scope) : Bool :=
  decide (scope.kind = .function) && scope.names.all (fun y => decide (y.2 ≠ .cell)) && scope.names.all (fun y => !decide (y.2 = .local) || decide (scope.names.lookup y.1 = some .local)) &&
  scope.names.all (fun y => !decide (y.2 = .free) || decide (dsc.names.lookup y.1 = some .cell) || decide (dsc.names.lookup y.1 = some .free)) && decide (src.length = N.length) && decide N.Nodup &&
  (N.zip src).all fun p => match p.2 with
    | none => true
    | some i => decide (XN[i]? = some p.1) && decide (scope.names.lookup p.1 = some .free)
theorem CompScope.of {X : Cx} {dsc : Scope} {XN N : List Str} {src : List (Option Nat)} {scope : Scope} (he : X.env.scope = dsc) (hN : X.N = XN) (h : compOk dsc XN N src scope = true) : CompScope X N src scope := by
  subst he hN
  unfold compOk at h
  simp only [Bool.and_eq_true, decide_eq_true_eq, List.all_eq_true, Bool.or_eq_true, Bool.not_eq_true', decide_eq_false_iff_not] at h
  obtain ⟨⟨⟨⟨⟨⟨h1, h2⟩, h3⟩, h4⟩, h5⟩, h6⟩, h7⟩ := h
  refine ⟨h1, h2, fun y hy e => ?_, fun y hy e => ?_, h5, h6, fun j i x e1 e2 => ?_⟩
  · rcases h3 y hy with q | q
    · exact absurd e q
    · exact q
  · rcases h4 y hy with (q | q) | q
    · exact absurd e q
    · exact .inl q
    · exact .inr q
  · have hm : (x, some i) ∈ N.zip src := by
      have : (N.zip src)[j]? = some (x, some i) := by rw [List.getElem?_zip_eq_some]; exact ⟨e1, e2⟩
      exact List.mem_of_getElem? this
    have q := h7 _ hm
    simpa using q
def cxC (X : Cx) (scope : Scope) (N : List Str) (s : Shared) (H : Hp) (ex : List Addr) : Cx :=
  { X with
    N := N
    s₀ := s
    H₀ := H
    env := compEnvC scope (clOf X.env scope.names []) s.heap.objs.size X.env
    outer := X.stack
    ex := ex
    fn := fun _ => false
    pn := []
    xe := fun _ _ => False }
def subSt (src : List (Option Nat)) (σ : St) : St := src.map fun o => match o with | none => none | some i => (σ[i]?).join
section
variable {X : Cx} {pins : List (Addr × Obj)} {σ : St} {H : Hp} {s : Shared} {N : List Str} {src : List (Option Nat)} {scope : Scope} {ex : List Addr}
theorem CompScope.cells (S : CompScope X N src scope) (ok : X.Ok) : ∀ x ∈ scope.names, x.2 = .free → ∃ c, X.env.cells.lookup x.1 = some c := fun x hx e => ok.has _ (S.fre x hx e)
theorem Inv.enterC (I : Inv X pins σ H s) (S : CompScope X N src scope) (hf : ∀ b ∈ ex, FpOk X pins H b) (hlt : ∀ b ∈ ex, b < s.heap.objs.size) {h1 : Heap} {m : Str → Option Value} {tk : Nat}
    (hns : h1.Ns s.heap.objs.size m) (hk : ∀ b o, s.heap.get? b = some o → h1.get? b = some o) : Inv (cxC X scope N s H ex) [] (subSt src σ) H { s with heap := h1, toks := tk } := by
  have neC : ∀ b o, s.heap.get? b = some o → b ≠ s.heap.objs.size := fun b o e => Nat.ne_of_lt (Heap.lt_size e)
  have sub : ∀ x c, (clOf X.env scope.names []).lookup x = some c → X.env.cells.lookup x = some c := fun x c e => clOf_sub X.env _ _ x c (fun y d z => by simp at z) e
  refine ⟨⟨I.ok.mod, S.kind, I.ok.glob, I.ok.blt, Nat.le_refl _, fun x y c e1 e2 => I.ok.inj x y c (sub x c e1) (sub y c e2), fun x hx => ?_, fun x c z => absurd z (by simp [cxC]), I.ok.hd, I.ok.frames, .inl rfl, fun b hb => ?_, I.bs, Nat.le_trans I.ok.bsz I.sz, fun b o e hb => ?_, fun b hb hz => ?_, I.stack, I.stkFree⟩,
    rfl, I.bare, Un.kept hk, ⟨m, hns, fun j x v e1 e2 e3 => ?_⟩, fun x c e => ?_, I.hok.fresh (Nat.le_refl _), fun x c e => I.freeC x c (sub x c e), fun p hp => absurd (show p ∈ ([] : List (Addr × Obj)) from hp) (by simp), I.hok.kept hk, ?_⟩
  · have hx : (relabel scope X.env).names.lookup x = some .cell ∨ (relabel scope X.env).names.lookup x = some .free := hx
    have hm : (x, NameKind.free) ∈ scope.names := by
      rw [relabel_look] at hx
      cases q : scope.names.lookup x with
      | none => rw [q] at hx; simp at hx
      | some k =>
        have hm := PySem.mem_of_lookup q
        cases k with
        | free => exact hm
        | cell => exact absurd rfl (S.nocell _ hm)
        | _ => rw [q] at hx; simp at hx
    obtain ⟨c, hc⟩ := S.cells I.ok _ hm rfl
    exact ⟨c, clOf_has X.env _ _ x c hm hc⟩
  · obtain ⟨f0, f1, f2, f3, f4, f5⟩ := hf b hb
    exact ⟨Nat.ne_of_lt (hlt b hb), fun x c e => f4 x c (sub x c e)⟩
  · obtain ⟨f0, f1, f2, f3, f4, f5⟩ := hf b hb
    rcases f3 with z | z
    · exact I.ok.noex b o e z
    · exact absurd (Nat.lt_of_lt_of_le (Heap.lt_size (I.ok.bs b o e).1) z) (Nat.lt_irrefl _)
  · obtain ⟨f0, f1, f2, f3, f4, f5⟩ := hf b hb
    rcases List.mem_cons.mp (I.stkSub b hz) with z | z
    · exact f1 z
    · exact f2 z
  · have e2 : (subSt src σ)[j]? = some (some v) := e2
    unfold subSt at e2
    rw [List.getElem?_map] at e2
    cases q : src[j]? with
    | none => rw [q] at e2; simp at e2
    | some o =>
      rw [q] at e2
      cases o with
      | none => simp at e2
      | some i =>
        have e2 : (σ[i]?).join = some v := by simpa using e2
        have e2 : σ[i]? = some (some v) := by
          cases z : σ[i]? with
          | none => rw [z] at e2; simp at e2
          | some w => rw [z] at e2; simp at e2; rw [e2]
        obtain ⟨hX, hfr⟩ := S.src j i x e1 q
        have hm := PySem.mem_of_lookup hfr
        have hk2 := S.fre _ hm rfl
        obtain ⟨mX, hnX, hl⟩ := I.loc
        have hvis : Vis X.env.scope x := .inr hk2
        obtain ⟨u, r, l⟩ := hl i x v hX e2 hvis
        refine ⟨u, r, ?_⟩
        rcases l with ⟨l1, _⟩ | ⟨_, c, hc, hcell⟩
        · rcases hk2 with z | z
          · have : X.env.kindOf x = some .cell := z
            rw [l1] at this; cases this
          · have : X.env.kindOf x = some .free := z
            rw [l1] at this; cases this
        · refine .inr ⟨?_, c, clOf_has X.env _ _ x c hm hc, ?_⟩
          · show (relabel scope X.env).names.lookup x = some .cell ∨ (relabel scope X.env).names.lookup x = some .free
            rw [relabel_look, hfr]
            by_cases hcc : (NameKind.free == .free && X.env.scope.kind == .function && X.env.kindOf x == some .cell) = true
            · left
              show some (if _ then _ else _) = _
              rw [if_pos hcc]
            · right
              show some (if _ then _ else _) = _
              rw [if_neg hcc]
          · exact hcell.keeps hk
  · obtain ⟨v, z⟩ := I.cell x c (sub x c e)
    exact ⟨v, z.keeps hk⟩
  · show (subSt src σ).length = N.length
    unfold subSt
    rw [List.length_map]
    exact S.len
end
def PIfs (X : Cx) (ifs : List Expr) (t : TT) : Prop :=
  ∀ (pins : List (Addr × Obj)) (s : Shared) (σ : St) (H : Hp) (Q : Bool → Hp → Prop), Inv X pins σ H s → t σ H Q →
    wpAny (model X.prog X.w) X.A (forIn ifs true fun c r => if r = true then do let ok ← isTrue c X.env (eval c X.env); pure (ForInStep.yield ok) else pure (ForInStep.yield r)) (TP X pins σ Q) X.xe s
def tNoIf : TT := fun _ H Q => Q true H
theorem pifs_nil {X : Cx} : PIfs X [] tNoIf := fun _ _ _ H _ I h => wpAny_tests_nil ⟨H, I, h⟩
theorem pifs_one {X : Cx} {c : Expr} {t : TT} (h : PT X c t) : PIfs X [c] t := fun pins s σ H Q I hw => wpAny_tests_one (h pins s σ H Q I hw)
def compWant (g : TG) (tt : TT) (te : TE) (src : List (Option Nat)) (σ : St) (Q : VK) (J : It) (H1 : Hp) : Prop :=
  ∃ W : Nat → Nat → List V → St → Hp → Prop, (∃ m, W 0 m [] (subSt src σ) H1) ∧ ∀ i m ys σ' H', W i m ys σ' H' →
    (J.stop i H' ∧ ∀ p, H' p = none → Q (.ref p) (upd H' p (.lst ys))) ∨
    (J.go i H' ∧ ys.length < sizeLine ∧ ∀ x H2, J.yld i H' x H2 → g x σ' H2 fun σ3 H3 => tt σ3 H3 fun b H4 =>
      if b = true then te σ3 H4 fun v H5 => ∃ m', m' < m ∧ W (i + 1) m' (ys ++ [v]) σ3 H5 else ∃ m', m' < m ∧ W (i + 1) m' ys σ3 H4)
def tComp (wi : TI) (g : TG) (tt : TT) (te : TE) (src : List (Option Nat)) : TE := fun σ H Q => wi σ H (compWant g tt te src σ Q)
def CompEnd (X : Cx) (pins : List (Addr × Obj)) (σ : St) (Q : VK) (acc : Value) (C : Addr) (r : Result) (s' : Shared) : Prop :=
  (∃ f, r = .ok f) ∧ ∃ D H', acc = .ref D ∧ Inv X pins σ H' s' ∧ (∃ m, s'.heap.Ns C m) ∧ FpOk X pins H' C ∧ Q (.ref D) H'
theorem compLoop_any {prog : Program} {w : World} {A : Around} {R : Result → Shared → Prop} {s : Shared} {elt target iter : Expr} {ifs : List Expr} {scope : Scope} {pos : Pos} {it acc : Value} {env : Env} (I : Nat → Shared → Prop)
    (turn : ∀ n s, I n s → wpAny (model prog w) A (pyNext it) (fun r s₁ => match r with
      | none => R (.ok .next) s₁
      | some v => wpAny (model prog w) A (letOwnedTupleGo target it v) (fun _ s₂ => wpAny (model prog w) A (assign target env v) (fun _ s₃ =>
          wpAny (model prog w) A (forIn ifs true fun c r => if r = true then do let ok ← isTrue c env (eval c env); pure (ForInStep.yield ok) else pure (ForInStep.yield r)) (fun ok s₄ =>
            if ok = true then wpAny (model prog w) A (eval elt env) (fun x s₅ => wpAny (model prog w) A (call (.builtin "list.append") [acc, x]) (fun _ s₆ => ∃ m, m < n ∧ I m s₆) (fun _ _ => False) s₅) (fun _ _ => False) s₄
            else ∃ m, m < n ∧ I m s₄) (fun _ _ => False) s₃) (fun _ _ => False) s₂) (fun _ _ => False) s₁) (fun _ _ => False) s)
    (n : Nat) (h : I n s) : codeAny (model prog w) A (.compLoop (.ListComp elt [⟨target, iter, ifs, 0⟩] scope pos) 0 it acc env) R s := by
  refine codeAny_loop rfl I (fun n s hI => ?_) n h
  show wpAny _ A ((compTurn (.ListComp elt [⟨target, iter, ifs, 0⟩] scope pos) 0 it acc env).onRaise (fun x => do noteFrame x env; theTreesLotGoes x)) _ _ s
  refine wpAny_noted ?_
  rw [compTurn_list]
  refine wpAny_bind (wpAny_standAt (wpAny_bind (wpAny_mono (turn n s hI) (fun r s₁ h₁ => ?_) fun _ _ f => f.elim)))
  cases r with
  | none => exact wpAny_pure h₁
  | some v =>
    refine wpAny_bind (wpAny_mono h₁ (fun _ s₂ h₂ => ?_) fun _ _ f => f.elim)
    refine wpAny_bind (wpAny_mono h₂ (fun _ s₃ h₃ => wpAny_bind (wpAny_mono h₃ (fun ok s₄ h₄ => ?_) fun _ _ f => f.elim)) fun _ _ f => f.elim)
    cases ok with
    | false => exact wpAny_pure ⟨rfl, h₄⟩
    | true =>
      exact wpAny_bind (wpAny_bind (wpAny_mono h₄ (fun x s₅ h₅ => wpAny_bind (wpAny_mono h₅ (fun _ s₆ h₆ => wpAny_pure (wpAny_pure ⟨rfl, h₆⟩)) fun _ _ f => f.elim)) fun _ _ f => f.elim))
abbrev lobj (us : List Value) (k : Nat) : Obj := { cls := .type "list", data := .seq us.toArray k }
section
variable {X : Cx} {N : List Str} {src : List (Option Nat)} {scope : Scope} {elt tg iter : Expr} {ifs : List Expr} {pos : Pos} {wi : TI} {g : TG} {tt : TT} {te : TE}
theorem comp_run (hc : X.calm = true) (S : CompScope X N src scope) (hg : ∀ s H ex, PG (cxC X scope N s H ex) tg g) (ht : ∀ s H ex, PIfs (cxC X scope N s H ex) ifs tt) (he : ∀ s H ex, PE (cxC X scope N s H ex) elt te)
    {pins : List (Addr × Obj)} {σ : St} {Q : VK} {itv : Value} {s2 : Shared} {E : Value → Shared → Prop} (h : PIE X pins σ tg (compWant g tt te src σ Q) itv s2) :
    wpAny (model X.prog X.w) X.A (newList []) (fun acc s₃ => wpAny (model X.prog X.w) X.A (newFunctionEnv scope X.env.globals (clOf X.env scope.names []) [] X.env.qual none .none (some X.env)) (fun cenv s₄ =>
      codeAny (model X.prog X.w) X.A (.compStart (.ListComp elt [⟨tg, iter, ifs, 0⟩] scope pos) 0 itv acc { cenv with scope := relabel scope X.env }) (CompEnd X pins σ Q acc cenv.locals) s₄) E s₃) E s2 := by
  obtain ⟨it, fp, tn, J, H1, e, I2, T, st2, f2, W, ⟨m0, w0⟩, turn⟩ := h
  subst e
  refine wpAny_newObj_type (wpAny_newFunctionEnv S.nocell (by intro y hy; simp at hy) (fun h₁ hns₁ hsb₁ => ?_) S.kind)
  dsimp only at hns₁ hsb₁ ⊢
  generalize hH2 : s2.heap.push { cls := .type "list", dict := none, data := .seq ([] : List Value).toArray } = H2 at hns₁ hsb₁ ⊢
  have hC : H2.objs.size = s2.heap.objs.size + 1 := by rw [← hH2, Heap.size_push]
  have push : ∀ b o, s2.heap.get? b = some o → H2.get? b = some o := fun b o e => hH2 ▸ Heap.get?_push_of_some _ e
  have hD2 : H2.get? s2.heap.objs.size = some (lobj [] 0) := hH2 ▸ Heap.get?_push_size _ rfl
  have hk : ∀ b o, H2.get? b = some o → h₁.get? b = some o := fun b o e => hsb₁.extBut b o (Nat.ne_of_lt (Heap.lt_size e)) (Heap.get?_push_of_some _ e)
  generalize hD : s2.heap.objs.size = D at *
  have I3 : Inv X pins σ H1 { s2 with heap := H2 } := I2.kept (t' := s2.toks) push
  have fD : FpOk X pins H1 D := I2.fpOk (Nat.le_of_eq hD) (I2.hok.fresh (Nat.le_of_eq hD))
  have fpl : ∀ b ∈ fp, b < D := fun b hb => by
    obtain ⟨o, e, _⟩ := T.obj _ _ st2 b hb
    rw [← hD]; exact Heap.lt_size e
  have fex : ∀ b ∈ D :: fp, FpOk X pins H1 b := fun b hb => by
    rcases List.mem_cons.mp hb with z | z
    · rw [z]; exact fD
    · exact f2 b z
  have lex : ∀ b ∈ D :: fp, b < ({ s2 with heap := H2 } : Shared).heap.objs.size := fun b hb => by
    show b < H2.objs.size
    rcases List.mem_cons.mp hb with z | z
    · rw [z, hC]; exact Nat.lt_succ_self _
    · rw [hC]; exact Nat.lt_succ_of_lt (fpl b z)
  have I4 := I3.enterC (N := N) S fex lex (h1 := h₁) (tk := s2.toks + ([] : List (Str × Value)).length) hns₁ hk
  generalize hY : cxC X scope N { s2 with heap := H2 } H1 (D :: fp) = Y at *
  have yP : Y.prog = X.prog := by rw [← hY]; rfl
  have yw : Y.w = X.w := by rw [← hY]; rfl
  have yA : Y.A = X.A := by rw [← hY]; rfl
  have yC : Y.env.locals = H2.objs.size := by rw [← hY]; rfl
  have yK : Y.K = X.K := by rw [← hY]; rfl
  have yc : Y.calm = true := by rw [← hY]; exact hc
  have yfs : Y.fs = frs X.stack := by rw [← hY]; rfl
  have yex : Y.ex = D :: fp := by rw [← hY]; rfl
  have ypn : Y.pn = [] := by rw [← hY]; rfl
  have yxe : Y.xe = fun _ _ => False := by rw [← hY]; rfl
  have ycl : ∀ x c, Y.env.cells.lookup x = some c → X.env.cells.lookup x = some c := by
    rw [← hY]
    exact fun x c e => clOf_sub X.env _ _ x c (fun y d z => by simp at z) e
  have ye : Y.env = compEnvC scope (clOf X.env scope.names []) H2.objs.size X.env := by rw [← hY]; rfl
  have ys0 : Y.s₀ = { s2 with heap := H2 } := by rw [← hY]; rfl
  have yH0 : Y.H₀ = H1 := by rw [← hY]; rfl
  have hgY : PG Y tg g := by rw [← hY]; exact hg _ _ _
  have htY : PIfs Y ifs tt := by rw [← hY]; exact ht _ _ _
  have heY : PE Y elt te := by rw [← hY]; exact he _ _ _
  have nfs : ∀ b ∈ D :: fp, b ∉ Y.fs := fun b hb z => by
    rw [yfs] at z
    obtain ⟨f0, f1, f2', _⟩ := fex b hb
    rcases List.mem_cons.mp (I2.stkSub b z) with q | q
    · exact f1 q
    · exact f2' q
  have ncl : ∀ b ∈ D :: fp, ∀ x c, Y.env.cells.lookup x = some c → c ≠ b := fun b hb x c e => (fex b hb).2.2.2.2.1 x c (ycl x c e)
  have nC : ∀ b ∈ D :: fp, b ≠ Y.env.locals := fun b hb => by rw [yC]; exact Nat.ne_of_lt (lex b hb)
  have stat : ∀ {H' : Hp} {us : List Value} {k : Nat}, (∀ b ∈ fp, H' b = none) → ∀ b ∈ fp, FpOk Y [(D, lobj us k)] H' b := fun {H' us k} hn b hb =>
    ⟨hn b hb, nC b (List.mem_cons_of_mem _ hb), nfs b (List.mem_cons_of_mem _ hb), .inl (by rw [yex]; exact List.mem_cons_of_mem _ hb), ncl b (List.mem_cons_of_mem _ hb), fun p hp => by
      rw [ypn] at hp
      have hp1 : p = (D, lobj us k) := by simpa using hp
      rw [hp1]
      exact Nat.ne_of_gt (fpl b hb)⟩
  have pinD : ∀ {σ' : St} {H' : Hp} {s' : Shared} {pl : List (Addr × Obj)} {us : List Value} {k : Nat}, Inv Y pl σ' H' s' → s'.heap.get? D = some (lobj us k) → H' D = none → Inv Y [(D, lobj us k)] σ' H' s' := fun {σ' H' s' pl us k} I' e n =>
    I'.pins_of fun p hp => by
      have hp1 : p = (D, lobj us k) := by simpa using hp
      subst hp1
      exact ⟨e, n, nC D List.mem_cons_self, nfs D List.mem_cons_self, fun v z => by cases z⟩
  have I4' : Inv Y [(D, lobj [] 0)] (subSt src σ) H1 { s2 with heap := h₁, toks := s2.toks + ([] : List (Str × Value)).length } := pinD I4 (hk _ _ hD2) fD.1
  have loop : codeAny (model X.prog X.w) X.A (.compLoop (.ListComp elt [⟨tg, iter, ifs, 0⟩] scope pos) 0 (.ref it) (.ref D) Y.env) (CompEnd X pins σ Q (.ref D) H2.objs.size) { s2 with heap := h₁, toks := s2.toks + ([] : List (Str × Value)).length } := by
    refine compLoop_any (fun n s' => ∃ i ys us k σ' H', Inv Y [(D, lobj us k)] σ' H' s' ∧ tn i s'.heap ∧ (∀ b ∈ fp, H' b = none) ∧ Vals ys us ∧ ys.length ≤ sizeLine ∧ W i n ys σ' H') ?_ m0
      ⟨0, [], [], 0, _, H1, I4', T.keep _ _ _ st2 fun b hb o e => hk _ _ (push b o e), fun b hb => (f2 b hb).1, .nil, Nat.zero_le _, w0⟩
    rintro n s3 ⟨i, ys, us, k, σ3, H3, I3', st3, fr3, rv, hz, w3⟩
    rcases turn i n ys σ3 H3 w3 with ⟨stop, q⟩ | ⟨go, hlen, step⟩
    · have hd := T.done Y yP yw yK yc i _ s3 σ3 H3 (fun _ _ => False) I3' (stat fr3) st3 stop
      rw [yA] at hd
      refine thn hd fun r s4 ⟨hr, I4⟩ => ?_
      subst hr
      obtain ⟨eD, nD, _⟩ := I4.pin (D, lobj us k) (by simp)
      have eD : s4.heap.get? D = some (lobj us k) := eD
      have nD : H3 D = none := nD
      have base : Un (frs X.stack) (D :: fp) H1 H3 H2 s4.heap := by
        have b := I4.base
        rw [yex, yH0, ys0, yfs] at b
        exact b
      have hnD : ∀ b o, s2.heap.get? b = some o → b ≠ D := fun b o e => by rw [← hD]; exact Nat.ne_of_lt (Heap.lt_size e)
      have nx : ∀ b o, s2.heap.get? b = some o → b ∉ fp → b ∉ D :: fp := fun b o e hb z => (List.mem_cons.mp z).elim (hnD b o e) hb
      have un : Un (frs X.stack) fp H1 (upd H3 D (.lst ys)) s2.heap s4.heap :=
        ⟨fun b o e n hb hx => base.keep b o (push b o e) n hb (nx b o e hx), fun b o e n hb hx => base.slot b o (push b o e) n hb (nx b o e hx), fun b o e n hx => by rw [upd_ne (hnD b o e)]; exact base.free b o (push b o e) n (nx b o e hx),
          fun b o e hx => base.there b o (push b o e) (nx b o e hx), fun b xs e => by rw [upd_ne (ne_of_none e fD.1)]; exact base.tups b xs e, fun b o u e => by rw [upd_ne (ne_of_none e fD.1)]; exact base.frzs b o u e,
          fun b ps e => by rw [upd_ne (ne_of_none e fD.1)]; exact base.tbls b ps e⟩
      have hok : HOk X.prog X.w (upd H3 D (.lst ys)) s4.heap := fun b u e => by
        by_cases hb : b = D
        · subst hb
          rw [upd_same] at e
          cases e
          exact ⟨hz, us, k, rv, eD⟩
        · rw [upd_ne hb] at e
          have x := I4.hok b u e
          rw [yP, yw] at x
          exact x.stay (fun c v _ z => z) (fun c z => by rw [upd_ne (ne_of_none z nD)]; exact z) fun c xs z => by rw [upd_ne (ne_of_none z nD)]; exact z
      have ho : s4.os = s2.os := by rw [I4.os, ys0]
      have J' : Inv X pins σ (upd H3 D (.lst ys)) s4 := I2.call' (ch := fp) ho un hok I4.bare fun b hb => ⟨(f2 b hb).2.2.2.1, (f2 b hb).2.1, (f2 b hb).2.2.2.2.1, (f2 b hb).2.2.2.2.2⟩
      refine ⟨⟨_, rfl⟩, D, _, rfl, J', ?_, ?_, q D nD⟩
      · obtain ⟨m, hm, _⟩ := I4.loc
        rw [yC] at hm
        exact ⟨m, hm⟩
      · refine I2.fpOk (by rw [hC, hD]; exact Nat.le_succ _) ?_
        rw [upd_ne (by rw [hC]; exact Nat.succ_ne_self D)]
        have z := I4.free
        rw [yC] at z
        exact z
    · have hd := T.item Y yP yw yK yc i _ s3 σ3 H3 (fun _ _ => False) I3' (stat fr3) st3 go
      rw [yA] at hd
      refine thn hd fun r s4 ⟨u, hr, h4⟩ => ?_
      subst hr
      refine thn h4 fun _ s5 ⟨x, H5, I5, r5, y5, st5, fr5⟩ => ?_
      have I5' := I5.pinned (stat fr5) (T.obj _ _ st5)
      have hg' := hgY _ s5 σ3 H5 x u _ I5' r5 (step x H5 y5)
      rw [yP, yw, yA, yxe] at hg'
      refine thn hg' fun _ s6 ⟨σ6, H6, I6, q6⟩ => ?_
      have ht' := htY _ s6 σ6 H6 _ I6 q6
      rw [yP, yw, yA, yxe] at ht'
      refine thn ht' fun ok s7 ⟨H7, I7, q7⟩ => ?_
      have again : ∀ {σ8 : St} {H8 : Hp} {s8 : Shared} {ys' : List V} {us' : List Value} {k' m' : Nat}, Inv Y ([(D, lobj us' k')] ++ pinsAt fp s5.heap) σ8 H8 s8 → Vals ys' us' → ys'.length ≤ sizeLine → m' < n → W (i + 1) m' ys' σ8 H8 →
          ∃ m, m < n ∧ ∃ i ys us k σ' H', Inv Y [(D, lobj us k)] σ' H' s8 ∧ tn i s8.heap ∧ (∀ b ∈ fp, H' b = none) ∧ Vals ys us ∧ ys.length ≤ sizeLine ∧ W i m ys σ' H' := fun {σ8 H8 s8 ys' us' k' m'} I8 rv' hz' hm w8 => by
        refine ⟨m', hm, i + 1, ys', us', k', σ8, H8, I8.unpinned, T.keep _ _ _ st5 fun b hb o e => (I8.pin (b, o) (List.mem_append_right _ (List.mem_append_right _ (mem_pinsAt hb e)))).1, fun b hb => ?_, rv', hz', w8⟩
        obtain ⟨o, e, d⟩ := T.obj _ _ st5 b hb
        exact (I8.pin (b, o) (List.mem_append_right _ (List.mem_append_right _ (mem_pinsAt hb e)))).2.1
      cases ok with
      | false =>
        obtain ⟨m', hm, w8⟩ := q7
        exact again I7 rv hz hm w8
      | true =>
        rw [if_pos rfl]
        have he' := heY _ s7 σ6 H7 _ I7 q7
        rw [yP, yw, yA, yxe] at he'
        refine thn he' fun u8 s8 ⟨v, H8, I8, r8, m', hm, w8⟩ => ?_
        obtain ⟨eD, nD, _⟩ := I8.pin (D, lobj us k) (by simp)
        have eD : s8.heap.get? D = some (lobj us k) := eD
        have nD : H8 D = none := nD
        have hl := rv.length
        refine call_meets F.slot_list_append ⟨_, eD, rfl⟩ F.entry_list_append (F.args_list_append_2 _ _) (PySem.list_append D us.toArray k u8 (by rw [List.size_toArray]; omega)) ⟨eD, ?_⟩
        have q := PySem.IsL.update eD (fun a => a.push u8)
        have eu : us.toArray.push u8 = (us ++ [u8]).toArray := by simp
        rw [eu] at q
        obtain ⟨k', q⟩ : ∃ k', (s8.heap.update D (Obj.mapSeq fun a => a.push u8)).get? D = some (lobj (us ++ [u8]) k') := ⟨_, q⟩
        have I8' : Inv Y (pinsAt fp s5.heap) σ6 H8 s8 := I8.pins_of fun p hp => I8.pin p (List.mem_append_right _ (List.mem_append_right _ hp))
        have I9 : Inv Y (pinsAt fp s5.heap) σ6 H8 { s8 with heap := s8.heap.update D (Obj.mapSeq fun a => a.push u8) } := I8'.turned (it := D) (t' := s8.toks) (fun b o hb e => (Heap.get?_update_other s8.heap _ (Ne.symm hb)).trans e) nD (nC D List.mem_cons_self)
          (.inl (by rw [yex]; exact List.mem_cons_self)) (ncl D List.mem_cons_self) fun p hp => by
            rw [ypn] at hp
            have hp : p ∈ pinsAt fp s5.heap := by simpa using hp
            exact Nat.ne_of_lt (fpl _ (of_pinsAt hp).1)
        refine again (us' := us ++ [u8]) (ys' := ys ++ [v]) (m' := m') (k' := k') (I9.pins_of fun p hp => ?_) (rv.append (.cons r8 .nil)) (by rw [List.length_append, List.length_singleton]; omega) hm w8
        rcases List.mem_append.mp hp with z | z
        · have hp1 : p = (D, lobj (us ++ [u8]) k') := by simpa using z
          subst hp1
          exact ⟨q, nD, nC D List.mem_cons_self, nfs D List.mem_cons_self, fun v z => by cases z⟩
        · exact I9.pin p (List.mem_append_right _ z)
  rw [ye] at loop
  exact codeAny_compStart_list loop (T.self _ 0 _ _ _ (T.keep _ _ _ st2 fun b hb o e => hk _ _ (push b o e)) loop)
theorem pe_comp (hc : X.calm = true) (S : CompScope X N src scope) (hi : PI X tg iter wi) (hg : ∀ s H ex, PG (cxC X scope N s H ex) tg g) (ht : ∀ s H ex, PIfs (cxC X scope N s H ex) ifs tt) (he : ∀ s H ex, PE (cxC X scope N s H ex) elt te)
    (hs : ∀ x, foldedSetIterable iter X.env x = pure x := by intro _; rfl) : PE X (.ListComp elt [⟨tg, iter, ifs, 0⟩] scope pos) (tComp wi g tt te src) := by
  intro pins s σ H Q I h
  rw [eval_ListComp]
  refine wpAny_comprehension_free (use := none) rfl hs (closureFor_eq (S.cells I.ok)) S.kind S.names (thn (hi pins s σ H _ I h) fun v s1 h1 => thn h1 fun it s2 h2 => ?_)
  refine thn (comp_run hc S hg ht he h2) fun acc s3 h3 => thn h3 fun cenv s4 h4 => codeAny_mono h4 fun r s' hr => ?_
  obtain ⟨⟨f, rfl⟩, D, H', rfl, J, ⟨m, hm⟩, hf, q⟩ := hr
  refine ⟨m, hm, fun h' sb => ?_⟩
  exact ⟨.ref D, H', J.turned (t' := s'.toks) (fun b o hb e => (sb.2 b hb).trans e) hf.1 hf.2.1 hf.2.2.2.1 hf.2.2.2.2.1 hf.2.2.2.2.2, rfl, q⟩
theorem ps_setC {i : Nat} {y : Str} {py spos : Pos} (hc : X.calm = true) (S : CompScope X N src scope) (hi : PI X tg iter wi) (hg : ∀ s H ex, PG (cxC X scope N s H ex) tg g) (ht : ∀ s H ex, PIfs (cxC X scope N s H ex) ifs tt) (he : ∀ s H ex, PE (cxC X scope N s H ex) elt te)
    (hN : X.N.Nodup) (hy : X.N[i]? = some y) (hx : Loc X.env.scope y) (hsw : swapsWith (.ListComp elt [⟨tg, iter, ifs, 0⟩] scope pos) (some (.Name y py)) spos.line X.env = pure true) (hf : X.fn y = true ∨ X.env.scope.names.lookup y = some .local)
    (hs : ∀ x, foldedSetIterable iter X.env x = pure x := by intro _; rfl) : PS X (.Assign [.Name y py] (.ListComp elt [⟨tg, iter, ifs, 0⟩] scope pos) spos) (tAsg (tComp wi g tt te src) (gName i)) := by
  intro pins s σ H D I h
  rw [exec_Assign_Name_used _ _ _ _ hsw]
  refine wpAny_bind (wpAny_standAt (wpAny_bind ?_))
  show wpAny _ X.A (do let _ ← comprehension (.ListComp elt [⟨tg, iter, ifs, 0⟩] scope pos) scope X.env _ (newList []) false (eval iter X.env) (some (assign (.Name y py) X.env))) _ _ s
  refine wpAny_bind (wpAny_mono (wpAny_comprehension_free (use := some (assign (.Name y py) X.env)) (Q := fun _ s' => SP X pins D .next s') rfl hs (closureFor_eq (S.cells I.ok)) S.kind S.names (thn (hi pins s σ H _ I h) fun v s1 h1 => thn h1 fun it s2 h2 => ?_)) (fun _ s' hq => wpAny_pure (wpAny_pure hq)) fun _ _ e => e)
  refine thn (comp_run hc S hg ht he h2) fun acc s3 h3 => thn h3 fun cenv s4 h4 => codeAny_mono h4 fun r s' hr => ?_
  obtain ⟨⟨f, rfl⟩, D', H', rfl, J, ⟨m, hm⟩, hfp, q⟩ := hr
  show wpAny _ X.A (assign (.Name y py) X.env (.ref D')) _ _ _
  refine wpAny_assign_Name (store_ok2 J hN hy hx (v := .ref D') rfl (fun s5 I5 ⟨a, sb, ha⟩ => ?_) hf)
  have hne : cenv.locals ≠ a := by
    rcases ha with z | z
    · rw [z]; exact hfp.2.1
    · exact Ne.symm (hfp.2.2.2.2.1 y a z)
  refine ⟨m, hm.sameBut sb hne, fun h' sb' => ?_⟩
  exact ⟨_, H', I5.turned (t' := s5.toks) (fun b o hb e => (sb'.2 b hb).trans e) hfp.1 hfp.2.1 hfp.2.2.2.1 hfp.2.2.2.2.1 hfp.2.2.2.2.2, q⟩
end
end L2
namespace L2
open PySem PySem.Spec PyProof.Rows
section
variable {X : Cx}
theorem PE.imp {e : Expr} {t t' : TE} (h : PE X e t) (i : ∀ σ H Q, t' σ H Q → t σ H Q) : PE X e t' := fun pins s σ H Q I q => h pins s σ H Q I (i σ H Q q)
theorem PT.imp {e : Expr} {t t' : TT} (h : PT X e t) (i : ∀ σ H Q, t' σ H Q → t σ H Q) : PT X e t' := fun pins s σ H Q I q => h pins s σ H Q I (i σ H Q q)
theorem PS.imp {st : Stmt} {t t' : TS} (h : PS X st t) (i : ∀ D σ H, t' D σ H → t D σ H) : PS X st t' := fun pins s σ H D I q => h pins s σ H D I (i D σ H q)
theorem OpR.imp {f : Value → Value → Sem Value} {r r' : R2} (h : OpR X f r) (i : ∀ x y H Q, r' x y H Q → r x y H Q) : OpR X f r' := fun pins s σ H x y v u Q I rx ry q => h pins s σ H x y v u Q I rx ry (i x y H Q q)
theorem CallR.imp {f : Value} {r r' : List V → Hp → VK → Prop} (h : CallR X f r) (i : ∀ xs H Q, r' xs H Q → r xs H Q) : CallR X f r' := fun pins s σ H xs us Q I r q => h pins s σ H xs us Q I r (i xs H Q q)
theorem MtR.imp {id : String} {r r' : V → List V → Hp → VK → Prop} (h : MtR X id r) (i : ∀ x xs H Q, r' x xs H Q → r x xs H Q) : MtR X id r' := fun pins s σ H x xs v us Q I rx r q => h pins s σ H x xs v us Q I rx r (i x xs H Q q)
abbrev Str.tl (x : Str) : List Nat := x.cps.toList
theorem str_ext {x y : Str} (h : x.cps.toList = y.cps.toList) : x = y := by
  obtain ⟨a⟩ := x; obtain ⟨b⟩ := y
  have : a = b := Array.toList_inj.mp h
  rw [this]
theorem str_len (x : Str) : x.length = x.cps.toList.length := by simp [Str.length]
theorem op_le_str : OpR X (compareOp .LtE) (fun x y H Q => ∃ i j, x = .str i ∧ y = .str j ∧ Q (.bl (!decide (j.cps.toList < i.cps.toList))) H) := by
  intro pins s σ H x y v u Q I rx ry h
  obtain ⟨i, j, rfl, rfl, q⟩ := h
  obtain ⟨t, rfl⟩ := rx
  obtain ⟨t', rfl⟩ := ry
  exact PySem.P.le_str (fin_bl I q rfl)
theorem mt_upper : MtR X "str.upper" (fun x vs H Q => ∃ a, x = .str a ∧ vs = [] ∧ a.length ≤ sizeLine ∧ (∀ c ∈ a.cps.toList, c < 128) ∧ Q (.str ⟨a.cps.map up1⟩) H) := by
  intro pins s σ H x xs v us Q I rx r h
  obtain ⟨a, rfl, rfl, hz, ha, q⟩ := h
  obtain ⟨t, rfl⟩ := rx
  cases r
  have e : placed a (fun _ c => Unicode.upperOf c) = a.cps.map up1 := placed_single a _ up1 fun i c hc => upperOf_ascii c (ha c (List.mem_of_getElem? hc))
  have hfit : Builtin.Str.tooLong (placed a fun _ c => Unicode.upperOf c).size = false := by
    rw [e, Array.size_map]
    unfold Builtin.Str.tooLong
    exact decide_eq_false (by show ¬ a.cps.size > sizeLine; have : a.length = a.cps.size := rfl; omega)
  refine call_gives F.slot_str_upper (typeIs_str _ _ _) F.entry_str_upper (F.args_str_upper_1 _) (gives_str_upper a t hfit) ?_
  rw [e]
  exact ⟨by show (a.cps.map up1).size ≤ sizeLine; rw [Array.size_map]; exact hz, ⟨.str _, H, I.tok _, ⟨_, rfl⟩, q⟩⟩
def cutS (x : Str) (lo hi : Option Int) : Str := ⟨((x.cps.toList.drop (HT.sIx x.length 0 lo)).take (HT.sIx x.length x.length hi - HT.sIx x.length 0 lo)).toArray⟩
theorem pick_go (l : List Nat) : ∀ (k i : Nat), i + k ≤ l.length → (List.range' i k).filterMap (fun m => l[m]?) = (l.drop i).take k
  | 0, i, _ => by simp
  | k + 1, i, h => by
    have ih := pick_go l k (i + 1) (by omega)
    rw [List.range'_succ, List.filterMap_cons, List.getElem?_eq_getElem (by omega), List.drop_eq_getElem_cons (by omega), List.take_succ_cons]
    show l[i] :: _ = _
    rw [ih]
theorem pick_str (x : Str) (i k : Nat) (h : i + k ≤ x.length) : ((List.range k).map fun (m : Nat) => i + m).filterMap (x.cps[·]?) = (x.cps.toList.drop i).take k := by
  have hx : x.cps.toList.length = x.length := (str_len x).symm
  rw [← List.range'_eq_map_range, ← pick_go _ _ _ (by omega)]
  congr 1
  funext m
  rw [Array.getElem?_toList]
theorem idx_str (lo hi : Option Int) (n : Nat) : Builtin.Str.strSliceIndices lo hi 1 n = (List.range (HT.sIx n n hi - HT.sIx n 0 lo)).map fun m => HT.sIx n 0 lo + m := by
  have cl : ∀ (v : Int) (d : Nat), max 0 (min (if v < 0 then v + (n : Int) else v) (n : Int)) = ((HT.sIx n d (some v) : Nat) : Int) := fun v d => by
    show _ = (((if v < 0 then (v + (n : Int)).toNat else min v.toNat n) : Nat) : Int)
    by_cases hv : v < 0
    · simp only [if_pos hv]; omega
    · simp only [if_neg hv]; omega
  have main : ∀ (a b : Nat), sliceRange (a : Int) (b : Int) 1 = (List.range (b - a)).map fun m => a + m := fun a b => by
    have e : (if (1 : Int) > 0 then (if (a : Int) < (b : Int) then ((b : Int) - a + 1 - 1) / 1 else 0) else (if (a : Int) > b then ((a : Int) - b - 1 - 1) / (-1) else 0)).toNat = b - a := by
      rw [if_pos (by decide)]
      split <;> omega
    show (List.range (if (1 : Int) > 0 then (if (a : Int) < (b : Int) then ((b : Int) - a + 1 - 1) / 1 else 0) else (if (a : Int) > b then ((a : Int) - b - 1 - 1) / (-1) else 0)).toNat).map (fun (k : Nat) => ((a : Int) + 1 * (k : Int)).toNat) = _
    rw [e]
    apply List.map_congr_left
    intro m _
    omega
  have e1 : HT.sIx n 0 none = 0 := rfl
  have e2 : HT.sIx n n none = n := rfl
  unfold Builtin.Str.strSliceIndices
  simp only [show (1 : Int) > 0 by decide, if_true]
  cases lo with
  | none =>
    cases hi with
    | none => exact main 0 n
    | some h => show sliceRange ((0 : Nat) : Int) (max 0 (min (if h < 0 then h + (n : Int) else h) (n : Int))) 1 = _; rw [cl h n]; exact main _ _
  | some l =>
    cases hi with
    | none => show sliceRange (max 0 (min (if l < 0 then l + (n : Int) else l) (n : Int))) (n : Int) 1 = _; rw [cl l 0]; exact main _ _
    | some h => show sliceRange (max 0 (min (if l < 0 then l + (n : Int) else l) (n : Int))) (max 0 (min (if h < 0 then h + (n : Int) else h) (n : Int))) 1 = _; rw [cl l 0, cl h n]; exact main _ _
theorem slice_str (x : Str) (lo hi : Option Int) : (⟨((Builtin.Str.strSliceIndices lo hi 1 x.length).filterMap (x.cps[·]?)).toArray⟩ : Str) = cutS x lo hi := by
  unfold cutS
  rw [idx_str]
  have h1 := HT.sIx_le x.length 0 (Nat.zero_le _) lo
  have h2 := HT.sIx_le x.length x.length (Nat.le_refl _) hi
  by_cases h : HT.sIx x.length 0 lo ≤ HT.sIx x.length x.length hi
  · rw [pick_str x _ _ (by omega)]
  · have e : HT.sIx x.length x.length hi - HT.sIx x.length 0 lo = 0 := by omega
    rw [e]
    simp
theorem cutS_list (x : Str) (lo hi : Option Int) : (cutS x lo hi).cps.toList = (x.cps.toList.drop (HT.sIx x.length 0 lo)).take (HT.sIx x.length x.length hi - HT.sIx x.length 0 lo) := by
  unfold cutS
  simp
theorem cutS_len (x : Str) (lo hi : Option Int) : (cutS x lo hi).length ≤ x.length := by
  rw [str_len, cutS_list, str_len x, List.length_take, List.length_drop]
  omega
theorem cutS_whole {x : Str} {lo hi : Option Int} (h : (Builtin.Str.strSliceIndices lo hi 1 x.length).length = x.length) : cutS x lo hi = x := by
  rw [idx_str, List.length_map, List.length_range] at h
  have h1 := HT.sIx_le x.length 0 (Nat.zero_le _) lo
  have h2 := HT.sIx_le x.length x.length (Nat.le_refl _) hi
  apply str_ext
  rw [cutS_list]
  by_cases z : x.length = 0
  · have e : x.cps.toList = [] := List.length_eq_zero_iff.mp (by rw [← str_len]; exact z)
    rw [e]; simp
  · have e1 : HT.sIx x.length 0 lo = 0 := by omega
    rw [h, e1, List.drop_zero, List.take_of_length_le (by rw [← str_len]; exact Nat.le_refl _)]
def rSlS : V → Option Int → Option Int → Hp → VK → Prop := fun x lo hi H Q => ∃ z, x = .str z ∧ z.length ≤ sizeLine ∧ Q (.str (cutS z lo hi)) H
theorem part_val {v : Value} {o : Option Int} (p : IsPart v o) : ∃ q : Option (Int × Tok), v = partValue q ∧ q.map (·.1) = o := by
  cases p with
  | none => exact ⟨none, rfl, rfl⟩
  | int i t => exact ⟨some (i, t), rfl, rfl⟩
theorem sl_str : SlR X rSlS := by
  intro pins s σ H x v vl vu lo hi sl Q I rx hs pl pu h
  obtain ⟨z, rfl, hz, q⟩ := h
  obtain ⟨t, rfl⟩ := rx
  obtain ⟨l, rfl, el⟩ := part_val pl
  obtain ⟨u, rfl, eu⟩ := part_val pu
  refine ⟨"str", _, F.slot_str_getitem.lookup, typeIs_str _ _ _, ?_⟩
  obtain ⟨o, ho, hc, hd⟩ := hs
  refine wpAny_getItem_str_slice (l := l) (u := u) (st := none) ⟨o, ho, hc, hd⟩ rfl ?_
  unfold sliceMade slicePicked
  rw [el, eu]
  split
  · rename_i hw
    have hw : (Builtin.Str.strSliceIndices lo hi 1 z.length).length = z.length := by simpa using hw
    rw [cutS_whole hw] at q
    exact ⟨.str z, H, I, ⟨t, rfl⟩, q⟩
  · have e := slice_str z lo hi
    have e' : (⟨((Builtin.Str.strSliceIndices lo hi ((Option.map (·.1) (none : Option (Int × Tok))).getD 1) z.length).filterMap (z.cps[·]?)).toArray⟩ : Str) = cutS z lo hi := e
    rw [e']
    exact ⟨Nat.le_trans (cutS_len z lo hi) hz, ⟨.str _, H, I.tok _, ⟨_, rfl⟩, q⟩⟩
theorem call_int_text : CallR X (.type "int") (fun xs H Q => ∃ x n, xs = [.str x] ∧ PySem.intText? x = some n ∧ x.length ≤ 640 ∧ Q (.int n) H) := by
  intro pins s σ H xs us Q I r h
  obtain ⟨x, n, rfl, hn, hl, q⟩ := h
  obtain ⟨u, rfl, t, rfl⟩ := vals1 r
  exact PySem.W.KIN.call_text hn hl ⟨.int n, H, I.tok _, ⟨_, rfl⟩, q⟩
theorem strsAre_of : ∀ {ys : List Str} {us : List Value}, Vals (ys.map V.str) us → StrsAre us ys
  | [], us, r => by rw [List.map_nil] at r; cases r; exact .nil
  | y :: ys, us, r => by
    rw [List.map_cons] at r
    cases r with
    | cons r1 r2 =>
      obtain ⟨t, e⟩ := r1
      subst e
      exact .cons y t (strsAre_of r2)
theorem mt_join : MtR X "str.join" (fun x vs H Q => ∃ sep p ys, x = .str sep ∧ vs = [.ref p] ∧ SqL X.K H p (ys.map V.str) ∧ (ys.map (·.length)).sum + ys.length * sep.length ≤ 16777216 ∧ Q (.str (Txt.join sep ys)) H) := by
  intro pins s σ H x xs v us Q I rx r h
  obtain ⟨sep, p, ys, rfl, rfl, hp, hz, q⟩ := h
  obtain ⟨t, rfl⟩ := rx
  obtain ⟨u, rfl, ru⟩ := vals1 r
  cases ru
  obtain ⟨its, rv, pl, hl⟩ := I.list hp
  exact join_list pl.isList (by simpa using strsAre_of rv) hz fun t' k => ⟨.str _, H, I.tok _, ⟨t', rfl⟩, q⟩
theorem truth_bl {P : Program} {w : World} {A : Around} {its : List Value} {ks : List Bool} (r : Vals (ks.map V.bl) its) : TruthOf P w A (fun i v => its.toArray[i]? = some v) (fun i => ks.getD i false) := by
  intro i v s Q E hv hq
  have hv : its[i]? = some v := by simpa using hv
  have hlen := r.length
  rw [List.length_map] at hlen
  have hi : i < its.length := (List.getElem?_eq_some_iff.mp hv).1
  have hk : (ks.map V.bl)[i]? = some (V.bl (ks.getD i false)) := by
    rw [List.getElem?_map, List.getElem?_eq_getElem (by omega), List.getD_eq_getElem?_getD, List.getElem?_eq_getElem (by omega)]
    rfl
  obtain ⟨u, hu, ru⟩ := r.get hk
  rw [hv] at hu
  cases hu
  cases ru
  exact wpAny_truthy_bool hq
theorem range_all (ks : List Bool) : (List.range ks.length).all (fun i => ks.getD i false) = ks.all id := by
  rw [Bool.eq_iff_iff, List.all_eq_true, List.all_eq_true]
  constructor
  · intro h b hb
    obtain ⟨i, hi, e⟩ := List.mem_iff_getElem.mp hb
    have := h i (List.mem_range.mpr hi)
    rw [List.getD_eq_getElem?_getD, List.getElem?_eq_getElem hi] at this
    rw [← e]
    exact this
  · intro h i hi
    have hi := List.mem_range.mp hi
    rw [List.getD_eq_getElem?_getD, List.getElem?_eq_getElem hi]
    exact h _ (List.getElem_mem hi)
theorem call_all (hc : X.calm = true) : CallR X (.builtin "all") (fun xs H Q => ∃ (p : Addr) (ks : List Bool), xs = [.ref p] ∧ SqL X.K H p (ks.map V.bl) ∧ Q (.bl (ks.all id)) H) := by
  intro pins s σ H xs us Q I r h
  obtain ⟨p, ks, rfl, hp, q⟩ := h
  obtain ⟨u, rfl, ru⟩ := vals1 r
  cases ru
  obtain ⟨its, rv, pl, hl⟩ := I.list hp
  have hlen := rv.length
  rw [List.length_map] at hlen
  refine call_all_walk (wpAny_pyIter_list pl.isList ?_)
  have hne : p ≠ s.heap.objs.size := by
    obtain ⟨o, ho, _⟩ := pl.isList
    exact Nat.ne_of_lt (Heap.lt_size ho)
  have W := Walks.list (prog := X.prog) (w := X.w) (A := X.A.in1) (show X.A.in1.handled = none from I.ok.hd hc) s.heap.objs.size p hne its.toArray
  have hpush : ∀ o b ob, s.heap.get? b = some ob → (s.heap.push o).get? b = some ob := fun o b ob e => Heap.get?_push_of_some _ e
  refine ⟨_, _, _, _, _, _, fun i => ks.getD i false, rfl, W, ⟨⟨_, Heap.get?_push_size _ rfl, rfl, rfl⟩, pl.isList.at fun o e => hpush _ _ o e⟩, truth_bl rv, fun h' tk k => ?_⟩
  have e : (List.range its.toArray.size).all (fun i => ks.getD i false) = ks.all id := by
    rw [← range_all, List.size_toArray, ← hlen]
  rw [e]
  refine ⟨.bl _, H, I.kept (t' := tk) (h' := h') fun b ob e => k b ob ?_ (hpush _ b ob e), rfl, q⟩
  intro hb
  have : b = s.heap.objs.size := by simpa using hb
  subst this
  exact absurd (Heap.lt_size e) (Nat.lt_irrefl _)
end
end L2
namespace L2
open PySem PySem.Spec PyProof.Rows
inductive EqD (K : PySem.W.Frag) (H : Hp) : Nat → V → V → Bool → Prop
  | flat {n : Nat} {x y : V} (hx : flatV x = true) (hy : flatV y = true) : EqD K H n x y (eqV x y)
  | same {n : Nat} {a : Addr} : EqD K H n (.ref a) (.ref a) true
  | len {n : Nat} {a b : Addr} {xs ys : List V} (ha : SqL K H a xs) (hb : SqL K H b ys) (hab : a ≠ b) (hl : xs.length ≠ ys.length) : EqD K H (n + 1) (.ref a) (.ref b) false
  | lst {n : Nat} {a b : Addr} {xs ys : List V} {es : Nat → Bool} (ha : SqL K H a xs) (hb : SqL K H b ys) (hab : a ≠ b) (hl : xs.length = ys.length)
      (he : ∀ i x y, xs[i]? = some x → ys[i]? = some y → EqD K H n x y (es i)) : EqD K H (n + 1) (.ref a) (.ref b) ((List.range xs.length).all es)
  | tup {n : Nat} {a b : Addr} {xs ys : List V} {es : Nat → Bool} (ha : SqT K H a xs) (hb : SqT K H b ys) (hab : a ≠ b)
      (he : ∀ i x y, xs[i]? = some x → ys[i]? = some y → EqD K H n x y (es i)) : EqD K H (n + 1) (.ref a) (.ref b) ((List.range (min xs.length ys.length)).all es && xs.length == ys.length)
  | nref {n : Nat} {x : V} {a : Addr} {xs : List V} (hx : flatV x = true) (ha : SqL K H a xs ∨ SqT K H a xs) : EqD K H n x (.ref a) false
  | refn {n : Nat} {x : V} {a : Addr} {xs : List V} (hx : flatV x = true) (ha : SqL K H a xs ∨ SqT K H a xs) : EqD K H n (.ref a) x false
section
variable {X : Cx} {pins : List (Addr × Obj)} {σ : St} {H : Hp} {s : Shared}
theorem nth_of {xs : List V} {its : List Value} (r : Vals xs its) {j : Nat} (h : j < its.toArray.size) : ∃ x, xs[j]? = some x ∧ RelV x its.toArray[j] := by
  have hl := r.length
  have hj : j < its.length := by simpa using h
  have hx : xs[j]? = some (xs[j]'(by omega)) := List.getElem?_eq_getElem (by omega)
  obtain ⟨u, hu, ru⟩ := r.get hx
  refine ⟨_, hx, ?_⟩
  have e : its.toArray[j] = u := by
    rw [List.getElem?_eq_getElem hj] at hu
    simpa using Option.some.inj hu
  rw [e]
  exact ru
theorem eqAt_D (I : Inv X pins σ H s) : ∀ {n : Nat} {x y : V} {k : Bool}, EqD X.K H n x y k → ∀ (A : Around), A.units + n < cLine → ∀ {u v : Value}, RelV x u → RelV y v → SeqAt.EqAt A s u v k := by
  intro n x y k h
  induction h with
  | flat hx hy => exact fun A _ u v ru rv => eqAt_V ru rv hx hy
  | same =>
    intro A _ u v ru rv
    cases ru; cases rv
    exact SeqAt.EqAt.same _
  | len ha hb hab hl =>
    intro A hu u v ru rv
    cases ru; cases rv
    obtain ⟨its, r1, p1, _⟩ := I.list ha
    obtain ⟨its2, r2, p2, _⟩ := I.list hb
    have l1 := r1.length
    have l2 := r2.length
    refine .of_refs hab (.lists_lengths p1.isList p2.isList (by simp; omega) (by omega))
  | @lst n a b xs ys es ha hb hab hl he ih =>
    intro A hu u v ru rv
    cases ru; cases rv
    obtain ⟨its, r1, p1, _⟩ := I.list ha
    obtain ⟨its2, r2, p2, _⟩ := I.list hb
    have l1 := r1.length
    have l2 := r2.length
    have e : (List.range xs.length).all es = (List.range its.toArray.size).all es := by rw [List.size_toArray, l1]
    rw [e]
    refine .of_refs hab (.lists p1.isList p2.isList (by simp; omega) (by omega) fun j h1 h2 => ?_)
    obtain ⟨x, hx, rx⟩ := nth_of r1 h1
    obtain ⟨y, hy, ry⟩ := nth_of r2 h2
    exact ih j x y hx hy A.in1 (by show A.units + 1 + n < cLine; omega) rx ry
  | @tup n a b xs ys es ha hb hab he ih =>
    intro A hu u v ru rv
    cases ru; cases rv
    obtain ⟨its, r1, p1, _⟩ := I.tuple ha
    obtain ⟨its2, r2, p2, _⟩ := I.tuple hb
    have l1 := r1.length
    have l2 := r2.length
    have e : ((List.range (min xs.length ys.length)).all es && xs.length == ys.length) = ((List.range (min its.toArray.size its2.toArray.size)).all es && its.toArray.size == its2.toArray.size) := by rw [List.size_toArray, List.size_toArray, l1, l2]
    rw [e]
    refine .of_refs hab (.tuples (show s.heap.IsTuple a its.toArray from p1) (show s.heap.IsTuple b its2.toArray from p2) (by omega) fun j h1 h2 => ?_)
    obtain ⟨x, hx, rx⟩ := nth_of r1 h1
    obtain ⟨y, hy, ry⟩ := nth_of r2 h2
    exact ih j x y hx hy A.in1 (by show A.units + 1 + n < cLine; omega) rx ry
  | @nref n x a xs hx ha =>
    intro A hu u v ru rv
    cases rv
    rcases ha with ha | ha
    · obtain ⟨its, r1, p1, _⟩ := I.list ha
      have hl := p1.isList
      cases x with
      | non => cases ru; exact .none_list hl (by omega)
      | bl b => cases ru; exact .bool_list b hl (by omega)
      | int b => obtain ⟨t, rfl⟩ := ru; exact .int_list b t hl (by omega)
      | str b => obtain ⟨t, rfl⟩ := ru; exact .str_list b t hl (by omega)
      | _ => simp [flatV] at hx
    · obtain ⟨its, r1, p1, _⟩ := I.tuple ha
      have hl : s.heap.IsTuple a its.toArray := p1
      cases x with
      | non => cases ru; exact .none_tuple hl (by omega)
      | bl b => cases ru; exact .bool_tuple b hl (by omega)
      | int b => obtain ⟨t, rfl⟩ := ru; exact .int_tuple b t hl (by omega)
      | str b => obtain ⟨t, rfl⟩ := ru; exact .str_tuple b t hl (by omega)
      | _ => simp [flatV] at hx
  | @refn n x a xs hx ha =>
    intro A hu u v ru rv
    cases ru
    rcases ha with ha | ha
    · obtain ⟨its, r1, p1, _⟩ := I.list ha
      have hl := p1.isList
      cases x with
      | non => cases rv; exact .list_none hl (by omega)
      | bl b => cases rv; exact .list_bool b hl (by omega)
      | int b => obtain ⟨t, rfl⟩ := rv; exact .list_int b t hl (by omega)
      | str b => obtain ⟨t, rfl⟩ := rv; exact .list_str b t hl (by omega)
      | _ => simp [flatV] at hx
    · obtain ⟨its, r1, p1, _⟩ := I.tuple ha
      have hl : s.heap.IsTuple a its.toArray := p1
      cases x with
      | non => cases rv; exact .tuple_none hl (by omega)
      | bl b => cases rv; exact .tuple_bool b hl (by omega)
      | int b => obtain ⟨t, rfl⟩ := rv; exact .tuple_int b t hl (by omega)
      | str b => obtain ⟨t, rfl⟩ := rv; exact .tuple_str b t hl (by omega)
      | _ => simp [flatV] at hx
end
inductive EqT (K : PySem.W.Frag) (H : Hp) : Nat → V → V → Bool → Prop
  | len {n : Nat} {a b : Addr} {xs ys : List V} (ha : SqL K H a xs) (hb : SqL K H b ys) (hl : xs.length ≠ ys.length) : EqT K H (n + 1) (.ref a) (.ref b) false
  | lst {n : Nat} {a b : Addr} {xs ys : List V} {es : Nat → Bool} (ha : SqL K H a xs) (hb : SqL K H b ys) (hl : xs.length = ys.length)
      (he : ∀ i x y, xs[i]? = some x → ys[i]? = some y → EqD K H n x y (es i)) : EqT K H (n + 1) (.ref a) (.ref b) ((List.range xs.length).all es)
  | tup {n : Nat} {a b : Addr} {xs ys : List V} {es : Nat → Bool} (ha : SqT K H a xs) (hb : SqT K H b ys)
      (he : ∀ i x y, xs[i]? = some x → ys[i]? = some y → EqD K H n x y (es i)) : EqT K H (n + 1) (.ref a) (.ref b) ((List.range (min xs.length ys.length)).all es && xs.length == ys.length)
section
variable {X : Cx}
theorem op_eqT {n : Nat} (hu : X.A.units + n < cLine) : OpR X (compareOp .Eq) (fun x y H Q => ∃ k, EqT X.K H n x y k ∧ Q (.bl k) H) := by
  intro pins s σ H x y v u Q I rx ry h
  obtain ⟨k, h, q⟩ := h
  cases h with
  | @len n a b xs ys ha hb hl =>
    cases rx; cases ry
    obtain ⟨its, r1, p1, _⟩ := I.list ha
    obtain ⟨its2, r2, p2, _⟩ := I.list hb
    have l1 := r1.length
    have l2 := r2.length
    exact SeqAt.eq_list_lengthsAt p1.isList p2.isList (by simp; omega) (by omega) (fin_bl I q rfl)
  | @lst n a b xs ys es ha hb hl he =>
    cases rx; cases ry
    obtain ⟨its, r1, p1, _⟩ := I.list ha
    obtain ⟨its2, r2, p2, _⟩ := I.list hb
    have l1 := r1.length
    have l2 := r2.length
    refine SeqAt.eq_listAt (e := es) p1.isList p2.isList (by simp; omega) (by omega) (fun j h1 h2 => ?_) (fin_bl I q (by rw [List.size_toArray, l1]))
    obtain ⟨x, hx, rx⟩ := nth_of r1 h1
    obtain ⟨y, hy, ry⟩ := nth_of r2 h2
    exact eqAt_D I (he j x y hx hy) X.A.in1 (by show X.A.units + 1 + n < cLine; omega) rx ry
  | @tup n a b xs ys es ha hb he =>
    cases rx; cases ry
    obtain ⟨its, r1, p1, _⟩ := I.tuple ha
    obtain ⟨its2, r2, p2, _⟩ := I.tuple hb
    have l1 := r1.length
    have l2 := r2.length
    refine SeqAt.eq_tupleAt (e := es) (show s.heap.IsTuple a its.toArray from p1) (show s.heap.IsTuple b its2.toArray from p2) (by omega) (fun j h1 h2 => ?_) (fin_bl I q (by rw [List.size_toArray, List.size_toArray, l1, l2]))
    obtain ⟨x, hx, rx⟩ := nth_of r1 h1
    obtain ⟨y, hy, ry⟩ := nth_of r2 h2
    exact eqAt_D I (he j x y hx hy) X.A.in1 (by show X.A.units + 1 + n < cLine; omega) rx ry
theorem op_neT {n : Nat} (hu : X.A.units + n < cLine) : OpR X (compareOp .NotEq) (fun x y H Q => ∃ k, EqT X.K H n x y k ∧ Q (.bl (!k)) H) := by
  intro pins s σ H x y v u Q I rx ry h
  obtain ⟨k, h, q⟩ := h
  cases h with
  | @len n a b xs ys ha hb hl =>
    cases rx; cases ry
    obtain ⟨its, r1, p1, _⟩ := I.list ha
    obtain ⟨its2, r2, p2, _⟩ := I.list hb
    have l1 := r1.length
    have l2 := r2.length
    exact EqBoolInt.of_rcne (SeqAt.RcNeAt.lists_lengths p1.isList p2.isList (by simp; omega) (by omega)) (fin_bl I q rfl)
  | @lst n a b xs ys es ha hb hl he =>
    cases rx; cases ry
    obtain ⟨its, r1, p1, _⟩ := I.list ha
    obtain ⟨its2, r2, p2, _⟩ := I.list hb
    have l1 := r1.length
    have l2 := r2.length
    refine EqBoolInt.of_rcne (SeqAt.RcNeAt.lists (e := es) p1.isList p2.isList (by simp; omega) (by omega) (fun j h1 h2 => ?_)) (fin_bl I q (by rw [List.size_toArray, l1]))
    obtain ⟨x, hx, rx⟩ := nth_of r1 h1
    obtain ⟨y, hy, ry⟩ := nth_of r2 h2
    exact eqAt_D I (he j x y hx hy) X.A.in1 (by show X.A.units + 1 + n < cLine; omega) rx ry
  | @tup n a b xs ys es ha hb he =>
    cases rx; cases ry
    obtain ⟨its, r1, p1, _⟩ := I.tuple ha
    obtain ⟨its2, r2, p2, _⟩ := I.tuple hb
    have l1 := r1.length
    have l2 := r2.length
    refine EqBoolInt.of_rcne (SeqAt.RcNeAt.tuples (e := es) (show s.heap.IsTuple a its.toArray from p1) (show s.heap.IsTuple b its2.toArray from p2) (by omega) (fun j h1 h2 => ?_)) (fin_bl I q (by rw [List.size_toArray, List.size_toArray, l1, l2]))
    obtain ⟨x, hx, rx⟩ := nth_of r1 h1
    obtain ⟨y, hy, ry⟩ := nth_of r2 h2
    exact eqAt_D I (he j x y hx hy) X.A.in1 (by show X.A.units + 1 + n < cLine; omega) rx ry
end
def binA (op : Operator) (x y : V) (H : Hp) (Q : VK) : Prop := match op, x, y with
  | .Add, .int i, .int j => Q (.int (i + j)) H
  | .Add, .str i, .str j => i.length + j.length ≤ sizeLine ∧ Q (.str (i ++ j)) H
  | .Add, .ref a, .ref b => rCat (.ref a) (.ref b) H Q
  | .Sub, .int i, .int j => Q (.int (i - j)) H
  | .Mult, .int i, .int j => CMul i j ∧ Q (.int (i * j)) H
  | .FloorDiv, .int i, .int j => CDiv i j ∧ Q (.int (i / j)) H
  | .Mod, .int i, .int j => 0 < j ∧ Q (.int (i % j)) H
  | .Pow, .int i, .int j => CPow i j ∧ Q (.int (i ^ j.toNat)) H
  | _, _, _ => False
section
variable {X : Cx} {a b c : Expr} {ta tb tc : TE} {pos : Pos}
theorem op_bin (op : Operator) : OpR X (binaryOp op) (binA op) := by
  intro pins s σ H x y v u Q I rx ry h
  unfold binA at h
  split at h
  · exact op_add pins s σ H _ _ v u Q I rx ry ⟨_, _, rfl, rfl, h⟩
  · exact op_add_str pins s σ H _ _ v u Q I rx ry ⟨_, _, rfl, rfl, h.1, h.2⟩
  · exact op_cat pins s σ H _ _ v u Q I rx ry h
  · exact op_sub pins s σ H _ _ v u Q I rx ry ⟨_, _, rfl, rfl, h⟩
  · exact op_mul pins s σ H _ _ v u Q I rx ry ⟨_, _, rfl, rfl, h.1, h.2⟩
  · exact op_fdiv pins s σ H _ _ v u Q I rx ry ⟨_, _, rfl, rfl, h.1, h.2⟩
  · exact op_mod pins s σ H _ _ v u Q I rx ry ⟨_, _, rfl, rfl, h.1, h.2⟩
  · exact op_pow pins s σ H _ _ v u Q I rx ry ⟨_, _, rfl, rfl, h.1, h.2⟩
  · exact h.elim
def eqB : V → V → Option Bool
  | .non, .non => some true
  | .int i, .int j => some (decide (i = j))
  | .bl i, .bl j => some (decide (i = j))
  | .str i, .str j => some (decide (i = j))
  | .non, .int _ => some false | .int _, .non => some false | .non, .bl _ => some false | .bl _, .non => some false | .non, .str _ => some false | .str _, .non => some false
  | .int _, .str _ => some false | .str _, .int _ => some false | .bl _, .str _ => some false | .str _, .bl _ => some false
  | _, _ => none
theorem eqB_scal {x y : V} {k : Bool} (h : eqB x y = some k) : scal x y = true ∧ decide (x = y) = k := by
  cases x <;> cases y <;> simp [eqB, scal] at h ⊢ <;> first | exact h | (subst h; rfl)
def cmpA (K : PySem.W.Frag) (op : CmpOp) (x y : V) (H : Hp) (Q : VK) : Prop := match op, x, y with
  | .Eq, .ref a, .ref b => ∃ k, EqT K H 20 (.ref a) (.ref b) k ∧ Q (.bl k) H
  | .NotEq, .ref a, .ref b => ∃ k, EqT K H 20 (.ref a) (.ref b) k ∧ Q (.bl (!k)) H
  | .Eq, x, y => match eqB x y with | some k => Q (.bl k) H | none => False
  | .NotEq, x, y => match eqB x y with | some k => Q (.bl (!k)) H | none => False
  | .Lt, .int i, .int j => Q (.bl (decide (i < j))) H
  | .LtE, .int i, .int j => Q (.bl (decide (i ≤ j))) H
  | .Gt, .int i, .int j => Q (.bl (decide (j < i))) H
  | .GtE, .int i, .int j => Q (.bl (decide (j ≤ i))) H
  | .Lt, .str i, .str j => Q (.bl (decide (i.cps.toList < j.cps.toList))) H
  | .LtE, .str i, .str j => Q (.bl (!decide (j.cps.toList < i.cps.toList))) H
  | .In, .str i, .str j => Q (.bl (!(Builtin.Str.occurrences j i 0 j.length 1).isEmpty)) H
  | .NotIn, .str i, .str j => Q (.bl (!(!(Builtin.Str.occurrences j i 0 j.length 1).isEmpty))) H
  | .In, x, .ref p => rIn K false x (.ref p) H Q
  | .NotIn, x, .ref p => rIn K true x (.ref p) H Q
  | .Is, x, .non => Q (.bl (decide (x = .non))) H
  | .IsNot, x, .non => Q (.bl (!decide (x = .non))) H
  | _, _, _ => False
theorem op_cmp (op : CmpOp) (hu : X.A.units + 20 < cLine) : OpR X (compareOp op) (cmpA X.K op) := by
  intro pins s σ H x y v u Q I rx ry h
  unfold cmpA at h
  split at h
  · exact op_eqT hu pins s σ H _ _ v u Q I rx ry h
  · exact op_neT hu pins s σ H _ _ v u Q I rx ry h
  · split at h
    · rename_i k e
      obtain ⟨h1, h2⟩ := eqB_scal e
      exact op_eq pins s σ H _ _ v u Q I rx ry ⟨h1, by rw [h2]; exact h⟩
    · exact h.elim
  · split at h
    · rename_i k e
      obtain ⟨h1, h2⟩ := eqB_scal e
      exact op_ne pins s σ H _ _ v u Q I rx ry ⟨h1, by rw [h2]; exact h⟩
    · exact h.elim
  · exact op_lt pins s σ H _ _ v u Q I rx ry ⟨_, _, rfl, rfl, h⟩
  · exact op_le pins s σ H _ _ v u Q I rx ry ⟨_, _, rfl, rfl, h⟩
  · exact op_gt pins s σ H _ _ v u Q I rx ry ⟨_, _, rfl, rfl, h⟩
  · exact op_ge pins s σ H _ _ v u Q I rx ry ⟨_, _, rfl, rfl, h⟩
  · exact op_lt_str pins s σ H _ _ v u Q I rx ry ⟨_, _, rfl, rfl, h⟩
  · exact op_le_str pins s σ H _ _ v u Q I rx ry ⟨_, _, rfl, rfl, h⟩
  · exact op_in_str pins s σ H _ _ v u Q I rx ry ⟨_, _, rfl, rfl, h⟩
  · exact op_notin_str pins s σ H _ _ v u Q I rx ry ⟨_, _, rfl, rfl, h⟩
  · exact op_in_seq pins s σ H _ _ v u Q I rx ry h
  · exact op_notIn_seq pins s σ H _ _ v u Q I rx ry h
  · exact op_isN pins s σ H _ _ v u Q I rx ry ⟨rfl, h⟩
  · exact op_notN pins s σ H _ _ v u Q I rx ry ⟨rfl, h⟩
  · exact h.elim
def cVar (i : Nat) : TE := fun σ H Q => match σ[i]? with | some (some v) => Q v H | _ => False
theorem cv (i : Nat) {x : Str} {pos : Pos} (hN : X.N[i]? = some x := by rfl) (hv : Vis X.env.scope x := by first | exact Or.inl rfl | exact Or.inr (Or.inl rfl) | exact Or.inr (Or.inr rfl)) (hd : (x == ("__debug__" : Str)) = false := by decide)
    (hcd : (x == ("__classdict__" : Str)) = false := by decide) : PE X (.Name x pos) (cVar i) := (pe_var hN hv hd hcd).imp fun σ H Q h => by
  unfold cVar at h
  split at h
  · rename_i v e; exact ⟨v, e, h⟩
  · exact h.elim
def cBin (op : Operator) (ta tb : TE) : TE := fun σ H Q => ta σ H fun x H1 => tb σ H1 fun y H2 => binA op x y H2 Q
theorem ce_bin {op : Operator} (ha : PE X a ta) (hb : PE X b tb) : PE X (.BinOp a op b pos) (cBin op ta tb) := pe_op (op_bin op) ha hb
def cCmp (K : PySem.W.Frag) (op : CmpOp) (ta tb : TE) : TE := fun σ H Q => ta σ H fun x H1 => tb σ H1 fun y H2 => cmpA K op x y H2 Q
def bOnly (Q : Bool → Hp → Prop) : VK := fun x H => match x with | .bl k => Q k H | _ => False
theorem bOnly_ex {Q : Bool → Hp → Prop} {x : V} {H : Hp} (h : bOnly Q x H) : ∃ k, x = .bl k ∧ Q k H := by
  unfold bOnly at h
  split at h
  · exact ⟨_, rfl, h⟩
  · exact h.elim
theorem ce_cmp {op : CmpOp} (hu : X.A.units + 20 < cLine) (ha : PE X a ta) (hb : PE X b tb) (hm : behindInMarks op b = false := by first | exact nomark _ | with_unfolding_all rfl) : PE X (.Compare a [op] [b] pos) (cCmp X.K op ta tb) := pe_cmpR (op_cmp op hu) ha hb hm
def cTest (t : TE) : TT := fun σ H Q => t σ H (bOnly Q)
theorem ct_cmp {op : CmpOp} (hu : X.A.units + 20 < cLine) (ha : PE X a ta) (hb : PE X b tb) (hm : behindInMarks op b = false := by first | exact nomark _ | with_unfolding_all rfl) : PT X (.Compare a [op] [b] pos) (cTest (cCmp X.K op ta tb)) := by
  intro pins s σ H Q I h
  refine wpAny_isTrue_Compare1 (thn (ha pins s σ H _ I h) fun v s1 ⟨x, H1, I1, r1, q1⟩ => thn (hb pins s1 σ H1 _ I1 q1) fun u s2 ⟨y, H2, I2, r2, q2⟩ =>
    thn (op_cmp op hu pins s2 σ H2 x y v u _ I2 r1 r2 q2) fun c s3 ⟨z, H3, I3, r3, q3⟩ => ?_) hm
  obtain ⟨k, e, q3⟩ := bOnly_ex q3
  subst e
  cases r3
  exact wpAny_truthy_bool ⟨H3, I3, q3⟩
def cChain (K : PySem.W.Frag) (op op' : CmpOp) (ta tb tc : TE) : TE := fun σ H Q => ta σ H fun x H1 => tb σ H1 fun y H2 => cmpA K op x y H2 (bOnly fun k H3 => if k = true then tc σ H3 fun w' H4 => cmpA K op' y w' H4 Q else Q (.bl false) H3)
theorem ce_chain {op op' : CmpOp} (hu : X.A.units + 20 < cLine) (ha : PE X a ta) (hb : PE X b tb) (hc : PE X c tc) (hm : lastMarks [op, op'] [b, c] = false := by with_unfolding_all rfl) : PE X (.Compare a [op, op'] [b, c] pos) (cChain X.K op op' ta tb tc) := by
  intro pins s σ H Q I h
  refine Compare_chain (thn (ha pins s σ H _ I h) fun v s1 ⟨x, H1, I1, r1, q1⟩ => chain_link (thn (hb pins s1 σ H1 _ I1 q1) fun u s2 ⟨y, H2, I2, r2, q2⟩ =>
    thn (op_cmp op hu pins s2 σ H2 x y v u _ I2 r1 r2 q2) fun d s3 ⟨z, H3, I3, r3, q3⟩ => ?_)) hm
  obtain ⟨k, e, q3⟩ := bOnly_ex q3
  subst e
  cases r3
  refine wpAny_truthy_bool ?_
  cases k with
  | false => exact ite_ff ⟨.bl false, H3, I3, rfl, q3⟩
  | true => exact ite_tt (chain_last (thn (hc pins s3 σ H3 _ I3 q3) fun w' s4 ⟨z', H4, I4, r4, q4⟩ => op_cmp op' hu pins s4 σ H4 y z' u w' Q I4 r2 r4 q4))
def cChainT (K : PySem.W.Frag) (op op' : CmpOp) (ta tb tc : TE) : TT := fun σ H Q => ta σ H fun x H1 => tb σ H1 fun y H2 => cmpA K op x y H2 (bOnly fun k H3 => if k = true then tc σ H3 fun w' H4 => cmpA K op' y w' H4 (bOnly Q) else Q false H3)
theorem ct_chain {op op' : CmpOp} (hu : X.A.units + 20 < cLine) (ha : PE X a ta) (hb : PE X b tb) (hc : PE X c tc) (hm : lastMarks [op, op'] [b, c] = false := by with_unfolding_all rfl) : PT X (.Compare a [op, op'] [b, c] pos) (cChainT X.K op op' ta tb tc) := by
  intro pins s σ H Q I h
  refine isTrue_chain (thn (ha pins s σ H _ I h) fun v s1 ⟨x, H1, I1, r1, q1⟩ => test_link (thn (hb pins s1 σ H1 _ I1 q1) fun u s2 ⟨y, H2, I2, r2, q2⟩ =>
    thn (op_cmp op hu pins s2 σ H2 x y v u _ I2 r1 r2 q2) fun d s3 ⟨z, H3, I3, r3, q3⟩ => ?_)) hm
  obtain ⟨k, e, q3⟩ := bOnly_ex q3
  subst e
  cases r3
  refine wpAny_truthy_bool ?_
  cases k with
  | false => exact ite_ff ⟨H3, I3, q3⟩
  | true =>
    refine ite_tt (test_last (thn (hc pins s3 σ H3 _ I3 q3) fun w' s4 ⟨z', H4, I4, r4, q4⟩ => thn (op_cmp op' hu pins s4 σ H4 y z' u w' _ I4 r2 r4 q4) fun d' s5 ⟨z2, H5, I5, r5, q5⟩ => ?_))
    obtain ⟨k2, e2, q5⟩ := bOnly_ex q5
    subst e2
    cases r5
    exact wpAny_truthy_bool ⟨H5, I5, q5⟩
theorem ct_val {e : Expr} {t : TE} (h : PE X e t) (he : ∀ whole, isTrue e X.env whole = (do let v ← whole; standAt e.pos; holding [v] (truthy v)) := by intro _; rfl) : PT X e (cTest t) := by
  intro pins s σ H Q I hw
  refine isTrue_plain (thn (h pins s σ H _ I hw) fun v s1 ⟨x, H1, I1, r1, q1⟩ => ?_) (he _)
  obtain ⟨d, rfl, q⟩ := bOnly_ex q1
  cases r1
  exact wpAny_truthy_bool ⟨H1, I1, q⟩
variable {rest : List Expr}
def cAndV (ta tb : TE) : TE := fun σ H Q => ta σ H (bOnly fun c H1 => if c = true then tb σ H1 Q else Q (.bl false) H1)
def cOrV (ta tb : TE) : TE := fun σ H Q => ta σ H (bOnly fun c H1 => if c = true then Q (.bl true) H1 else tb σ H1 Q)
def cNotV (ta : TE) : TE := fun σ H Q => ta σ H (bOnly fun c H1 => Q (.bl (!c)) H1)
theorem ce_and (ha : PE X a ta) (hb : PE X (.BoolOp .And (b :: rest) pos) tb) : PE X (.BoolOp .And (a :: b :: rest) pos) (cAndV ta tb) := by
  intro pins s σ H Q I h
  refine BoolOp_and (thn (ha pins s σ H _ I h) fun v s1 ⟨x, H1, I1, r1, q1⟩ => ?_)
  obtain ⟨c, rfl, q1⟩ := bOnly_ex q1
  cases r1
  refine wpAny_truthy_bool ?_
  cases c with
  | true => exact hb pins s1 σ H1 Q I1 q1
  | false => exact ⟨.bl false, H1, I1, rfl, q1⟩
theorem ce_or (ha : PE X a ta) (hb : PE X (.BoolOp .Or (b :: rest) pos) tb) : PE X (.BoolOp .Or (a :: b :: rest) pos) (cOrV ta tb) := by
  intro pins s σ H Q I h
  refine BoolOp_or (thn (ha pins s σ H _ I h) fun v s1 ⟨x, H1, I1, r1, q1⟩ => ?_)
  obtain ⟨c, rfl, q1⟩ := bOnly_ex q1
  cases r1
  refine wpAny_truthy_bool ?_
  cases c with
  | false => exact hb pins s1 σ H1 Q I1 q1
  | true => exact ⟨.bl true, H1, I1, rfl, q1⟩
theorem ce_not (ha : PE X a ta) : PE X (.UnaryOp .Not a pos) (cNotV ta) := by
  intro pins s σ H Q I h
  refine UnaryOp_ (thn (ha pins s σ H _ I h) fun v s1 ⟨x, H1, I1, r1, q1⟩ => ?_)
  obtain ⟨c, rfl, q1⟩ := bOnly_ex q1
  cases r1
  exact not_of (wpAny_truthy_bool ⟨.bl (!c), H1, I1, rfl, q1⟩)
def cNeg (ta : TE) : TE := fun σ H Q => ta σ H fun x H1 => match x with | .int i => Q (.int (-i)) H1 | _ => False
theorem ce_neg (ha : PE X a ta) : PE X (.UnaryOp .USub a pos) (cNeg ta) := by
  intro pins s σ H Q I h
  refine UnaryOp_ (thn (ha pins s σ H _ I h) fun v s1 ⟨x, H1, I1, r1, q1⟩ => ?_)
  cases x with
  | int i => exact un_neg pins s1 σ H1 _ v Q I1 r1 ⟨i, rfl, q1⟩
  | _ => exact q1.elim
end
end L2
namespace L2
open PySem PySem.Spec PyProof.Rows
theorem bo_len : bootBuiltins "len" = some (.builtin "len") := by decide +kernel
theorem bo_min : bootBuiltins "min" = some (.builtin "min") := by decide +kernel
theorem bo_all : bootBuiltins "all" = some (.builtin "all") := by decide +kernel
theorem bo_any : bootBuiltins "any" = some (.builtin "any") := by decide +kernel
theorem bo_isinstance : bootBuiltins "isinstance" = some (.builtin "isinstance") := by decide +kernel
theorem bo_sorted : bootBuiltins "sorted" = some (.builtin "sorted") := by decide +kernel
theorem bo_int : bootBuiltins "int" = some (.type "int") := by decide +kernel
theorem bo_bool : bootBuiltins "bool" = some (.type "bool") := by decide +kernel
theorem bo_str : bootBuiltins "str" = some (.type "str") := by decide +kernel
theorem bo_list : bootBuiltins "list" = some (.type "list") := by decide +kernel
theorem bo_tuple : bootBuiltins "tuple" = some (.type "tuple") := by decide +kernel
theorem bo_set : bootBuiltins "set" = some (.type "set") := by decide +kernel
theorem bo_enumerate : bootBuiltins "enumerate" = some (.type "enumerate") := by decide +kernel
theorem bo_zip : bootBuiltins "zip" = some (.type "zip") := by decide +kernel
inductive BT | int | bool | str | list | tuple | dict
  deriving DecidableEq
def BT.s : BT → String
  | .int => "int" | .bool => "bool" | .str => "str" | .list => "list" | .tuple => "tuple" | .dict => "dict"
def isSub : BT → BT → Bool
  | .bool, .int => true
  | .int, .int => true | .bool, .bool => true | .str, .str => true | .list, .list => true | .tuple, .tuple => true | .dict, .dict => true
  | _, _ => false
theorem kit_bt (K : PySem.W.Frag) (a T : BT) : PySem.W.kitOne K (.type a.s) (.type T.s) = some (isSub a T) := by
  cases a <;> cases T <;> kernel_rfl
theorem kit_non (K : PySem.W.Frag) (T : BT) : PySem.W.kitOne K (.type "NoneType") (.type T.s) = some false := by
  cases T <;> kernel_rfl
def isA (T : BT) (x : V) (H : Hp) (Q : VK) : Prop := match x with
  | .non => Q (.bl false) H
  | .bl _ => Q (.bl (isSub .bool T)) H
  | .int _ => Q (.bl (isSub .int T)) H
  | .str _ => Q (.bl (isSub .str T)) H
  | .ref a => match H a with
    | some (.lst _) => Q (.bl (isSub .list T)) H
    | some (.frz _ (.lst _)) => Q (.bl (isSub .list T)) H
    | some (.tup _) => Q (.bl (isSub .tuple T)) H
    | some (.dK _) => Q (.bl (isSub .dict T)) H
    | _ => False
  | _ => False
section
variable {X : Cx} {a b c e o : Expr} {ta tb tc te to : TE} {p p2 pos : Pos} {es : List Expr} {t : TA}
theorem is_ok (T : BT) {pins : List (Addr × Obj)} {s : Shared} {σ : St} {H : Hp} {x : V} {u : Value} {Q : VK} (I : Inv X pins σ H s) (rx : RelV x u) (h : isA T x H Q) : wpAny (model X.prog X.w) X.A (call (.builtin "isinstance") [u, .type T.s]) (EP X pins σ Q) X.xe s := by
  have fin : ∀ {k : Bool} {tv : Value}, TyOf X.K H x tv → PySem.W.kitOne X.K tv (.type T.s) = some k → Q (.bl k) H → wpAny (model X.prog X.w) X.A (call (.builtin "isinstance") [u, .type T.s]) (EP X pins σ Q) X.xe s := fun ty e q =>
    isinst_ok I rx ty e fun tk => ⟨.bl _, H, I.tok tk, rfl, q⟩
  unfold isA at h
  cases x with
  | non => exact fin .non (kit_non _ T) h
  | bl y => exact fin (.bl y) (kit_bt _ .bool T) h
  | int y => exact fin (.int y) (kit_bt _ .int T) h
  | str y => exact fin (.str y) (kit_bt _ .str T) h
  | ref d =>
    dsimp only at h
    split at h
    · rename_i e; exact fin (.lst e) (kit_bt _ .list T) h
    · rename_i e; exact fin (.frz e) (kit_bt _ .list T) h
    · rename_i e; exact fin (.tup e) (kit_bt _ .tuple T) h
    · rename_i e; exact fin (.dK e) (kit_bt _ .dict T) h
    · exact h.elim
  | _ => exact h.elim
def cIs (T : BT) (ta : TE) : TE := fun σ H Q => ta σ H fun x H1 => isA T x H1 Q
theorem ce_is (T : BT) {n : Str} (ha : PE X a ta) (hg : Gl X "isinstance") (hm : X.mg "isinstance" = none) (hgT : Gl X n) (hmT : X.mg n = none) (hv : bootBuiltins n = some (.type T.s)) (hn : n ≠ "__name__" := by decide) (hdb : (n == ("__debug__" : Str)) = false := by decide)
    (he : starEach [a, .Name n p2] X.env = (false, eval a X.env) :: starEach [.Name n p2] X.env := by rfl) (he2 : starEach [.Name n p2] X.env = (false, eval (.Name n p2) X.env) :: starEach [] X.env := by rfl) (hpl : (backTo pos (starEach [.Name n p2] X.env)).any (·.1) = false := by rfl) :
    PE X (.Call (.Name "isinstance" p) [a, .Name n p2] [] pos) (cIs T ta) := by
  intro pins s σ H Q I h
  refine wpAny_Call_Name_kw (ld_blt I hg hm bo_isinstance ?_ (by decide) (by decide))
  have hA : PA X [a, .Name n p2] (tCons ta (tCons (tC (.ty T.s)) tNil)) := pa_cons ha (pa_cons (pe_bltn hgT hmT hv rfl hn hdb) pa_nil he2) he
  refine PyProof.Rows.callWith_builtin1 (thn (hA pos pins s σ H (fun vs H1 => ∃ x, vs = [x, .ty T.s] ∧ isA T x H1 Q) I ?_) fun us s1 ⟨vs, H1, I1, r1, x, e, q1⟩ => ?_) he hpl
  · have mono : (fun (x : V) H1 => isA T x H1 Q) = fun x H1 => (tCons (tC (.ty T.s)) tNil) σ H1 fun xs H2 => ∃ y, x :: xs = [y, .ty T.s] ∧ isA T y H2 Q := by
      funext x H1
      apply propext
      constructor
      · intro q; exact ⟨x, rfl, q⟩
      · rintro ⟨y, e, q⟩
        have : x = y := by injection e
        subst this
        exact q
    show ta σ H _
    rw [← mono]
    exact h
  · subst e
    obtain ⟨u, w', rfl, ru, rt⟩ := vals2 r1
    cases rt
    exact is_ok T I1 ru q1
theorem IxR.imp {r r' : R2} (h : IxR X r) (i : ∀ x y H Q, r' x y H Q → r x y H Q) : IxR X r' := fun va sl pins s σ H x y v u Q I rx ry q hs => h va sl pins s σ H x y v u Q I rx ry (i x y H Q q) hs
def ixA (K : PySem.W.Frag) (x y : V) (H : Hp) (Q : VK) : Prop := match x, y with
  | .str z, .int i => z.length ≤ sizeLine ∧ ∃ c, atI z.cps.toList i = some c ∧ Q (.str ⟨#[c]⟩) H
  | .ref q, .int i => ∃ xs v, (SqL K H q xs ∨ SqT K H q xs) ∧ atI xs i = some v ∧ Q v H
  | _, _ => False
theorem ix_A : IxR X (ixA X.K) := (ix_seq (X := X)).imp fun x y H Q h => by
  unfold ixA at h
  split at h
  · obtain ⟨h1, c, h2, q⟩ := h
    exact .inr (.inr ⟨_, _, c, rfl, rfl, h1, h2, q⟩)
  · obtain ⟨xs, v, h1, h2, q⟩ := h
    rcases h1 with h1 | h1
    · exact .inl ⟨_, xs, _, v, rfl, rfl, h1, h2, q⟩
    · exact .inr (.inl ⟨_, xs, _, v, rfl, rfl, h1, h2, q⟩)
  · exact h.elim
def cIx (K : PySem.W.Frag) (ta tb : TE) : TE := fun σ H Q => ta σ H fun x H1 => tb σ H1 fun y H2 => ixA K x y H2 Q
theorem ce_ix (ha : PE X a ta) (hb : PE X b tb) (hs : PlainIx b := by exact fun _ _ => rfl) : PE X (.Subscript a b pos) (cIx X.K ta tb) := pe_ix ix_A ha hb hs
def cPart (t : TE) : TO := fun σ H Q => t σ H fun x H1 => match x with | .int i => Q (some i) H1 | _ => False
theorem co_some (h : PE X e te) : PO X (some e) (cPart te) := by
  intro pins s σ H Q I hw
  rw [evalPart_some]
  refine thn (h pins s σ H _ I hw) fun u s1 ⟨x, H1, I1, r1, q1⟩ => ?_
  cases x with
  | int i =>
    obtain ⟨t, rfl⟩ := r1
    exact ⟨some i, H1, I1, .int i t, q1⟩
  | _ => exact q1.elim
theorem SlR.imp {r r' : V → Option Int → Option Int → Hp → VK → Prop} (h : SlR X r) (i : ∀ x lo hi H Q, r' x lo hi H Q → r x lo hi H Q) : SlR X r' := fun pins s σ H x v vl vu lo hi sl Q I rx hs pl pu q => h pins s σ H x v vl vu lo hi sl Q I rx hs pl pu (i x lo hi H Q q)
def slA (K : PySem.W.Frag) (x : V) (lo hi : Option Int) (H : Hp) (Q : VK) : Prop := match x with
  | .str z => z.length ≤ sizeLine ∧ Q (.str (cutS z lo hi)) H
  | .ref d => ∃ xs, SqL K H d xs ∧ ∀ q, H q = none → Q (.ref q) (upd H q (.lst (cutV xs lo hi)))
  | _ => False
theorem sl_A : SlR X (slA X.K) := ((sl_str (X := X)).or sl_list).imp fun x lo hi H Q h => by
  unfold slA at h
  split at h
  · exact .inl ⟨_, rfl, h.1, h.2⟩
  · obtain ⟨xs, h1, h2⟩ := h
    exact .inr ⟨_, xs, rfl, h1, h2⟩
  · exact h.elim
def cSl (K : PySem.W.Frag) (te : TE) (tl th : TO) : TE := fun σ H Q => te σ H fun x H1 => tl σ H1 fun l H2 => th σ H2 fun u H3 => slA K x l u H3 Q
theorem ce_sl {lo hi : Option Expr} {tl th : TO} (he : PE X e te) (hl : PO X lo tl) (hu : PO X hi th) : PE X (.Subscript e (.Slice lo hi none p2) pos) (cSl X.K te tl th) := pe_slice sl_A he hl hu
def cB (r : List V → Hp → VK → Prop) (t : TA) : TE := fun σ H Q => t σ H fun vs H1 => r vs H1 Q
def lenA (K : PySem.W.Frag) (xs : List V) (H : Hp) (Q : VK) : Prop := match xs with
  | [.str z] => z.length ≤ sizeLine ∧ Q (.int z.length) H
  | [.ref d] => ∃ ys, (SqL K H d ys ∨ SqT K H d ys) ∧ Q (.int ys.length) H
  | _ => False
theorem call_lenA : CallR X (.builtin "len") (lenA X.K) := ((call_len_seq (X := X)).or call_len_str).imp fun xs H Q h => by
  unfold lenA at h
  split at h
  · exact .inr ⟨_, rfl, h.1, h.2⟩
  · obtain ⟨ys, h1, h2⟩ := h
    exact .inl ⟨_, ys, rfl, h1, h2⟩
  · exact h.elim
def minA (xs : List V) (H : Hp) (Q : VK) : Prop := match xs with
  | [.int i, .int j] => Q (.int (if j < i then j else i)) H
  | _ => False
theorem call_minA (hc : X.calm = true) : CallR X (.builtin "min") minA := (call_min2 hc).imp fun xs H Q h => by
  unfold minA at h
  split at h
  · exact ⟨_, _, rfl, h⟩
  · exact h.elim
def strA (xs : List V) (H : Hp) (Q : VK) : Prop := match xs with
  | [.int i] => i.natAbs.log2 < 1920 ∧ Q (.str (toString i)) H
  | _ => False
theorem call_strA : CallR X (.type "str") strA := (call_str_int (X := X)).imp fun xs H Q h => by
  unfold strA at h
  split at h
  · exact ⟨_, rfl, h.1, h.2⟩
  · exact h.elim
def intA (xs : List V) (H : Hp) (Q : VK) : Prop := match xs with
  | [.str x] => ∃ n, PySem.intText? x = some n ∧ x.length ≤ 640 ∧ Q (.int n) H
  | [.bl k] => Q (.int (if k then 1 else 0)) H
  | _ => False
theorem call_intA : CallR X (.type "int") intA := ((call_int_text (X := X)).or call_int1).imp fun xs H Q h => by
  unfold intA at h
  split at h
  · obtain ⟨n, h1, h2, q⟩ := h
    exact .inl ⟨_, n, rfl, h1, h2, q⟩
  · exact .inr (.inr ⟨_, rfl, h⟩)
  · exact h.elim
def allA (K : PySem.W.Frag) (xs : List V) (H : Hp) (Q : VK) : Prop := match xs with
  | [.ref d] => ∃ ks : List Bool, SqL K H d (ks.map V.bl) ∧ Q (.bl (ks.all id)) H
  | _ => False
theorem call_allA (hc : X.calm = true) : CallR X (.builtin "all") (allA X.K) := (call_all hc).imp fun xs H Q h => by
  unfold allA at h
  split at h
  · obtain ⟨ks, h1, q⟩ := h
    exact ⟨_, ks, rfl, h1, q⟩
  · exact h.elim
theorem ce_B {id : String} {x : Str} {r : List V → Hp → VK → Prop} (hc : CallR X (.builtin id) r) (hv : bootBuiltins x = some (.builtin id)) (hm : X.mg x = none) (ha : PA X (e :: es) t) (hg : Gl X x := by rfl) (hn : x ≠ "__name__" := by decide) (hdb : (x == ("__debug__" : Str)) = false := by decide)
    (he : starEach (e :: es) X.env = (false, eval e X.env) :: starEach es X.env := by rfl) (hpl : (backTo pos (starEach es X.env)).any (·.1) = false := by rfl) : PE X (.Call (.Name x p) (e :: es) [] pos) (cB r t) := pe_callB hc hg hm hv ha hn hdb he hpl
theorem ce_Ty {T : String} {x : Str} {r : List V → Hp → VK → Prop} (hc : CallR X (.type T) r) (hv : bootBuiltins x = some (.type T)) (hm : X.mg x = none) (ha : PA X (e :: es) t) (hg : Gl X x := by rfl) (hn : x ≠ "__name__" := by decide) (hdb : (x == ("__debug__" : Str)) = false := by decide)
    (he : starEach (e :: es) X.env = (false, eval e X.env) :: starEach es X.env := by rfl) (hpl : (backTo pos (starEach es X.env)).any (·.1) = false := by rfl) : PE X (.Call (.Name x p) (e :: es) [] pos) (cB r t) := pe_callTy hc hg hm hv ha hn hdb he hpl
def cSM (r : V → List V → Hp → VK → Prop) (to : TE) (t : TA) : TE := fun σ H Q => to σ H fun x H1 => match x with | .str z => t σ H1 fun xs H2 => r (.str z) xs H2 Q | _ => False
theorem ce_sm {name : Str} {apos cpos : Pos} {id : String} {r : V → List V → Hp → VK → Prop} (slot : Slot "str" name id) (hty : typeOf (.builtin id) = pure (.type "method_descriptor")) (hm : MtR X id r) (ho : PE X o to) (ha : PA X (e :: es) t)
    (hbase : attributeBase o name X.env (eval o X.env) = eval o X.env := by rfl)
    (hfew : ((backTo cpos (starEach (e :: es) X.env)).all (fun x => !x.1) && (backToKw cpos (keywordEach [] X.env)).all (fun x => x.1.isSome)
      && decide ((e :: es).length + ([] : List Keyword).length + (if ([] : List Keyword).isEmpty then 0 else 1) < 30)) = true := by rfl)
    (hline : (apos.endLine == cpos.line) = true := by rfl) (hs : starEach (e :: es) X.env = (false, eval e X.env) :: starEach es X.env := by rfl) (hplain : (backTo cpos (starEach es X.env)).any (·.1) = false := by rfl) :
    PE X (.Call (.Attribute o name apos) (e :: es) [] cpos) (cSM r to t) := by
  intro pins s σ H Q I h
  refine wpAny_Call_method_late hbase hfew hline rfl (thn (ho pins s σ H _ I h) fun v s1 ⟨x, H1, I1, r1, q1⟩ => ?_)
  cases x with
  | str z =>
    have ty : tyV X.K "str" (.str z) H1 := rfl
    obtain ⟨h1, h2⟩ := tyV_is I1 r1 ty
    refine ⟨"str", id, PySem.F.plainAttrs_str, slot, hty, h1, h2, ?_⟩
    have hA := ha cpos pins s1 σ H1 _ I1 q1
    rw [hs] at hA ⊢
    refine Calls.callWith_builtin (by show (false || (backTo cpos (starEach es X.env)).any (·.1)) = false; rw [hplain] <;> rfl) (Calls.evalArgs_plain ?_)
    exact thn hA fun us s2 ⟨vs, H2, I2, r2, q2⟩ => hm pins s2 σ H2 _ vs v us Q I2 r1 r2 q2
  | _ => exact q1.elim
def cSM0 (r : V → List V → Hp → VK → Prop) (to : TE) : TE := fun σ H Q => to σ H fun x H1 => match x with | .str z => r (.str z) [] H1 Q | _ => False
theorem ce_sm0 {name : Str} {apos cpos : Pos} {id : String} {r : V → List V → Hp → VK → Prop} (slot : Slot "str" name id) (hty : typeOf (.builtin id) = pure (.type "method_descriptor")) (hm : MtR X id r) (ho : PE X o to)
    (hbase : attributeBase o name X.env (eval o X.env) = eval o X.env := by rfl) (hline : (apos.endLine == cpos.line) = true := by rfl) : PE X (.Call (.Attribute o name apos) [] [] cpos) (cSM0 r to) := by
  intro pins s σ H Q I h
  refine wpAny_Call_method0_late hbase hline (thn (ho pins s σ H _ I h) fun v s1 ⟨x, H1, I1, r1, q1⟩ => ?_)
  cases x with
  | str z =>
    have ty : tyV X.K "str" (.str z) H1 := rfl
    obtain ⟨h1, h2⟩ := tyV_is I1 r1 ty
    exact ⟨"str", id, PySem.F.plainAttrs_str, slot, hty, h1, h2, Calls.callWith_builtin rfl (PySem.evalArgs_none (hm pins s1 σ H1 _ [] v [] Q I1 r1 .nil q1))⟩
  | _ => exact q1.elim
def swA (x : V) (vs : List V) (H : Hp) (Q : VK) : Prop := match x, vs with
  | .str a, [.str b] => Q (.bl (b.cps.toList.isPrefixOf a.cps.toList)) H
  | _, _ => False
def joinA (K : PySem.W.Frag) (x : V) (vs : List V) (H : Hp) (Q : VK) : Prop := match x, vs with
  | .str sep, [.ref d] => ∃ ys : List Str, SqL K H d (ys.map V.str) ∧ (ys.map (·.length)).sum + ys.length * sep.length ≤ 16777216 ∧ Q (.str (Txt.join sep ys)) H
  | _, _ => False
theorem mt_joinA : MtR X "str.join" (joinA X.K) := (mt_join (X := X)).imp fun x vs H Q h => by
  unfold joinA at h
  split at h
  · obtain ⟨ys, h1, h2, q⟩ := h
    exact ⟨_, _, ys, rfl, rfl, h1, h2, q⟩
  · exact h.elim
def upA (x : V) (vs : List V) (H : Hp) (Q : VK) : Prop := match x, vs with
  | .str a, [] => a.length ≤ sizeLine ∧ (∀ c ∈ a.cps.toList, c < 128) ∧ Q (.str ⟨a.cps.map up1⟩) H
  | _, _ => False
theorem mt_upA : MtR X "str.upper" upA := (mt_upper (X := X)).imp fun x vs H Q h => by
  unfold upA at h
  split at h
  · exact ⟨_, rfl, rfl, h.1, h.2.1, h.2.2⟩
  · exact h.elim
def cApp (to te : TE) : TE := fun σ H Q => to σ H fun x H1 => match x with
  | .ref l => (∃ xs, H1 l = some (.lst xs)) ∧ te σ H1 fun y H2 => ∃ xs, H2 l = some (.lst xs) ∧ xs.length < sizeLine ∧ Q .non (upd H2 l (.lst (xs ++ [y])))
  | _ => False
theorem ce_app {apos cpos : Pos} (ho : PE X o to) (he : PE X e te) (hbase : attributeBase o "append" X.env (eval o X.env) = eval o X.env := by rfl)
    (hfew : ((backTo cpos (starEach [e] X.env)).all (fun x => !x.1) && (backToKw cpos (keywordEach [] X.env)).all (fun x => x.1.isSome)
      && decide ([e].length + ([] : List Keyword).length + (if ([] : List Keyword).isEmpty then 0 else 1) < 30)) = true := by rfl)
    (hline : (apos.endLine == cpos.line) = true := by rfl) (hs : starEach [e] X.env = (false, eval e X.env) :: starEach [] X.env := by rfl) (hplain : (backTo cpos (starEach [] X.env)).any (·.1) = false := by rfl) :
    PE X (.Call (.Attribute o "append" apos) [e] [] cpos) (cApp to te) := by
  intro pins s σ H Q I h
  refine wpAny_Call_method_late hbase hfew hline rfl (thn (ho pins s σ H _ I h) fun v s1 ⟨x, H1, I1, r1, q1⟩ => ?_)
  cases x with
  | ref l =>
    obtain ⟨⟨xs0, e0⟩, q1⟩ := q1
    have ty : tyV X.K "list" (.ref l) H1 := .inl ⟨rfl, xs0, SqL.of e0⟩
    obtain ⟨h1, h2⟩ := tyV_is I1 r1 ty
    refine ⟨"list", "list.append", PySem.F.plainAttrs_list, PySem.F.slot_list_append, PySem.F.type_list_append, h1, h2, ?_⟩
    have hA := (pa_cons he pa_nil hs : PA X [e] (tCons te tNil)) cpos pins s1 σ H1 (fun vs H2 => ∃ y, vs = [y] ∧ ∃ xs, H2 l = some (.lst xs) ∧ xs.length < sizeLine ∧ Q .non (upd H2 l (.lst (xs ++ [y])))) I1 (by
      show te σ H1 fun y H2 => ∃ y', [y] = [y'] ∧ _
      have : (fun (y : V) (H2 : Hp) => ∃ xs, H2 l = some (.lst xs) ∧ xs.length < sizeLine ∧ Q .non (upd H2 l (.lst (xs ++ [y])))) = fun y H2 => ∃ y', [y] = [y'] ∧ ∃ xs, H2 l = some (.lst xs) ∧ xs.length < sizeLine ∧ Q .non (upd H2 l (.lst (xs ++ [y']))) := by
        funext y H2
        apply propext
        constructor
        · intro z; exact ⟨y, rfl, z⟩
        · rintro ⟨y', e, z⟩
          have : y = y' := by injection e
          subst this; exact z
      rw [← this]
      exact q1)
    rw [hs] at hA ⊢
    refine Calls.callWith_builtin (by show (false || (backTo cpos (starEach [] X.env)).any (·.1)) = false; rw [hplain] <;> rfl) (Calls.evalArgs_plain ?_)
    exact thn hA fun us s2 ⟨vs, H2, I2, r2, y, e, xs, q3, q4, q5⟩ => mt_append pins s2 σ H2 _ vs v us Q I2 r1 r2 ⟨l, xs, y, rfl, e, q3, q4, q5⟩
  | _ => exact q1.elim
structure Cal (P : Program) (w : World) (K : PySem.W.Frag) (mg : Str → Option Value) (base : Heap) (name : Str) (ps : List Str) (k : Nat) (sp : Sp) : Prop where
  ex : ∃ f fd, FnOk P w K mg base CX0 k f fd ps sp ∧ mg name = some (.ref f) ∧ PySem.W.keepIn K (.ref f) = true ∧ Binds K fd ps []
theorem Cal.mono {P : Program} {w : World} {K : PySem.W.Frag} {mg : Str → Option Value} {base : Heap} {name : Str} {ps : List Str} {j k : Nat} {sp : Sp} (C : Cal P w K mg base name ps j sp) (h : j ≤ k) : Cal P w K mg base name ps k sp := by
  obtain ⟨f, fd, F, a, b, c⟩ := C.ex
  exact ⟨f, fd, F.mono h, a, b, c⟩
def cCall (sp : Sp) (t : TA) : TE := fun σ H Q => t σ H fun vs H1 => sp vs H1 Q E0
theorem ce_call {name : Str} {ps : List Str} {k j : Nat} {sp : Sp} (C : Cal X.prog X.w X.K X.mg X.base name ps k sp) (hr : Room j X.A) (hkj : k ≤ j) (ha : PA X (e :: es) t) (hg : Gl X name := by rfl) (hdb : (name == ("__debug__" : Str)) = false := by decide)
    (he : starEach (e :: es) X.env = (false, eval e X.env) :: starEach es X.env := by rfl) (hpl : (backTo pos (starEach es X.env)).any (·.1) = false := by rfl) : PE X (.Call (.Name name p) (e :: es) [] pos) (cCall sp t) := by
  obtain ⟨f, fd, F, hm, hk, hb⟩ := C.ex
  refine (pe_call F (hr.mono hkj) hg hm hk hb .nil pass0 ha hdb he hpl : PE X _ (tCall sp [] E0 t)).imp fun σ H Q h => ?_
  unfold tCall
  simp only [List.append_nil]
  exact h
end
end L2
namespace PySem
namespace F
end F
end PySem
namespace L2
open PySem PySem.Spec PyProof.Rows
section
variable {prog : Program} {w : World} {A : Around} {E : Value → Shared → Prop} {s : Shared}
end
section
variable {X : Cx} {o e : Expr} {to te : TE}
def cJR (K : PySem.W.Frag) (to te : TE) : TE := fun σ H Q => to σ H fun x H1 => match x with
  | .str sep => te σ H1 fun y H2 => match y with
    | .ref d => ∃ ys : List Str, SqL K H2 d (ys.map V.str) ∧ (ys.map (·.length)).sum + ys.length * sep.length ≤ 16777216 ∧ Q (.str (Txt.join sep ys.reverse)) H2
    | _ => False
  | _ => False
end
end L2
namespace L2
open PySem PySem.Spec PyProof.Rows
def Its (x : Str) : It := ⟨fun i _ => i < x.length, fun i H v H' => H' = H ∧ ∃ c, x.cps.toList[i]? = some c ∧ v = .str ⟨#[c]⟩, fun i _ => x.length ≤ i⟩
def strIt (ty : String) : Prop := ty = "str_ascii_iterator" ∨ ty = "str_iterator"
section
variable {X : Cx} {tg : Expr}
def iStr (tl : TE) : TI := fun σ H R => tl σ H fun v H1 => match v with | .str x => R (Its x) H1 | _ => False
end
end L2
namespace L2
open PySem PySem.Spec PyProof.Rows
section
variable {X : Cx}
theorem pe_globE {x : Str} {v : V} {pos : Pos} (hg : Gl X x) (h : ∃ u, X.mg x = some u ∧ RelV v u) (hd : (x == ("__debug__" : Str)) = false := by decide) : PE X (.Name x pos) (tC v) := by
  obtain ⟨u, hm, r⟩ := h
  exact pe_glob hg hm r hd
end
theorem hu20 {A : Around} {k : Nat} (hr : Room k A) : A.units + 20 < cLine := by
  have := hr.units
  omega
theorem Same.upd {H H' : Hp} {d : Addr} {o : HO} (h : Same H H') (hd : H' d = none) : Same H (upd H' d o) := fun b ob e => by
  have e' := h b ob e
  rw [upd_ne (ne_of_none e' hd)]
  exact e'
theorem Same.get {H H' : Hp} (h : Same H H') {b : Addr} {o : HO} (e : H b = some o) : H' b = some o := h b o e
end L2
namespace L2
open PySem PySem.Spec PyProof.Rows
section
variable {X : Cx} {a b c e o : Expr} {ta tb tc te to : TE} {p p2 pos : Pos} {es : List Expr} {t : TA}
theorem kcmp (K : PySem.W.Frag) {op : CmpOp} (hu : X.A.units + 20 < cLine) (ha : PE X a ta) (hb : PE X b tb) (hm : behindInMarks op b = false := by first | exact nomark _ | with_unfolding_all rfl) (hK : X.K = K := by rfl) : PE X (.Compare a [op] [b] pos) (cCmp K op ta tb) := by
  subst hK; exact ce_cmp hu ha hb hm
theorem ktcmp (K : PySem.W.Frag) {op : CmpOp} (hu : X.A.units + 20 < cLine) (ha : PE X a ta) (hb : PE X b tb) (hm : behindInMarks op b = false := by first | exact nomark _ | with_unfolding_all rfl) (hK : X.K = K := by rfl) : PT X (.Compare a [op] [b] pos) (cTest (cCmp K op ta tb)) := by
  subst hK; exact ct_cmp hu ha hb hm
theorem kchain (K : PySem.W.Frag) {op op' : CmpOp} (hu : X.A.units + 20 < cLine) (ha : PE X a ta) (hb : PE X b tb) (hc : PE X c tc) (hm : lastMarks [op, op'] [b, c] = false := by with_unfolding_all rfl) (hK : X.K = K := by rfl) : PE X (.Compare a [op, op'] [b, c] pos) (cChain K op op' ta tb tc) := by
  subst hK; exact ce_chain hu ha hb hc hm
theorem ktchain (K : PySem.W.Frag) {op op' : CmpOp} (hu : X.A.units + 20 < cLine) (ha : PE X a ta) (hb : PE X b tb) (hc : PE X c tc) (hm : lastMarks [op, op'] [b, c] = false := by with_unfolding_all rfl) (hK : X.K = K := by rfl) : PT X (.Compare a [op, op'] [b, c] pos) (cChainT K op op' ta tb tc) := by
  subst hK; exact ct_chain hu ha hb hc hm
theorem kix (K : PySem.W.Frag) (ha : PE X a ta) (hb : PE X b tb) (hs : PlainIx b := by exact fun _ _ => rfl) (hK : X.K = K := by rfl) : PE X (.Subscript a b pos) (cIx K ta tb) := by
  subst hK; exact ce_ix ha hb hs
theorem ksl (K : PySem.W.Frag) {lo hi : Option Expr} {tl th : TO} (he : PE X e te) (hl : PO X lo tl) (hu : PO X hi th) (hK : X.K = K := by rfl) : PE X (.Subscript e (.Slice lo hi none p2) pos) (cSl K te tl th) := by
  subst hK; exact ce_sl he hl hu
theorem klen (K : PySem.W.Frag) (hK : X.K = K := by rfl) : CallR X (.builtin "len") (lenA K) := by
  subst hK; exact call_lenA
theorem kall (K : PySem.W.Frag) (hc : X.calm = true := by rfl) (hK : X.K = K := by rfl) : CallR X (.builtin "all") (allA K) := by
  subst hK; exact call_allA hc
theorem kjoin (K : PySem.W.Frag) (hK : X.K = K := by rfl) : MtR X "str.join" (joinA K) := by
  subst hK; exact mt_joinA
theorem kpl (K : PySem.W.Frag) {tg l : Expr} {tl : TE} (hl : PE X l tl) (hK : X.K = K := by rfl) : PI X tg l (iList K tl) := by
  subst hK; exact pi_list hl
theorem kgt (K : PySem.W.Frag) {n : Nat} {k : Nat} {t : TGs} (h : PGs X es t) (hc : X.calm = true := by rfl) (hn : (assignEach es X.env).length = n := by rfl) (hst : List.findIdx? (fun x => x.1) (assignEach es X.env) = none := by rfl) (hK : X.K = K := by rfl) : PG X (.Tuple es k pos) (gTup K n t) := by
  subst hK; exact pg_tup hc h hn hst
theorem kg {x : Str} {v : V} (h : ∃ u, X.mg x = some u ∧ RelV v u) (hg : Gl X x := by rfl) (hd : (x == ("__debug__" : Str)) = false := by decide) : PE X (.Name x pos) (tC v) := pe_globE hg h hd
theorem kis (T : BT) {n : Str} (hm : X.mg "isinstance" = none) (hmT : X.mg n = none) (hv : bootBuiltins n = some (.type T.s)) (ha : PE X a ta) (hg : Gl X "isinstance" := by rfl) (hgT : Gl X n := by rfl) (hn : n ≠ "__name__" := by decide) (hdb : (n == ("__debug__" : Str)) = false := by decide)
    (he : starEach [a, .Name n p2] X.env = (false, eval a X.env) :: starEach [.Name n p2] X.env := by rfl) (he2 : starEach [.Name n p2] X.env = (false, eval (.Name n p2) X.env) :: starEach [] X.env := by rfl) (hpl : (backTo pos (starEach [.Name n p2] X.env)).any (·.1) = false := by rfl) :
    PE X (.Call (.Name "isinstance" p) [a, .Name n p2] [] pos) (cIs T ta) := ce_is T ha hg hm hgT hmT hv hn hdb he he2 hpl
theorem kr1 {tg : Expr} {ta : TA} (hm : X.mg "range" = none) (ha : PA X [a] ta) (hg : Gl X "range" := by rfl) (hs : starEach [a] X.env = [(false, eval a X.env)] := by rfl) : PI X tg (.Call (.Name "range" p) [a] [] pos) (iRng1 ta) := pi_range1 hg hm ha hs
theorem cscope {N : List Str} {src : List (Option Nat)} {scope : Scope} (dsc : Scope) (XN : List Str) (h : compOk dsc XN N src scope = true := by decide +kernel) (he : X.env.scope = dsc := by rfl) (hN : X.N = XN := by rfl) : CompScope X N src scope := CompScope.of he hN h
theorem pg_name' {i : Nat} {x : Str} (N : List Str) (hN : N.Nodup := by decide +kernel) (hi : X.N[i]? = some x := by rfl) (hx : Loc X.env.scope x := by first | exact Or.inl rfl | exact Or.inr rfl) (hf : X.fn x = true ∨ X.env.scope.names.lookup x = some .local := by first | exact .inl rfl | exact .inr rfl) (hNX : X.N = N := by rfl) : PG X (.Name x pos) (gName i) :=
  pg_name (hNX ▸ hN) hi hx hf
theorem kcomp {N : List Str} {src : List (Option Nat)} {scope : Scope} {tg iter : Expr} {ifs : List Expr} {wi : TI} {g : TG} {tt : TT} (S : CompScope X N src scope) (hi : PI X tg iter wi) (hg : ∀ s H ex, PG (cxC X scope N s H ex) tg g) (ht : ∀ s H ex, PIfs (cxC X scope N s H ex) ifs tt) (he : ∀ s H ex, PE (cxC X scope N s H ex) e te)
    (hc : X.calm = true := by rfl) (hs : ∀ x, foldedSetIterable iter X.env x = pure x := by intro _; rfl) : PE X (.ListComp e [⟨tg, iter, ifs, 0⟩] scope pos) (tComp wi g tt te src) := pe_comp hc S hi hg ht he hs
end
end L2
namespace L2
open PySem PySem.Spec PyProof.Rows
theorem r_eq_int {K : PySem.W.Frag} {i j : Int} {H : Hp} {Q : VK} : (cmpA K .Eq (.int i) (.int j) H Q) = (Q (.bl (decide (i = j))) H) := rfl
theorem r_ne_int {K : PySem.W.Frag} {i j : Int} {H : Hp} {Q : VK} : (cmpA K .NotEq (.int i) (.int j) H Q) = (Q (.bl (!decide (i = j))) H) := rfl
theorem r_eq_str {K : PySem.W.Frag} {i j : Str} {H : Hp} {Q : VK} : (cmpA K .Eq (.str i) (.str j) H Q) = (Q (.bl (decide (i = j))) H) := rfl
theorem r_ne_str {K : PySem.W.Frag} {i j : Str} {H : Hp} {Q : VK} : (cmpA K .NotEq (.str i) (.str j) H Q) = (Q (.bl (!decide (i = j))) H) := rfl
theorem r_eq_bl {K : PySem.W.Frag} {i j : Bool} {H : Hp} {Q : VK} : (cmpA K .Eq (.bl i) (.bl j) H Q) = (Q (.bl (decide (i = j))) H) := rfl
theorem r_ne_bl {K : PySem.W.Frag} {i j : Bool} {H : Hp} {Q : VK} : (cmpA K .NotEq (.bl i) (.bl j) H Q) = (Q (.bl (!decide (i = j))) H) := rfl
theorem r_eq_nn {K : PySem.W.Frag}  {H : Hp} {Q : VK} : (cmpA K .Eq .non .non H Q) = (Q (.bl true) H) := rfl
theorem r_ne_nn {K : PySem.W.Frag}  {H : Hp} {Q : VK} : (cmpA K .NotEq .non .non H Q) = (Q (.bl (!true)) H) := rfl
theorem r_eq_int_str {K : PySem.W.Frag} {i : Int} {j : Str} {H : Hp} {Q : VK} : (cmpA K .Eq (.int i) (.str j) H Q) = (Q (.bl false) H) := rfl
theorem r_ne_int_str {K : PySem.W.Frag} {i : Int} {j : Str} {H : Hp} {Q : VK} : (cmpA K .NotEq (.int i) (.str j) H Q) = (Q (.bl (!false)) H) := rfl
theorem r_eq_int_non {K : PySem.W.Frag} {i : Int}  {H : Hp} {Q : VK} : (cmpA K .Eq (.int i) .non H Q) = (Q (.bl false) H) := rfl
theorem r_ne_int_non {K : PySem.W.Frag} {i : Int}  {H : Hp} {Q : VK} : (cmpA K .NotEq (.int i) .non H Q) = (Q (.bl (!false)) H) := rfl
theorem r_eq_str_int {K : PySem.W.Frag} {i : Str} {j : Int} {H : Hp} {Q : VK} : (cmpA K .Eq (.str i) (.int j) H Q) = (Q (.bl false) H) := rfl
theorem r_ne_str_int {K : PySem.W.Frag} {i : Str} {j : Int} {H : Hp} {Q : VK} : (cmpA K .NotEq (.str i) (.int j) H Q) = (Q (.bl (!false)) H) := rfl
theorem r_eq_str_bl {K : PySem.W.Frag} {i : Str} {j : Bool} {H : Hp} {Q : VK} : (cmpA K .Eq (.str i) (.bl j) H Q) = (Q (.bl false) H) := rfl
theorem r_ne_str_bl {K : PySem.W.Frag} {i : Str} {j : Bool} {H : Hp} {Q : VK} : (cmpA K .NotEq (.str i) (.bl j) H Q) = (Q (.bl (!false)) H) := rfl
theorem r_eq_str_non {K : PySem.W.Frag} {i : Str}  {H : Hp} {Q : VK} : (cmpA K .Eq (.str i) .non H Q) = (Q (.bl false) H) := rfl
theorem r_ne_str_non {K : PySem.W.Frag} {i : Str}  {H : Hp} {Q : VK} : (cmpA K .NotEq (.str i) .non H Q) = (Q (.bl (!false)) H) := rfl
theorem r_eq_bl_str {K : PySem.W.Frag} {i : Bool} {j : Str} {H : Hp} {Q : VK} : (cmpA K .Eq (.bl i) (.str j) H Q) = (Q (.bl false) H) := rfl
theorem r_ne_bl_str {K : PySem.W.Frag} {i : Bool} {j : Str} {H : Hp} {Q : VK} : (cmpA K .NotEq (.bl i) (.str j) H Q) = (Q (.bl (!false)) H) := rfl
theorem r_eq_bl_non {K : PySem.W.Frag} {i : Bool}  {H : Hp} {Q : VK} : (cmpA K .Eq (.bl i) .non H Q) = (Q (.bl false) H) := rfl
theorem r_ne_bl_non {K : PySem.W.Frag} {i : Bool}  {H : Hp} {Q : VK} : (cmpA K .NotEq (.bl i) .non H Q) = (Q (.bl (!false)) H) := rfl
theorem r_eq_non_int {K : PySem.W.Frag}  {j : Int} {H : Hp} {Q : VK} : (cmpA K .Eq .non (.int j) H Q) = (Q (.bl false) H) := rfl
theorem r_ne_non_int {K : PySem.W.Frag}  {j : Int} {H : Hp} {Q : VK} : (cmpA K .NotEq .non (.int j) H Q) = (Q (.bl (!false)) H) := rfl
theorem r_eq_non_str {K : PySem.W.Frag}  {j : Str} {H : Hp} {Q : VK} : (cmpA K .Eq .non (.str j) H Q) = (Q (.bl false) H) := rfl
theorem r_ne_non_str {K : PySem.W.Frag}  {j : Str} {H : Hp} {Q : VK} : (cmpA K .NotEq .non (.str j) H Q) = (Q (.bl (!false)) H) := rfl
theorem r_eq_non_bl {K : PySem.W.Frag}  {j : Bool} {H : Hp} {Q : VK} : (cmpA K .Eq .non (.bl j) H Q) = (Q (.bl false) H) := rfl
theorem r_ne_non_bl {K : PySem.W.Frag}  {j : Bool} {H : Hp} {Q : VK} : (cmpA K .NotEq .non (.bl j) H Q) = (Q (.bl (!false)) H) := rfl
theorem r_eq_rr {K : PySem.W.Frag} {a b : Addr} {H : Hp} {Q : VK} : (cmpA K .Eq (.ref a) (.ref b) H Q) = (∃ k, EqT K H 20 (.ref a) (.ref b) k ∧ Q (.bl k) H) := rfl
theorem r_ne_rr {K : PySem.W.Frag} {a b : Addr} {H : Hp} {Q : VK} : (cmpA K .NotEq (.ref a) (.ref b) H Q) = (∃ k, EqT K H 20 (.ref a) (.ref b) k ∧ Q (.bl (!k)) H) := rfl
theorem r_lt_int {K : PySem.W.Frag} {i j : Int} {H : Hp} {Q : VK} : (cmpA K .Lt (.int i) (.int j) H Q) = (Q (.bl (decide (i < j))) H) := rfl
theorem r_lte_int {K : PySem.W.Frag} {i j : Int} {H : Hp} {Q : VK} : (cmpA K .LtE (.int i) (.int j) H Q) = (Q (.bl (decide (i ≤ j))) H) := rfl
theorem r_gt_int {K : PySem.W.Frag} {i j : Int} {H : Hp} {Q : VK} : (cmpA K .Gt (.int i) (.int j) H Q) = (Q (.bl (decide (j < i))) H) := rfl
theorem r_gte_int {K : PySem.W.Frag} {i j : Int} {H : Hp} {Q : VK} : (cmpA K .GtE (.int i) (.int j) H Q) = (Q (.bl (decide (j ≤ i))) H) := rfl
theorem r_lt_str {K : PySem.W.Frag} {i j : Str} {H : Hp} {Q : VK} : (cmpA K .Lt (.str i) (.str j) H Q) = (Q (.bl (decide (i.cps.toList < j.cps.toList))) H) := rfl
theorem r_lte_str {K : PySem.W.Frag} {i j : Str} {H : Hp} {Q : VK} : (cmpA K .LtE (.str i) (.str j) H Q) = (Q (.bl (!decide (j.cps.toList < i.cps.toList))) H) := rfl
theorem r_in_str {K : PySem.W.Frag} {i j : Str} {H : Hp} {Q : VK} : (cmpA K .In (.str i) (.str j) H Q) = (Q (.bl (!(Builtin.Str.occurrences j i 0 j.length 1).isEmpty)) H) := rfl
theorem r_notin_str {K : PySem.W.Frag} {i j : Str} {H : Hp} {Q : VK} : (cmpA K .NotIn (.str i) (.str j) H Q) = (Q (.bl (!(!(Builtin.Str.occurrences j i 0 j.length 1).isEmpty))) H) := rfl
theorem r_in_int_ref {K : PySem.W.Frag} {i : Int} {d : Addr} {H : Hp} {Q : VK} : (cmpA K .In (.int i) (.ref d) H Q) = (rIn K false (.int i) (.ref d) H Q) := rfl
theorem r_notin_int_ref {K : PySem.W.Frag} {i : Int} {d : Addr} {H : Hp} {Q : VK} : (cmpA K .NotIn (.int i) (.ref d) H Q) = (rIn K true (.int i) (.ref d) H Q) := rfl
theorem r_is_int {K : PySem.W.Frag} {i : Int} {H : Hp} {Q : VK} : (cmpA K .Is (.int i) .non H Q) = (Q (.bl false) H) := rfl
theorem r_isnot_int {K : PySem.W.Frag} {i : Int} {H : Hp} {Q : VK} : (cmpA K .IsNot (.int i) .non H Q) = (Q (.bl true) H) := rfl
theorem r_in_str_ref {K : PySem.W.Frag} {i : Str} {d : Addr} {H : Hp} {Q : VK} : (cmpA K .In (.str i) (.ref d) H Q) = (rIn K false (.str i) (.ref d) H Q) := rfl
theorem r_notin_str_ref {K : PySem.W.Frag} {i : Str} {d : Addr} {H : Hp} {Q : VK} : (cmpA K .NotIn (.str i) (.ref d) H Q) = (rIn K true (.str i) (.ref d) H Q) := rfl
theorem r_is_str {K : PySem.W.Frag} {i : Str} {H : Hp} {Q : VK} : (cmpA K .Is (.str i) .non H Q) = (Q (.bl false) H) := rfl
theorem r_isnot_str {K : PySem.W.Frag} {i : Str} {H : Hp} {Q : VK} : (cmpA K .IsNot (.str i) .non H Q) = (Q (.bl true) H) := rfl
theorem r_in_bl_ref {K : PySem.W.Frag} {i : Bool} {d : Addr} {H : Hp} {Q : VK} : (cmpA K .In (.bl i) (.ref d) H Q) = (rIn K false (.bl i) (.ref d) H Q) := rfl
theorem r_notin_bl_ref {K : PySem.W.Frag} {i : Bool} {d : Addr} {H : Hp} {Q : VK} : (cmpA K .NotIn (.bl i) (.ref d) H Q) = (rIn K true (.bl i) (.ref d) H Q) := rfl
theorem r_is_bl {K : PySem.W.Frag} {i : Bool} {H : Hp} {Q : VK} : (cmpA K .Is (.bl i) .non H Q) = (Q (.bl false) H) := rfl
theorem r_isnot_bl {K : PySem.W.Frag} {i : Bool} {H : Hp} {Q : VK} : (cmpA K .IsNot (.bl i) .non H Q) = (Q (.bl true) H) := rfl
theorem r_in_non_ref {K : PySem.W.Frag}  {d : Addr} {H : Hp} {Q : VK} : (cmpA K .In .non (.ref d) H Q) = (rIn K false .non (.ref d) H Q) := rfl
theorem r_notin_non_ref {K : PySem.W.Frag}  {d : Addr} {H : Hp} {Q : VK} : (cmpA K .NotIn .non (.ref d) H Q) = (rIn K true .non (.ref d) H Q) := rfl
theorem r_is_non {K : PySem.W.Frag}  {H : Hp} {Q : VK} : (cmpA K .Is .non .non H Q) = (Q (.bl true) H) := rfl
theorem r_isnot_non {K : PySem.W.Frag}  {H : Hp} {Q : VK} : (cmpA K .IsNot .non .non H Q) = (Q (.bl false) H) := rfl
theorem r_in_ref_ref {K : PySem.W.Frag} {i : Addr} {d : Addr} {H : Hp} {Q : VK} : (cmpA K .In (.ref i) (.ref d) H Q) = (rIn K false (.ref i) (.ref d) H Q) := rfl
theorem r_notin_ref_ref {K : PySem.W.Frag} {i : Addr} {d : Addr} {H : Hp} {Q : VK} : (cmpA K .NotIn (.ref i) (.ref d) H Q) = (rIn K true (.ref i) (.ref d) H Q) := rfl
theorem r_is_ref {K : PySem.W.Frag} {i : Addr} {H : Hp} {Q : VK} : (cmpA K .Is (.ref i) .non H Q) = (Q (.bl false) H) := rfl
theorem r_isnot_ref {K : PySem.W.Frag} {i : Addr} {H : Hp} {Q : VK} : (cmpA K .IsNot (.ref i) .non H Q) = (Q (.bl true) H) := rfl
theorem r_add {i j : Int} {H : Hp} {Q : VK} : (binA .Add (.int i) (.int j) H Q) = (Q (.int (i + j)) H) := rfl
theorem r_adds {i j : Str} {H : Hp} {Q : VK} : (binA .Add (.str i) (.str j) H Q) = (i.length + j.length ≤ sizeLine ∧ Q (.str (i ++ j)) H) := rfl
theorem r_addr {a b : Addr} {H : Hp} {Q : VK} : (binA .Add (.ref a) (.ref b) H Q) = (rCat (.ref a) (.ref b) H Q) := rfl
theorem r_sub {i j : Int} {H : Hp} {Q : VK} : (binA .Sub (.int i) (.int j) H Q) = (Q (.int (i - j)) H) := rfl
theorem r_mul {i j : Int} {H : Hp} {Q : VK} : (binA .Mult (.int i) (.int j) H Q) = (CMul i j ∧ Q (.int (i * j)) H) := rfl
theorem r_fdiv {i j : Int} {H : Hp} {Q : VK} : (binA .FloorDiv (.int i) (.int j) H Q) = (CDiv i j ∧ Q (.int (i / j)) H) := rfl
theorem r_mod {i j : Int} {H : Hp} {Q : VK} : (binA .Mod (.int i) (.int j) H Q) = (0 < j ∧ Q (.int (i % j)) H) := rfl
theorem r_pow {i j : Int} {H : Hp} {Q : VK} : (binA .Pow (.int i) (.int j) H Q) = (CPow i j ∧ Q (.int (i ^ j.toNat)) H) := rfl
theorem r_ixs {K : PySem.W.Frag} {z : Str} {i : Int} {H : Hp} {Q : VK} : (ixA K (.str z) (.int i) H Q) = (z.length ≤ sizeLine ∧ ∃ c, atI z.cps.toList i = some c ∧ Q (.str ⟨#[c]⟩) H) := rfl
theorem r_ixr {K : PySem.W.Frag} {d : Addr} {i : Int} {H : Hp} {Q : VK} : (ixA K (.ref d) (.int i) H Q) = (∃ xs v, (SqL K H d xs ∨ SqT K H d xs) ∧ atI xs i = some v ∧ Q v H) := rfl
theorem r_sls {K : PySem.W.Frag} {z : Str} {lo hi : Option Int} {H : Hp} {Q : VK} : (slA K (.str z) lo hi H Q) = (z.length ≤ sizeLine ∧ Q (.str (cutS z lo hi)) H) := rfl
theorem r_slr {K : PySem.W.Frag} {d : Addr} {lo hi : Option Int} {H : Hp} {Q : VK} : (slA K (.ref d) lo hi H Q) = (∃ xs, SqL K H d xs ∧ ∀ q, H q = none → Q (.ref q) (upd H q (.lst (cutV xs lo hi)))) := rfl
theorem r_lens {K : PySem.W.Frag} {z : Str} {H : Hp} {Q : VK} : (lenA K [.str z] H Q) = (z.length ≤ sizeLine ∧ Q (.int z.length) H) := rfl
theorem r_lenr {K : PySem.W.Frag} {d : Addr} {H : Hp} {Q : VK} : (lenA K [.ref d] H Q) = (∃ ys, (SqL K H d ys ∨ SqT K H d ys) ∧ Q (.int ys.length) H) := rfl
theorem r_min {i j : Int} {H : Hp} {Q : VK} : (minA [.int i, .int j] H Q) = (Q (.int (if j < i then j else i)) H) := rfl
theorem r_str {i : Int} {H : Hp} {Q : VK} : (strA [.int i] H Q) = (i.natAbs.log2 < 1920 ∧ Q (.str (toString i)) H) := rfl
theorem r_ints {z : Str} {H : Hp} {Q : VK} : (intA [.str z] H Q) = (∃ n, PySem.intText? z = some n ∧ z.length ≤ 640 ∧ Q (.int n) H) := rfl
theorem r_intb {k : Bool} {H : Hp} {Q : VK} : (intA [.bl k] H Q) = (Q (.int (if k then 1 else 0)) H) := rfl
theorem r_all {K : PySem.W.Frag} {d : Addr} {H : Hp} {Q : VK} : (allA K [.ref d] H Q) = (∃ ks : List Bool, SqL K H d (ks.map V.bl) ∧ Q (.bl (ks.all id)) H) := rfl
theorem r_sw {a b : Str} {H : Hp} {Q : VK} : (swA (.str a) [.str b] H Q) = (Q (.bl (b.cps.toList.isPrefixOf a.cps.toList)) H) := rfl
theorem r_join {K : PySem.W.Frag} {a : Str} {d : Addr} {H : Hp} {Q : VK} : (joinA K (.str a) [.ref d] H Q) = (∃ ys : List Str, SqL K H d (ys.map V.str) ∧ (ys.map (·.length)).sum + ys.length * a.length ≤ 16777216 ∧ Q (.str (Txt.join a ys)) H) := rfl
theorem r_up {a : Str} {H : Hp} {Q : VK} : (upA (.str a) [] H Q) = (a.length ≤ sizeLine ∧ (∀ c ∈ a.cps.toList, c < 128) ∧ Q (.str ⟨a.cps.map up1⟩) H) := rfl
theorem r_isa_non {T : BT} {H : Hp} {Q : VK} : (isA T .non H Q) = (Q (.bl false) H) := rfl
theorem r_isa_bl {T : BT} {b : Bool} {H : Hp} {Q : VK} : (isA T (.bl b) H Q) = (Q (.bl (isSub .bool T)) H) := rfl
theorem r_isa_int {T : BT} {b : Int} {H : Hp} {Q : VK} : (isA T (.int b) H Q) = (Q (.bl (isSub .int T)) H) := rfl
theorem r_isa_str {T : BT} {b : Str} {H : Hp} {Q : VK} : (isA T (.str b) H Q) = (Q (.bl (isSub .str T)) H) := rfl
theorem r_b {k : Bool} {Q : Bool → Hp → Prop} {H : Hp} : bOnly Q (.bl k) H = Q k H := rfl
end L2
namespace L2
open PySem PySem.Spec PyProof.Rows
def plainE : Expr → Bool
  | .Starred _ _ => false
  | _ => true
theorem star_of {e : Expr} {es : List Expr} {env : Env} (h : plainE e = true) : starEach (e :: es) env = (false, eval e env) :: starEach es env := by
  cases e <;> first | rfl | cases h
theorem back_of {pos : Pos} {env : Env} : ∀ {es : List Expr}, es.all plainE = true → (backTo pos (starEach es env)).any (·.1) = false
  | [], _ => rfl
  | e :: es, h => by
    rw [List.all_cons, Bool.and_eq_true] at h
    rw [star_of h.1]
    show (false || (backTo pos (starEach es env)).any (·.1)) = false
    rw [back_of h.2]
    rfl
theorem all_of {pos : Pos} {env : Env} : ∀ {es : List Expr}, es.all plainE = true → (backTo pos (starEach es env)).all (fun x => !x.1) = true
  | [], _ => rfl
  | e :: es, h => by
    rw [List.all_cons, Bool.and_eq_true] at h
    rw [star_of h.1]
    show (!false && (backTo pos (starEach es env)).all (fun x => !x.1)) = true
    rw [all_of h.2]
    rfl
section
variable {X : Cx} {a b c e o : Expr} {ta tb tc te to : TE} {p p2 pos : Pos} {es : List Expr} {t : TA}
theorem pac (ha : PE X e te) (hr : PA X es t) (h : plainE e = true := by rfl) : PA X (e :: es) (tCons te t) := pa_cons ha hr (star_of h)
theorem kcall {name : Str} {ps : List Str} {k j : Nat} {sp : Sp} (C : Cal X.prog X.w X.K X.mg X.base name ps k sp) (hr : Room j X.A) (ha : PA X (e :: es) t) (hkj : k ≤ j := by decide) (hp : (e :: es).all plainE = true := by rfl) (hg : Gl X name := by rfl) (hdb : (name == ("__debug__" : Str)) = false := by decide) : PE X (.Call (.Name name p) (e :: es) [] pos) (cCall sp t) := by
  have hp' := hp
  rw [List.all_cons, Bool.and_eq_true] at hp'
  exact ce_call C hr hkj ha hg hdb (star_of hp'.1) (back_of hp'.2)
theorem kB {id : String} {x : Str} {r : List V → Hp → VK → Prop} (hc : CallR X (.builtin id) r) (hv : bootBuiltins x = some (.builtin id)) (hm : X.mg x = none) (ha : PA X (e :: es) t) (hp : (e :: es).all plainE = true := by rfl) (hg : Gl X x := by rfl) (hn : x ≠ "__name__" := by decide) (hdb : (x == ("__debug__" : Str)) = false := by decide) : PE X (.Call (.Name x p) (e :: es) [] pos) (cB r t) := by
  have hp' := hp
  rw [List.all_cons, Bool.and_eq_true] at hp'
  exact ce_B hc hv hm ha hg hn hdb (star_of hp'.1) (back_of hp'.2)
theorem kTy {T : String} {x : Str} {r : List V → Hp → VK → Prop} (hc : CallR X (.type T) r) (hv : bootBuiltins x = some (.type T)) (hm : X.mg x = none) (ha : PA X (e :: es) t) (hp : (e :: es).all plainE = true := by rfl) (hg : Gl X x := by rfl) (hn : x ≠ "__name__" := by decide) (hdb : (x == ("__debug__" : Str)) = false := by decide) : PE X (.Call (.Name x p) (e :: es) [] pos) (cB r t) := by
  have hp' := hp
  rw [List.all_cons, Bool.and_eq_true] at hp'
  exact ce_Ty hc hv hm ha hg hn hdb (star_of hp'.1) (back_of hp'.2)
theorem ksm {name : Str} {apos cpos : Pos} {id : String} {r : V → List V → Hp → VK → Prop} (slot : Slot "str" name id) (hty : typeOf (.builtin id) = pure (.type "method_descriptor")) (hm : MtR X id r) (ho : PE X o to) (ha : PA X (e :: es) t) (hp : (e :: es).all plainE = true := by rfl) (hl : (e :: es).length < 20 := by decide)
    (hbase : attributeBase o name X.env (eval o X.env) = eval o X.env := by rfl) (hline : (apos.endLine == cpos.line) = true := by rfl) : PE X (.Call (.Attribute o name apos) (e :: es) [] cpos) (cSM r to t) := by
  have hp' := hp
  rw [List.all_cons, Bool.and_eq_true] at hp'
  refine ce_sm slot hty hm ho ha hbase ?_ hline (star_of hp'.1) (back_of hp'.2)
  rw [all_of hp]
  show (true && true && decide ((e :: es).length + 0 + 0 < 30)) = true
  rw [decide_eq_true (by omega)]
  rfl
end
end L2
namespace L2
open PySem
theorem tSeq_of {t u : TS} {D : Ends} {σ : St} {H : Hp} (P : St → Hp → Prop) (h : ∀ K : St → Hp → Prop, (∀ σ' H', P σ' H' → K σ' H') → t { D with nx := K } σ H) (h2 : ∀ σ' H', P σ' H' → u D σ' H') : tSeq t u D σ H := h (u D) h2
theorem st_asg {te : TE} {i : Nat} {u : TS} {D : Ends} {σ : St} {H : Hp} (P : V → Hp → Prop) (h : ∀ Q : VK, (∀ v H', P v H' → Q v H') → te σ H Q) (h2 : ∀ v H', P v H' → u D (σ.set i (some v)) H') : tSeq (tAsg te (gName i)) u D σ H := h _ h2
theorem st_ifH {c : TT} {t u : TS} {D : Ends} {σ : St} {H : Hp} (P : Bool → Hp → Prop) (hc : ∀ Q : Bool → Hp → Prop, (∀ b H', P b H' → Q b H') → c σ H Q) (h1 : ∀ H', P true H' → t { D with nx := u D } σ H') (h2 : ∀ H', P false H' → u D σ H') : tSeq (tIfS c t tNext) u D σ H := by
  refine hc _ fun b H' p => ?_
  cases b with
  | true => exact iteT (h1 H' p)
  | false => exact iteF (h2 H' p)
end L2
namespace L2
open PySem
def constVs : List Expr → Option (List V)
  | [] => some []
  | .Constant (.int i) _ _ :: r => (constVs r).map (V.int i :: ·)
  | .Constant (.str x) _ _ :: r => (constVs r).map (V.str x :: ·)
  | .Constant (.bool b) _ _ :: r => (constVs r).map (V.bl b :: ·)
  | .Constant .none _ _ :: r => (constVs r).map (V.non :: ·)
  | _ => none
def cCs (vs : List V) : TA := fun _ H Q => Q vs H
theorem pa_consts {X : Cx} : ∀ {es : List Expr} {vs : List V}, constVs es = some vs → PA X es (cCs vs) := by
  intro es
  induction es with
  | nil => intro vs h; cases h; exact pa_nil
  | cons e r ih =>
    intro vs h
    unfold constVs at h
    split at h
    · rename_i e1; cases e1
    · rename_i e1
      cases e1
      obtain ⟨ws, h1, h2⟩ := Option.map_eq_some_iff.mp h
      subst h2
      exact pac pe_int (ih h1)
    · rename_i e1
      cases e1
      obtain ⟨ws, h1, h2⟩ := Option.map_eq_some_iff.mp h
      subst h2
      exact pac pe_str (ih h1)
    · rename_i e1
      cases e1
      obtain ⟨ws, h1, h2⟩ := Option.map_eq_some_iff.mp h
      subst h2
      exact pac pe_bl (ih h1)
    · rename_i e1
      cases e1
      obtain ⟨ws, h1, h2⟩ := Option.map_eq_some_iff.mp h
      subst h2
      exact pac pe_non (ih h1)
    · cases h
end L2
namespace L2
open PySem
theorem comp_inv {g : TG} {tt : TT} {te : TE} {src : List (Option Nat)} {σ : St} {Q : VK} {J : It} {H1 : Hp} (n : Nat) (N : Nat → List V → St → Hp → Prop) (hn : n ≤ sizeLine) (hlen : ∀ i ys σ H, N i ys σ H → ys.length ≤ i)
    (hgo : ∀ i ys σ H, N i ys σ H → i < n → J.go i H) (hstop : ∀ ys σ H, N n ys σ H → J.stop n H) (h0 : N 0 [] (subSt src σ) H1)
    (hturn : ∀ i ys σ' H' x H2, i < n → N i ys σ' H' → J.yld i H' x H2 → ∀ (Kt : V → St → Hp → Prop) (Kf : St → Hp → Prop), (∀ v σ3 H5, N (i + 1) (ys ++ [v]) σ3 H5 → Kt v σ3 H5) → (∀ σ3 H4, N (i + 1) ys σ3 H4 → Kf σ3 H4) →
      g x σ' H2 fun σ3 H3 => tt σ3 H3 fun b H4 => if b = true then te σ3 H4 fun v H5 => Kt v σ3 H5 else Kf σ3 H4)
    (hQ : ∀ ys σ' H' d, N n ys σ' H' → H' d = none → Q (.ref d) (upd H' d (.lst ys))) : compWant g tt te src σ Q J H1 := by
  refine ⟨fun i m ys σ' H' => m = n - i ∧ i ≤ n ∧ N i ys σ' H', ⟨n, by simp, Nat.zero_le _, h0⟩, ?_⟩
  rintro i m ys σ' H' ⟨rfl, hi, hN⟩
  by_cases hlt : i < n
  · refine .inr ⟨hgo i ys σ' H' hN hlt, ?_, fun x H2 y => ?_⟩
    · have := hlen i ys σ' H' hN
      omega
    · exact hturn i ys σ' H' x H2 hlt hN y _ _ (fun v σ3 H5 h => ⟨n - (i + 1), by omega, rfl, hlt, h⟩) (fun σ3 H4 h => ⟨n - (i + 1), by omega, rfl, hlt, h⟩)
  · have e : i = n := by omega
    subst e
    exact .inl ⟨hstop ys σ' H' hN, fun d hd => hQ ys σ' H' d hN hd⟩
end L2
namespace L2
open PySem
theorem for_rng1 {ta : TA} {g : TG} {tb : TS} {D : Ends} {σ : St} {H : Hp} (n : Int) (hta : ∀ Q : List V → Hp → Prop, Q [.int n] H → ta σ H Q) (h0 : -(2 ^ 62) ≤ n) (h1 : n < 2 ^ 62) (Pv : Nat → St → Hp → Prop) (hp0 : Pv 0 σ H)
    (hs : ∀ i σ H, i < n.toNat → Pv i σ H → g (.int (0 + i)) σ H fun σ2 H2 => tb { D with nx := Pv (i + 1), ct := Pv (i + 1), bk := D.nx } σ2 H2) (hd : ∀ σ H, Pv n.toNat σ H → D.nx σ H) : tFor (iRng1 ta) g tb D σ H :=
  hta _ ⟨n, rfl, h0, h1, for_range Pv hp0 hs hd⟩
theorem for_lstP {K : PySem.W.Frag} {tl : TE} {g : TG} {tb : TS} {D : Ends} {σ : St} {H : Hp} (P : V → Hp → Prop) (htl : ∀ Q : VK, (∀ v H', P v H' → Q v H') → tl σ H Q)
    (h : ∀ v H', P v H' → ∃ d xs, v = .ref d ∧ SqL K H' d xs ∧ ∃ Pv : Nat → St → Hp → Prop, Pv 0 σ H' ∧ (∀ i σ H, i ≤ xs.length → Pv i σ H → SqL K H d xs) ∧
      (∀ (i : Nat) x σ H, xs[i]? = some x → Pv i σ H → g x σ H fun σ2 H2 => tb { D with nx := Pv (i + 1), ct := Pv (i + 1), bk := D.nx } σ2 H2) ∧ (∀ σ H, Pv xs.length σ H → D.nx σ H)) : tFor (iList K tl) g tb D σ H :=
  htl _ fun v H' p => by
    obtain ⟨d, xs, rfl, hq, Pv, a, b, c, e⟩ := h v H' p
    exact ⟨d, rfl, ⟨xs, hq⟩, for_list Pv a b c e⟩
theorem st_if1 {c : TT} {t : TS} {D : Ends} {σ : St} {H : Hp} (P : Bool → Hp → Prop) (hc : ∀ Q : Bool → Hp → Prop, (∀ b H', P b H' → Q b H') → c σ H Q) (h1 : ∀ H', P true H' → t D σ H') (h2 : ∀ H', P false H' → D.nx σ H') : tIfS c t tNext D σ H := by
  refine hc _ fun b H' p => ?_
  cases b with
  | true => exact iteT (h1 H' p)
  | false => exact iteF (h2 H' p)
end L2
namespace L2
open PySem PySem.Spec PyProof.Rows
def uniq (ns : List Int) : List Int := firstMet (fun i => ns.getD i 0) ns.length
theorem range_getD (ns : List Int) : (List.range ns.length).map (fun i => ns.getD i 0) = ns := by
  apply List.ext_getElem?
  intro i
  rw [List.getElem?_map]
  by_cases h : i < ns.length
  · rw [List.getElem?_range h, List.getElem?_eq_getElem h]
    show some (ns.getD i 0) = _
    rw [List.getD_eq_getElem?_getD, List.getElem?_eq_getElem h]
    rfl
  · rw [List.getElem?_eq_none (by rw [List.length_range]; omega), List.getElem?_eq_none (by omega)]
    rfl
theorem firstMet_nodup (val : Nat → Int) : ∀ i, (firstMet val i).length = i ↔ ((List.range i).map val).Nodup
  | 0 => by simp [firstMet_zero]
  | i + 1 => by
    have ih := firstMet_nodup val i
    have hle := firstMet_length_le val i
    have ha := firstMet_any val i (val i)
    rw [firstMet_succ, List.range_succ, List.map_append, List.nodup_append]
    unfold step_dedup
    by_cases h : (firstMet val i).any (· == val i) = true
    · rw [if_pos h]
      constructor
      · intro e; omega
      · intro e
        rw [ha, List.any_eq_true] at h
        obtain ⟨x, hx, e2⟩ := h
        have : x = val i := beq_iff_eq.mp e2
        exact absurd this (e.2.2 x hx (val i) (by simp))
    · rw [if_neg h, List.length_append, List.length_singleton]
      constructor
      · intro e
        refine ⟨ih.mp (by omega), by simp, fun x hx y hy => ?_⟩
        have hy' : y = val i := by simpa using hy
        subst hy'
        intro e3
        apply h
        rw [ha, List.any_eq_true]
        exact ⟨x, hx, beq_iff_eq.mpr e3⟩
      · intro e
        rw [ih.mpr e.1]
theorem uniq_iff (ns : List Int) : (uniq ns).length = ns.length ↔ ns.Nodup := by
  unfold uniq
  rw [firstMet_nodup, range_getD]
section
variable {X : Cx}
def setA (K : PySem.W.Frag) (xs : List V) (H : Hp) (Q : VK) : Prop := match xs with
  | [.ref d] => ∃ ns : List Int, SqL K H d (ns.map V.int) ∧ ns.length + 1 < scanBound ∧ ∀ q, H q = none → Q (.ref q) (upd H q (.set (fun k => (uniq ns).any (· == k)) (uniq ns).length))
  | _ => False
theorem call_setA (hh : X.A.handled = none) : CallR X (.type "set") (setA X.K) := by
  intro pins s σ H xs us Q I r h
  unfold setA at h
  split at h
  · rename_i d
    obtain ⟨ns, hq, hb, q⟩ := h
    obtain ⟨u, rfl, rx⟩ := vals1 r
    cases rx
    obtain ⟨its, r', pl, hz⟩ := I.list hq
    have hlen := r'.length
    rw [List.length_map] at hlen
    have hi : IntsAre its.toArray.toList ns := intsAre_of r'
    have hs : its.toArray.size = ns.length := by rw [List.size_toArray, ← hlen]
    refine call_set_list hh pl.isList hi (by rw [hs]; exact hb) fun h' tk hS kp => ?_
    rw [hs] at hS
    have k2 : ∀ b u, s.heap.get? b = some u → h'.get? b = some u := fun b u e => kp b u (Heap.lt_size e) e
    exact ⟨.ref s.heap.objs.size, _, I.laid (t' := tk) k2 (Nat.le_refl _) (show ObjOk X.prog X.w _ h' _ (.set _ _) from hS), rfl, q _ (I.hok.fresh (Nat.le_refl _))⟩
  · exact h.elim
def lenSA (xs : List V) (H : Hp) (Q : VK) : Prop := match xs with
  | [.ref d] => ∃ S n, H d = some (.set S n) ∧ Q (.int n) H
  | _ => False
theorem call_lenSA : CallR X (.builtin "len") lenSA := by
  intro pins s σ H xs us Q I r h
  unfold lenSA at h
  split at h
  · rename_i d
    obtain ⟨S, n, hd, q⟩ := h
    obtain ⟨u, rfl, rx⟩ := vals1 r
    cases rx
    obtain ⟨o, es, ep, t, h1, h2, h3, _, _, h6, h7, h8⟩ := (show ObjOk X.prog X.w H s.heap d (.set S n) from I.hok d _ hd)
    subst h8
    have hb : es.size < 4096 := h6
    exact PySem.call_len_set h1 h2 h3 h7 (by omega) ⟨.int es.size, H, I.tok _, ⟨_, rfl⟩, q⟩
  · exact h.elim
def sortA (K : PySem.W.Frag) (xs : List V) (H : Hp) (Q : VK) : Prop := match xs with
  | [.ref d] => ∃ ns : List Int, SqL K H d (ns.map V.int) ∧ ns.length < 64 ∧ ∀ (ns' : List Int) q, ns'.Perm ns → ns'.Pairwise (· ≤ ·) → H q = none → Q (.ref q) (upd H q (.lst (ns'.map V.int)))
  | _ => False
theorem call_sortA : CallR X (.builtin "sorted") (sortA X.K) := by
  intro pins s σ H xs us Q I r h
  unfold sortA at h
  split at h
  · rename_i d
    obtain ⟨ns, hq, hb, q⟩ := h
    obtain ⟨u, rfl, rx⟩ := vals1 r
    cases rx
    obtain ⟨its, r', pl, hz⟩ := I.list hq
    have hlen := r'.length
    rw [List.length_map] at hlen
    refine sorted_ints pl.isList (intsAre_of r') (by omega) fun out ns' a1 a2 a3 => ?_
    obtain ⟨e, he⟩ := sortedAll_at s.heap its out
    have hl := a2.length_eq
    have hz' : (ns'.map V.int).length ≤ sizeLine := by rw [List.length_map, hl, sizeLine_eq]; omega
    exact ⟨.ref (s.heap.objs.size + 1), _, I.laid (t' := s.toks) (fun _ _ => sortedAll_old) (Nat.le_succ _) (show ObjOk X.prog X.w _ _ _ (.lst (ns'.map V.int)) from ⟨hz', out.toList, e, vals_ints a1, by simpa [seqObj] using he⟩), rfl, q ns' _ a2 a3 (I.hok.fresh (Nat.le_succ _))⟩
  · exact h.elim
def listA (K : PySem.W.Frag) (xs : List V) (H : Hp) (Q : VK) : Prop := match xs with
  | [.ref d] => ∃ ys, (SqL K H d ys ∨ SqT K H d ys) ∧ ∀ l, H l = none → Q (.ref l) (upd H l (.lst ys))
  | _ => False
theorem call_listA : CallR X (.type "list") (listA X.K) := (call_list_of (X := X)).imp fun xs H Q h => by
  unfold listA at h
  split at h
  · obtain ⟨ys, h1, q⟩ := h
    exact ⟨_, ys, rfl, h1, q⟩
  · exact h.elim
def tupleA (K : PySem.W.Frag) (xs : List V) (H : Hp) (Q : VK) : Prop := match xs with
  | [.ref d] => ∃ ys, (SqL K H d ys ∧ ∀ l, H l = none → Q (.ref l) (upd H l (.tup ys))) ∨ (SqT K H d ys ∧ Q (.ref d) H)
  | _ => False
theorem kset (K : PySem.W.Frag) {j : Nat} (hr : Room j X.A) (hK : X.K = K := by rfl) : CallR X (.type "set") (setA K) := by
  subst hK; exact call_setA hr.hd
theorem ksort (K : PySem.W.Frag) (hK : X.K = K := by rfl) : CallR X (.builtin "sorted") (sortA K) := by
  subst hK; exact call_sortA
theorem klist (K : PySem.W.Frag) (hK : X.K = K := by rfl) : CallR X (.type "list") (listA K) := by
  subst hK; exact call_listA
theorem isA_lst {T : BT} {a : Addr} {xs : List V} {H : Hp} {Q : VK} (h : H a = some (.lst xs)) (q : Q (.bl (isSub .list T)) H) : isA T (.ref a) H Q := by
  simp only [isA, h]; exact q
end
theorem eqV_refl {x : V} (h : flatV x = true) : eqV x x = true := by
  cases x <;> simp_all [flatV, eqV]
theorem flat_ints (zs : List Int) : (zs.map V.int).all flatV = true := List.all_eq_true.mpr fun x hx => by
  obtain ⟨z, _, rfl⟩ := List.mem_map.mp hx
  rfl
def Fl (K : PySem.W.Frag) (H : Hp) (p : Addr) (f : Str) (v : V) : Prop := ∃ C dx fs, H p = some (.ins C dx fs) ∧ Cls K C ∧ NoAttr K C f ∧ fs.lookup f = some v
def fldA (K : PySem.W.Frag) (x : V) (f : Str) (H : Hp) (Q : VK) : Prop := match x with
  | .ref a => ∃ v, Fl K H a f v ∧ Q v H
  | _ => False
def cFld (K : PySem.W.Frag) (to : TE) (f : Str) : TE := fun σ H Q => to σ H fun x H1 => fldA K x f H1 Q
def InsNo (C : Addr) (m : Str) (H : Hp) (a : Addr) : Prop := ∃ dx fs, H a = some (.ins C dx fs) ∧ fs.lookup m = none
structure MCal (P : Program) (w : World) (K : PySem.W.Frag) (mg : Str → Option Value) (base : Heap) (C : Addr) (m : Str) (ps : List Str) (k : Nat) (sp : Sp) : Prop where
  ex : ∃ f fd, FnOk P w K mg base CX0 k f fd ps sp ∧ Meth K C m f ∧ Binds K fd ps []
  cl : Cls K C
structure MkCal (P : Program) (w : World) (K : PySem.W.Frag) (mg : Str → Option Value) (base : Heap) (name : Str) (C : Addr) (ps : List Str) (k : Nat) (sp : Sp) : Prop where
  ex : ∃ f fd, Mk K C f ∧ FnOk P w K mg base CX0 k f fd ps sp ∧ mg name = some (.ref C) ∧ Binds K fd ps []
def methA (C : Addr) (m : Str) (x : V) (H : Hp) (R : Addr → Prop) : Prop := match x with
  | .ref a => InsNo C m H a ∧ R a
  | _ => False
def cMeth (C : Addr) (m : Str) (sp : Sp) (to : TE) (t : TA) : TE := fun σ H Q => to σ H fun x H1 => methA C m x H1 fun a => t σ H1 fun vs H2 => sp (.ref a :: vs) H2 Q E0
def cMake (C : Addr) (sp : Sp) (t : TA) : TE := fun σ H Q => t σ H fun vs H1 => ∀ x dx, H1 x = none → H1 dx = none → dx ≠ x → sp (.ref x :: vs) (upd (upd H1 dx (.own x)) x (.ins C dx [])) (fun v H2 => v = .non ∧ Q (.ref x) H2) E0
section
variable {X : Cx} {e o value : Expr} {te to tv : TE} {p pos pos' apos : Pos} {es : List Expr} {t : TA} {f m : Str}
theorem kfld (K : PySem.W.Frag) (ho : PE X o to) (hb : attributeBase o f X.env (eval o X.env) = eval o X.env := by rfl) (hK : X.K = K := by rfl) : PE X (.Attribute o f pos) (cFld K to f) := by
  subst hK
  intro pins s σ H Q I h
  refine attr_of hb (thn (ho pins s σ H _ I h) fun u s1 ⟨x, H1, I1, rx, q1⟩ => ?_)
  cases x with
  | ref a =>
    obtain ⟨v, ⟨C, dx, fs, ea, c, n, l⟩, q⟩ := q1
    obtain rfl : u = Value.ref a := rx
    exact getattr_ok I1 ea c n l fun u' s2 I2 ru => ⟨v, H1, I2, ru, q⟩
  | _ => exact q1.elim
theorem ksfld (K : PySem.W.Frag) (ho : PE X o to) (hv : PE X value tv) (hs : swapsWith value (some (.Attribute o f pos')) pos.line X.env = pure false := by rfl) (hK : X.K = K := by rfl) : PS X (.Assign [.Attribute o f pos'] value pos) (sFld K to tv f) := by
  subst hK; exact ps_fld ho hv hs
theorem kmeth {C : Addr} {ps : List Str} {k j : Nat} {sp : Sp} {pl : Sem Bool} (M : MCal X.prog X.w X.K X.mg X.base C m ps k sp) (hr : Room j X.A) (ho : PE X o to) (ha : PA X (e :: es) t) (hkj : k ≤ j := by decide) (hp : (e :: es).all plainE = true := by rfl)
    (ht : eval (.Call (.Attribute o m apos) (e :: es) [] pos) X.env = (do
      let ov ← eval o X.env
      standAt apos.atName
      let (f, first) ← holding [ov] (getMethod ov m pl)
      callWith pos f first (backTo pos (starEach (e :: es) X.env)) (backToKw pos (keywordEach [] X.env))) := by rfl) : PE X (.Call (.Attribute o m apos) (e :: es) [] pos) (cMeth C m sp to t) := by
  obtain ⟨f, fd, F, hm, hb⟩ := M.ex
  have hp' := hp
  rw [List.all_cons, Bool.and_eq_true] at hp'
  intro pins s σ H Q I h
  refine PySem.W.methodCall_KW (pl := pl) (thn (ho pins s σ H _ I h) fun u s1 ⟨x, H1, I1, rx, q⟩ => ?_) ht
  cases x with
  | ref a =>
    obtain ⟨⟨dx, fs, ea, l⟩, q⟩ := q
    obtain rfl : u = Value.ref a := rx
    refine getmeth_ok I1 ea M.cl hm l ?_
    refine PySem.W.callWith_K (first := [.ref a]) (h₀ := X.base) I.ok.mod.kin hm.kp (thn (ha pos pins s1 σ H1 _ I1 q) fun us s2 ⟨vs, H2, I2, r, q2⟩ => ⟨I2.kIn, ?_⟩) (star_of hp'.1) (back_of hp'.2)
    refine run_fn (us := .ref a :: us) (vs := .ref a :: vs) (dvs := []) (ds := []) F (hr.mono hkj) hb .nil pass0 I2 (.cons rfl r) ?_
    rw [List.append_nil]
    exact q2
  | _ => exact q.elim
theorem kmake {name : Str} {C : Addr} {ps : List Str} {k j : Nat} {sp : Sp} (M : MkCal X.prog X.w X.K X.mg X.base name C ps k sp) (hr : Room j X.A) (ha : PA X (e :: es) t) (hkj : k + 1 ≤ j := by decide) (hp : (e :: es).all plainE = true := by rfl) (hg : Gl X name := by rfl) (hdb : (name == ("__debug__" : Str)) = false := by decide) :
    PE X (.Call (.Name name p) (e :: es) [] pos) (cMake C sp t) := by
  obtain ⟨f, fd, MK, F, hm, hb⟩ := M.ex
  have hp' := hp
  rw [List.all_cons, Bool.and_eq_true] at hp'
  refine (pe_make MK F (hr.mono hkj) hg hm hb .nil pass0 ha hdb (star_of hp'.1) (back_of hp'.2) : PE X _ (tMake C sp [] E0 t)).imp fun σ H Q h => ?_
  unfold tMake
  simp only [List.append_nil]
  exact h
def constWs : List Expr → Option (List V)
  | [] => some []
  | .Constant (.int i) _ _ :: r => (constWs r).map (V.int i :: ·)
  | .Constant (.str x) _ _ :: r => (constWs r).map (V.str x :: ·)
  | .UnaryOp .USub (.Constant (.int i) _ _) _ :: r => (constWs r).map (V.int (-i) :: ·)
  | _ => none
def constTs : List Expr → Option (List (List V))
  | [] => some []
  | .Tuple es _ _ :: r => match constWs es, constTs r with
    | some v, some vs => some (v :: vs)
    | _, _ => none
  | _ => none
def cTs (vss : List (List V)) : TA := fun _ H Q => ∀ (qs : List Addr) (H' : Hp), qs.length = vss.length → (∀ (i : Nat) (q : Addr), qs[i]? = some q → ∃ v, vss[i]? = some v ∧ H' q = some (.tup v)) → Same H H' → Q (qs.map V.ref) H'
end
def SameBut (k : Addr) (H H' : Hp) : Prop := ∀ b o, H b = some o → b ≠ k → H' b = some o
theorem SameBut.refl {k : Addr} (H : Hp) : SameBut k H H := fun _ _ h _ => h
theorem Same.but {k : Addr} {H H' : Hp} (h : Same H H') : SameBut k H H' := fun b o e _ => h b o e
theorem SameBut.trans {k : Addr} {H H1 H2 : Hp} (a : SameBut k H H1) (b : SameBut k H1 H2) : SameBut k H H2 := fun c o e n => b c o (a c o e n) n
theorem SameBut.self {k : Addr} {H H' : Hp} {o : HO} (a : SameBut k H H') : SameBut k H (upd H' k o) := fun c ob e n => by
  rw [upd_ne n]; exact a c ob e n
theorem SameBut.new {k d : Addr} {H H' : Hp} {o : HO} (a : SameBut k H H') (hd : H d = none) : SameBut k H (upd H' d o) := fun c ob e n => by
  rw [upd_ne (ne_of_none e hd)]; exact a c ob e n
theorem Same.put {d : Addr} {H H' : Hp} {o : HO} (a : Same H H') (hd : H d = none) : Same H (L2.upd H' d o) := fun c ob e => by
  rw [upd_ne (ne_of_none e hd)]; exact a c ob e
theorem ne_of_get {H : Hp} {a b : Addr} {o o' : HO} (ha : H a = some o) (hb : H b = some o') (h : o ≠ o') : a ≠ b := fun e => by
  subst e; rw [ha] at hb; exact h (Option.some.inj hb)
theorem st_asgH {to tv : TE} {f : Str} {K : PySem.W.Frag} {u : TS} {D : Ends} {σ : St} {H : Hp} (P : V → Hp → Prop) (h : ∀ Q : VK, (∀ v H', P v H' → Q v H') → tv σ H Q) (p C dx : Addr) (hto : ∀ H' (Q : VK), Q (.ref p) H' → to σ H' Q) (hc : Cls K C) (hn : NoAttr K C f)
    (h2 : ∀ v H', P v H' → ∃ fs, H' p = some (.ins C dx fs) ∧ fs.length < 1000 ∧ u D σ (upd H' p (.ins C dx (putF f v fs)))) : tSeq (sFld K to tv f) u D σ H :=
  h _ fun v H' q => by
    obtain ⟨fs, e, l, r⟩ := h2 v H' q
    exact hto _ _ ⟨p, C, dx, fs, rfl, e, hc, hn, l, r⟩
theorem st_fld1 {to tv : TE} {f : Str} {K : PySem.W.Frag} {D : Ends} {σ : St} {H : Hp} (P : V → Hp → Prop) (h : ∀ Q : VK, (∀ v H', P v H' → Q v H') → tv σ H Q) (p C dx : Addr) (hto : ∀ H' (Q : VK), Q (.ref p) H' → to σ H' Q) (hc : Cls K C) (hn : NoAttr K C f)
    (h2 : ∀ v H', P v H' → ∃ fs, H' p = some (.ins C dx fs) ∧ fs.length < 1000 ∧ D.nx σ (upd H' p (.ins C dx (putF f v fs)))) : sFld K to tv f D σ H :=
  h _ fun v H' q => by
    obtain ⟨fs, e, l, r⟩ := h2 v H' q
    exact hto _ _ ⟨p, C, dx, fs, rfl, e, hc, hn, l, r⟩
end L2
namespace L2
open PySem PySem.Spec PyProof.Rows
def Ev (t : TE) (σ : St) (H : Hp) (v : V) : Prop := ∀ Q : VK, Q v H → t σ H Q
def Tv (t : TT) (σ : St) (H : Hp) (b : Bool) : Prop := ∀ Q : Bool → Hp → Prop, Q b H → t σ H Q
def Av (t : TA) (σ : St) (H : Hp) (vs : List V) : Prop := ∀ Q : List V → Hp → Prop, Q vs H → t σ H Q
section
variable {K : PySem.W.Frag} {σ : St} {H : Hp} {ta tb tc te to : TE} {t u : TT} {x y : V} {i j k : Int} {a b : Bool} {z z' : Str}
theorem ev_c : Ev (tC x) σ H x := fun Q q => q
theorem ev_v {n : Nat} (h : σ[n]? = some (some x)) : Ev (cVar n) σ H x := fun Q q => by unfold cVar; rw [h]; exact q
theorem ev_add (ha : Ev ta σ H (.int i)) (hb : Ev tb σ H (.int j)) : Ev (cBin .Add ta tb) σ H (.int (i + j)) := fun Q q => ha _ (hb _ q)
theorem ev_sub (ha : Ev ta σ H (.int i)) (hb : Ev tb σ H (.int j)) : Ev (cBin .Sub ta tb) σ H (.int (i - j)) := fun Q q => ha _ (hb _ q)
theorem ev_mul (ha : Ev ta σ H (.int i)) (hb : Ev tb σ H (.int j)) (h : CMul i j) : Ev (cBin .Mult ta tb) σ H (.int (i * j)) := fun Q q => ha _ (hb _ ⟨h, q⟩)
theorem ev_div (ha : Ev ta σ H (.int i)) (hb : Ev tb σ H (.int j)) (h : CDiv i j) : Ev (cBin .FloorDiv ta tb) σ H (.int (i / j)) := fun Q q => ha _ (hb _ ⟨h, q⟩)
theorem ev_mod (ha : Ev ta σ H (.int i)) (hb : Ev tb σ H (.int j)) (h : 0 < j) : Ev (cBin .Mod ta tb) σ H (.int (i % j)) := fun Q q => ha _ (hb _ ⟨h, q⟩)
theorem ev_neg (ha : Ev ta σ H (.int i)) : Ev (cNeg ta) σ H (.int (-i)) := fun Q q => ha _ q
theorem ev_adds (ha : Ev ta σ H (.str z)) (hb : Ev tb σ H (.str z')) (h : z.length + z'.length ≤ sizeLine) : Ev (cBin .Add ta tb) σ H (.str (z ++ z')) := fun Q q => ha _ (hb _ ⟨h, q⟩)
theorem ev_fld {p : Addr} {f : Str} (ho : Ev to σ H (.ref p)) (h : Fl K H p f x) : Ev (cFld K to f) σ H x := fun Q q => ho _ ⟨x, h, q⟩
theorem ev_ix {p : Addr} {xs : List V} (ho : Ev to σ H (.ref p)) (hi : Ev ta σ H (.int i)) (h : SqL K H p xs ∨ SqT K H p xs) (e : atI xs i = some x) : Ev (cIx K to ta) σ H x := fun Q q => ho _ (hi _ ⟨xs, x, h, e, q⟩)
theorem ev_ixs {c : Nat} (ho : Ev to σ H (.str z)) (hi : Ev ta σ H (.int i)) (h : z.length ≤ sizeLine) (e : atI z.cps.toList i = some c) : Ev (cIx K to ta) σ H (.str ⟨#[c]⟩) := fun Q q => ho _ (hi _ ⟨h, c, e, q⟩)
theorem ev_len {p : Addr} {xs : List V} (ho : Ev to σ H (.ref p)) (h : SqL K H p xs ∨ SqT K H p xs) : Ev (cB (lenA K) (tCons to tNil)) σ H (.int xs.length) := fun Q q => ho _ ⟨xs, h, q⟩
theorem ev_lens (ho : Ev to σ H (.str z)) (h : z.length ≤ sizeLine) : Ev (cB (lenA K) (tCons to tNil)) σ H (.int z.length) := fun Q q => ho _ ⟨h, q⟩
theorem ev_min (ha : Ev ta σ H (.int i)) (hb : Ev tb σ H (.int j)) : Ev (cB minA (tCons ta (tCons tb tNil))) σ H (.int (if j < i then j else i)) := fun Q q => ha _ (hb _ q)
theorem ev_isl {p : Addr} {xs : List V} {T : BT} (ho : Ev to σ H (.ref p)) (h : H p = some (.lst xs)) : Ev (cIs T to) σ H (.bl (isSub .list T)) := fun Q q => ho _ (isA_lst h q)
theorem ev_not (ha : Ev ta σ H (.bl a)) : Ev (cNotV ta) σ H (.bl (!a)) := fun Q q => ha _ q
theorem ev_and (ha : Ev ta σ H (.bl a)) (hb : a = true → Ev tb σ H (.bl b)) : Ev (cAndV ta tb) σ H (.bl (a && b)) := fun Q q => ha _ (by
  cases a with
  | true => exact hb rfl Q q
  | false => exact q)
theorem ev_or (ha : Ev ta σ H (.bl a)) (hb : a = false → Ev tb σ H (.bl b)) : Ev (cOrV ta tb) σ H (.bl (a || b)) := fun Q q => ha _ (by
  cases a with
  | true => exact q
  | false => exact hb rfl Q q)
theorem ev_if (ht : Tv t σ H b) (h1 : b = true → Ev ta σ H x) (h2 : b = false → Ev tb σ H y) : Ev (tIf t ta tb) σ H (if b = true then x else y) := fun Q q => ht _ (by
  cases b with
  | true => exact iteT (h1 rfl _ q)
  | false => exact iteF (h2 rfl _ q))
theorem ev_eq (ha : Ev ta σ H (.int i)) (hb : Ev tb σ H (.int j)) : Ev (cCmp K .Eq ta tb) σ H (.bl (decide (i = j))) := fun Q q => ha _ (hb _ q)
theorem ev_ne (ha : Ev ta σ H (.int i)) (hb : Ev tb σ H (.int j)) : Ev (cCmp K .NotEq ta tb) σ H (.bl (!decide (i = j))) := fun Q q => ha _ (hb _ q)
theorem ev_lt (ha : Ev ta σ H (.int i)) (hb : Ev tb σ H (.int j)) : Ev (cCmp K .Lt ta tb) σ H (.bl (decide (i < j))) := fun Q q => ha _ (hb _ q)
theorem ev_ge (ha : Ev ta σ H (.int i)) (hb : Ev tb σ H (.int j)) : Ev (cCmp K .GtE ta tb) σ H (.bl (decide (j ≤ i))) := fun Q q => ha _ (hb _ q)
theorem ev_eqs (ha : Ev ta σ H (.str z)) (hb : Ev tb σ H (.str z')) : Ev (cCmp K .Eq ta tb) σ H (.bl (decide (z = z'))) := fun Q q => ha _ (hb _ q)
theorem ev_nes (ha : Ev ta σ H (.str z)) (hb : Ev tb σ H (.str z')) : Ev (cCmp K .NotEq ta tb) σ H (.bl (!decide (z = z'))) := fun Q q => ha _ (hb _ q)
theorem ev_eqr {p q : Addr} (ha : Ev ta σ H (.ref p)) (hb : Ev tb σ H (.ref q)) (h : EqT K H 20 (.ref p) (.ref q) a) : Ev (cCmp K .Eq ta tb) σ H (.bl a) := fun Q k => ha _ (hb _ ⟨a, h, k⟩)
theorem inV_ints (i : Int) (ns : List Int) : inV (.int i) (ns.map V.int) = decide (i ∈ ns) := by
  unfold inV
  rw [List.any_map]
  by_cases h : i ∈ ns
  · rw [decide_eq_true h]
    exact List.any_eq_true.mpr ⟨i, h, by simp [eqV]⟩
  · rw [decide_eq_false h]
    apply List.any_eq_false.mpr
    intro y hy
    have : y ≠ i := fun e => h (e ▸ hy)
    simp [eqV, this]
theorem ev_in {p : Addr} {ns : List Int} (ha : Ev ta σ H (.int i)) (hb : Ev tb σ H (.ref p)) (h : SqL K H p (ns.map V.int) ∨ SqT K H p (ns.map V.int)) : Ev (cCmp K .In ta tb) σ H (.bl (decide (i ∈ ns))) := fun Q q => ha _ (hb _ (by
  rw [r_in_int_ref]
  refine ⟨p, _, rfl, h, rfl, flat_ints ns, ?_⟩
  rw [inV_ints]
  exact q))
theorem ev_nin {p : Addr} {ns : List Int} (ha : Ev ta σ H (.int i)) (hb : Ev tb σ H (.ref p)) (h : SqL K H p (ns.map V.int) ∨ SqT K H p (ns.map V.int)) : Ev (cCmp K .NotIn ta tb) σ H (.bl (!decide (i ∈ ns))) := fun Q q => ha _ (hb _ (by
  rw [r_notin_int_ref]
  refine ⟨p, _, rfl, h, rfl, flat_ints ns, ?_⟩
  rw [inV_ints]
  exact q))
theorem ev_clee (ha : Ev ta σ H (.int i)) (hb : Ev tb σ H (.int j)) (hc : i ≤ j → Ev tc σ H (.int k)) : Ev (cChain K .LtE .LtE ta tb tc) σ H (.bl (decide (i ≤ j ∧ j ≤ k))) := fun Q q => ha _ (hb _ (by
  rw [r_lte_int]
  by_cases h : i ≤ j
  · rw [decide_eq_true h]
    refine hc h _ ?_
    have e : decide (i ≤ j ∧ j ≤ k) = decide (j ≤ k) := by simp [h]
    rw [e] at q
    exact q
  · rw [decide_eq_false h]
    have e : decide (i ≤ j ∧ j ≤ k) = false := by simp [h]
    rw [e] at q
    exact q))
theorem ev_call {sp : Sp} {t : TA} {vs : List V} (ht : Av t σ H vs) (h : ∀ Q : VK, Q x H → sp vs H Q E0) : Ev (cCall sp t) σ H x := fun Q q => ht _ (h Q q)
theorem av_nil : Av tNil σ H [] := fun Q q => q
theorem av_cons {t : TA} {vs : List V} (ha : Ev ta σ H x) (ht : Av t σ H vs) : Av (tCons ta t) σ H (x :: vs) := fun Q q => ha _ (ht _ q)
theorem av_cs {vs : List V} : Av (cCs vs) σ H vs := fun Q q => q
theorem tv_e (h : Ev te σ H (.bl b)) : Tv (cTest te) σ H b := fun Q q => h _ q
theorem tv_not (h : Tv t σ H b) : Tv (tNot t) σ H (!b) := fun Q q => h _ q
theorem tv_and (ha : Tv t σ H a) (hb : a = true → Tv u σ H b) : Tv (tAnd t u) σ H (a && b) := fun Q q => ha _ (by
  cases a with
  | true => exact iteT (hb rfl _ q)
  | false => exact iteF q)
theorem tv_or (ha : Tv t σ H a) (hb : a = false → Tv u σ H b) : Tv (tOr t u) σ H (a || b) := fun Q q => ha _ (by
  cases a with
  | true => exact iteT q
  | false => exact iteF (hb rfl _ q))
theorem tv_clee (ha : Ev ta σ H (.int i)) (hb : Ev tb σ H (.int j)) (hc : i ≤ j → Ev tc σ H (.int k)) : Tv (cChainT K .LtE .LtE ta tb tc) σ H (decide (i ≤ j ∧ j ≤ k)) := fun Q q => ha _ (hb _ (by
  rw [r_lte_int]
  by_cases h : i ≤ j
  · rw [decide_eq_true h]
    refine hc h _ ?_
    have e : decide (i ≤ j ∧ j ≤ k) = decide (j ≤ k) := by simp [h]
    rw [e] at q
    exact q
  · rw [decide_eq_false h]
    have e : decide (i ≤ j ∧ j ≤ k) = false := by simp [h]
    rw [e] at q
    exact q))
end
section
variable {te : TE} {c : TT} {t u : TS} {D : Ends} {σ : St} {H : Hp} {v : V} {b : Bool}
theorem st_set {i : Nat} (h : Ev te σ H v) (h2 : u D (σ.set i (some v)) H) : tSeq (tAsg te (gName i)) u D σ H := h _ h2
theorem st_set1 {i : Nat} (h : Ev te σ H v) (h2 : D.nx (σ.set i (some v)) H) : tAsg te (gName i) D σ H := h _ h2
theorem st_ret (h : Ev te σ H v) (h2 : D.rt v H) : tRet te D σ H := h _ h2
theorem st_tst (hc : Tv c σ H b) (h1 : b = true → t { D with nx := u D } σ H) (h2 : b = false → u D σ H) : tSeq (tIfS c t tNext) u D σ H := hc _ (by
  cases b with
  | true => exact iteT (h1 rfl)
  | false => exact iteF (h2 rfl))
theorem st_tst1 (hc : Tv c σ H b) (h1 : b = true → t D σ H) (h2 : b = false → D.nx σ H) : tIfS c t tNext D σ H := hc _ (by
  cases b with
  | true => exact iteT (h1 rfl)
  | false => exact iteF (h2 rfl))
end
section
variable {K : PySem.W.Frag} {σ rest : St} {H : Hp} {tl te : TE} {tt : TT} {src : List (Option Nat)} {Q : VK}
theorem tv_noif : Tv tNoIf σ H true := fun Q q => q
theorem comp_evI {J : It} {xs : List V} (hz : xs.length ≤ sizeLine) (hs : subSt src σ = none :: rest) (p : V → Bool) (f : V → V) (hgo : ∀ i, i < xs.length → J.go i H) (hstop : J.stop xs.length H) (hyld : ∀ i v H', i < xs.length → J.yld i H v H' → H' = H ∧ xs[i]? = some v)
    (ht : ∀ x ∈ xs, Tv tt (some x :: rest) H (p x)) (he : ∀ x ∈ xs, p x = true → Ev te (some x :: rest) H (f x)) (q : ∀ d', H d' = none → Q (.ref d') (upd H d' (.lst ((xs.filter p).map f)))) : compWant (gName 0) tt te src σ Q J H := by
  refine ⟨fun i m ys σ' H' => m = xs.length - i ∧ i ≤ xs.length ∧ ys = ((xs.take i).filter p).map f ∧ (∃ o, σ' = o :: rest) ∧ H' = H, ⟨xs.length, by simp, Nat.zero_le _, by simp, ⟨none, hs⟩, rfl⟩, ?_⟩
  rintro i m ys σ' H' ⟨rfl, hi, rfl, ⟨o, rfl⟩, rfl⟩
  by_cases hlt : i < xs.length
  · refine .inr ⟨hgo i hlt, ?_, fun x H2 y => ?_⟩
    · rw [List.length_map]
      have h1 := List.length_filter_le p (xs.take i)
      rw [List.length_take] at h1
      omega
    · obtain ⟨rfl, hx⟩ := hyld i x H2 hlt y
      have tk : (xs.take (i + 1)).filter p = (xs.take i).filter p ++ (if p x then [x] else []) := take_succ_filter p xs i x hx
      have hm : x ∈ xs := List.mem_of_getElem? hx
      show tt (some x :: rest) H2 _
      refine ht x hm _ ?_
      cases hp : p x with
      | true =>
        refine iteT (he x hm hp _ ?_)
        refine ⟨xs.length - (i + 1), by omega, rfl, hlt, ?_, ⟨_, rfl⟩, rfl⟩
        rw [tk, hp, if_pos rfl, List.map_append]
        rfl
      | false =>
        refine iteF ?_
        refine ⟨xs.length - (i + 1), by omega, rfl, hlt, ?_, ⟨_, rfl⟩, rfl⟩
        rw [tk, hp, if_neg (by simp), List.append_nil]
  · have e : i = xs.length := by omega
    subst e
    refine .inl ⟨hstop, fun d hd => ?_⟩
    rw [List.take_length]
    exact q d hd
theorem comp_ev {d : Addr} {xs : List V} (hl : Ev tl σ H (.ref d)) (hx : SqL K H d xs) (hz : xs.length ≤ sizeLine) (hs : subSt src σ = none :: rest) (p : V → Bool) (f : V → V)
    (ht : ∀ x ∈ xs, Tv tt (some x :: rest) H (p x)) (he : ∀ x ∈ xs, p x = true → Ev te (some x :: rest) H (f x)) (q : ∀ d', H d' = none → Q (.ref d') (upd H d' (.lst ((xs.filter p).map f)))) : tComp (iList K tl) (gName 0) tt te src σ H Q :=
  hl _ ⟨d, rfl, ⟨xs, hx⟩, comp_evI hz hs p f (fun i hi => ⟨xs, xs[i], hx, List.getElem?_eq_getElem hi⟩) ⟨xs, hx, Nat.le_refl _⟩ (fun i v H' _ y => ⟨y.1, y.2 xs hx⟩) ht he q⟩
theorem comp_evR {ta : TA} {n : Int} (hl : Av ta σ H [.int n]) (h0 : 0 ≤ n) (hz : n.toNat ≤ sizeLine) (h1 : n < 2 ^ 62) (hs : subSt src σ = none :: rest) (p : V → Bool) (f : V → V)
    (ht : ∀ i : Nat, i < n.toNat → Tv tt (some (.int (0 + (i : Int))) :: rest) H (p (.int (0 + (i : Int))))) (he : ∀ i : Nat, i < n.toNat → p (.int (0 + (i : Int))) = true → Ev te (some (.int (0 + (i : Int))) :: rest) H (f (.int (0 + (i : Int)))))
    (q : ∀ d', H d' = none → Q (.ref d') (upd H d' (.lst ((((List.range n.toNat).map fun (i : Nat) => V.int (0 + (i : Int))).filter p).map f)))) : tComp (iRng1 ta) (gName 0) tt te src σ H Q := by
  have hin : ∀ x ∈ (List.range n.toNat).map fun (i : Nat) => V.int (0 + (i : Int)), ∃ i : Nat, i < n.toNat ∧ x = .int (0 + (i : Int)) := fun x hx => by
    obtain ⟨i, hi, rfl⟩ := List.mem_map.mp hx
    exact ⟨i, List.mem_range.mp hi, rfl⟩
  have hlen : ((List.range n.toNat).map fun (i : Nat) => V.int (0 + (i : Int))).length = n.toNat := by simp
  refine hl _ ⟨n, rfl, by omega, h1, comp_evI (xs := (List.range n.toNat).map fun (i : Nat) => V.int (0 + (i : Int))) (by rw [hlen]; exact hz) hs p f (fun i hi => by rw [hlen] at hi; exact hi) (by rw [hlen]; exact Nat.le_refl _) (fun i v H' hi y => ⟨y.1, ?_⟩) (fun x hx => ?_) (fun x hx hp => ?_) q⟩
  · rw [hlen] at hi
    rw [List.getElem?_map, List.getElem?_range hi, y.2]
    rfl
  · obtain ⟨i, hi, rfl⟩ := hin x hx
    exact ht i hi
  · obtain ⟨i, hi, rfl⟩ := hin x hx
    exact he i hi hp
end
section
variable {K : PySem.W.Frag} {te to tv : TE} {t : TA} {c : TT} {u : TS} {D : Ends} {σ : St} {H : Hp} {v x y : V}
theorem ev_meth {C p : Addr} {m : Str} {sp : Sp} {vs : List V} (ho : Ev to σ H (.ref p)) (hi : InsNo C m H p) (ht : Av t σ H vs) (h : ∀ Q : VK, Q x H → sp (.ref p :: vs) H Q E0) : Ev (cMeth C m sp to t) σ H x := fun Q q => ho _ ⟨hi, ht _ (h Q q)⟩
theorem st_app1 {l : Addr} {xs : List V} (ho : Ev to σ H (.ref l)) (he : Ev te σ H y) (hl : H l = some (.lst xs)) (hz : xs.length < sizeLine) (h2 : D.nx σ (upd H l (.lst (xs ++ [y])))) : tDrop (cApp to te) D σ H := ho _ ⟨⟨xs, hl⟩, he _ ⟨xs, hl, hz, h2⟩⟩
theorem st_fld {f : Str} {p C dx : Addr} {fs : List (Str × V)} (h : Ev tv σ H v) (ho : Ev to σ H (.ref p)) (hp : H p = some (.ins C dx fs)) (hc : Cls K C) (hn : NoAttr K C f) (hl : fs.length < 1000) (h2 : u D σ (upd H p (.ins C dx (putF f v fs)))) : tSeq (sFld K to tv f) u D σ H := h _ (ho _ ⟨p, C, dx, fs, rfl, hp, hc, hn, hl, h2⟩)
theorem st_nil {i : Nat} (h2 : ∀ q, H q = none → u D (σ.set i (some (.ref q))) (upd H q (.lst []))) : tSeq (tAsg (tLst tNil) (gName i)) u D σ H := ⟨Nat.zero_le _, fun q hq => h2 q hq⟩
end
section
variable {K : PySem.W.Frag} {te to ta tb ti : TE} {t : TA} {c : TT} {σ : St} {H : Hp} {Q : VK} {R : Bool → Hp → Prop} {v x y : V} {vs : List V} {sp : Sp}
theorem evk (h : Ev te σ H v) (q : Q v H) : te σ H Q := h Q q
theorem cal_k (h : Av t σ H vs) (q : sp vs H Q E0) : cCall sp t σ H Q := h _ q
theorem calN_k (h : Av t σ H vs) (q : sp vs H (bOnly fun c H1 => R (!c) H1) E0) : tNot (cTest (cCall sp t)) σ H R := h _ q
theorem b1_k {r : List V → Hp → VK → Prop} (h : Ev to σ H v) (q : r [v] H Q) : cB r (tCons to tNil) σ H Q := h _ q
theorem lix_k {i : Int} (h : Av t σ H vs) (hz : vs.length ≤ 1000) (hi : ∀ H', Ev ti σ H' (.int i)) (e : atI vs i = some v) (q : ∀ H', Same H H' → Q v H') : cIx K (tLst t) ti σ H Q := h _ ⟨Nat.le_trans hz (by decide), fun p hp => hi _ _ ⟨vs, v, .inl (SqL.of upd_same), e, q _ ((Same.refl H).upd hp)⟩⟩
end
section
variable {K : PySem.W.Frag} {te to ta tb : TE} {D : Ends} {σ : St} {H : Hp} {Q : VK} {x y : V}
theorem app_k {l : Addr} (ho : Ev to σ H (.ref l)) (hl : ∃ xs, H l = some (.lst xs)) (q : te σ H fun y H2 => ∃ xs, H2 l = some (.lst xs) ∧ xs.length < sizeLine ∧ D.nx σ (upd H2 l (.lst (xs ++ [y])))) : tDrop (cApp to te) D σ H := ho _ ⟨hl, q⟩
theorem make3_k {C d : Addr} {sp : Sp} {tc : TE} {ys : List V} (ha : Ev ta σ H x) (hb : Ev tb σ H y) (hc : Ev tc σ H (.ref d)) (hd : SqL K H d ys ∨ SqT K H d ys)
    (q : ∀ l, H l = none → ∀ p dx, (upd H l (.lst ys)) p = none → (upd H l (.lst ys)) dx = none → dx ≠ p → sp [.ref p, x, y, .ref l] (upd (upd (upd H l (.lst ys)) dx (.own p)) p (.ins C dx [])) (fun v H2 => v = .non ∧ Q (.ref p) H2) E0) :
    cMake C sp (tCons ta (tCons tb (tCons (cB (listA K) (tCons tc tNil)) tNil))) σ H Q := ha _ (hb _ (hc _ ⟨ys, hd, fun l hl => fun p dx np nd ne => q l hl p dx np nd ne⟩))
end
end L2
namespace L2
open PySem PySem.Spec PyProof.Rows
def oI : Option Int → V
  | some n => .int n
  | none => .non
structure BrdC (K : PySem.W.Frag) (C : Addr) : Prop where
  cl : Cls K C
  wide : NoAttr K C "wide"
  high : NoAttr K C "high"
  holes : NoAttr K C "holes"
  firm : NoAttr K C "firm"
def bflds (wi hi : Int) (ph pf : Addr) : List (Str × V) := putF "firm" (.ref pf) (putF "holes" (.ref ph) (putF "high" (.int hi) (putF "wide" (.int wi) [])))
theorem bf_wide (wi hi : Int) (ph pf : Addr) : (bflds wi hi ph pf).lookup ("wide" : Str) = some (.int wi) := by
  unfold bflds
  rw [lookup_putF, if_neg (by decide +kernel), lookup_putF, if_neg (by decide +kernel), lookup_putF, if_neg (by decide +kernel), lookup_putF, if_pos rfl]
theorem bf_high (wi hi : Int) (ph pf : Addr) : (bflds wi hi ph pf).lookup ("high" : Str) = some (.int hi) := by
  unfold bflds
  rw [lookup_putF, if_neg (by decide +kernel), lookup_putF, if_neg (by decide +kernel), lookup_putF, if_pos rfl]
theorem bf_holes (wi hi : Int) (ph pf : Addr) : (bflds wi hi ph pf).lookup ("holes" : Str) = some (.ref ph) := by
  unfold bflds
  rw [lookup_putF, if_neg (by decide +kernel), lookup_putF, if_pos rfl]
theorem bf_firm (wi hi : Int) (ph pf : Addr) : (bflds wi hi ph pf).lookup ("firm" : Str) = some (.ref pf) := by
  unfold bflds
  rw [lookup_putF, if_pos rfl]
theorem bf_no (wi hi : Int) (ph pf : Addr) {m : Str} (h1 : ¬ m = "wide") (h2 : ¬ m = "high") (h3 : ¬ m = "holes") (h4 : ¬ m = "firm") : (bflds wi hi ph pf).lookup m = none := by
  unfold bflds
  rw [lookup_putF, if_neg h4, lookup_putF, if_neg h3, lookup_putF, if_neg h2, lookup_putF, if_neg h1]
  rfl
def firmL (wi hi : Int) (hs : List Int) : List Bool := (List.range (wi * hi).toNat).map fun (s : Nat) => !decide ((s : Int) ∈ hs)
structure BrdAt (K : PySem.W.Frag) (C : Addr) (H : Hp) (p : Addr) (wi hi : Int) (hs : List Int) : Prop where
  ex : ∃ dx ph pf, H p = some (.ins C dx (bflds wi hi ph pf)) ∧ H ph = some (.lst (hs.map V.int)) ∧ H pf = some (.lst ((firmL wi hi hs).map V.bl))
  w1 : 1 ≤ wi
  w8 : wi ≤ 8
  h1 : 1 ≤ hi
  h8 : hi ≤ 8
  good : ∀ h ∈ hs, 0 ≤ h ∧ h < wi * hi
  srt : hs.Pairwise (· ≤ ·)
  nd : hs.Nodup
section
variable {K : PySem.W.Frag} {C : Addr} {H H' : Hp} {p : Addr} {wi hi : Int} {hs : List Int}
theorem BrdAt.same (B : BrdAt K C H p wi hi hs) (s : Same H H') : BrdAt K C H' p wi hi hs := by
  obtain ⟨⟨dx, ph, pf, a, b, c⟩, w1, w8, h1, h8, g, sr, nd⟩ := B
  exact ⟨⟨dx, ph, pf, s _ _ a, s _ _ b, s _ _ c⟩, w1, w8, h1, h8, g, sr, nd⟩
theorem BrdAt.wide (B : BrdAt K C H p wi hi hs) (D : BrdC K C) : Fl K H p "wide" (.int wi) := by
  obtain ⟨dx, ph, pf, a, _, _⟩ := B.ex
  exact ⟨C, dx, _, a, D.cl, D.wide, bf_wide _ _ _ _⟩
theorem BrdAt.high (B : BrdAt K C H p wi hi hs) (D : BrdC K C) : Fl K H p "high" (.int hi) := by
  obtain ⟨dx, ph, pf, a, _, _⟩ := B.ex
  exact ⟨C, dx, _, a, D.cl, D.high, bf_high _ _ _ _⟩
theorem BrdAt.firm (B : BrdAt K C H p wi hi hs) (D : BrdC K C) : ∃ pf, Fl K H p "firm" (.ref pf) ∧ H pf = some (.lst ((firmL wi hi hs).map V.bl)) := by
  obtain ⟨dx, ph, pf, a, _, c⟩ := B.ex
  exact ⟨pf, ⟨C, dx, _, a, D.cl, D.firm, bf_firm _ _ _ _⟩, c⟩
theorem BrdAt.holes (B : BrdAt K C H p wi hi hs) (D : BrdC K C) : ∃ ph, Fl K H p "holes" (.ref ph) ∧ H ph = some (.lst (hs.map V.int)) := by
  obtain ⟨dx, ph, pf, a, b, c⟩ := B.ex
  exact ⟨ph, ⟨C, dx, _, a, D.cl, D.holes, bf_holes _ _ _ _⟩, b⟩
theorem BrdAt.no (B : BrdAt K C H p wi hi hs) {m : Str} (h1 : ¬ m = "wide" := by decide +kernel) (h2 : ¬ m = "high" := by decide +kernel) (h3 : ¬ m = "holes" := by decide +kernel) (h4 : ¬ m = "firm" := by decide +kernel) : InsNo C m H p := by
  obtain ⟨dx, ph, pf, a, b, c⟩ := B.ex
  exact ⟨dx, _, a, bf_no _ _ _ _ h1 h2 h3 h4⟩
theorem BrdAt.many (B : BrdAt K C H p wi hi hs) : 1 ≤ wi * hi ∧ wi * hi ≤ 64 := by
  have a := B.w1; have b := B.w8; have c := B.h1; have d := B.h8
  have e1 : 1 * 1 ≤ wi * hi := Int.mul_le_mul a c (by omega) (by omega)
  have e2 : wi * hi ≤ 8 * 8 := Int.mul_le_mul b d (by omega) (by omega)
  omega
theorem firm_at {s : Int} (h0 : 0 ≤ s) (h1 : s < wi * hi) : atI ((firmL wi hi hs).map V.bl) s = some (.bl (!decide (s ∈ hs))) := by
  have e : s = ((s.toNat : Nat) : Int) := by omega
  have hl : s.toNat < (wi * hi).toNat := by omega
  have : ((firmL wi hi hs).map V.bl)[s.toNat]? = some (.bl (!decide (((s.toNat : Nat) : Int) ∈ hs))) := by
    unfold firmL
    rw [List.getElem?_map, List.getElem?_map, List.getElem?_range hl]
    rfl
  have q := atI_nat this
  rw [← e] at q
  exact q
theorem firm_len : (firmL wi hi hs).length = (wi * hi).toNat := by unfold firmL; simp
end
def mvd (wi hi : Int) (hs : List Int) (s ax up : Int) : Option Int :=
  if 0 ≤ s % wi + ax ∧ s % wi + ax < wi ∧ 0 ≤ s / wi + up ∧ s / wi + up < hi then (if (s / wi + up) * wi + (s % wi + ax) ∈ hs then none else some ((s / wi + up) * wi + (s % wi + ax))) else none
def sqK (wi s ax up : Int) (k : Nat) : Int := (s / wi + k * up) * wi + (s % wi + k * ax)
def okK (wi hi : Int) (hs : List Int) (s ax up : Int) (k : Nat) : Prop := 0 ≤ s % wi + k * ax ∧ s % wi + k * ax < wi ∧ 0 ≤ s / wi + k * up ∧ s / wi + k * up < hi ∧ ¬ sqK wi s ax up k ∈ hs
instance {wi hi : Int} {hs : List Int} {s ax up : Int} {k : Nat} : Decidable (okK wi hi hs s ax up k) := by unfold okK; infer_instance
def IsRay (wi hi : Int) (hs : List Int) (s ax up : Int) (n : Nat) : Prop := (∀ j < n, okK wi hi hs s ax up (j + 1)) ∧ ¬ okK wi hi hs s ax up (n + 1)
def rayL (wi s ax up : Int) (n : Nat) : List Int := (List.range n).map fun j => sqK wi s ax up (j + 1)
theorem IsRay.uniq {wi hi : Int} {hs hs' : List Int} {s ax up : Int} {m n : Nat} (h : IsRay wi hi hs s ax up m) (h' : IsRay wi hi hs' s ax up n) (e : ∀ x, x ∈ hs ↔ x ∈ hs') : m = n := by
  have c : ∀ k, okK wi hi hs s ax up k ↔ okK wi hi hs' s ax up k := fun k => by unfold okK; rw [e]
  rcases Nat.lt_trichotomy m n with l | l | l
  · exact absurd ((c _).mpr (h'.1 m l)) h.2
  · exact l
  · exact absurd ((c _).mp (h.1 n l)) h'.2
structure KeptOk (H : Hp) (kl : Addr) (es : List V) : Prop where
  at_ : H kl = some (.lst es)
  all : ∀ e ∈ es, ∃ (t f c : Addr) (zs : List Int), e = V.ref t ∧ t ≠ kl ∧ f ≠ kl ∧ c ≠ kl ∧ H t = some (.tup [.ref f, .ref c]) ∧ H f = some (.lst (zs.map V.int)) ∧ H c = some (.lst (zs.map V.int))
theorem KeptOk.same {H H' : Hp} {kl : Addr} {es : List V} (k : KeptOk H kl es) (s : Same H H') : KeptOk H' kl es := ⟨s _ _ k.at_, fun e he => by
  obtain ⟨t, f, c, zs, h1, h2, h3, h4, h5, h6, h7⟩ := k.all e he
  exact ⟨t, f, c, zs, h1, h2, h3, h4, s _ _ h5, s _ _ h6, s _ _ h7⟩⟩
def spWhI : Sp := fun vs H Q _ => ∃ n : Int, vs = [.int n] ∧ Q (.bl true) H
def spAmI : Sp := fun vs H Q _ => ∃ t a b : Int, vs = [.int t, .int a, .int b] ∧ Q (.bl (decide (a ≤ t ∧ t ≤ b))) H
def spCol : Sp := fun vs H Q _ => ∃ w s : Int, vs = [.int w, .int s] ∧ 0 < w ∧ Q (.int (s % w)) H
def spRow : Sp := fun vs H Q _ => ∃ w s : Int, vs = [.int w, .int s] ∧ 0 < w ∧ w < 100 ∧ Q (.int (s / w)) H
def spSqAt : Sp := fun vs H Q _ => ∃ w c r : Int, vs = [.int w, .int c, .int r] ∧ -100 < w ∧ w < 100 ∧ Q (.int (r * w + c)) H
def spHolesT : Sp := fun vs H Q _ => ∃ (d : Addr) (m : Int) (hs : List Int), vs = [.ref d, .int m] ∧ H d = some (.lst (hs.map V.int)) ∧ (∀ h ∈ hs, 0 ≤ h ∧ h < m) ∧ hs.Nodup ∧ (hs.length : Int) < m ∧ m ≤ 64 ∧ ∀ H', Same H H' → Q (.bl true) H'
def spBInit (K : PySem.W.Frag) (C : Addr) : Sp := fun vs H Q _ => ∃ (p d dx : Addr) (wi hi : Int) (hs : List Int), vs = [.ref p, .int wi, .int hi, .ref d] ∧ H p = some (.ins C dx []) ∧ H d = some (.lst (hs.map V.int)) ∧ 1 ≤ wi ∧ wi ≤ 8 ∧ 1 ≤ hi ∧ hi ≤ 8 ∧ (∀ h ∈ hs, 0 ≤ h ∧ h < wi * hi) ∧ hs.Nodup ∧ (hs.length : Int) < wi * hi ∧
  ∀ (hs' : List Int) H', hs'.Perm hs → BrdAt K C H' p wi hi hs' → SameBut p H H' → Q .non H'
def spMoved (K : PySem.W.Frag) (C : Addr) : Sp := fun vs H Q _ => ∃ (p : Addr) (wi hi : Int) (hs : List Int) (s ax up : Int), vs = [.ref p, .int s, .int ax, .int up] ∧ BrdAt K C H p wi hi hs ∧ Q (oI (mvd wi hi hs s ax up)) H
def spRay (K : PySem.W.Frag) (C : Addr) : Sp := fun vs H Q _ => ∃ (p : Addr) (wi hi : Int) (hs : List Int) (s ax up : Int), vs = [.ref p, .int s, .int ax, .int up] ∧ BrdAt K C H p wi hi hs ∧ 0 ≤ s ∧ s < wi * hi ∧ ¬ (ax = 0 ∧ up = 0) ∧
  ∀ (n : Nat) (q : Addr) (H' : Hp), IsRay wi hi hs s ax up n → n ≤ 8 → H q = none → H' q = some (.lst ((rayL wi s ax up n).map V.int)) → Same H H' → Q (.ref q) H'
structure CW (P : Program) (w : World) (K : PySem.W.Frag) (mg : Str → Option Value) (base : Heap) : Prop where
  is_whole : Cal P w K mg base "is_whole" ["thing"] 1 spWhI
structure CA (P : Program) (w : World) (K : PySem.W.Frag) (mg : Str → Option Value) (base : Heap) : Prop where
  is_among : Cal P w K mg base "is_among" ["thing", "least", "most"] 2 spAmI
structure CB (P : Program) (w : World) (K : PySem.W.Frag) (mg : Str → Option Value) (base : Heap) : Prop where
  column_of : Cal P w K mg base "column_of" ["wide", "square"] 1 spCol
  row_of : Cal P w K mg base "row_of" ["wide", "square"] 1 spRow
  square_at : Cal P w K mg base "square_at" ["wide", "column", "row"] 1 spSqAt
structure CB2 (P : Program) (w : World) (K : PySem.W.Frag) (mg : Str → Option Value) (base : Heap) : Prop extends CA P w K mg base where
  are_holes : Cal P w K mg base "are_holes" ["thing", "many"] 3 spHolesT
structure CB3 (P : Program) (w : World) (K : PySem.W.Frag) (mg : Str → Option Value) (base : Heap) (cB : Addr) : Prop extends CB2 P w K mg base where
  Board : MkCal P w K mg base "Board" cB ["self", "wide", "high", "holes"] 4 (spBInit K cB)
  Board_moved : MCal P w K mg base cB "moved" ["self", "square", "across", "up"] 2 (spMoved K cB)
end L2
namespace L2
open PySem PySem.Spec PyProof.Rows
section
variable {X : Cx} {pins : List (Addr × Obj)} {σ : St} {H : Hp} {s : Shared} {h' : Heap}
theorem Inv.turned_laid {t' : Nat} {e it a : Addr} {o : HO} (I : Inv X pins σ H s) (k : ∀ b ob, b ≠ e → b ≠ it → s.heap.get? b = some ob → h'.get? b = some ob) (he : FpOk X pins H e) (hi : FpOk X pins H it) (hp : s.heap.objs.size ≤ a) (new : ObjOk X.prog X.w (upd H a o) h' a o) :
    Inv X pins σ (upd H a o) { s with heap := h', toks := t' } := by
  obtain ⟨e0, e1, e2, e3, e4, e5⟩ := he
  obtain ⟨i0, i1, i2, i3, i4, i5⟩ := hi
  have hn : H a = none := I.hok.fresh hp
  have ne : ∀ b u, H b = some u → b ≠ e := fun b u q z => by rw [z, e0] at q; cases q
  have nit : ∀ b u, H b = some u → b ≠ it := fun b u q z => by rw [z, i0] at q; cases q
  have kk : ∀ b ob, b ∉ [e, it] → s.heap.get? b = some ob → h'.get? b = some ob := fun b ob hc q => k b ob (fun z => hc (by simp [z])) (fun z => hc (by simp [z])) q
  refine I.step (g' := s.gens) (d' := s.drawn) (ch := [e, it]) (fun b hb => ?_) (fun b ob _ _ hc q _ => kk b ob hc q) (fun b ob _ _ hc q _ => ⟨ob.slots, kk b ob hc q⟩)
    (fun b ob hc q n => by rw [upd_ne (Nat.ne_of_lt (Nat.lt_of_lt_of_le (Heap.lt_size q) hp))]; exact n) (fun b ob hc q => ⟨ob, kk b ob hc q⟩) (fun b xs q => by rw [upd_ne (ne_of_none q hn)]; exact q) (fun b ob u q => by rw [upd_ne (ne_of_none q hn)]; exact q)
    (fun b ps q => ⟨#[], by rw [upd_ne (ne_of_none q hn), q]; simp⟩) (fun m hm => ?_) (fun b u q => ?_) I.bare
  · rcases List.mem_cons.mp hb with rfl | hb
    · exact ⟨e3, e1, e4, e5⟩
    · rw [List.mem_singleton.mp hb]; exact ⟨i3, i1, i4, i5⟩
  · obtain ⟨ob, es, ep, ho, r⟩ := hm
    exact ⟨ob, es, ep, k _ ob (Ne.symm e1) (Ne.symm i1) ho, r⟩
  · by_cases hb : b = a
    · subst hb; rw [upd_same] at q; cases q; exact new
    · rw [upd_ne hb] at q
      refine (I.hok b u q).stay (fun c v hc z => k c v ?_ ?_ z) (fun c z => by rw [upd_ne (ne_of_none z hn)]; exact z) fun c xs z => by rw [upd_ne (ne_of_none z hn)]; exact z
      · rcases hc with z | z
        · rw [z]; exact ne b u q
        · exact ne c _ z
      · rcases hc with z | z
        · rw [z]; exact nit b u q
        · exact nit c _ z
theorem Inv.turned2 {t' : Nat} {e it : Addr} (I : Inv X pins σ H s) (k : ∀ b ob, b ≠ e → b ≠ it → s.heap.get? b = some ob → h'.get? b = some ob) (he : FpOk X pins H e) (hi : FpOk X pins H it) : Inv X pins σ H { s with heap := h', toks := t' } := by
  obtain ⟨e0, e1, e2, e3, e4, e5⟩ := he
  obtain ⟨i0, i1, i2, i3, i4, i5⟩ := hi
  have ne : ∀ b u, H b = some u → b ≠ e := fun b u q z => by rw [z, e0] at q; cases q
  have nit : ∀ b u, H b = some u → b ≠ it := fun b u q z => by rw [z, i0] at q; cases q
  have kk : ∀ b ob, b ∉ [e, it] → s.heap.get? b = some ob → h'.get? b = some ob := fun b ob hc q => k b ob (fun z => hc (by simp [z])) (fun z => hc (by simp [z])) q
  refine I.step (g' := s.gens) (d' := s.drawn) (ch := [e, it]) (fun b hb => ?_) (fun b ob _ _ hc q _ => kk b ob hc q) (fun b ob _ _ hc q _ => ⟨ob.slots, kk b ob hc q⟩)
    (fun _ _ _ _ n => n) (fun b ob hc q => ⟨ob, kk b ob hc q⟩) (fun _ _ q => q) (fun _ _ _ q => q)
    (fun b ps q => ⟨#[], by rw [q]; simp⟩) (fun m hm => ?_) (fun b u q => ?_) I.bare
  · rcases List.mem_cons.mp hb with rfl | hb
    · exact ⟨e3, e1, e4, e5⟩
    · rw [List.mem_singleton.mp hb]; exact ⟨i3, i1, i4, i5⟩
  · obtain ⟨ob, es, ep, ho, r⟩ := hm
    exact ⟨ob, es, ep, k _ ob (Ne.symm e1) (Ne.symm i1) ho, r⟩
  · refine (I.hok b u q).stay (fun c v hc z => k c v ?_ ?_ z) (fun c z => z) fun c xs z => z
    · rcases hc with z | z
      · rw [z]; exact ne b u q
      · exact ne c _ z
    · rcases hc with z | z
      · rw [z]; exact nit b u q
      · exact nit c _ z
end
def ItE (K : PySem.W.Frag) (a : Addr) : It :=
  ⟨fun i H => ∃ xs x, SqL K H a xs ∧ xs[i]? = some x, fun i H x H' => ∃ t v, x = .ref t ∧ H t = none ∧ H' = upd H t (.tup [.int (i : Int), v]) ∧ ∀ xs, SqL K H a xs → xs[i]? = some v, fun i H => ∃ xs, SqL K H a xs ∧ xs.length ≤ i⟩
theorem turn_enumL {P : Program} {w : World} {K : PySem.W.Frag} {elts : List Expr} {k0 : Nat} {pos : Pos} (a e it : Addr) (hne : e ≠ it) : Turn P w K (.Tuple elts k0 pos) (ItE K a) [e, it] e (fun i h => (∃ old, IsEnum h e it (i : Int) old) ∧ h.IsListIter it a i) where
  mem := by simp
  obj := fun i h st b hb => by
    obtain ⟨⟨old, he⟩, o, ho, c, d⟩ := st
    rcases List.mem_cons.mp hb with rfl | hb
    · exact ⟨_, he, fun v z => by cases z⟩
    · rw [List.mem_singleton.mp hb]
      exact ⟨o, ho, fun v z => by rw [d] at z; cases z⟩
  keep := fun i h h' st k => by
    obtain ⟨⟨old, he⟩, hi⟩ := st
    exact ⟨⟨old, k e (by simp) _ he⟩, hi.at fun o x => k it (by simp) o x⟩
  item := by
    intro X hP hw hK hc i pins s σ H E I hf st hg
    subst hP hw hK
    obtain ⟨xs, x, hq, hx⟩ := hg
    obtain ⟨its, rv, p, hz⟩ := I.list hq
    obtain ⟨u, hu, ru⟩ := rv.get hx
    obtain ⟨⟨old, he⟩, hit⟩ := st
    have fe := hf e (by simp)
    have fi := hf it (by simp)
    obtain ⟨oL, hoL, hcL, nL, hdL⟩ := p.isList
    have hai : a ≠ it := fun z => by
      subst z
      obtain ⟨o', ho', hc', _⟩ := hit
      rw [hoL] at ho'
      cases ho'
      rw [hcL] at hc'
      injection hc' with hz'
      exact absurd hz' (by decide)
    have hae : a ≠ e := fun z => by
      subst z
      have he' : s.heap.get? a = _ := he
      rw [hoL] at he'
      cases he'
      injection hcL with hz'
      exact absurd hz' (by decide)
    have D := Draws.list (prog := X.prog) (w := X.w) (A := X.A.in1) (by show X.A.handled = none; exact I.ok.hd hc) it a hai its.toArray
    have hlt : i < its.toArray.size := by
      have := (List.getElem?_eq_some_iff.mp hu).1
      simpa using this
    refine wpAny_pyNext_enum_itemD D he ⟨hit, p.isList⟩ hlt hne (by simp [hne, hae.symm]) fun x' h1 tk hP' ho hs' hT hsz hk => ?_
    have ex : x' = u := by
      have : its.toArray[i]? = some x' := hP'
      rw [List.getElem?_toArray, hu] at this
      exact (Option.some.inj this).symm
    subst ex
    refine ⟨_, rfl, wpAny_letOwnedTupleGo_enum ho fun h2 he2 sb => ?_⟩
    have hlt2 : e < s.heap.objs.size := Heap.lt_size he
    have kk : ∀ b ob, b ≠ e → b ≠ it → s.heap.get? b = some ob → h2.get? b = some ob := fun b ob b1 b2 q => (sb.2 b b1).trans (hk b ob b1 b2 q)
    have hT2 : h2.get? s.heap.objs.size = some { cls := .type "tuple", data := .seq #[.int i tk, x'] } := (sb.2 _ (Nat.ne_of_gt hlt2)).trans hT
    have new : ObjOk X.prog X.w (upd H s.heap.objs.size (.tup [.int (i : Int), x])) h2 s.heap.objs.size (.tup [.int (i : Int), x]) :=
      ⟨by show 2 ≤ sizeLine; decide, [.int i tk, x'], .cons ⟨tk, rfl⟩ (.cons ru .nil), ⟨_, hT2, rfl, _, rfl⟩⟩
    have I2 := I.turned_laid (t' := tk + 1) kk fe fi (Nat.le_refl _) new
    refine ⟨.ref s.heap.objs.size, _, I2, rfl, ⟨_, x, rfl, I.hok.fresh (Nat.le_refl _), rfl, fun ys hy => by rw [I.list_inj hy hq]; exact hx⟩, ⟨⟨_, by simpa using he2⟩, hs'.1.at fun o z => (sb.2 it (Ne.symm hne)).trans z⟩, fun b hb => ?_⟩
    rcases List.mem_cons.mp hb with rfl | hb
    · rw [upd_ne (Nat.ne_of_lt hlt2)]; exact fe.1
    · rw [List.mem_singleton.mp hb]
      obtain ⟨o', ho', _⟩ := hit
      rw [upd_ne (Nat.ne_of_lt (Heap.lt_size ho'))]; exact fi.1
  done := by
    intro X hP hw hK hc i pins s σ H E I hf st hg
    subst hP hw hK
    obtain ⟨xs, hq, hx⟩ := hg
    obtain ⟨its, rv, p, hz⟩ := I.list hq
    obtain ⟨⟨old, he⟩, hit⟩ := st
    have fe := hf e (by simp)
    have fi := hf it (by simp)
    have hl := rv.length
    obtain ⟨oL, hoL, hcL, nL, hdL⟩ := p.isList
    have hai : a ≠ it := fun z => by
      subst z
      obtain ⟨o', ho', hc', _⟩ := hit
      rw [hoL] at ho'
      cases ho'
      rw [hcL] at hc'
      injection hc' with hz'
      exact absurd hz' (by decide)
    have hT : s.TypeIs (.ref e) "enumerate" := ⟨_, he, rfl⟩
    unfold pyNext
    refine wpAny_bind (wpAny_attempt (wpAny_callSpecial?_slot (name := Str.ofString "__next__") hT F.slot_enumerate_next
      (wpAny_call_entry F.slot_enumerate_next hT F.entry_enumerate_next ?_ (F.args_enumerate_next_1 _))))
    show wpAny _ _ (field (.ref e) 2 >>= _) _ _ _
    refine wpAny_bind (wpAny_field he rfl (x := .ref it) rfl ?_)
    refine wpAny_bind (wpAny_nextOf_list_end (by show X.A.handled = none; exact I.ok.hd hc) hit p.isList (by simp; omega) fun h' x he' hx' => ?_)
    obtain ⟨o, ho, hcx⟩ := hx'
    refine wpAny_bind (wpAny_isInstance (T := "StopIteration") (b := true) ⟨o, ho, hcx⟩ isSubtype_stop ?_)
    exact wpAny_pure ⟨rfl, I.turned2 (t' := s.toks) (fun b ob _ b2 q => he' b ob b2 q) fe fi⟩
  self := fun A i s Q E st h => by
    obtain ⟨⟨old, he⟩, _⟩ := st
    exact wpAny_pyIter_enum he h
end L2
namespace L2
open PySem PySem.Spec PyProof.Rows
def ItES (x : Str) : It :=
  ⟨fun i _ => i < x.cps.size, fun i H v H' => ∃ t c, v = .ref t ∧ H t = none ∧ x.cps.toList[i]? = some c ∧ H' = upd H t (.tup [.int (i : Int), .str ⟨#[c]⟩]), fun i _ => i = x.cps.size⟩
theorem draws_str {prog : Program} {w : World} {A : Around} (hh : A.handled = none) (it : Addr) (x : Str) (t : Tok) : Draws prog w A it [it] x.cps.size (fun i v => ∃ c u, x.cps[i]? = some c ∧ v = .str ⟨#[c]⟩ u) (fun i h => h.IsStrIter it (strIterType x) x t i) := by
  unfold strIterType
  split
  · exact Draws.strAscii hh it x t
  · exact Draws.strWide hh it x t
theorem turn_enumS {P : Program} {w : World} {K : PySem.W.Frag} {elts : List Expr} {k0 : Nat} {pos : Pos} (e it : Addr) (x : Str) (t : Tok) (hne : e ≠ it) : Turn P w K (.Tuple elts k0 pos) (ItES x) [e, it] e (fun i h => (∃ old, IsEnum h e it (i : Int) old) ∧ h.IsStrIter it (strIterType x) x t i) where
  mem := by simp
  obj := fun i h st b hb => by
    obtain ⟨⟨old, he⟩, o, ho, c, d⟩ := st
    rcases List.mem_cons.mp hb with rfl | hb
    · exact ⟨_, he, fun v z => by cases z⟩
    · rw [List.mem_singleton.mp hb]
      exact ⟨o, ho, fun v z => by rw [d] at z; cases z⟩
  keep := fun i h h' st k => by
    obtain ⟨⟨old, he⟩, o, ho, r⟩ := st
    exact ⟨⟨old, k e (by simp) _ he⟩, o, k it (by simp) o ho, r⟩
  item := by
    intro X hP hw hK hc i pins s σ H E I hf st hg
    subst hP hw hK
    obtain ⟨⟨old, he⟩, hit⟩ := st
    have fe := hf e (by simp)
    have fi := hf it (by simp)
    have D := draws_str (prog := X.prog) (w := X.w) (A := X.A.in1) (by show X.A.handled = none; exact I.ok.hd hc) it x t
    refine wpAny_pyNext_enum_itemD D he hit hg hne (by simp [hne]) fun x' h1 tk hP' ho hs' hT hsz hk => ?_
    obtain ⟨c, u, hcx, rfl⟩ := hP'
    refine ⟨_, rfl, wpAny_letOwnedTupleGo_enum ho fun h2 he2 sb => ?_⟩
    have hlt2 : e < s.heap.objs.size := Heap.lt_size he
    have kk : ∀ b ob, b ≠ e → b ≠ it → s.heap.get? b = some ob → h2.get? b = some ob := fun b ob b1 b2 q => (sb.2 b b1).trans (hk b ob b1 b2 q)
    have hT2 : h2.get? s.heap.objs.size = some { cls := .type "tuple", data := .seq #[.int i tk, .str ⟨#[c]⟩ u] } := (sb.2 _ (Nat.ne_of_gt hlt2)).trans hT
    have new : ObjOk X.prog X.w (upd H s.heap.objs.size (.tup [.int (i : Int), .str ⟨#[c]⟩])) h2 s.heap.objs.size (.tup [.int (i : Int), .str ⟨#[c]⟩]) :=
      ⟨by show 2 ≤ sizeLine; decide, [.int i tk, .str ⟨#[c]⟩ u], .cons ⟨tk, rfl⟩ (.cons ⟨u, rfl⟩ .nil), ⟨_, hT2, rfl, _, rfl⟩⟩
    have I2 := I.turned_laid (t' := tk + 1) kk fe fi (Nat.le_refl _) new
    have hs2 : h2.IsStrIter it (strIterType x) x t (i + 1) := by
      obtain ⟨o', ho', r⟩ := hs'
      exact ⟨o', (sb.2 it (Ne.symm hne)).trans ho', r⟩
    refine ⟨.ref s.heap.objs.size, _, I2, rfl, ⟨_, c, rfl, I.hok.fresh (Nat.le_refl _), by rw [Array.getElem?_toList]; exact hcx, rfl⟩, ⟨⟨_, by simpa using he2⟩, hs2⟩, fun b hb => ?_⟩
    rcases List.mem_cons.mp hb with rfl | hb
    · rw [upd_ne (Nat.ne_of_lt hlt2)]; exact fe.1
    · rw [List.mem_singleton.mp hb]
      obtain ⟨o', ho', _⟩ := hit
      rw [upd_ne (Nat.ne_of_lt (Heap.lt_size ho'))]; exact fi.1
  done := by
    intro X hP hw hK hc i pins s σ H E I hf st hg
    subst hP hw hK
    obtain ⟨⟨old, he⟩, hit⟩ := st
    have hg : i = x.cps.size := hg
    subst hg
    have fe := hf e (by simp)
    have fi := hf it (by simp)
    have D := draws_str (prog := X.prog) (w := X.w) (A := X.A.in1) (by show X.A.handled = none; exact I.ok.hd hc) it x t
    exact wpAny_pyNext_enum_endD D he hit fun h' hx => ⟨rfl, I.turned2 (t' := s.toks) (fun b ob _ b2 q => hx b ob b2 q) fe fi⟩
  self := fun A i s Q E st h => by
    obtain ⟨⟨old, he⟩, _⟩ := st
    exact wpAny_pyIter_enum he h
section
variable {X : Cx} {p pos pos2 : Pos} {a : Expr} {elts : List Expr} {k0 : Nat} {ta : TE}
def iEnum (K : PySem.W.Frag) (ta : TE) : TI := fun σ H R => ta σ H fun x H1 => match x with
  | .ref d => (∃ xs, SqL K H1 d xs) ∧ R (ItE K d) H1
  | .str z => R (ItES z) H1
  | _ => False
theorem pi_enum (hm : X.mg "enumerate" = none) (ha : PE X a ta) (hg : Gl X "enumerate" := by rfl) (hs : starEach [a] X.env = [(false, eval a X.env)] := by rfl) : PI X (.Tuple elts k0 pos2) (.Call (.Name "enumerate" p) [a] [] pos) (iEnum X.K ta) := by
  intro pins s σ H R I h
  have hA : PA X [a] (tCons ta tNil) := pa_cons ha pa_nil (by rw [hs]; rfl)
  refine Call_ (ld_blt I hg hm bo_enumerate (PyProof.Rows.callWith_type1 (thn (hA pos pins s σ H (fun vs H1 => ∃ x, vs = [x] ∧ (match x with | .ref d => (∃ xs, SqL X.K H1 d xs) ∧ R (ItE X.K d) H1 | .str z => R (ItES z) H1 | _ => False)) I ?_) fun us s1 ⟨vs, H1, I1, r1, x, e1, q1⟩ => ?_) (by rw [hs]; rfl) rfl) (by decide) (by decide))
  · show ta σ H _
    have e : (fun (x : V) (H1 : Hp) => match x with | .ref d => (∃ xs, SqL X.K H1 d xs) ∧ R (ItE X.K d) H1 | .str z => R (ItES z) H1 | _ => False) = fun x H1 => tNil σ H1 fun xs H2 => ∃ y, x :: xs = [y] ∧ (match y with | .ref d => (∃ xs, SqL X.K H2 d xs) ∧ R (ItE X.K d) H2 | .str z => R (ItES z) H2 | _ => False) := by
      funext x H1
      apply propext
      constructor
      · intro q; exact ⟨x, rfl, q⟩
      · rintro ⟨y, e, q⟩
        have : x = y := by injection e
        subst this
        exact q
    rw [← e]
    exact h
  · subst e1
    obtain ⟨u, rfl, ru⟩ := vals1 r1
    cases x with
    | ref d =>
      obtain ⟨⟨xs, hq⟩, q⟩ := q1
      cases ru
      obtain ⟨its, rv, pl, hz⟩ := I1.list hq
      refine call_enumerate_list pl.isList fun h' he hit hsz hk => ?_
      have I2 : Inv X pins σ H1 { s1 with heap := h' } := I1.kept (t' := s1.toks) hk
      refine wpAny_pyIter_enum he ⟨s1.heap.objs.size + 1, [s1.heap.objs.size + 1, s1.heap.objs.size], _, _, H1, rfl, I2, turn_enumL d _ _ (Nat.succ_ne_self _), ⟨⟨_, he⟩, hit⟩, fun b hb => ?_, q⟩
      rcases List.mem_cons.mp hb with rfl | hb
      · exact I1.fpOk (Nat.le_succ _) (I1.hok.fresh (Nat.le_succ _))
      · rw [List.mem_singleton.mp hb]
        exact I1.fpOk (Nat.le_refl _) (I1.hok.fresh (Nat.le_refl _))
    | str z =>
      obtain ⟨t, rfl⟩ := ru
      refine call_enumerate_str fun h' he hit hsz hk => ?_
      have I2 : Inv X pins σ H1 { s1 with heap := h' } := I1.kept (t' := s1.toks) hk
      refine wpAny_pyIter_enum he ⟨s1.heap.objs.size + 1, [s1.heap.objs.size + 1, s1.heap.objs.size], _, _, H1, rfl, I2, turn_enumS _ _ z t (Nat.succ_ne_self _), ⟨⟨_, he⟩, hit⟩, fun b hb => ?_, q1⟩
      rcases List.mem_cons.mp hb with rfl | hb
      · exact I1.fpOk (Nat.le_succ _) (I1.hok.fresh (Nat.le_succ _))
      · rw [List.mem_singleton.mp hb]
        exact I1.fpOk (Nat.le_refl _) (I1.hok.fresh (Nat.le_refl _))
    | _ => exact q1.elim
theorem kenum (K : PySem.W.Frag) (hm : X.mg "enumerate" = none) (ha : PE X a ta) (hg : Gl X "enumerate" := by rfl) (hs : starEach [a] X.env = [(false, eval a X.env)] := by rfl) (hK : X.K = K := by rfl) : PI X (.Tuple elts k0 pos2) (.Call (.Name "enumerate" p) [a] [] pos) (iEnum K ta) := by
  subst hK; exact pi_enum hm ha hg hs
end
end L2
namespace L2
open PySem PySem.Spec PyProof.Rows
section
variable {X : Cx}
def loA (x : V) (vs : List V) (H : Hp) (Q : VK) : Prop := match x, vs with
  | .str a, [] => a.length ≤ sizeLine ∧ (∀ c ∈ a.cps.toList, c < 128) ∧ Q (.str ⟨a.cps.map lo1⟩) H
  | _, _ => False
def iuA (x : V) (vs : List V) (H : Hp) (Q : VK) : Prop := match x, vs with
  | .str a, [] => ∃ c, a = ⟨#[c]⟩ ∧ c < 128 ∧ Q (.bl (decide (65 ≤ c ∧ c ≤ 90))) H
  | _, _ => False
end
end L2
namespace L2
open PySem PySem.Spec PyProof.Rows
abbrev one (c : Nat) : Str := ⟨#[c]⟩
def Ltr (c : Nat) : Prop := 97 ≤ c ∧ c ≤ 122
def Sg (c : Nat) : Prop := c = 46 ∨ c = 35 ∨ (97 ≤ c ∧ c ≤ 122) ∨ (65 ≤ c ∧ c ≤ 90)
theorem Sg.lt {c : Nat} (h : Sg c) : c < 128 := by unfold Sg at h; omega
theorem Ltr.sg {c : Nat} (h : Ltr c) : Sg c := .inr (.inr (.inl h))
def kindV (c : Nat) : V := if c = 46 ∨ c = 35 then .non else .str (one (lo1 c))
def sideV (c : Nat) : V := if c = 46 ∨ c = 35 then .non else .int (if 65 ≤ c ∧ c ≤ 90 then 0 else 1)
theorem abc_list : ("abcdefghijklmnopqrstuvwxyz" : Str).cps.toList = [97, 98, 99, 100, 101, 102, 103, 104, 105, 106, 107, 108, 109, 110, 111, 112, 113, 114, 115, 116, 117, 118, 119, 120, 121, 122] := by decide +kernel
theorem abc_at {i : Int} (h0 : 0 ≤ i) (h1 : i < 26) : atI ("abcdefghijklmnopqrstuvwxyz" : Str).cps.toList i = some (97 + i.toNat) := by
  have e : i = ((i.toNat : Nat) : Int) := by omega
  have hx : ∀ k < 26, ("abcdefghijklmnopqrstuvwxyz" : Str).cps.toList[k]? = some (97 + k) := by rw [abc_list]; decide
  have q := atI_nat (hx i.toNat (by omega))
  rw [← e] at q
  exact q
theorem dh_at (b : Bool) : atI (".#" : Str).cps.toList (if b = true then 1 else 0) = some (if b = true then 35 else 46) := by
  have e : (".#" : Str).cps.toList = [46, 35] := by decide +kernel
  rw [e]
  cases b <;> decide
theorem str_dot : (".": Str) = one 46 := by decide +kernel
theorem str_hash : ("#": Str) = one 35 := by decide +kernel
section
variable {K : PySem.W.Frag} {σ rest : St} {H : Hp} {te ta tb tl : TE} {tt : TT} {R : Bool → Hp → Prop} {Q : VK} {c : Nat} {z : Str} {src : List (Option Nat)}
theorem ev_eqb {a b : Bool} (ha : Ev ta σ H (.bl a)) (hb : Ev tb σ H (.bl b)) : Ev (cCmp K .Eq ta tb) σ H (.bl (decide (a = b))) := fun Q q => ha _ (hb _ q)
theorem ev_up (ha : Ev ta σ H (.str (one c))) (hc : Ltr c) : Ev (cSM0 upA ta) σ H (.str (one (c - 32))) := fun Q q => ha _ (by
  show upA (.str (one c)) [] H Q
  rw [r_up]
  refine ⟨by show 1 ≤ sizeLine; decide, fun d hd => ?_, ?_⟩
  · have e : d = c := by simpa [one] using hd
    have := hc.2
    omega
  have e : (⟨(one c).cps.map up1⟩ : Str) = one (c - 32) := by
    show (⟨#[c].map up1⟩ : Str) = _
    have : up1 c = c - 32 := by unfold up1; exact if_pos hc
    simp [one, this]
  rw [e]
  exact q)
theorem ev_sl {lo hi : Option Int} {tl' th : TO} (ha : Ev ta σ H (.str z)) (hl : ∀ Q : Option Int → Hp → Prop, Q lo H → tl' σ H Q) (hh : ∀ Q : Option Int → Hp → Prop, Q hi H → th σ H Q) (hz : z.length ≤ sizeLine) : Ev (cSl K ta tl' th) σ H (.str (cutS z lo hi)) := fun Q q => ha _ (hl _ (hh _ ⟨hz, q⟩))
theorem po_ev {i : Int} (h : Ev te σ H (.int i)) : ∀ Q : Option Int → Hp → Prop, Q (some i) H → cPart te σ H Q := fun Q q => h _ q
def enL (l : List Nat) (p : Nat → Nat → Bool) (f : Nat → Nat → V) (n : Nat) : List V := ((List.range n).filter fun i => p i (l.getD i 0)).map fun i => f i (l.getD i 0)
end
theorem join_ones (cs : List Nat) : Txt.join ("" : Str) (cs.map one) = ⟨cs.toArray⟩ := by
  have key : ∀ (r : List Nat) (acc : Array Nat), (r.map one).foldl (fun acc p => acc ++ ("" : Str).cps ++ p.cps) acc = acc ++ r.toArray := by
    intro r
    induction r with
    | nil => intro acc; simp
    | cons a r ih =>
      intro acc
      rw [List.map_cons, List.foldl_cons, ih]
      have e : ("" : Str).cps = #[] := by decide +kernel
      rw [e]
      apply Array.toList_inj.mp
      simp [one]
  unfold Txt.join Builtin.Str.glued
  cases cs with
  | nil => rfl
  | cons a r =>
    show (⟨((r.map one).foldl (fun acc p => acc ++ ("" : Str).cps ++ p.cps) (one a).cps)⟩ : Str) = _
    rw [key]
    apply str_ext
    simp [one]
def emptyT (wi hi : Int) (hs : List Int) : Str := ⟨((List.range (wi * hi).toNat).map fun (s : Nat) => if (s : Int) ∈ hs then 35 else 46).toArray⟩
theorem emptyT_len {wi hi : Int} {hs : List Int} : (emptyT wi hi hs).length = (wi * hi).toNat := by
  unfold emptyT Str.length
  simp
theorem emptyT_perm {wi hi : Int} {hs hs' : List Int} (h : hs'.Perm hs) : emptyT wi hi hs' = emptyT wi hi hs := by
  unfold emptyT
  congr 2
  refine List.map_congr_left fun s _ => ?_
  by_cases e : (s : Int) ∈ hs
  · rw [if_pos e, if_pos (h.mem_iff.mpr e)]
  · rw [if_neg e, if_neg (fun z => e (h.mem_iff.mp z))]
def putT (row : Str) (s : Int) (sg : Str) : Str := cutS row none (some s) ++ sg ++ cutS row (some (s + 1)) none
def sqsOf (row : Str) (sd : Int) : List Int := ((List.range row.length).filter fun i => decide (sideV (row.cps.toList.getD i 0) = .int sd)).map fun (i : Nat) => (i : Int)
def spSign : Sp := fun vs H Q _ => ∃ (c : Nat) (sd : Int), vs = [.str (one c), .int sd] ∧ Ltr c ∧ Q (.str (one (if sd = 0 then c - 32 else c))) H
def spKind : Sp := fun vs H Q _ => ∃ c : Nat, vs = [.str (one c)] ∧ c < 128 ∧ ∀ H', Same H H' → Q (kindV c) H'
def spSideOf : Sp := fun vs H Q _ => ∃ c : Nat, vs = [.str (one c)] ∧ c < 128 ∧ ∀ H', Same H H' → Q (sideV c) H'
def spHas (K : PySem.W.Frag) (C : Addr) : Sp := fun vs H Q _ => ∃ (p : Addr) (wi hi : Int) (hs : List Int) (s : Int), vs = [.ref p, .int s] ∧ BrdAt K C H p wi hi hs ∧ Q (.bl (decide (0 ≤ s ∧ s < wi * hi ∧ ¬ s ∈ hs))) H
def spEmpty (K : PySem.W.Frag) (C : Addr) : Sp := fun vs H Q _ => ∃ (p : Addr) (wi hi : Int) (hs : List Int), vs = [.ref p] ∧ BrdAt K C H p wi hi hs ∧ ∀ H', Same H H' → Q (.str (emptyT wi hi hs)) H'
def spPut : Sp := fun vs H Q _ => ∃ (row : Str) (s : Int) (c : Nat), vs = [.str row, .int s, .str (one c)] ∧ 0 ≤ s ∧ row.length ≤ 100 ∧ Q (.str (putT row s (one c))) H
def spSquares : Sp := fun vs H Q _ => ∃ (row : Str) (sd : Int), vs = [.str row, .int sd] ∧ row.length ≤ 100 ∧ (∀ c ∈ row.cps.toList, c < 128) ∧ ∀ (q : Addr) (H' : Hp), H q = none → H' q = some (.lst ((sqsOf row sd).map V.int)) → Same H H' → Q (.ref q) H'
section
variable {K : PySem.W.Frag} {σ : St} {H : Hp} {tb : TE} {t : TA} {op : CmpOp} {R : Bool → Hp → Prop} {vs : List V} {sp : Sp}
theorem ev_dot : Ev (tC (.str ".")) σ H (.str (one 46)) := by rw [← str_dot]; exact ev_c
theorem ev_hash : Ev (tC (.str "#")) σ H (.str (one 35)) := by rw [← str_hash]; exact ev_c
end
theorem sm1_k {σ : St} {H : Hp} {Q : VK} {to te : TE} {z : Str} {r : V → List V → Hp → VK → Prop} (ho : Ev to σ H (.str z)) (q : te σ H fun x H2 => r (.str z) [x] H2 Q) : cSM r to (tCons te tNil) σ H Q := ho _ q
structure CP1 (P : Program) (w : World) (K : PySem.W.Frag) (mg : Str → Option Value) (base : Heap) : Prop where
  side_of : Cal P w K mg base "side_of" ["sign"] 1 spSideOf
structure CP2 (P : Program) (w : World) (K : PySem.W.Frag) (mg : Str → Option Value) (base : Heap) (cB : Addr) : Prop where
  Board_has : MCal P w K mg base cB "has" ["self", "square"] 3 (spHas K cB)
end L2
namespace L2
open PySem PySem.Spec PyProof.Rows
section
variable {K : PySem.W.Frag} {σ rest : St} {H : Hp} {te to ta tb tl : TE} {t : TA} {tt u : TT} {src : List (Option Nat)} {Q : VK} {R : Bool → Hp → Prop} {D : Ends} {g : TG} {tB : TS} {v x y : V} {vs : List V} {sp : Sp}
theorem ev_intb {b : Bool} (h : Ev te σ H (.bl b)) : Ev (cB intA (tCons te tNil)) σ H (.int (if b then 1 else 0)) := fun Q q => h _ q
theorem comp_evRH {ta : TA} {n : Int} (hl : ∀ Q : List V → Hp → Prop, (∀ H', Same H H' → Q [.int n] H') → ta σ H Q) (h0 : 0 ≤ n) (hz : n.toNat ≤ sizeLine) (h1 : n < 2 ^ 62) (hs : subSt src σ = none :: rest) (p : V → Bool) (f : V → V)
    (ht : ∀ (i : Nat) H', Same H H' → i < n.toNat → Tv tt (some (.int (0 + (i : Int))) :: rest) H' (p (.int (0 + (i : Int))))) (he : ∀ (i : Nat) H', Same H H' → i < n.toNat → p (.int (0 + (i : Int))) = true → Ev te (some (.int (0 + (i : Int))) :: rest) H' (f (.int (0 + (i : Int)))))
    (q : ∀ H' d', Same H H' → H' d' = none → Q (.ref d') (upd H' d' (.lst ((((List.range n.toNat).map fun (i : Nat) => V.int (0 + (i : Int))).filter p).map f)))) : tComp (iRng1 ta) (gName 0) tt te src σ H Q := by
  have hin : ∀ x ∈ (List.range n.toNat).map fun (i : Nat) => V.int (0 + (i : Int)), ∃ i : Nat, i < n.toNat ∧ x = .int (0 + (i : Int)) := fun x hx => by
    obtain ⟨i, hi, rfl⟩ := List.mem_map.mp hx
    exact ⟨i, List.mem_range.mp hi, rfl⟩
  have hlen : ((List.range n.toNat).map fun (i : Nat) => V.int (0 + (i : Int))).length = n.toNat := by simp
  refine hl _ fun H' s => ⟨n, rfl, by omega, h1, comp_evI (xs := (List.range n.toNat).map fun (i : Nat) => V.int (0 + (i : Int))) (by rw [hlen]; exact hz) hs p f (fun i hi => by rw [hlen] at hi; exact hi) (by rw [hlen]; exact Nat.le_refl _) (fun i v H2 hi y => ⟨y.1, ?_⟩) (fun x hx => ?_) (fun x hx hp => ?_) (fun d' hd' => q H' d' s hd')⟩
  · rw [hlen] at hi
    rw [List.getElem?_map, List.getElem?_range hi, y.2]
    rfl
  · obtain ⟨i, hi, rfl⟩ := hin x hx
    exact ht i H' s hi
  · obtain ⟨i, hi, rfl⟩ := hin x hx
    exact he i H' s hi hp
theorem for_rng1H {ta : TA} (n : Int) (hta : ∀ Q : List V → Hp → Prop, (∀ H', Same H H' → Q [.int n] H') → ta σ H Q) (h0 : -(2 ^ 62) ≤ n) (h1 : n < 2 ^ 62) (Pv : Nat → St → Hp → Prop) (hp0 : ∀ H', Same H H' → Pv 0 σ H')
    (hs : ∀ i σ H, i < n.toNat → Pv i σ H → g (.int (0 + i)) σ H fun σ2 H2 => tB { D with nx := Pv (i + 1), ct := Pv (i + 1), bk := D.nx } σ2 H2) (hd : ∀ σ H, Pv n.toNat σ H → D.nx σ H) : tFor (iRng1 ta) g tB D σ H :=
  hta _ fun H' s => ⟨n, rfl, h0, h1, for_range Pv (hp0 H' s) hs hd⟩
theorem rix_k {i : Int} {Q : List V → Hp → Prop} (h : Av t σ H vs) (hz : vs.length ≤ 1000) (hi : ∀ H', Ev te σ H' (.int i)) (e : atI vs i = some v) (q : ∀ H', Same H H' → Q [v] H') : tCons (cIx K (tLst t) te) tNil σ H Q := lix_k (K := K) (Q := fun x H1 => Q [x] H1) h hz hi e q
theorem tup3_k {tc : TE} {z : V} (ha : Ev ta σ H x) (hb : Ev tb σ H y) (hc : Ev tc σ H z) (q : ∀ p, H p = none → Q (.ref p) (upd H p (.tup [x, y, z]))) : tTup (tCons ta (tCons tb (tCons tc tNil))) σ H Q := ha _ (hb _ (hc _ ⟨by show 3 ≤ sizeLine; decide, q⟩))
theorem tor_k (h : Tv tt σ H false) (q : u σ H R) : tOr tt u σ H R := h _ (iteF q)
theorem for_enLP (P0 : Addr → Hp → Prop) (htl : ∀ Q : VK, (∀ d H', P0 d H' → Q (.ref d) H') → tl σ H Q)
    (h : ∀ d H', P0 d H' → ∃ xs, SqL K H' d xs ∧ ∃ Pv : Nat → St → Hp → Prop, Pv 0 σ H' ∧ (∀ i σ' H', Pv i σ' H' → SqL K H' d xs) ∧
      (∀ (i : Nat) x σ' H' t, xs[i]? = some x → Pv i σ' H' → H' t = none → g (.ref t) σ' (upd H' t (.tup [.int (i : Int), x])) fun σ2 H2 => tB { D with nx := Pv (i + 1), ct := Pv (i + 1), bk := D.nx } σ2 H2) ∧ (∀ σ' H', Pv xs.length σ' H' → D.nx σ' H')) : tFor (iEnum K tl) g tB D σ H := by
  refine htl _ fun d H1 p1 => ?_
  obtain ⟨xs, hq, Pv, hp0, hl, hs, hd⟩ := h d H1 p1
  refine ⟨⟨xs, hq⟩, fun i m σ' H' => m = xs.length - i ∧ i ≤ xs.length ∧ Pv i σ' H', ⟨_, rfl, Nat.zero_le _, hp0⟩, ?_⟩
  rintro i m σ' H' ⟨rfl, hi, pv⟩
  have hS := hl i σ' H' pv
  by_cases hlt : i < xs.length
  · refine .inr ⟨⟨xs, xs[i], hS, List.getElem?_eq_getElem hlt⟩, Pv (i + 1), fun σ2 H2 p2 => ⟨xs.length - (i + 1), by omega, rfl, hlt, p2⟩, ?_⟩
    rintro x H2 ⟨t, w, rfl, ht, rfl, hx⟩
    exact hs i w σ' H' t (hx xs hS) pv ht
  · have e : i = xs.length := by omega
    subst e
    exact .inl ⟨⟨xs, hS, Nat.le_refl _⟩, hd σ' H' pv⟩
theorem sll_k {d : Addr} {xs : List V} {lo hi : Option Int} {tl' th : TO} (ha : Ev ta σ H (.ref d)) (hl : ∀ Q : Option Int → Hp → Prop, Q lo H → tl' σ H Q) (hh : ∀ Q : Option Int → Hp → Prop, Q hi H → th σ H Q) (hx : SqL K H d xs) (q : ∀ p, H p = none → Q (.ref p) (upd H p (.lst (cutV xs lo hi)))) : cSl K ta tl' th σ H Q := ha _ (hl _ (hh _ ⟨xs, hx, q⟩))
theorem pickN {ns : List Int} {i : Int} (h0 : 0 ≤ i) (h1 : i < ns.length) : ∃ n : Int, atI (ns.map V.int) i = some (.int n) ∧ n ∈ ns := by
  have hlt : i.toNat < ns.length := by omega
  have e : (ns.map V.int)[i.toNat]? = some (.int ns[i.toNat]) := by rw [List.getElem?_map, List.getElem?_eq_getElem hlt]; rfl
  have q := atI_nat e
  have ei : ((i.toNat : Nat) : Int) = i := by omega
  rw [ei] at q
  exact ⟨_, q, List.getElem_mem hlt⟩
theorem gpair {i j : Nat} {d : Addr} {a b : V} {R : St → Hp → Prop} (h : H d = some (.tup [a, b])) (q : R ((σ.set i (some a)).set j (some b)) H) : gTup K 2 (gCons (gName i) (gCons (gName j) gNil)) (.ref d) σ H R := ⟨d, _, rfl, SqT.of h, rfl, _, _, rfl, _, _, rfl, rfl, q⟩
theorem gtrip {i j l : Nat} {d : Addr} {a b c : V} {R : St → Hp → Prop} (h : H d = some (.tup [a, b, c])) (q : R (((σ.set i (some a)).set j (some b)).set l (some c)) H) : gTup K 3 (gCons (gName i) (gCons (gName j) (gCons (gName l) gNil))) (.ref d) σ H R := ⟨d, _, rfl, SqT.of h, rfl, _, _, rfl, _, _, rfl, _, _, rfl, rfl, q⟩
theorem asgc_k (h : Av t σ H vs) (q : sp vs H (fun x H1 => g x σ H1 D.nx) E0) : tAsg (cCall sp t) g D σ H := h _ q
theorem cutV_mem {xs : List V} {lo hi : Option Int} {v : V} (h : v ∈ cutV xs lo hi) : v ∈ xs := List.mem_of_mem_drop (List.mem_of_mem_take h)
end
theorem pigeon : ∀ (n : Nat) (l : List Int), l.length < n → ∃ s : Nat, s < n ∧ ¬ ((s : Int) ∈ l)
  | 0, l, h => by omega
  | n + 1, l, h => by
    by_cases m : ((n : Nat) : Int) ∈ l
    · have hl := List.length_erase_of_mem m
      have hp := List.length_pos_of_mem m
      obtain ⟨s, h1, h2⟩ := pigeon n (l.erase ((n : Nat) : Int)) (by omega)
      refine ⟨s, by omega, fun z => h2 ?_⟩
      exact (List.mem_erase_of_ne (by omega)).mpr z
    · exact ⟨n, by omega, m⟩
def freeL (wi hi : Int) (hs : List Int) : List Int := ((List.range (wi * hi).toNat).map fun (i : Nat) => (i : Int)).filter fun i => !decide (i ∈ hs)
theorem freeL_in {wi hi : Int} {hs : List Int} {s : Int} (h : s ∈ freeL wi hi hs) : 0 ≤ s ∧ s < wi * hi ∧ ¬ s ∈ hs := by
  unfold freeL at h
  rw [List.mem_filter] at h
  obtain ⟨h1, h2⟩ := h
  obtain ⟨i, hi, rfl⟩ := List.mem_map.mp h1
  have hi := List.mem_range.mp hi
  refine ⟨by omega, by omega, ?_⟩
  intro z
  rw [decide_eq_true z] at h2
  cases h2
theorem freeL_pos {wi hi : Int} {hs : List Int} (h : (hs.length : Int) < wi * hi) : 0 < (freeL wi hi hs).length := by
  obtain ⟨s, h1, h2⟩ := pigeon (wi * hi).toNat hs (by omega)
  refine List.length_pos_of_mem (a := (s : Int)) ?_
  unfold freeL
  rw [List.mem_filter]
  refine ⟨List.mem_map.mpr ⟨s, List.mem_range.mpr h1, rfl⟩, ?_⟩
  rw [decide_eq_false h2]
  rfl
def freeP (hs : List Int) : V → Bool
  | .int i => !decide (i ∈ hs)
  | _ => false
theorem freeL_comp {wi hi : Int} {hs : List Int} : (((List.range (wi * hi).toNat).map fun (i : Nat) => V.int (0 + (i : Int))).filter (freeP hs)).map (fun v => v) = (freeL wi hi hs).map V.int := by
  unfold freeL
  rw [List.map_id', List.filter_map, List.filter_map, List.map_map]
  have e : (freeP hs ∘ fun (i : Nat) => V.int (0 + (i : Int))) = ((fun i => !decide (i ∈ hs)) ∘ fun (i : Nat) => (i : Int)) := by
    funext i
    show (!decide (0 + (i : Int) ∈ hs)) = !decide ((i : Int) ∈ hs)
    rw [Int.zero_add]
  rw [e]
  refine List.map_congr_left fun i _ => ?_
  show V.int (0 + (i : Int)) = V.int (i : Int)
  rw [Int.zero_add]
def cellAt (ns : List Int) (k : Int) : Int := ns.getD k.toNat 0
def mixed (c k : Int) : Int := (c + 7919 * k + 3) * 48271 % 2147483647
def kindsL (b s : Int) (n : Nat) : List Nat := (List.range n).map fun (k : Nat) => 97 + ((b + s * (k : Int)) % 26).toNat
theorem kindsL_ltr {b s : Int} {n : Nat} : ∀ c ∈ kindsL b s n, Ltr c := by
  intro c hc
  obtain ⟨k, _, rfl⟩ := List.mem_map.mp hc
  unfold Ltr
  omega
theorem kindsL_nd {b s : Int} {n : Nat} (hn : n ≤ 6) (hs : s ∈ ([1, 3, 5, 7, 9, 11] : List Int)) : (kindsL b s n).Nodup := by
  unfold kindsL
  rw [List.nodup_iff_pairwise_ne, List.pairwise_map]
  refine List.Pairwise.imp_of_mem ?_ (List.nodup_iff_pairwise_ne.mp List.nodup_range)
  intro i j hi hj ne e
  have hi := List.mem_range.mp hi
  have hj := List.mem_range.mp hj
  apply ne
  simp only [List.mem_cons, List.not_mem_nil, or_false] at hs
  rcases hs with rfl | rfl | rfl | rfl | rfl | rfl
  all_goals omega
def strV (c : Nat) : V := .str (one c)
def spCellAt (K : PySem.W.Frag) : Sp := fun vs H Q _ => ∃ (a : Addr) (ns : List Int) (k : Int), vs = [.ref a, .int k] ∧ SqL K H a (ns.map V.int) ∧ 0 ≤ k ∧ Q (.int (cellAt ns k)) H
def spMixed : Sp := fun vs H Q _ => ∃ c k : Int, vs = [.int c, .int k] ∧ Q (.int (mixed c k)) H
def spLBoard (K : PySem.W.Frag) : Sp := fun vs H Q _ => ∃ (a : Addr) (ns : List Int), vs = [.ref a] ∧ SqL K H a (ns.map V.int) ∧ ∀ (t q : Addr) (wi hi : Int) (hs : List Int) (H' : Hp), 1 ≤ wi → wi ≤ 8 → 1 ≤ hi → hi ≤ 8 → H' t = some (.tup [.int wi, .int hi, .ref q]) → H' q = some (.lst (hs.map V.int)) → (∀ h ∈ hs, 0 ≤ h ∧ h < wi * hi) → hs.Nodup → (hs.length : Int) < wi * hi → hs.length ≤ 2 → H q = none → H t = none → Same H H' → Q (.ref t) H'
def spLKinds : Sp := fun vs H Q _ => ∃ c : Int, vs = [.int c] ∧ ∀ (q : Addr) (ks : List Nat) (H' : Hp), H q = none → H' q = some (.lst (ks.map strV)) → (∀ k ∈ ks, Ltr k) → ks.Nodup → 1 ≤ ks.length → ks.length ≤ 6 → Same H H' → Q (.ref q) H'
def spWhL : Sp := fun vs H Q _ => ∃ n : Int, vs = [.int n] ∧ Q (.bl true) H
structure LG1 (P : Program) (w : World) (K : PySem.W.Frag) (mg : Str → Option Value) (base : Heap) : Prop where
  _law_cell_at : Cal P w K mg base "_law_cell_at" ["_law_script", "_law_k"] 1 (spCellAt K)
  _law_mixed : Cal P w K mg base "_law_mixed" ["_law_cell", "_law_k"] 1 spMixed
end L2
namespace L2
open PySem PySem.Spec PyProof.Rows
section
variable {κ : Type} [DecidableEq κ]
def ddp (l : List κ) (x : κ) : List κ := if x ∈ l then l else l ++ [x]
def mets (val : Nat → κ) : Nat → List κ
  | 0 => []
  | i + 1 => ddp (mets val i) (val i)
theorem mets_le (val : Nat → κ) : ∀ i, (mets val i).length ≤ i
  | 0 => Nat.le_refl 0
  | i + 1 => by
    have ih := mets_le val i
    show (ddp (mets val i) (val i)).length ≤ i + 1
    unfold ddp
    by_cases h : val i ∈ mets val i
    · rw [if_pos h]; omega
    · rw [if_neg h, List.length_append]; show _ + 1 ≤ _; omega
theorem mem_mets (val : Nat → κ) (x : κ) : ∀ i, x ∈ mets val i ↔ x ∈ (List.range i).map val
  | 0 => by simp [mets]
  | i + 1 => by
    have ih := mem_mets val x i
    show x ∈ ddp (mets val i) (val i) ↔ _
    rw [List.range_succ, List.map_append, List.mem_append, ← ih]
    unfold ddp
    by_cases h : val i ∈ mets val i
    · rw [if_pos h]
      constructor
      · exact fun z => .inl z
      · rintro (z | z)
        · exact z
        · have : x = val i := by simpa using z
          rw [this]; exact h
    · rw [if_neg h, List.mem_append]
      simp
theorem mets_nodup (val : Nat → κ) : ∀ i, (mets val i).length = i ↔ ((List.range i).map val).Nodup
  | 0 => by simp [mets]
  | i + 1 => by
    have ih := mets_nodup val i
    have hle := mets_le val i
    have hm := mem_mets val (val i) i
    show (ddp (mets val i) (val i)).length = i + 1 ↔ _
    rw [List.range_succ, List.map_append, List.nodup_append]
    unfold ddp
    by_cases h : val i ∈ mets val i
    · rw [if_pos h]
      constructor
      · intro z; omega
      · intro z
        exact absurd rfl (z.2.2 (val i) (hm.mp h) (val i) (by simp))
    · rw [if_neg h, List.length_append]
      constructor
      · intro z
        have z : (mets val i).length + 1 = i + 1 := z
        refine ⟨ih.mp (by omega), by simp, fun a ha b hb e => h (hm.mpr ?_)⟩
        have : b = val i := by simpa using hb
        rw [← this, ← e]; exact ha
      · intro z
        rw [ih.mpr z.1]
        rfl
end
section
variable {prog : Program} {w : World} {A : Around} {R : Result → Shared → Prop} {I : Addr} {fp wr : List Addr} {G : Array GenState → Array GenState → Prop} {n : Nat} {Pt : Nat → Value → Prop} {St : Nat → Shared → Prop} {κ : Type} [DecidableEq κ] {knd : KeyKind prog w κ}
theorem set_grow (W : WalksS prog w A.in1 I fp wr G n Pt St) (D : Addr) (hD : D ∉ fp) (val : Nat → κ) (hv : ∀ i v, Pt i v → knd.is (val i) v = true ∧ v.scannable = true) (hb : n + 1 < scanBound) :
    ∀ (k i : Nat) (s : Shared), n - i = k → i ≤ n → St i s → s.heap.SetOf knd D (fun x => decide (x ∈ mets val i)) (mets val i).length →
      (∀ s2, Moved (D :: wr) G s s2 → s2.heap.SetOf knd D (fun x => decide (x ∈ mets val n)) (mets val n).length → R (.ok (.ret .none)) s2) → codeAny (model prog w) A (.builtin "set.update.loop" ⟨[.ref D, .ref I], []⟩) R s := by
  have nW : D ∉ wr := fun z => hD (W.sub _ z)
  have up : ∀ b ∈ wr, b ∈ D :: wr := fun b z => List.mem_cons_of_mem _ z
  have mv : ∀ {s s2 : Shared} {S : κ → Bool} {m : Nat}, Moved wr G s s2 → s.heap.SetOf knd D S m → s2.heap.SetOf knd D S m := fun {s s2 S m} hm ⟨o, es, ep, t, ho, r⟩ => ⟨o, es, ep, t, hm.heap D _ nW ho, r⟩
  intro k
  induction k with
  | zero =>
    intro i s e1 e2 st hS hR
    have e3 : i = n := by omega
    subst e3
    refine codeAny_builtin F.entry_set_update_loop ?_
    rw [Around.under_plainId F.plain_set_update_loop _]
    show wpAny _ A.in1 (pyNext (.ref I) >>= _) _ _ s
    refine wpAny_bind (W.done s _ _ st fun s2 hm => ?_)
    show wpAny _ A.in1 (ret Value.none) _ _ s2
    exact wpAny_pure (hR s2 (hm.mono up) (mv hm hS))
  | succ k ih =>
    intro i s e1 e2 st hS hR
    have e3 : i < n := by omega
    refine codeAny_builtin F.entry_set_update_loop ?_
    rw [Around.under_plainId F.plain_set_update_loop _]
    show wpAny _ A.in1 (pyNext (.ref I) >>= _) _ _ s
    refine wpAny_bind (W.item i s _ _ e3 st fun v s2 hp st2 hm => ?_)
    obtain ⟨kv, sv⟩ := hv i v hp
    have hS2 := mv hm hS
    show wpAny _ A.in1 (holding [v] (setAdd D v) >>= _) _ _ s2
    refine wpAny_bind (wpAny_holding ?_)
    unfold setAdd
    refine wpAny_holding (wpAny_bind (knd.pyHash (k := val i) kv ?_))
    have room : (mets val i).length + 1 < scanBound := by have := mets_le val i; omega
    refine wpAny_setAddHashed_of (knd := knd) (s := { s2 with toks := s2.toks + 1 }) kv sv hS2 room fun h2 sb hS3 => ?_
    have hS4 : h2.SetOf knd D (fun x => decide (x ∈ mets val (i + 1))) (mets val (i + 1)).length := by
      refine SetOf_congr hS3 (fun x => ?_) ?_
      · show (decide (x ∈ mets val i) || decide (x = val i)) = decide (x ∈ ddp (mets val i) (val i))
        unfold ddp
        by_cases m : val i ∈ mets val i
        · rw [if_pos m]
          by_cases e : x = val i
          · subst e; rw [decide_eq_true m]; simp
          · rw [decide_eq_false e, Bool.or_false]
        · rw [if_neg m, Bool.eq_iff_iff]
          simp
      · show (if decide (val i ∈ mets val i) = true then _ else _) = (ddp (mets val i) (val i)).length
        unfold ddp
        by_cases m : val i ∈ mets val i
        · rw [if_pos (decide_eq_true m), if_pos m]
        · rw [if_neg (by rw [decide_eq_false m]; decide), if_neg m, List.length_append]; rfl
    refine wpAny_pure ⟨plainId_quiet F.plain_set_update_loop _, ih (i + 1) _ (by omega) e3 (W.frame _ s2 _ _ st2 (Nat.le_succ _) fun b hb o e => ?_) hS4 fun s3 hm3 hS5 => ?_⟩
    · exact (sb.2 b (fun z : b = D => hD (z ▸ hb))).trans e
    · refine hR s3 (Moved.trans W.gtrans ((hm.mono up).then_heap (Nat.le_succ _) fun b o hb e => ?_) hm3) hS5
      exact (sb.2 b (fun z : b = D => hb (by rw [z]; exact List.mem_cons_self))).trans e
end
section
variable {prog : Program} {w : World} {A : Around} {E : Value → Shared → Prop} {s : Shared} {κ : Type} [DecidableEq κ] {knd : KeyKind prog w κ}
abbrev setNew (led : Bool) : Obj := { cls := .type "set", dict := none, data := .set #[] 0 (.fresh 0 0 led) }
theorem set_made {l : Addr} {its : Array Value} {Q : Value → Shared → Prop} (val : Nat → κ) (hh : A.handled = none) (hl : s.heap.IsList l its) (hv : ∀ i v, its[i]? = some v → knd.is (val i) v = true ∧ v.scannable = true) (hb : its.size + 1 < scanBound)
    (k : ∀ (h2 : Heap) (tk : Nat), h2.SetOf knd s.heap.objs.size (fun x => decide (x ∈ mets val its.size)) (mets val its.size).length → (∀ b o, b < s.heap.objs.size → s.heap.get? b = some o → h2.get? b = some o) → Q (.ref s.heap.objs.size) { s with heap := h2, toks := tk }) :
    wpAny (model prog w) A (call (.type "set") [.ref l]) Q E s := by
  obtain ⟨c0, tl0, hmro⟩ := F.called_set.mro
  have hmade := F.called_set.made
  have hsub := F.called_set.sub
  have n1 := F.called_set.notType
  have n2 := F.called_set.canCreate
  have n3 := F.typeCall_set_1 (.ref l)
  refine wpAny_call (codeAny_of_tree ?_)
  show wpAny _ _ (callAny (.type "set") _) _ _ _
  refine wpAny_pure ⟨Code.quiet_builtin _ (by decide +kernel), codeAny_builtin F.entry_type_call ?_⟩
  rw [Around.under_plain (weight_type_call_type "set" [.ref l] []) rfl]
  repeat (any_goals (first | assumption | wp_step))
  refine codeAny_mono (code_set_new_1 (.ref l) (E := E) (Q₁ := fun o s1 => ∃ led : Bool, o = .ref s.heap.objs.size ∧ s1 = { s with heap := s.heap.push (setNew led) }) fun led => ⟨led, rfl, rfl⟩) fun r s1 hr => ?_
  cases r with
  | error e => exact hr
  | ok fl =>
    cases fl with
    | ret ob =>
      obtain ⟨led, rfl, rfl⟩ := hr
      have g0 : (s.heap.push (setNew led)).get? s.heap.objs.size = some (setNew led) := Heap.get?_push_size _ rfl
      have ty : Shared.TypeIs { s with heap := s.heap.push (setNew led) } (.ref s.heap.objs.size) "set" := ⟨_, g0, rfl⟩
      have m1 := F.called_set.init.lookup
      have m2 := F.called_set.init.bind (.ref s.heap.objs.size)
      repeat (any_goals (first | assumption | wp_step))
      refine codeAny_mono (codeAny_call_builtin (R := wants (fun r s2 => r = .none ∧ ∃ h2 tk, s2 = { s with heap := h2, toks := tk } ∧ h2.SetOf knd s.heap.objs.size (fun x => decide (x ∈ mets val its.size)) (mets val its.size).length ∧
          (∀ b o, b < s.heap.objs.size → s.heap.get? b = some o → h2.get? b = some o)) E) F.called_set.init.plain F.entry_set_init (check_set_init_1 ty ?_)) fun r2 s2 hr2 => ?_
      · obtain ⟨⟨oc, od, oda, osl⟩, ho, hc, nl, hd⟩ := hl
        simp only at hc hd
        subst hc; subst hd
        have hol : (s.heap.push (setNew led)).get? l = some { cls := .type "list", dict := od, data := .seq its nl, slots := osl } := Heap.get?_push_of_some _ ho
        have b1 := F.sub_list_set
        have b2 := F.sub_list_frozenset
        have b3 : (Value.type "list" == Value.type "dict") = false := by decide
        have hl1 : (s.heap.push (setNew led)).IsList l its := ⟨_, hol, rfl, nl, rfl⟩
        unfold Builtin.«set.__init__» noKeywords Builtin.Frozenset.updateFrom
        generalize hPI : pyIter = PI
        wp_walk
        subst hPI
        refine wpAny_pyIter_list hl1 (wpAny_bind (wpAny_runValue ?_))
        have hlt : l < s.heap.objs.size := Heap.lt_size ho
        have h3 : A.in1.in1.in1.handled = none := by simp [hh]
        have sz : (s.heap.push (setNew led)).objs.size = s.heap.objs.size + 1 := Heap.size_push ..
        have ne1 : l ≠ (s.heap.push (setNew led)).objs.size := by rw [sz]; exact Nat.ne_of_lt (Nat.lt_succ_of_lt hlt)
        have ne2 : s.heap.objs.size ∉ [(s.heap.push (setNew led)).objs.size, l] := by
          rw [sz]
          intro z
          rcases List.mem_cons.mp z with z | z
          · exact Nat.succ_ne_self _ z.symm
          · exact Nat.ne_of_gt hlt (List.mem_singleton.mp z)
        refine set_grow (knd := knd) ((Walks.list h3 _ l ne1 its).toS) s.heap.objs.size ne2 val hv hb (its.size - 0) 0 _ (by omega) (Nat.zero_le _) ⟨⟨_, Heap.get?_push_size _ rfl, rfl, rfl⟩, (hl1.push _)⟩ ?_ (fun s3 hm hS3 => ?_)
        · refine SetOf_congr ((setObjOf_fresh (knd := knd) led).setOf (Heap.get?_push_of_some _ g0) (by unfold scanBound; omega)) (fun x => ?_) rfl
          show false = decide (x ∈ ([] : List κ))
          simp
        · obtain ⟨hh3, gg3, dd3, tk3, os3⟩ := s3
          obtain rfl : gg3 = s.gens := hm.gens
          obtain rfl : dd3 = s.drawn := hm.drawn
          obtain rfl : os3 = s.os := hm.os
          show wpAny _ _ _ _ _ _
          refine wpAny_pure ?_
          show wpAny _ _ (ret Value.none) _ _ _
          refine wpAny_pure ⟨rfl, hh3, tk3, rfl, hS3, fun b o hb2 e => ?_⟩
          refine hm.heap b o ?_ (Heap.get?_push_of_some _ (Heap.get?_push_of_some _ e))
          rw [sz]
          intro z
          rcases List.mem_cons.mp z with z | z
          · exact Nat.ne_of_lt hb2 z
          · exact Nat.ne_of_lt (Nat.lt_succ_of_lt hb2) (List.mem_singleton.mp z)
      · cases r2 with
        | error e => exact hr2
        | ok fl2 =>
          cases fl2 with
          | ret r3 =>
            obtain ⟨rfl, h2, tk, rfl, hS2, kp⟩ := hr2
            repeat (any_goals (first | assumption | wp_step))
            exact k _ _ hS2 kp
          | _ => exact hr2.elim
    | _ => exact hr.elim
end
def uniqS (ss : List Str) : List Str := mets (fun i => ss.getD i Str.empty) ss.length
theorem uniqS_iff (ss : List Str) : (uniqS ss).length = ss.length ↔ ss.Nodup := by
  unfold uniqS
  rw [mets_nodup]
  have e : (List.range ss.length).map (fun i => ss.getD i Str.empty) = ss := by
    apply List.ext_getElem?
    intro i
    rw [List.getElem?_map]
    by_cases h : i < ss.length
    · rw [List.getElem?_range h, List.getElem?_eq_getElem h]
      show some (ss.getD i Str.empty) = _
      rw [List.getD_eq_getElem?_getD, List.getElem?_eq_getElem h]
      rfl
    · rw [List.getElem?_eq_none (by rw [List.length_range]; omega), List.getElem?_eq_none (by omega)]
      rfl
  rw [e]
section
variable {X : Cx}
def setSA (K : PySem.W.Frag) (xs : List V) (H : Hp) (Q : VK) : Prop := match xs with
  | [.ref d] => ∃ ss : List Str, SqL K H d (ss.map V.str) ∧ ss.length + 1 < scanBound ∧ ∀ q φ, H q = none → (∀ h : Heap, φ h → ∃ (o : Obj) (es : Array (Int × Value)) (ep : Nat) (t : SetTable), h.get? q = some o ∧ o.ExactSet ∧ o.data = .set es ep t ∧ t.fits es.size = true ∧ es.size = (uniqS ss).length) → Q (.ref q) (upd H q (.ext φ))
  | _ => False
theorem call_setSA (hh : X.A.handled = none) : CallR X (.type "set") (setSA X.K) := by
  intro pins s σ H xs us Q I r h
  unfold setSA at h
  split at h
  · rename_i d
    obtain ⟨ss, hq, hb, q⟩ := h
    obtain ⟨u, rfl, rx⟩ := vals1 r
    cases rx
    obtain ⟨its, r', pl, hz⟩ := I.list hq
    have hlen := r'.length
    rw [List.length_map] at hlen
    have hs : its.toArray.size = ss.length := by rw [List.size_toArray, ← hlen]
    refine set_made (knd := PySem.strKind X.prog X.w) (fun i => ss.getD i Str.empty) hh pl.isList (fun i v hv => ?_) (by rw [hs]; exact hb) fun h2 tk hS kp => ?_
    · rw [List.getElem?_toArray] at hv
      have hi : i < its.length := (List.getElem?_eq_some_iff.mp hv).1
      have hx : (ss.map V.str)[i]? = some (.str (ss.getD i Str.empty)) := by
        rw [List.getElem?_map, List.getD_eq_getElem?_getD, List.getElem?_eq_getElem (by omega)]
        rfl
      obtain ⟨u, hu, ru⟩ := r'.get hx
      rw [hv] at hu
      cases hu
      obtain ⟨t, rfl⟩ := ru
      exact ⟨by simp [PySem.strKind, Value.isStrOf], rfl⟩
    · rw [hs] at hS
      have k2 : ∀ b u, s.heap.get? b = some u → h2.get? b = some u := fun b u e => kp b u (Heap.lt_size e) e
      obtain ⟨o, es, ep, t, h1, h2', h3, _, _, h6, h7, h8⟩ := hS
      refine ⟨.ref s.heap.objs.size, upd H s.heap.objs.size (.ext fun h => h.get? s.heap.objs.size = some o), I.laid (t' := tk) k2 (Nat.le_refl _) ?_, rfl, q _ _ (I.hok.fresh (Nat.le_refl _)) fun h e => ⟨o, es, ep, t, e, h2', h3, h7, h8⟩⟩
      exact ⟨h1, ⟨o, h1⟩, fun h1 h2 e k => k o e⟩
  · exact h.elim
def lenXA (xs : List V) (H : Hp) (Q : VK) : Prop := match xs with
  | [.ref d] => ∃ (φ : Heap → Prop) (n : Nat), H d = some (.ext φ) ∧ n ≤ 1000 ∧ (∀ h : Heap, φ h → ∃ (o : Obj) (es : Array (Int × Value)) (ep : Nat) (t : SetTable), h.get? d = some o ∧ o.ExactSet ∧ o.data = .set es ep t ∧ t.fits es.size = true ∧ es.size = n) ∧ Q (.int n) H
  | _ => False
theorem call_lenXA : CallR X (.builtin "len") lenXA := by
  intro pins s σ H xs us Q I r h
  unfold lenXA at h
  split at h
  · rename_i d
    obtain ⟨φ, n, hd, hn, hφ, q⟩ := h
    obtain ⟨u, rfl, rx⟩ := vals1 r
    cases rx
    obtain ⟨p, _, _⟩ := (show ObjOk X.prog X.w H s.heap d (.ext φ) from I.hok d _ hd)
    obtain ⟨o, es, ep, t, h1, h2, h3, h4, h5⟩ := hφ _ p
    subst h5
    exact PySem.call_len_set h1 h2 h3 h4 (by omega) ⟨.int es.size, H, I.tok _, ⟨_, rfl⟩, q⟩
  · exact h.elim
theorem ksetS (K : PySem.W.Frag) {j : Nat} (hr : Room j X.A) (hK : X.K = K := by rfl) : CallR X (.type "set") (setSA K) := by
  subst hK; exact call_setSA hr.hd
end
theorem lenset_k {K : PySem.W.Frag} {σ : St} {H : Hp} {Q : VK} {te : TE} {d : Addr} {ss : List Str} (h : Ev te σ H (.ref d)) (hd : SqL K H d (ss.map V.str)) (hl : ss.length ≤ 1000) (q : ∀ H', Same H H' → Q (.int (uniqS ss).length) H') : cB lenXA (tCons (cB (setSA K) (tCons te tNil)) tNil) σ H Q :=
  h _ ⟨ss, hd, by show ss.length + 1 < 4096; omega, fun p φ hp hφ => ⟨φ, _, upd_same, Nat.le_trans (mets_le _ _) hl, hφ, q _ ((Same.refl H).upd hp)⟩⟩
end L2
namespace L2
open PySem PySem.Spec PyProof.Rows
section
variable {X : Cx}
theorem range_any (ks : List Bool) : (List.range ks.length).any (fun i => ks.getD i false) = ks.any id := by
  rw [Bool.eq_iff_iff, List.any_eq_true, List.any_eq_true]
  constructor
  · rintro ⟨i, hi, e⟩
    have hi := List.mem_range.mp hi
    rw [List.getD_eq_getElem?_getD, List.getElem?_eq_getElem hi] at e
    exact ⟨_, List.getElem_mem hi, e⟩
  · rintro ⟨b, hb, e⟩
    obtain ⟨i, hi, e2⟩ := List.mem_iff_getElem.mp hb
    refine ⟨i, List.mem_range.mpr hi, ?_⟩
    rw [List.getD_eq_getElem?_getD, List.getElem?_eq_getElem hi, e2]
    exact e
def anyA (K : PySem.W.Frag) (xs : List V) (H : Hp) (Q : VK) : Prop := match xs with
  | [.ref d] => ∃ ks : List Bool, SqL K H d (ks.map V.bl) ∧ Q (.bl (ks.any id)) H
  | _ => False
theorem call_anyA (hc : X.calm = true) : CallR X (.builtin "any") (anyA X.K) := by
  intro pins s σ H xs us Q I r h
  unfold anyA at h
  split at h
  · rename_i p
    obtain ⟨ks, hp, q⟩ := h
    obtain ⟨u, rfl, ru⟩ := vals1 r
    cases ru
    obtain ⟨its, rv, pl, hl⟩ := I.list hp
    have hlen := rv.length
    rw [List.length_map] at hlen
    refine call_any_walk (wpAny_pyIter_list pl.isList ?_)
    have hne : p ≠ s.heap.objs.size := by
      obtain ⟨o, ho, _⟩ := pl.isList
      exact Nat.ne_of_lt (Heap.lt_size ho)
    have W := Walks.list (prog := X.prog) (w := X.w) (A := X.A.in1) (show X.A.in1.handled = none from I.ok.hd hc) s.heap.objs.size p hne its.toArray
    have hpush : ∀ o b ob, s.heap.get? b = some ob → (s.heap.push o).get? b = some ob := fun o b ob e => Heap.get?_push_of_some _ e
    refine ⟨_, _, _, _, _, _, fun i => ks.getD i false, rfl, W, ⟨⟨_, Heap.get?_push_size _ rfl, rfl, rfl⟩, pl.isList.at fun o e => hpush _ _ o e⟩, truth_bl rv, fun h' tk k => ?_⟩
    have e : (List.range its.toArray.size).any (fun i => ks.getD i false) = ks.any id := by
      rw [← range_any, List.size_toArray, ← hlen]
    rw [e]
    refine ⟨.bl _, H, I.kept (t' := tk) (h' := h') fun b ob e => k b ob ?_ (hpush _ b ob e), rfl, q⟩
    intro hb
    have : b = s.heap.objs.size := by simpa using hb
    subst this
    exact absurd (Heap.lt_size e) (Nat.lt_irrefl _)
  · exact h.elim
theorem kany (K : PySem.W.Frag) (hc : X.calm = true := by rfl) (hK : X.K = K := by rfl) : CallR X (.builtin "any") (anyA K) := by
  subst hK; exact call_anyA hc
end
def Thg (H : Hp) : V → Prop
  | .non => True
  | .bl _ => True
  | .int _ => True
  | .str z => z.length ≤ 1000
  | .ref a => (∃ xs, H a = some (.lst xs)) ∨ (∃ xs, H a = some (.tup xs)) ∨ (∃ kvs, H a = some (.dK kvs))
  | _ => False
def isTB (T : BT) (H : Hp) : V → Bool
  | .bl _ => isSub .bool T
  | .int _ => isSub .int T
  | .str _ => isSub .str T
  | .ref a => match H a with
    | some (.lst _) => isSub .list T
    | some (.tup _) => isSub .tuple T
    | some (.dK _) => isSub .dict T
    | _ => false
  | _ => false
def tupOf (H : Hp) : V → Option (List V)
  | .ref a => match H a with
    | some (.tup xs) => some xs
    | _ => none
  | _ => none
def lstOf (H : Hp) : V → Option (List V)
  | .ref a => match H a with
    | some (.lst xs) => some xs
    | _ => none
  | _ => none
def ThgN (H : Hp) : Nat → V → Prop
  | 0, v => Thg H v
  | n + 1, v => Thg H v ∧ ∀ xs, (tupOf H v = some xs ∨ lstOf H v = some xs) → ∀ x ∈ xs, ThgN H n x
theorem ThgN.thg {H : Hp} {n : Nat} {v : V} (h : ThgN H n v) : Thg H v := by
  cases n with
  | zero => exact h
  | succ n => exact h.1
def wholeB : V → Bool
  | .int _ => true
  | _ => false
def amongB (v : V) (a b : Int) : Bool := match v with
  | .int i => decide (a ≤ i ∧ i ≤ b)
  | _ => false
def wordB (v : V) (ws : List Str) : Bool := match v with
  | .str z => decide (z ∈ ws)
  | _ => false
section
variable {K : PySem.W.Frag} {σ : St} {H H' : Hp} {te ta tb : TE} {v : V} {T : BT} {ws : List Str}
theorem Thg.same (h : Thg H v) (s : Same H H') : Thg H' v := by
  cases v with
  | ref a =>
    rcases h with ⟨xs, e⟩ | ⟨xs, e⟩ | ⟨xs, e⟩
    · exact .inl ⟨xs, s _ _ e⟩
    · exact .inr (.inl ⟨xs, s _ _ e⟩)
    · exact .inr (.inr ⟨xs, s _ _ e⟩)
  | _ => exact h
theorem tupOf_same (h : Thg H v) (s : Same H H') : tupOf H' v = tupOf H v := by
  cases v with
  | ref a =>
    rcases h with ⟨xs, e⟩ | ⟨xs, e⟩ | ⟨xs, e⟩ <;> simp only [tupOf, e, s _ _ e]
  | _ => rfl
theorem lstOf_same (h : Thg H v) (s : Same H H') : lstOf H' v = lstOf H v := by
  cases v with
  | ref a =>
    rcases h with ⟨xs, e⟩ | ⟨xs, e⟩ | ⟨xs, e⟩ <;> simp only [lstOf, e, s _ _ e]
  | _ => rfl
theorem ThgN.same {n : Nat} : ∀ {v : V}, ThgN H n v → Same H H' → ThgN H' n v := by
  induction n with
  | zero => intro v h s; exact Thg.same h s
  | succ n ih =>
    intro v h s
    refine ⟨h.1.same s, fun xs hx x hm => ih (h.2 xs ?_ x hm) s⟩
    rw [tupOf_same h.1 s, lstOf_same h.1 s] at hx
    exact hx
theorem tupOf_some {xs : List V} (h : tupOf H v = some xs) : ∃ a, v = .ref a ∧ H a = some (.tup xs) := by
  cases v with
  | ref a =>
    simp only [tupOf] at h
    split at h
    · rename_i e; cases h; exact ⟨a, rfl, e⟩
    · cases h
  | _ => cases h
theorem lstOf_some {xs : List V} (h : lstOf H v = some xs) : ∃ a, v = .ref a ∧ H a = some (.lst xs) := by
  cases v with
  | ref a =>
    simp only [lstOf] at h
    split at h
    · rename_i e; cases h; exact ⟨a, rfl, e⟩
    · cases h
  | _ => cases h
theorem ev_is (h : Ev te σ H v) (t : Thg H v) : Ev (cIs T te) σ H (.bl (isTB T H v)) := fun Q q => h _ (by
  cases v with
  | ref a =>
    rcases t with ⟨xs, e⟩ | ⟨xs, e⟩ | ⟨xs, e⟩ <;> (simp only [isA, e]; simp only [isTB, e] at q; exact q)
  | non => exact q
  | bl b => exact q
  | int b => exact q
  | str b => exact q
  | _ => exact t.elim)
theorem whole_is (t : Thg H v) : (isTB .int H v && !isTB .bool H v) = wholeB v := by
  cases v with
  | ref a => rcases t with ⟨xs, e⟩ | ⟨xs, e⟩ | ⟨xs, e⟩ <;> (simp only [isTB, e]; rfl)
  | non => rfl
  | bl b => rfl
  | int b => rfl
  | str b => rfl
  | _ => exact t.elim
theorem str_is (t : Thg H v) : isTB .str H v = (match v with | .str _ => true | _ => false) := by
  cases v with
  | ref a => rcases t with ⟨xs, e⟩ | ⟨xs, e⟩ | ⟨xs, e⟩ <;> (simp only [isTB, e]; rfl)
  | non => rfl
  | bl b => rfl
  | int b => rfl
  | str b => rfl
  | _ => exact t.elim
theorem tup_is (t : Thg H v) : isTB .tuple H v = (tupOf H v).isSome := by
  cases v with
  | ref a => rcases t with ⟨xs, e⟩ | ⟨xs, e⟩ | ⟨xs, e⟩ <;> (simp only [isTB, tupOf, e]; rfl)
  | non => rfl
  | bl b => rfl
  | int b => rfl
  | str b => rfl
  | _ => exact t.elim
theorem lst_is (t : Thg H v) : isTB .list H v = (lstOf H v).isSome := by
  cases v with
  | ref a => rcases t with ⟨xs, e⟩ | ⟨xs, e⟩ | ⟨xs, e⟩ <;> (simp only [isTB, lstOf, e]; rfl)
  | non => rfl
  | bl b => rfl
  | int b => rfl
  | str b => rfl
  | _ => exact t.elim
theorem inV_strs (z : Str) (ws : List Str) : inV (.str z) (ws.map V.str) = decide (z ∈ ws) := by
  unfold inV
  rw [List.any_map]
  by_cases h : z ∈ ws
  · rw [decide_eq_true h]
    exact List.any_eq_true.mpr ⟨z, h, by simp [eqV]⟩
  · rw [decide_eq_false h]
    apply List.any_eq_false.mpr
    intro y hy
    have : y ≠ z := fun e => h (e ▸ hy)
    simp [eqV, this]
theorem flat_strs (ss : List Str) : (ss.map V.str).all flatV = true := List.all_eq_true.mpr fun x hx => by
  obtain ⟨z, _, rfl⟩ := List.mem_map.mp hx
  rfl
theorem ev_inw {z : Str} {p : Addr} (ha : Ev ta σ H (.str z)) (hb : Ev tb σ H (.ref p)) (h : SqL K H p (ws.map V.str) ∨ SqT K H p (ws.map V.str)) : Ev (cCmp K .In ta tb) σ H (.bl (decide (z ∈ ws))) := fun Q q => ha _ (hb _ (by
  show cmpA K .In (.str z) (.ref p) H Q
  rw [r_in_str_ref]
  refine ⟨p, _, rfl, h, rfl, flat_strs ws, ?_⟩
  rw [inV_strs]
  exact q))
end
def sortsL : List Str := ["leap", "slide", "jump"]
def aimsL : List Str := ["go", "hit", "any"]
def endsL : List Str := ["without", "home"]
def stuckL : List Str := ["lost", "even", "won"]
def tupB (H : Hp) (v : V) (n : Int) : Bool := match tupOf H v with
  | some xs => decide ((xs.length : Int) = n)
  | none => false
def lstB (H : Hp) (v : V) (a b : Int) : Bool := match lstOf H v with
  | some xs => decide (a ≤ (xs.length : Int) ∧ (xs.length : Int) ≤ b)
  | none => false
def limS (so : Str) : Int := if so = "leap" then 3 else 1
def stepB (so : Str) (x y : V) : Bool := amongB x (-limS so) (limS so) && amongB y (-limS so) (limS so) && !(decide (x = .int 0) && decide (y = .int 0))
def ruleX (xs : List V) (ws : List Str) : Bool := match xs with
  | [k, .str so, .str ai, x, y] => wordB k ws && decide (so ∈ sortsL) && decide (ai ∈ aimsL) && !(decide (so = "jump") && !decide (ai = "hit")) && stepB so x y
  | _ => false
def ruleB (H : Hp) (v : V) (ws : List Str) : Bool := match tupOf H v with
  | some xs => ruleX xs ws
  | none => false
def pairX (xs : List V) (A B : List Str) : Bool := match xs with
  | [a, b] => wordB a A && wordB b B
  | _ => false
def pairB (H : Hp) (v : V) (A B : List Str) : Bool := match tupOf H v with
  | some xs => pairX xs A B
  | none => false
def pairsB (H : Hp) (v : V) (A B : List Str) : Bool := match lstOf H v with
  | some vs => decide (vs.length ≤ 6) && vs.all (fun x => pairB H x A B)
  | none => false
def fstS (H : Hp) (v : V) : Str := match tupOf H v with
  | some (.str a :: _) => a
  | _ => Str.empty
def sndS (H : Hp) (v : V) : Str := match tupOf H v with
  | some (_ :: .str b :: _) => b
  | _ => Str.empty
def turnsB (H : Hp) (v : V) (ws : List Str) : Bool := pairsB H v ws ws && match lstOf H v with
  | some vs => !(vs.any fun x => decide (sndS H x ∈ vs.map (fstS H))) && decide ((vs.map (fstS H)).Nodup)
  | none => false
def spWholeG : Sp := fun vs H Q _ => ∃ v, vs = [v] ∧ Thg H v ∧ Q (.bl (wholeB v)) H
def spAmongG : Sp := fun vs H Q _ => ∃ v a b, vs = [v, .int a, .int b] ∧ Thg H v ∧ Q (.bl (amongB v a b)) H
def WsAt (K : PySem.W.Frag) (H : Hp) (d : Addr) (ws : List Str) : Prop := SqL K H d (ws.map V.str) ∨ SqT K H d (ws.map V.str)
def spWordG (K : PySem.W.Frag) : Sp := fun vs H Q _ => ∃ v d ws, vs = [v, .ref d] ∧ Thg H v ∧ WsAt K H d ws ∧ Q (.bl (wordB v ws)) H
def spTupG : Sp := fun vs H Q _ => ∃ v n, vs = [v, .int n] ∧ Thg H v ∧ Q (.bl (tupB H v n)) H
def spLstG : Sp := fun vs H Q _ => ∃ v a b, vs = [v, .int a, .int b] ∧ Thg H v ∧ Q (.bl (lstB H v a b)) H
def spStepG : Sp := fun vs H Q _ => ∃ so x y, vs = [.str so, x, y] ∧ Thg H x ∧ Thg H y ∧ Q (.bl (stepB so x y)) H
def spRuleG (K : PySem.W.Frag) : Sp := fun vs H Q _ => ∃ v d ws, vs = [v, .ref d] ∧ ThgN H 1 v ∧ WsAt K H d ws ∧ Q (.bl (ruleB H v ws)) H
def spPairG (K : PySem.W.Frag) : Sp := fun vs H Q _ => ∃ v d e A B, vs = [v, .ref d, .ref e] ∧ ThgN H 1 v ∧ WsAt K H d A ∧ WsAt K H e B ∧ Q (.bl (pairB H v A B)) H
def spPairsG (K : PySem.W.Frag) : Sp := fun vs H Q _ => ∃ v d e A B, vs = [v, .ref d, .ref e] ∧ ThgN H 2 v ∧ WsAt K H d A ∧ WsAt K H e B ∧ ∀ H', Same H H' → Q (.bl (pairsB H v A B)) H'
def spTurnsG (K : PySem.W.Frag) : Sp := fun vs H Q _ => ∃ v d ws, vs = [v, .ref d] ∧ ThgN H 2 v ∧ WsAt K H d ws ∧ ∀ H', Same H H' → Q (.bl (turnsB H v ws)) H'
def spEndsG (K : PySem.W.Frag) : Sp := fun vs H Q _ => ∃ v d ws, vs = [v, .ref d] ∧ ThgN H 2 v ∧ WsAt K H d ws ∧ ∀ H', Same H H' → Q (.bl (pairsB H v endsL ws)) H'
theorem Same.sqt {K : PySem.W.Frag} {H H' : Hp} {a : Addr} {xs : List V} (s : Same H H') (h : SqT K H a xs) : SqT K H' a xs := by
  rcases h with (e | ⟨o, e⟩) | r
  · exact .inl (.inl (s _ _ e))
  · exact .inl (.inr ⟨o, s _ _ e⟩)
  · exact .inr r
theorem WsAt.same {K : PySem.W.Frag} {H H' : Hp} {d : Addr} {ws : List Str} (h : WsAt K H d ws) (s : Same H H') : WsAt K H' d ws := by
  rcases h with h | h
  · exact .inl (s.seq h)
  · exact .inr (s.sqt h)
theorem andv_k {σ : St} {H : Hp} {Q : VK} {ta tb : TE} {a : Bool} (ha : Ev ta σ H (.bl a)) (h1 : a = true → tb σ H Q) (h2 : a = false → Q (.bl false) H) : cAndV ta tb σ H Q := ha _ (by
  cases a with
  | true => exact h1 rfl
  | false => exact h2 rfl)
theorem cmpS_k {K : PySem.W.Frag} {σ : St} {H : Hp} {Q : VK} {ta tb : TE} {op : CmpOp} (h : ta σ H fun x H1 => tb σ H1 fun y H2 => cmpA K op x y H2 Q) : cCmp K op ta tb σ H Q := h
theorem pairs_yes {H : Hp} {v : V} {A B : List Str} (h : pairsB H v A B = true) : ∃ xs, lstOf H v = some xs ∧ xs.length ≤ 6 ∧ ∀ x ∈ xs, ∃ c f1 f2, x = .ref c ∧ H c = some (.tup [.str f1, .str f2]) := by
  unfold pairsB at h
  cases e1 : lstOf H v with
  | none => rw [e1] at h; cases h
  | some xs =>
    rw [e1] at h
    have h : (decide (xs.length ≤ 6) && xs.all (fun x => pairB H x A B)) = true := h
    rw [Bool.and_eq_true] at h
    refine ⟨xs, rfl, of_decide_eq_true h.1, fun x hx => ?_⟩
    have hp := List.all_eq_true.mp h.2 x hx
    unfold pairB at hp
    cases e2 : tupOf H x with
    | none => rw [e2] at hp; cases hp
    | some ys =>
      rw [e2] at hp
      obtain ⟨c, rfl, hc⟩ := tupOf_some e2
      have hp : pairX ys A B = true := hp
      match ys, hp, hc with
      | [a, b], hp, hc =>
        have hp : (wordB a A && wordB b B) = true := hp
        rw [Bool.and_eq_true] at hp
        cases a with
        | str f1 =>
          cases b with
          | str f2 => exact ⟨c, f1, f2, rfl, hc⟩
          | _ => cases hp.2
        | _ => cases hp.1
      | [], hp, _ => cases hp
      | [_], hp, _ => cases hp
      | _ :: _ :: _ :: _, hp, _ => cases hp
structure RG0 (P : Program) (w : World) (K : PySem.W.Frag) (mg : Str → Option Value) (base : Heap) : Prop where
  is_whole : Cal P w K mg base "is_whole" ["thing"] 1 spWholeG
structure RG1 (P : Program) (w : World) (K : PySem.W.Frag) (mg : Str → Option Value) (base : Heap) : Prop where
  is_among : Cal P w K mg base "is_among" ["thing", "least", "most"] 2 spAmongG
structure RG2 (P : Program) (w : World) (K : PySem.W.Frag) (mg : Str → Option Value) (base : Heap) : Prop where
  is_word : Cal P w K mg base "is_word" ["thing", "words"] 1 (spWordG K)
  is_tuple_of : Cal P w K mg base "is_tuple_of" ["thing", "many"] 1 spTupG
structure RG3 (P : Program) (w : World) (K : PySem.W.Frag) (mg : Str → Option Value) (base : Heap) : Prop extends RG2 P w K mg base where
  is_step : Cal P w K mg base "is_step" ["sort", "across", "up"] 3 spStepG
structure RG4 (P : Program) (w : World) (K : PySem.W.Frag) (mg : Str → Option Value) (base : Heap) : Prop where
  is_list_of : Cal P w K mg base "is_list_of" ["thing", "least", "most"] 1 spLstG
  is_pair : Cal P w K mg base "is_pair" ["thing", "firsts", "seconds"] 2 (spPairG K)
structure RG5 (P : Program) (w : World) (K : PySem.W.Frag) (mg : Str → Option Value) (base : Heap) : Prop where
  are_pairs : Cal P w K mg base "are_pairs" ["thing", "firsts", "seconds"] 3 (spPairsG K)
end L2
namespace L2
open PySem PySem.Spec PyProof.Rows
def letB : V → Bool
  | .str z => match z.cps.toList with
    | [c] => decide (97 ≤ c ∧ c ≤ 122)
    | _ => false
  | _ => false
def strOf : V → Str
  | .str z => z
  | _ => Str.empty
def kindsB (H : Hp) (v : V) : Bool := match lstOf H v with
  | some xs => decide (1 ≤ xs.length ∧ xs.length ≤ 6) && xs.all letB && decide ((xs.map strOf).Nodup)
  | none => false
def rulesB (H : Hp) (v : V) (ws : List Str) : Bool := match lstOf H v with
  | some xs => decide (xs.length ≤ 24) && xs.all (fun x => ruleB H x ws)
  | none => false
theorem str_a : ("a" : Str).cps.toList = [97] := by decide +kernel
theorem str_z : ("z" : Str).cps.toList = [122] := by decide +kernel
theorem lt_one {c d : Nat} : ([c] < [d]) ↔ c < d := by
  constructor
  · intro h
    cases h with
    | rel h => exact h
    | cons h => cases h
  · intro h; exact List.Lex.rel h
theorem ev_cles {K : PySem.W.Frag} {σ : St} {H : Hp} {ta tb tc : TE} {x y z : Str} (ha : Ev ta σ H (.str x)) (hb : Ev tb σ H (.str y)) (hc : Ev tc σ H (.str z)) : Ev (cChain K .LtE .LtE ta tb tc) σ H (.bl (!decide (y.cps.toList < x.cps.toList) && !decide (z.cps.toList < y.cps.toList))) := fun Q q => ha _ (hb _ (by
  show cmpA K .LtE (.str x) (.str y) H _
  rw [r_lte_str, r_b]
  cases h : !decide (y.cps.toList < x.cps.toList) with
  | true =>
    rw [h] at q
    exact hc _ q
  | false =>
    rw [h] at q
    exact q))
def spLetterG : Sp := fun vs H Q _ => ∃ v, vs = [v] ∧ Thg H v ∧ Q (.bl (letB v)) H
def spKindsG : Sp := fun vs H Q _ => ∃ v, vs = [v] ∧ ThgN H 1 v ∧ ∀ H', Same H H' → Q (.bl (kindsB H v)) H'
def spRulesG (K : PySem.W.Frag) : Sp := fun vs H Q _ => ∃ v d ws, vs = [v, .ref d] ∧ ThgN H 2 v ∧ WsAt K H d ws ∧ ∀ H', Same H H' → Q (.bl (rulesB H v ws)) H'
theorem letB_str {v : V} (h : letB v = true) : ∃ c, v = .str (one c) ∧ Ltr c := by
  cases v with
  | str z =>
    match e : z.cps.toList with
    | [c] =>
      simp only [letB, e] at h
      exact ⟨c, by rw [str_ext (x := z) (y := one c) (by rw [e])], of_decide_eq_true (p := 97 ≤ c ∧ c ≤ 122) h⟩
    | [] => simp only [letB, e] at h; cases h
    | _ :: _ :: _ => simp only [letB, e] at h; cases h
  | _ => cases h
structure GmC (K : PySem.W.Frag) (C : Addr) : Prop where
  cl : Cls K C
  board : NoAttr K C "board"
  kinds : NoAttr K C "kinds"
  rules : NoAttr K C "rules"
  turns : NoAttr K C "turns"
  ends : NoAttr K C "ends"
  stuck : NoAttr K C "stuck"
def gf1 (b : Addr) : List (Str × V) := putF "board" (.ref b) []
def gf2 (b k : Addr) : List (Str × V) := putF "kinds" (.ref k) (gf1 b)
def gf3 (b k r : Addr) : List (Str × V) := putF "rules" (.ref r) (gf2 b k)
def gf4 (b k r t : Addr) : List (Str × V) := putF "turns" (.ref t) (gf3 b k r)
def gf5 (b k r t e : Addr) : List (Str × V) := putF "ends" (.ref e) (gf4 b k r t)
def gflds (b k r t e : Addr) (st : Str) : List (Str × V) := putF "stuck" (.str st) (gf5 b k r t e)
section
variable {b k r t e : Addr} {st : Str}
theorem gf_board : (gflds b k r t e st).lookup ("board" : Str) = some (.ref b) := by
  unfold gflds gf5 gf4 gf3 gf2 gf1
  rw [lookup_putF, if_neg (by decide +kernel), lookup_putF, if_neg (by decide +kernel), lookup_putF, if_neg (by decide +kernel), lookup_putF, if_neg (by decide +kernel), lookup_putF, if_neg (by decide +kernel), lookup_putF, if_pos rfl]
theorem gf_kinds : (gflds b k r t e st).lookup ("kinds" : Str) = some (.ref k) := by
  unfold gflds gf5 gf4 gf3 gf2
  rw [lookup_putF, if_neg (by decide +kernel), lookup_putF, if_neg (by decide +kernel), lookup_putF, if_neg (by decide +kernel), lookup_putF, if_neg (by decide +kernel), lookup_putF, if_pos rfl]
theorem gf_rules : (gflds b k r t e st).lookup ("rules" : Str) = some (.ref r) := by
  unfold gflds gf5 gf4 gf3
  rw [lookup_putF, if_neg (by decide +kernel), lookup_putF, if_neg (by decide +kernel), lookup_putF, if_neg (by decide +kernel), lookup_putF, if_pos rfl]
theorem gf_turns : (gflds b k r t e st).lookup ("turns" : Str) = some (.ref t) := by
  unfold gflds gf5 gf4
  rw [lookup_putF, if_neg (by decide +kernel), lookup_putF, if_neg (by decide +kernel), lookup_putF, if_pos rfl]
theorem gf_ends : (gflds b k r t e st).lookup ("ends" : Str) = some (.ref e) := by
  unfold gflds gf5
  rw [lookup_putF, if_neg (by decide +kernel), lookup_putF, if_pos rfl]
theorem gf_stuck : (gflds b k r t e st).lookup ("stuck" : Str) = some (.str st) := by
  unfold gflds
  rw [lookup_putF, if_pos rfl]
theorem gf_no {m : Str} (h1 : ¬ m = "board") (h2 : ¬ m = "kinds") (h3 : ¬ m = "rules") (h4 : ¬ m = "turns") (h5 : ¬ m = "ends") (h6 : ¬ m = "stuck") : (gflds b k r t e st).lookup m = none := by
  unfold gflds gf5 gf4 gf3 gf2 gf1
  rw [lookup_putF, if_neg h6, lookup_putF, if_neg h5, lookup_putF, if_neg h4, lookup_putF, if_neg h3, lookup_putF, if_neg h2, lookup_putF, if_neg h1]
  rfl
theorem gf_len : (gf1 b).length ≤ 1 ∧ (gf2 b k).length ≤ 2 ∧ (gf3 b k r).length ≤ 3 ∧ (gf4 b k r t).length ≤ 4 ∧ (gf5 b k r t e).length ≤ 5 := by
  have a1 : (gf1 b).length ≤ 1 := length_putF "board" (.ref b) []
  have a2 : (gf2 b k).length ≤ (gf1 b).length + 1 := length_putF "kinds" (.ref k) (gf1 b)
  have a3 : (gf3 b k r).length ≤ (gf2 b k).length + 1 := length_putF "rules" (.ref r) (gf2 b k)
  have a4 : (gf4 b k r t).length ≤ (gf3 b k r).length + 1 := length_putF "turns" (.ref t) (gf3 b k r)
  have a5 : (gf5 b k r t e).length ≤ (gf4 b k r t).length + 1 := length_putF "ends" (.ref e) (gf4 b k r t)
  omega
end
structure GmAt (C : Addr) (H : Hp) (p b : Addr) (ks rs ts es : List V) (st : Str) : Prop where
  ex : ∃ dx kq rq tq eq, H p = some (.ins C dx (gflds b kq rq tq eq st)) ∧ H kq = some (.lst ks) ∧ H rq = some (.lst rs) ∧ H tq = some (.lst ts) ∧ H eq = some (.lst es)
section
variable {K : PySem.W.Frag} {C : Addr} {H H' : Hp} {p b : Addr} {ks rs ts es : List V} {st : Str}
theorem GmAt.same (G : GmAt C H p b ks rs ts es st) (s : Same H H') : GmAt C H' p b ks rs ts es st := by
  obtain ⟨dx, kq, rq, tq, eq, a, c, d, e, f⟩ := G.ex
  exact ⟨dx, kq, rq, tq, eq, s _ _ a, s _ _ c, s _ _ d, s _ _ e, s _ _ f⟩
theorem GmAt.board (G : GmAt C H p b ks rs ts es st) (D : GmC K C) : Fl K H p "board" (.ref b) := by
  obtain ⟨dx, kq, rq, tq, eq, a, _⟩ := G.ex
  exact ⟨C, dx, _, a, D.cl, D.board, gf_board⟩
theorem GmAt.kinds (G : GmAt C H p b ks rs ts es st) (D : GmC K C) : ∃ q, Fl K H p "kinds" (.ref q) ∧ H q = some (.lst ks) := by
  obtain ⟨dx, kq, rq, tq, eq, a, c, d, e, f⟩ := G.ex
  exact ⟨kq, ⟨C, dx, _, a, D.cl, D.kinds, gf_kinds⟩, c⟩
theorem GmAt.rules (G : GmAt C H p b ks rs ts es st) (D : GmC K C) : ∃ q, Fl K H p "rules" (.ref q) ∧ H q = some (.lst rs) := by
  obtain ⟨dx, kq, rq, tq, eq, a, c, d, e, f⟩ := G.ex
  exact ⟨rq, ⟨C, dx, _, a, D.cl, D.rules, gf_rules⟩, d⟩
theorem GmAt.turns (G : GmAt C H p b ks rs ts es st) (D : GmC K C) : ∃ q, Fl K H p "turns" (.ref q) ∧ H q = some (.lst ts) := by
  obtain ⟨dx, kq, rq, tq, eq, a, c, d, e, f⟩ := G.ex
  exact ⟨tq, ⟨C, dx, _, a, D.cl, D.turns, gf_turns⟩, e⟩
theorem GmAt.ends (G : GmAt C H p b ks rs ts es st) (D : GmC K C) : ∃ q, Fl K H p "ends" (.ref q) ∧ H q = some (.lst es) := by
  obtain ⟨dx, kq, rq, tq, eq, a, c, d, e, f⟩ := G.ex
  exact ⟨eq, ⟨C, dx, _, a, D.cl, D.ends, gf_ends⟩, f⟩
theorem GmAt.stuck (G : GmAt C H p b ks rs ts es st) (D : GmC K C) : Fl K H p "stuck" (.str st) := by
  obtain ⟨dx, kq, rq, tq, eq, a, _⟩ := G.ex
  exact ⟨C, dx, _, a, D.cl, D.stuck, gf_stuck⟩
theorem GmAt.no (G : GmAt C H p b ks rs ts es st) {m : Str} (h1 : ¬ m = "board" := by decide +kernel) (h2 : ¬ m = "kinds" := by decide +kernel) (h3 : ¬ m = "rules" := by decide +kernel) (h4 : ¬ m = "turns" := by decide +kernel) (h5 : ¬ m = "ends" := by decide +kernel) (h6 : ¬ m = "stuck" := by decide +kernel) : InsNo C m H p := by
  obtain ⟨dx, kq, rq, tq, eq, a, _⟩ := G.ex
  exact ⟨dx, _, a, gf_no h1 h2 h3 h4 h5 h6⟩
end
section
variable {H H' : Hp} {v : V} {A B ws : List Str}
theorem pairB_same (t : Thg H v) (s : Same H H') : pairB H' v A B = pairB H v A B := by unfold pairB; rw [tupOf_same t s]
theorem ruleB_same (t : Thg H v) (s : Same H H') : ruleB H' v ws = ruleB H v ws := by unfold ruleB; rw [tupOf_same t s]
theorem fstS_same (t : Thg H v) (s : Same H H') : fstS H' v = fstS H v := by unfold fstS; rw [tupOf_same t s]
theorem sndS_same (t : Thg H v) (s : Same H H') : sndS H' v = sndS H v := by unfold sndS; rw [tupOf_same t s]
theorem all_same {f g : V → Bool} {xs : List V} (h : ∀ x ∈ xs, f x = g x) : xs.all f = xs.all g := by
  induction xs with
  | nil => rfl
  | cons a r ih => rw [List.all_cons, List.all_cons, h a (by simp), ih fun x hx => h x (by simp [hx])]
theorem any_same {f g : V → Bool} {xs : List V} (h : ∀ x ∈ xs, f x = g x) : xs.any f = xs.any g := by
  induction xs with
  | nil => rfl
  | cons a r ih => rw [List.any_cons, List.any_cons, h a (by simp), ih fun x hx => h x (by simp [hx])]
theorem pairsB_same (t : ThgN H 2 v) (s : Same H H') : pairsB H' v A B = pairsB H v A B := by
  unfold pairsB
  rw [lstOf_same t.1 s]
  cases e : lstOf H v with
  | none => rfl
  | some xs =>
    show (_ && xs.all _) = (_ && xs.all _)
    rw [all_same (g := fun x => pairB H x A B) fun x hx => pairB_same (t.2 xs (.inr e) x hx).thg s]
theorem rulesB_same (t : ThgN H 2 v) (s : Same H H') : rulesB H' v ws = rulesB H v ws := by
  unfold rulesB
  rw [lstOf_same t.1 s]
  cases e : lstOf H v with
  | none => rfl
  | some xs =>
    show (_ && xs.all _) = (_ && xs.all _)
    rw [all_same (g := fun x => ruleB H x ws) fun x hx => ruleB_same (t.2 xs (.inr e) x hx).thg s]
theorem turnsB_same (t : ThgN H 2 v) (s : Same H H') : turnsB H' v ws = turnsB H v ws := by
  unfold turnsB
  rw [pairsB_same t s, lstOf_same t.1 s]
  cases e : lstOf H v with
  | none => rfl
  | some xs =>
    have tx : ∀ x ∈ xs, Thg H x := fun x hx => (t.2 xs (.inr e) x hx).thg
    have em : xs.map (fstS H') = xs.map (fstS H) := List.map_congr_left fun x hx => fstS_same (tx x hx) s
    show (_ && ((!xs.any fun x => decide (sndS H' x ∈ xs.map (fstS H'))) && decide ((xs.map (fstS H')).Nodup))) = (_ && ((!xs.any fun x => decide (sndS H x ∈ xs.map (fstS H))) && decide ((xs.map (fstS H)).Nodup)))
    rw [em, any_same (g := fun x => decide (sndS H x ∈ xs.map (fstS H))) fun x hx => by rw [sndS_same (tx x hx) s]]
end
def spGInit (K : PySem.W.Frag) (C : Addr) : Sp := fun vs H Q _ => ∃ (p b kd rd td ed dx : Addr) (ws : List Str) (rs ts es : List V) (st : Str), vs = [.ref p, .ref b, .ref kd, .ref rd, .ref td, .ref ed, .str st] ∧ H p = some (.ins C dx []) ∧ H kd = some (.lst (ws.map V.str)) ∧ H rd = some (.lst rs) ∧ H td = some (.lst ts) ∧ H ed = some (.lst es) ∧
  ThgN H 1 (.ref kd) ∧ ThgN H 2 (.ref rd) ∧ ThgN H 2 (.ref td) ∧ ThgN H 2 (.ref ed) ∧ kindsB H (.ref kd) = true ∧ rulesB H (.ref rd) ws = true ∧ turnsB H (.ref td) ws = true ∧ pairsB H (.ref ed) endsL ws = true ∧ st ∈ stuckL ∧ st.length ≤ 1000 ∧
  ∀ H', GmAt C H' p b (ws.map V.str) rs ts es st → SameBut p H H' → Q .non H'
structure GG1 (P : Program) (w : World) (K : PySem.W.Frag) (mg : Str → Option Value) (base : Heap) : Prop where
  is_list_of : Cal P w K mg base "is_list_of" ["thing", "least", "most"] 1 spLstG
  is_letter : Cal P w K mg base "is_letter" ["thing"] 1 spLetterG
  is_rule : Cal P w K mg base "is_rule" ["thing", "kinds"] 4 (spRuleG K)
structure GG2 (P : Program) (w : World) (K : PySem.W.Frag) (mg : Str → Option Value) (base : Heap) : Prop where
  are_kinds : Cal P w K mg base "are_kinds" ["thing"] 2 spKindsG
  are_rules : Cal P w K mg base "are_rules" ["thing", "kinds"] 5 (spRulesG K)
  is_turns : Cal P w K mg base "is_turns" ["thing", "kinds"] 4 (spTurnsG K)
  is_ends : Cal P w K mg base "is_ends" ["thing", "kinds"] 4 (spEndsG K)
  is_word : Cal P w K mg base "is_word" ["thing", "words"] 1 (spWordG K)
theorem st_fldL {K : PySem.W.Frag} {σ : St} {H : Hp} {to te : TE} {u : TS} {D : Ends} {f : Str} {p C dx d : Addr} {fs : List (Str × V)} {xs : List V} (he : Ev te σ H (.ref d)) (hd : H d = some (.lst xs)) (ho : ∀ H', Ev to σ H' (.ref p)) (hp : H p = some (.ins C dx fs)) (hc : Cls K C) (hn : NoAttr K C f) (hl : fs.length < 1000)
    (h2 : ∀ q, H q = none → u D σ (upd (upd H q (.lst xs)) p (.ins C dx (putF f (.ref q) fs)))) : tSeq (sFld K to (cB (listA K) (tCons te tNil)) f) u D σ H :=
  he _ ⟨xs, .inl (SqL.of hd), fun q hq => ho _ _ ⟨p, C, dx, fs, rfl, by rw [upd_ne (ne_of_none hp hq)]; exact hp, hc, hn, hl, h2 q hq⟩⟩
end L2
namespace L2
open PySem PySem.Spec PyProof.Rows
def ThgL (H : Hp) : V → Prop
  | .non => True
  | .bl _ => True
  | .int _ => True
  | .str z => z.length ≤ 1000
  | .ref a => (∃ xs, H a = some (.lst xs)) ∨ (∃ xs, H a = some (.tup xs))
  | _ => False
def ThL (H : Hp) : Nat → V → Prop
  | 0, v => ThgL H v
  | n + 1, v => ThgL H v ∧ ∀ xs, (tupOf H v = some xs ∨ lstOf H v = some xs) → ∀ x ∈ xs, ThL H n x
def eqS : V → Str → Bool
  | .str y, z => decide (y = z)
  | _, _ => false
theorem ThgL.thg {H : Hp} {v : V} (h : ThgL H v) : Thg H v := by
  cases v with
  | ref a =>
    rcases h with h | h
    · exact .inl h
    · exact .inr (.inl h)
  | _ => exact h
theorem ThL.l {H : Hp} {n : Nat} {v : V} (h : ThL H n v) : ThgL H v := by
  cases n with
  | zero => exact h
  | succ n => exact h.1
theorem ThL.n {H : Hp} : ∀ {n : Nat} {v : V}, ThL H n v → ThgN H n v
  | 0, v, h => ThgL.thg h
  | n + 1, v, h => ⟨h.1.thg, fun xs hx x hm => (h.2 xs hx x hm).n⟩
theorem ThgL.same {H H' : Hp} {v : V} (h : ThgL H v) (s : Same H H') : ThgL H' v := by
  cases v with
  | ref a =>
    rcases h with ⟨xs, e⟩ | ⟨xs, e⟩
    · exact .inl ⟨xs, s _ _ e⟩
    · exact .inr ⟨xs, s _ _ e⟩
  | _ => exact h
theorem ThL.same {H H' : Hp} : ∀ {n : Nat} {v : V}, ThL H n v → Same H H' → ThL H' n v
  | 0, v, h, s => ThgL.same h s
  | n + 1, v, h, s => ⟨h.1.same s, fun xs hx x hm => by
    rw [tupOf_same h.1.thg s, lstOf_same h.1.thg s] at hx
    exact (h.2 xs hx x hm).same s⟩
theorem ThL.down {H : Hp} : ∀ {n : Nat} {v : V}, ThL H (n + 1) v → ThL H n v
  | 0, v, h => h.1
  | n + 1, v, h => ⟨h.1, fun xs hx x hm => (h.2 xs hx x hm).down⟩
theorem ThL.flat {H : Hp} {n : Nat} {v : V} (h : ThgL H v) (f : flatV v = true) : ThL H n v := by
  cases n with
  | zero => exact h
  | succ n =>
    refine ⟨h, fun xs hx => ?_⟩
    cases v with
    | ref a => cases f
    | _ => rcases hx with z | z <;> cases z
theorem ThL.lst {H : Hp} {n : Nat} {a : Addr} {xs : List V} (h : H a = some (.lst xs)) (hx : ∀ x ∈ xs, ThL H n x) : ThL H (n + 1) (.ref a) := ⟨.inl ⟨xs, h⟩, fun ys hy => by
  rcases hy with z | z
  · simp only [tupOf, h] at z; cases z
  · simp only [lstOf, h] at z; cases z; exact hx⟩
theorem ThL.tup {H : Hp} {n : Nat} {a : Addr} {xs : List V} (h : H a = some (.tup xs)) (hx : ∀ x ∈ xs, ThL H n x) : ThL H (n + 1) (.ref a) := ⟨.inr ⟨xs, h⟩, fun ys hy => by
  rcases hy with z | z
  · simp only [tupOf, h] at z; cases z; exact hx
  · simp only [lstOf, h] at z; cases z⟩
def cmpG (op : CmpOp) (x y : V) (H : Hp) (Q : VK) : Prop := match op, y with
  | .Eq, .str z => ThgL H x ∧ Q (.bl (eqS x z)) H
  | .NotEq, .str z => ThgL H x ∧ Q (.bl (!eqS x z)) H
  | _, _ => False
def cmpG2 (x y : V) (H : Hp) (Q : VK) : Prop := match x with
  | .str z => ThgL H y ∧ Q (.bl (eqS y z)) H
  | _ => False
section
variable {X : Cx} {a b : Expr} {ta tb : TE} {pos : Pos}
def inG (K : PySem.W.Frag) (op : CmpOp) (x y : V) (H : Hp) (Q : VK) : Prop := match op, y with
  | .In, .ref d => ∃ ws, SqL K H d (ws.map V.str) ∧ ThgL H x ∧ Q (.bl (wordB x ws)) H
  | .NotIn, .ref d => ∃ ws, SqL K H d (ws.map V.str) ∧ ThgL H x ∧ Q (.bl (!wordB x ws)) H
  | _, _ => False
theorem in_ref {pins : List (Addr × Obj)} {s : Shared} {σ : St} {H : Hp} {c : Addr} {its : List Value} {ws : List Str} (I : Inv X pins σ H s) (hu : X.A.units + 20 < cLine) (t : ThgL H (.ref c)) (r : Vals (ws.map V.str) its) : ∀ y, y ∈ its.toArray → SeqAt.EqAt X.A.in1 s y (.ref c) false := by
  intro y hy
  have hy : y ∈ its := by simpa using hy
  obtain ⟨i, hi⟩ := List.getElem?_of_mem hy
  have hl := r.length
  have hlt : i < its.length := (List.getElem?_eq_some_iff.mp hi).1
  obtain ⟨z, hz⟩ : ∃ z, (ws.map V.str)[i]? = some (.str z) := by
    rw [List.length_map] at hl
    exact ⟨ws[i]'(by omega), by rw [List.getElem?_map, List.getElem?_eq_getElem (by omega)]; rfl⟩
  obtain ⟨u, hu', ru⟩ := r.get hz
  rw [hi] at hu'
  cases hu'
  obtain ⟨tk, rfl⟩ := ru
  have hq : X.A.in1.units < cLine := by show X.A.units + 1 < cLine; omega
  rcases t with ⟨xs, e⟩ | ⟨xs, e⟩
  · obtain ⟨_, _, p1, _⟩ := I.list (SqL.of e)
    exact .str_list z tk p1.isList hq
  · obtain ⟨_, _, p1, _⟩ := I.tuple (SqT.of e)
    exact .str_tuple z tk p1 hq
theorem op_inG (op : CmpOp) (hu : X.A.units + 20 < cLine) : OpR X (compareOp op) (inG X.K op) := by
  intro pins s σ H x y v u Q I rx ry h
  have fl : ∀ ws : List Str, flatV x = true → inV x (ws.map V.str) = wordB x ws := fun ws f => by
    cases x with
    | str z => exact inV_strs z ws
    | ref c => cases f
    | _ => first | (cases f; done) | exact List.any_eq_false.mpr (fun y hy => by obtain ⟨z, _, rfl⟩ := List.mem_map.mp hy; simp [eqV])
  unfold inG at h
  split at h
  · rename_i d
    obtain ⟨ws, hd, t, q⟩ := h
    by_cases f : flatV x = true
    · refine op_in_seq pins s σ H x _ v u Q I rx ry ⟨d, _, rfl, .inl hd, f, flat_strs ws, ?_⟩
      rw [fl ws f]
      exact q
    · cases x with
      | ref c =>
        cases rx; cases ry
        obtain ⟨its, r, pl, _⟩ := I.list hd
        refine SeqAt.in_listAt (fun _ => false) pl.isList (in_ref I hu t r) (fin_bl I q ?_)
        simp [wordB]
      | non => exact absurd rfl f
      | bl _ => exact absurd rfl f
      | int _ => exact absurd rfl f
      | str _ => exact absurd rfl f
      | _ => exact t.elim
  · rename_i d
    obtain ⟨ws, hd, t, q⟩ := h
    by_cases f : flatV x = true
    · refine op_notIn_seq pins s σ H x _ v u Q I rx ry ⟨d, _, rfl, .inl hd, f, flat_strs ws, ?_⟩
      rw [fl ws f]
      exact q
    · cases x with
      | ref c =>
        cases rx; cases ry
        obtain ⟨its, r, pl, _⟩ := I.list hd
        refine SeqAt.notIn_listAt (fun _ => false) pl.isList (in_ref I hu t r) (fin_bl I q ?_)
        simp [wordB]
      | non => exact absurd rfl f
      | bl _ => exact absurd rfl f
      | int _ => exact absurd rfl f
      | str _ => exact absurd rfl f
      | _ => exact t.elim
  · exact h.elim
def cCmpG (op : CmpOp) (ta tb : TE) : TE := fun σ H Q => ta σ H fun x H1 => tb σ H1 fun y H2 => cmpG op x y H2 Q
def cInG (K : PySem.W.Frag) (op : CmpOp) (ta tb : TE) : TE := fun σ H Q => ta σ H fun x H1 => tb σ H1 fun y H2 => inG K op x y H2 Q
def cCmpG2 (ta tb : TE) : TE := fun σ H Q => ta σ H fun x H1 => tb σ H1 fun y H2 => cmpG2 x y H2 Q
theorem test_of {r : R2} {op : CmpOp} (ho : OpR X (compareOp op) r) (ha : PE X a ta) (hb : PE X b tb) (hm : behindInMarks op b = false) : PT X (.Compare a [op] [b] pos) (cTest fun σ H Q => ta σ H fun x H1 => tb σ H1 fun y H2 => r x y H2 Q) := by
  intro pins s σ H Q I h
  refine wpAny_isTrue_Compare1 (thn (ha pins s σ H _ I h) fun v s1 ⟨x, H1, I1, r1, q1⟩ => thn (hb pins s1 σ H1 _ I1 q1) fun u s2 ⟨y, H2, I2, r2, q2⟩ => thn (ho pins s2 σ H2 x y v u _ I2 r1 r2 q2) fun c s3 ⟨z, H3, I3, r3, q3⟩ => ?_) hm
  obtain ⟨k, rfl, q4⟩ := bOnly_ex q3
  cases r3
  exact wpAny_truthy_bool ⟨H3, I3, q4⟩
theorem ktinG (K : PySem.W.Frag) {op : CmpOp} (hu : X.A.units + 20 < cLine) (ha : PE X a ta) (hb : PE X b tb) (hm : behindInMarks op b = false := by first | exact nomark _ | with_unfolding_all rfl) (hK : X.K = K := by rfl) : PT X (.Compare a [op] [b] pos) (cTest (cInG K op ta tb)) := by
  subst hK; exact test_of (op_inG op hu) ha hb hm
def absA (xs : List V) (H : Hp) (Q : VK) : Prop := match xs with
  | [.int i] => Q (.int (if i < 0 then -i else i)) H
  | _ => False
end
section
variable {K : PySem.W.Frag} {σ : St} {H : Hp} {ta tb te : TE} {v : V} {z : Str} {d : Addr} {ws : List Str} {i j : Int}
theorem ev_pow (ha : Ev ta σ H (.int i)) (hb : Ev tb σ H (.int j)) (h : CPow i j) : Ev (cBin .Pow ta tb) σ H (.int (i ^ j.toNat)) := fun Q q => ha _ (hb _ ⟨h, q⟩)
end
end L2
namespace L2
open PySem PySem.Spec PyProof.Rows
def isRef : V → Bool
  | .ref _ => true
  | _ => false
theorem eqD_self {K : PySem.W.Frag} {H : Hp} {n : Nat} {x : V} (h : (flatV x || isRef x) = true) : EqD K H n x x true := by
  cases hf : flatV x with
  | true =>
    have := EqD.flat (K := K) (H := H) (n := n) hf hf
    rw [eqV_refl hf] at this
    exact this
  | false =>
    cases x with
    | ref a => exact .same
    | _ => first | (cases hf; done) | (rw [hf] at h; cases h)
theorem eqT_copy {K : PySem.W.Frag} {H : Hp} {n : Nat} {a b : Addr} {xs : List V} (ha : SqL K H a xs) (hb : SqL K H b xs) (hf : ∀ x ∈ xs, (flatV x || isRef x) = true) : EqT K H (n + 1) (.ref a) (.ref b) true := by
  have h := EqT.lst (es := fun _ => true) (n := n) ha hb rfl (fun i x y hx hy => by
    rw [hx] at hy; cases hy
    exact eqD_self (hf x (List.mem_of_getElem? hx)))
  rw [show ((List.range xs.length).all fun _ => true) = true from List.all_eq_true.mpr fun _ _ => rfl] at h
  exact h
def neS (K : PySem.W.Frag) (x y : V) (H : Hp) (Q : VK) : Prop := cmpA K .NotEq x y H Q ∨ ∃ a, x = .ref a ∧ y = .ref a ∧ H a = some (.dK []) ∧ Q (.bl false) H
section
variable {X : Cx} {a b : Expr} {ta tb : TE} {pos : Pos}
def cNeS (K : PySem.W.Frag) (ta tb : TE) : TE := fun σ H Q => ta σ H fun x H1 => tb σ H1 fun y H2 => neS K x y H2 Q
end
section
variable {X : Cx} {a b e o : Expr} {ta tb te to : TE} {pos p2 : Pos}
def cPopAt (to te : TE) : TE := fun σ H Q => to σ H fun x H1 => match x with
  | .ref l => (∃ xs, H1 l = some (.lst xs)) ∧ te σ H1 fun y H2 => rPopAt (.ref l) [y] H2 Q
  | _ => False
end
section
variable {K : PySem.W.Frag} {te to ta tb ti : TE} {u : TS} {D : Ends} {σ : St} {H : Hp} {Q : VK} {v : V}
theorem put_k {l : Addr} {i : Int} {P : V → Hp → Prop} (h : ∀ Q : VK, (∀ v H', P v H' → Q v H') → te σ H Q) (h2 : ∀ v H', P v H' → Ev to σ H' (.ref l) ∧ Ev ti σ H' (.int i) ∧ ∃ xs, H' l = some (.lst xs) ∧ 0 ≤ i ∧ i < xs.length ∧ D.nx σ (upd H' l (.lst (xs.set i.toNat v)))) : tAsg te (gSub to ti rSetL) D σ H :=
  h _ fun v H' p => by
    obtain ⟨ho, hi, xs, hl, h0, h1, q⟩ := h2 v H' p
    refine ho _ (hi _ ⟨l, xs, i, i.toNat, rfl, rfl, hl, ?_, q⟩)
    unfold ixN
    rw [if_pos h0, if_pos h1]
end
end L2
namespace L2
open PySem PySem.Spec PyProof.Rows
structure ZAp (z TI TO i1 i2 : Addr) : Prop where
  a : TI ≠ z
  b : TO ≠ z
  c : i1 ≠ z
  d : i2 ≠ z
  e : TI ≠ TO
  f : TO ≠ i1
  g : TO ≠ i2
  h : i1 ≠ i2
  i : TI ≠ i1
  j : TI ≠ i2
section
variable {prog : Program} {w : World} {A : Around} {E : Value → Shared → Prop} {s : Shared} {z TI TO i1 i2 : Addr} {n1 n2 i : Nat} {P1 P2 : Nat → Value → Prop} {S1 S2 : Nat → Heap → Prop} {a b : Value}
theorem zd_item {Q : Value → Shared → Prop} (D1 : Draws prog w A i1 [i1] n1 P1 S1) (D2 : Draws prog w A i2 [i2] n2 P2 S2) (ap : ZAp z TI TO i1 i2) (hz : IsZip s.heap z TI TO .none) (hTI : IsPair s.heap TI (.ref i1) (.ref i2)) (hTO : IsPair s.heap TO a b) (h1 : S1 i s.heap) (h2 : S2 i s.heap) (l1 : i < n1) (l2 : i < n2)
    (hQ : ∀ x y h' tk, P1 i x → P2 i y → IsZip h' z TI TO (rawInt s.heap.objs.size) → IsPair h' TO x y → S1 (i + 1) h' → S2 (i + 1) h' → IsPair h' s.heap.objs.size x y → (∀ c o, c ≠ z → c ≠ TO → c ≠ i1 → c ≠ i2 → s.heap.get? c = some o → h'.get? c = some o) → Q (.ref s.heap.objs.size) { s with heap := h', toks := tk }) :
    wpAny (model prog w) A (Builtin.«zip.__next__» ⟨[.ref z], []⟩) (fun fin s' => ∃ v, fin = .done (.ret v) ∧ Q v s') E s := by
  have f1 : ∀ {k : Nat} {c : Addr} {g g' : Heap}, S1 k g → Heap.SameBut c g g' → i1 ≠ c → S1 k g' := fun st sb ne => D1.frame _ _ _ st fun q hq o ho => by rw [List.mem_singleton.mp hq] at ho ⊢; exact sb.extBut _ _ ne ho
  have f2 : ∀ {k : Nat} {c : Addr} {g g' : Heap}, S2 k g → Heap.SameBut c g g' → i2 ≠ c → S2 k g' := fun st sb ne => D2.frame _ _ _ st fun q hq o ho => by rw [List.mem_singleton.mp hq] at ho ⊢; exact sb.extBut _ _ ne ho
  refine wpAny_bind (m := field (.ref z) 2) (wpAny_field hz rfl (x := .bool false) rfl (wpAny_bind (m := field (.ref z) 3) (wpAny_field hz rfl (x := .ref TI) rfl (wpAny_bind (wpAny_seqItems hTI rfl ?_)))))
  refine wpAny_bind (m := Builtin.SmallTypes.ownedTupleIsFree (.ref z)) ?_; unfold Builtin.SmallTypes.ownedTupleIsFree; refine wpAny_bind (wpAny_field hz rfl (x := .none) rfl (wpAny_pure ?_))
  rw [if_pos rfl]; refine wpAny_bind (wpAny_rule ?_); refine wpAny_bind (wpAny_field hz rfl (x := .ref TO) rfl (wpAny_bind (wpAny_setField_rec hz (by simp) fun g1 zz1 b1 => wpAny_bind ?_)))
  have z1 : IsZip g1 z TI TO .ellipsis := zz1
  simp only [List.zipIdx_cons, List.zipIdx_nil, List.forIn_cons, List.forIn_nil]; refine wpAny_bind (wpAny_bind (wpAny_onRaise (wpAny_bind (m := Builtin.SmallTypes.nextOf (.ref i1)) (D1.item i _ _ _ l1 (f1 h1 b1 ap.c) fun x g2 k2 p1 t2 b2 => wpAny_pure ?_))))
  have o2 : IsPair g2 TO a b := b2.extBut _ _ ap.f (b1.extBut _ _ ap.b hTO)
  refine wpAny_bind (wpAny_seqItems o2 rfl (wpAny_bind (wpAny_updateSeq_pair o2 fun g3 oo3 b3 => wpAny_bind (wpAny_letGo (wpAny_pure ?_)))))
  have o3 : IsPair g3 TO x b := oo3
  refine wpAny_bind (wpAny_bind (wpAny_onRaise (wpAny_bind (m := Builtin.SmallTypes.nextOf (.ref i2)) (D2.item i _ _ _ l2 (f2 (f2 (f2 h2 b1 ap.d) b2 ap.h.symm) b3 ap.g.symm) fun y g4 k4 p2 t4 b4 => wpAny_pure ?_))))
  have o4 : IsPair g4 TO x b := b4.extBut _ _ ap.g o3
  refine wpAny_bind (wpAny_seqItems o4 rfl (wpAny_bind (wpAny_updateSeq_pair o4 fun g5 oo5 b5 => wpAny_bind (wpAny_letGo (wpAny_pure (wpAny_pure ?_))))))
  have o5 : IsPair g5 TO x y := oo5
  have n5 : g5.objs.size = s.heap.objs.size := by rw [b5.1, b4.1, b3.1, b2.1, b1.1]
  have z5 : IsZip g5 z TI TO .ellipsis := b5.extBut _ _ ap.b.symm (b4.extBut _ _ ap.d.symm (b3.extBut _ _ ap.b.symm (b2.extBut _ _ ap.c.symm z1)))
  have u1 : S1 (i + 1) g5 := f1 (f1 (f1 t2 b3 ap.f.symm) b4 ap.h) b5 ap.f.symm
  have u2 : S2 (i + 1) g5 := f2 t4 b5 ap.g.symm
  have zl : z < g5.objs.size := Heap.lt_size z5
  refine wpAny_bind (wpAny_seqItems o5 rfl (wpAny_bind (wpAny_newTuple (wpAny_bind (m := Builtin.SmallTypes.ownedTupleHandOut (.ref z) (.ref g5.objs.size)) ?_)))); unfold Builtin.SmallTypes.ownedTupleHandOut
  have z6 : IsZip (g5.push { cls := .type "tuple", data := .seq #[x, y] }) z TI TO .ellipsis := Heap.get?_push_of_some _ z5
  refine wpAny_bind (wpAny_setField_rec z6 (by simp) fun g7 zz7 b7 => wpAny_setField_rec (show IsZip g7 z TI TO (rawInt g5.objs.size) from zz7) (by simp) fun g8 zz8 b8 => wpAny_pure ⟨_, rfl, ?_⟩)
  have z8 : IsZip g8 z TI TO (rawInt g5.objs.size) := zz8
  have up : ∀ c o, c ≠ z → g5.get? c = some o → g8.get? c = some o := fun c o c1 e => b8.extBut _ _ c1 (b7.extBut _ _ c1 (Heap.get?_push_of_some _ e))
  have t8 : IsPair g8 g5.objs.size x y := b8.extBut _ _ (Nat.ne_of_gt zl) (b7.extBut _ _ (Nat.ne_of_gt zl) (Heap.get?_push_size _ rfl))
  show Q (.ref g5.objs.size) _
  rw [n5] at z8 t8 ⊢
  exact hQ x y g8 k4 p1 p2 z8 (up _ _ ap.b o5) (D1.frame _ _ _ u1 fun q hq o ho => by rw [List.mem_singleton.mp hq] at ho ⊢; exact up _ _ ap.c ho) (D2.frame _ _ _ u2 fun q hq o ho => by rw [List.mem_singleton.mp hq] at ho ⊢; exact up _ _ ap.d ho) t8 fun c o c1 c2 c3 c4 e => up c o c1 (b5.extBut _ _ c2 (b4.extBut _ _ c4 (b3.extBut _ _ c2 (b2.extBut _ _ c3 (b1.extBut _ _ c1 e)))))
theorem zd_end {Q : Fin → Shared → Prop} (D1 : Draws prog w A i1 [i1] n1 P1 S1) (ap : ZAp z TI TO i1 i2) (hz : IsZip s.heap z TI TO .none) (hTI : IsPair s.heap TI (.ref i1) (.ref i2)) (h1 : S1 n1 s.heap)
    (hE : ∀ h' e, (∀ c o, c ≠ z → c ≠ i1 → s.heap.get? c = some o → h'.get? c = some o) → (∃ o, h'.get? e = some o ∧ o.cls = .type "StopIteration") → E (.ref e) { s with heap := h' }) : wpAny (model prog w) A (Builtin.«zip.__next__» ⟨[.ref z], []⟩) Q E s := by
  have f1 : ∀ {k : Nat} {c : Addr} {g g' : Heap}, S1 k g → Heap.SameBut c g g' → i1 ≠ c → S1 k g' := fun st sb ne => D1.frame _ _ _ st fun q hq o ho => by rw [List.mem_singleton.mp hq] at ho ⊢; exact sb.extBut _ _ ne ho
  refine wpAny_bind (m := field (.ref z) 2) (wpAny_field hz rfl (x := .bool false) rfl (wpAny_bind (m := field (.ref z) 3) (wpAny_field hz rfl (x := .ref TI) rfl (wpAny_bind (wpAny_seqItems hTI rfl ?_)))))
  refine wpAny_bind (m := Builtin.SmallTypes.ownedTupleIsFree (.ref z)) ?_; unfold Builtin.SmallTypes.ownedTupleIsFree; refine wpAny_bind (wpAny_field hz rfl (x := .none) rfl (wpAny_pure ?_))
  rw [if_pos rfl]; refine wpAny_bind (wpAny_rule ?_); refine wpAny_bind (wpAny_field hz rfl (x := .ref TO) rfl (wpAny_bind (wpAny_setField_rec hz (by simp) fun g1 zz1 b1 => wpAny_bind ?_)))
  have z1 : IsZip g1 z TI TO .ellipsis := zz1
  simp only [List.zipIdx_cons, List.zipIdx_nil, List.forIn_cons, List.forIn_nil]; refine wpAny_bind (wpAny_bind (wpAny_onRaise (wpAny_bind (m := Builtin.SmallTypes.nextOf (.ref i1)) (D1.done _ _ _ (f1 h1 b1 ap.c) fun g2 e b2 he => ?_))))
  obtain ⟨oe, hoe, hce⟩ := he
  have z2 : IsZip g2 z TI TO .ellipsis := b2 _ _ ap.c.symm z1
  have ne : e ≠ z := fun q => by rw [q] at hoe; have z2' : g2.get? z = _ := z2; rw [z2'] at hoe; cases hoe; simp at hce
  exact wpAny_setField_rec z2 (by simp) fun g3 _ b3 => hE g3 e (fun c o c1 c3 q => b3.extBut _ _ c1 (b2 _ _ c3 (b1.extBut _ _ c1 q))) ⟨oe, b3.extBut _ _ ne hoe, hce⟩
theorem zd_next {Q : Option Value → Shared → Prop} (D1 : Draws prog w A.in1 i1 [i1] n1 P1 S1) (D2 : Draws prog w A.in1 i2 [i2] n2 P2 S2) (ap : ZAp z TI TO i1 i2) (hz : IsZip s.heap z TI TO .none) (hTI : IsPair s.heap TI (.ref i1) (.ref i2)) (hTO : IsPair s.heap TO a b) (h1 : S1 i s.heap) (h2 : S2 i s.heap) (l1 : i < n1) (l2 : i < n2)
    (hQ : ∀ x y h' tk, P1 i x → P2 i y → IsZip h' z TI TO (rawInt s.heap.objs.size) → IsPair h' TO x y → S1 (i + 1) h' → S2 (i + 1) h' → IsPair h' s.heap.objs.size x y → (∀ c o, c ≠ z → c ≠ TO → c ≠ i1 → c ≠ i2 → s.heap.get? c = some o → h'.get? c = some o) → Q (some (.ref s.heap.objs.size)) { s with heap := h', toks := tk }) :
    wpAny (model prog w) A (pyNext (.ref z)) Q E s := by
  have hT : s.TypeIs (.ref z) "zip" := ⟨_, hz, rfl⟩
  unfold pyNext; exact wpAny_bind (wpAny_attempt (wpAny_callSpecial?_slot (name := Str.ofString "__next__") hT F.slot_zip_next (wpAny_call_entry F.slot_zip_next hT F.entry_zip_next (zd_item D1 D2 ap hz hTI hTO h1 h2 l1 l2 fun x y h' tk q1 q2 q3 q4 q5 q6 q7 q8 => wpAny_pure (hQ x y h' tk q1 q2 q3 q4 q5 q6 q7 q8)) (F.args_zip_next_1 _))))
theorem zd_stop {Q : Option Value → Shared → Prop} (D1 : Draws prog w A.in1 i1 [i1] n1 P1 S1) (ap : ZAp z TI TO i1 i2) (hz : IsZip s.heap z TI TO .none) (hTI : IsPair s.heap TI (.ref i1) (.ref i2)) (h1 : S1 n1 s.heap)
    (hQ : ∀ h', (∀ c o, c ≠ z → c ≠ i1 → s.heap.get? c = some o → h'.get? c = some o) → Q none { s with heap := h' }) : wpAny (model prog w) A (pyNext (.ref z)) Q E s := by
  have hT : s.TypeIs (.ref z) "zip" := ⟨_, hz, rfl⟩
  unfold pyNext; refine wpAny_bind (wpAny_attempt (wpAny_callSpecial?_slot (name := Str.ofString "__next__") hT F.slot_zip_next (wpAny_call_entry F.slot_zip_next hT F.entry_zip_next (zd_end D1 ap hz hTI h1 fun h' e hk he => ?_) (F.args_zip_next_1 _))))
  obtain ⟨o, ho, hc⟩ := he
  exact wpAny_bind (wpAny_isInstance (T := "StopIteration") (b := true) ⟨o, ho, hc⟩ isSubtype_stop (wpAny_pure (hQ _ hk)))
end
def sI (x : Str) (t : Tok) : Obj := { cls := .type (strIterType x), data := .fields #[.str x t, .int 0 0] }
def zH2 (h : Heap) (x : Str) (t : Tok) (y : Str) (u : Tok) : Heap := (h.push (sI x t)).push (sI y u)
def zH4 (h : Heap) (x : Str) (t : Tok) (y : Str) (u : Tok) : Heap := ((zH2 h x t y u).push { cls := .type "tuple", data := .seq #[.ref h.objs.size, .ref (h.push (sI x t)).objs.size] }).push { cls := .type "tuple", data := .seq #[.none, .none] }
def zH5 (h : Heap) (x : Str) (t : Tok) (y : Str) (u : Tok) : Heap := (zH4 h x t y u).push { cls := .type "zip", data := .fields #[.none, .bool false, .bool false, .ref (zH2 h x t y u).objs.size, .ref ((zH2 h x t y u).push { cls := .type "tuple", data := .seq #[.ref h.objs.size, .ref (h.push (sI x t)).objs.size] }).objs.size] }
theorem meets_zipS (x : Str) (t : Tok) (y : Str) (u : Tok) : Meets (Builtin.«zip.__new__» ⟨[.type "zip", .str x t, .str y u], []⟩) (fun _ R s => R (.ok (.ret (.ref (zH4 s.heap x t y u).objs.size))) { s with heap := zH5 s.heap x t y u }) :=
  .of_wp fun prog w A R s h => by
    obtain ⟨hp, g, d, tk, os⟩ := s
    have hsub := sub_zip
    wp_walk using wpAny_pyIter_strU
    exact ⟨_, rfl, h⟩
section
variable {prog : Program} {w : World} {A : Around} {E : Value → Shared → Prop} {s : Shared}
theorem call_zipS {x y : Str} {t u : Tok} {Q : Value → Shared → Prop}
    (h : ∀ h', IsZip h' (s.heap.objs.size + 4) (s.heap.objs.size + 2) (s.heap.objs.size + 3) .none → IsPair h' (s.heap.objs.size + 2) (.ref s.heap.objs.size) (.ref (s.heap.objs.size + 1)) → IsPair h' (s.heap.objs.size + 3) .none .none →
      h'.IsStrIter s.heap.objs.size (strIterType x) x t 0 → h'.IsStrIter (s.heap.objs.size + 1) (strIterType y) y u 0 → (∀ c o, s.heap.get? c = some o → h'.get? c = some o) → Q (.ref (s.heap.objs.size + 4)) { s with heap := h' }) :
    wpAny (model prog w) A (call (.type "zip") [.str x t, .str y u]) Q E s := by
  refine callType_new F.called_zip (by decide) (F.typeCall_zip_2 _ _) (F.newCall_zip_2 _ _) (fun obj => F.args_object_init_3 obj _ _) F.entry_zip_new (meets_zipS x t y u) ?_
  have y1 : (s.heap.push (sI x t)).objs.size = s.heap.objs.size + 1 := Heap.size_push ..
  have y2 : (zH2 s.heap x t y u).objs.size = s.heap.objs.size + 2 := by unfold zH2; rw [Heap.size_push, y1]
  have y3 : ((zH2 s.heap x t y u).push { cls := .type "tuple", data := .seq #[.ref s.heap.objs.size, .ref (s.heap.push (sI x t)).objs.size] }).objs.size = s.heap.objs.size + 3 := by rw [Heap.size_push, y2]
  have y4 : (zH4 s.heap x t y u).objs.size = s.heap.objs.size + 4 := by unfold zH4; rw [Heap.size_push, y3]
  have g5 : (zH5 s.heap x t y u).get? (zH4 s.heap x t y u).objs.size = some _ := Heap.get?_push_size _ rfl
  have up : ∀ c o, (zH2 s.heap x t y u).get? c = some o → (zH5 s.heap x t y u).get? c = some o := fun c o e => Heap.get?_push_of_some _ (Heap.get?_push_of_some _ (Heap.get?_push_of_some _ e))
  have g3 : (zH5 s.heap x t y u).get? (zH2 s.heap x t y u).objs.size = some _ := Heap.get?_push_of_some _ (Heap.get?_push_of_some _ (Heap.get?_push_size _ rfl))
  have g4 : (zH5 s.heap x t y u).get? ((zH2 s.heap x t y u).push { cls := .type "tuple", data := .seq #[.ref s.heap.objs.size, .ref (s.heap.push (sI x t)).objs.size] }).objs.size = some _ := Heap.get?_push_of_some _ (Heap.get?_push_size _ rfl)
  have g1 : (zH5 s.heap x t y u).get? s.heap.objs.size = some (sI x t) := up _ _ (Heap.get?_push_of_some _ (Heap.get?_push_size _ rfl))
  have g2 : (zH5 s.heap x t y u).get? (s.heap.push (sI x t)).objs.size = some (sI y u) := up _ _ (Heap.get?_push_size _ rfl)
  show _ ∧ _
  rw [y2, y3, y4] at g5
  rw [y1, y2] at g3
  rw [y3] at g4
  rw [y1] at g2
  rw [y4]
  exact ⟨⟨_, g5, rfl⟩, h _ g5 g3 g4 ⟨_, g1, rfl, rfl⟩ ⟨_, g2, rfl, rfl⟩ fun c o e => up _ _ (Heap.get?_push_of_some _ (Heap.get?_push_of_some _ e))⟩
end
end L2
namespace L2
open PySem PySem.Spec PyProof.Rows
section
variable {X : Cx} {pins : List (Addr × Obj)} {σ : St} {H : Hp} {s : Shared} {h' : Heap}
theorem Inv.turnedN {t' : Nat} {fp : List Addr} (I : Inv X pins σ H s) (k : ∀ b ob, b ∉ fp → s.heap.get? b = some ob → h'.get? b = some ob) (hf : ∀ b ∈ fp, FpOk X pins H b) : Inv X pins σ H { s with heap := h', toks := t' } := by
  have nf : ∀ b u, H b = some u → b ∉ fp := fun b u q z => by rw [(hf b z).1] at q; cases q
  have nl : X.env.locals ∉ fp := fun z => (hf _ z).2.1 rfl
  refine I.step (g' := s.gens) (d' := s.drawn) (ch := fp) (fun b hb => ⟨(hf b hb).2.2.2.1, (hf b hb).2.1, (hf b hb).2.2.2.2.1, (hf b hb).2.2.2.2.2⟩) (fun b ob _ _ hc q _ => k b ob hc q) (fun b ob _ _ hc q _ => ⟨ob.slots, k b ob hc q⟩)
    (fun _ _ _ _ n => n) (fun b ob hc q => ⟨ob, k b ob hc q⟩) (fun _ _ q => q) (fun _ _ _ q => q) (fun b ps q => ⟨#[], by rw [q]; simp⟩) (fun m hm => ?_) (fun b u q => ?_) I.bare
  · obtain ⟨ob, es, ep, ho, r⟩ := hm
    exact ⟨ob, es, ep, k _ ob nl ho, r⟩
  · refine (I.hok b u q).stay (fun c v hc z => k c v ?_ z) (fun c z => z) fun c xs z => z
    rcases hc with z | z
    · rw [z]; exact nf b u q
    · exact nf c _ z
theorem Inv.turned_laidN {t' : Nat} {fp : List Addr} {a : Addr} {o : HO} (I : Inv X pins σ H s) (k : ∀ b ob, b ∉ fp → s.heap.get? b = some ob → h'.get? b = some ob) (hf : ∀ b ∈ fp, FpOk X pins H b) (hp : s.heap.objs.size ≤ a) (new : ObjOk X.prog X.w (upd H a o) h' a o) :
    Inv X pins σ (upd H a o) { s with heap := h', toks := t' } := by
  have hn : H a = none := I.hok.fresh hp
  have nf : ∀ b u, H b = some u → b ∉ fp := fun b u q z => by rw [(hf b z).1] at q; cases q
  have nl : X.env.locals ∉ fp := fun z => (hf _ z).2.1 rfl
  refine I.step (g' := s.gens) (d' := s.drawn) (ch := fp) (fun b hb => ⟨(hf b hb).2.2.2.1, (hf b hb).2.1, (hf b hb).2.2.2.2.1, (hf b hb).2.2.2.2.2⟩) (fun b ob _ _ hc q _ => k b ob hc q) (fun b ob _ _ hc q _ => ⟨ob.slots, k b ob hc q⟩)
    (fun b ob hc q n => by rw [upd_ne (Nat.ne_of_lt (Nat.lt_of_lt_of_le (Heap.lt_size q) hp))]; exact n) (fun b ob hc q => ⟨ob, k b ob hc q⟩) (fun b xs q => by rw [upd_ne (ne_of_none q hn)]; exact q) (fun b ob u q => by rw [upd_ne (ne_of_none q hn)]; exact q)
    (fun b ps q => ⟨#[], by rw [upd_ne (ne_of_none q hn), q]; simp⟩) (fun m hm => ?_) (fun b u q => ?_) I.bare
  · obtain ⟨ob, es, ep, ho, r⟩ := hm
    exact ⟨ob, es, ep, k _ ob nl ho, r⟩
  · by_cases hb : b = a
    · subst hb; rw [upd_same] at q; cases q; exact new
    · rw [upd_ne hb] at q
      refine (I.hok b u q).stay (fun c v hc z => k c v ?_ z) (fun c z => by rw [upd_ne (ne_of_none z hn)]; exact z) fun c xs z => by rw [upd_ne (ne_of_none z hn)]; exact z
      rcases hc with z | z
      · rw [z]; exact nf b u q
      · exact nf c _ z
end
def ItZS (x y : Str) : It :=
  ⟨fun i _ => i < x.cps.size, fun i H v H' => ∃ t c e, v = .ref t ∧ H t = none ∧ x.cps.toList[i]? = some c ∧ y.cps.toList[i]? = some e ∧ H' = upd H t (.tup [.str ⟨#[c]⟩, .str ⟨#[e]⟩]), fun i _ => i = x.cps.size⟩
def ZSt (z TI TO i1 i2 : Addr) (x : Str) (t : Tok) (y : Str) (u : Tok) (i : Nat) (h : Heap) : Prop := IsZip h z TI TO .none ∧ IsPair h TI (.ref i1) (.ref i2) ∧ (∃ a b, IsPair h TO a b) ∧ h.IsStrIter i1 (strIterType x) x t i ∧ h.IsStrIter i2 (strIterType y) y u i
theorem turn_zipS {P : Program} {w : World} {K : PySem.W.Frag} {elts : List Expr} {k0 : Nat} {pos : Pos} (z TI TO i1 i2 : Addr) (x : Str) (t : Tok) (y : Str) (u : Tok) (ap : ZAp z TI TO i1 i2) (hl : x.cps.size = y.cps.size) : Turn P w K (.Tuple elts k0 pos) (ItZS x y) [z, TI, TO, i1, i2] z (ZSt z TI TO i1 i2 x t y u) where
  mem := by simp
  obj := fun i h st b hb => by
    obtain ⟨hz, hTI, ⟨a, a', hTO⟩, ⟨o1, q1, c1, d1⟩, o2, q2, c2, d2⟩ := st
    simp only [List.mem_cons, List.not_mem_nil, or_false] at hb
    rcases hb with rfl | rfl | rfl | rfl | rfl
    · exact ⟨_, hz, fun v e => by cases e⟩
    · exact ⟨_, hTI, fun v e => by cases e⟩
    · exact ⟨_, hTO, fun v e => by cases e⟩
    · exact ⟨o1, q1, fun v e => by rw [d1] at e; cases e⟩
    · exact ⟨o2, q2, fun v e => by rw [d2] at e; cases e⟩
  keep := fun i h h' st k => by
    obtain ⟨hz, hTI, ⟨a, a', hTO⟩, ⟨o1, q1, r1⟩, o2, q2, r2⟩ := st
    exact ⟨k z (by simp) _ hz, k TI (by simp) _ hTI, ⟨a, a', k TO (by simp) _ hTO⟩, ⟨o1, k i1 (by simp) _ q1, r1⟩, o2, k i2 (by simp) _ q2, r2⟩
  item := by
    intro X hP hw hK hc i pins s σ H E I hf st hg
    subst hP hw hK
    obtain ⟨hz, hTI, ⟨a, a', hTO⟩, h1, h2⟩ := st
    have hh : X.A.in1.handled = none := by show X.A.handled = none; exact I.ok.hd hc
    have D1 := draws_str (prog := X.prog) (w := X.w) hh i1 x t
    have D2 := draws_str (prog := X.prog) (w := X.w) hh i2 y u
    have hg : i < x.cps.size := hg
    refine zd_next D1 D2 ap hz hTI hTO h1 h2 hg (by omega) fun v1 v2 g1 tk p1 p2 z1 o1 s1 s2 t1 k1 => ?_
    obtain ⟨c, u1, hc1, rfl⟩ := p1
    obtain ⟨e, u2, hc2, rfl⟩ := p2
    refine ⟨_, rfl, wpAny_letOwnedTupleGo_zip z1 fun g2 z2 sb => ?_⟩
    have lz : z < s.heap.objs.size := Heap.lt_size hz
    have kk : ∀ b ob, b ∉ [z, TI, TO, i1, i2] → s.heap.get? b = some ob → g2.get? b = some ob := fun b ob hb q => by
      simp only [List.mem_cons, List.not_mem_nil, or_false, not_or] at hb
      exact (sb.2 b hb.1).trans (k1 b ob hb.1 hb.2.2.1 hb.2.2.2.1 hb.2.2.2.2 q)
    have t2 : g2.get? s.heap.objs.size = some { cls := .type "tuple", data := .seq #[.str ⟨#[c]⟩ u1, .str ⟨#[e]⟩ u2] } := (sb.2 _ (Nat.ne_of_gt lz)).trans t1
    have new : ObjOk X.prog X.w (upd H s.heap.objs.size (.tup [.str ⟨#[c]⟩, .str ⟨#[e]⟩])) g2 s.heap.objs.size (.tup [.str ⟨#[c]⟩, .str ⟨#[e]⟩]) :=
      ⟨by show 2 ≤ sizeLine; decide, [.str ⟨#[c]⟩ u1, .str ⟨#[e]⟩ u2], .cons ⟨u1, rfl⟩ (.cons ⟨u2, rfl⟩ .nil), ⟨_, t2, rfl, _, rfl⟩⟩
    have I2 := I.turned_laidN (t' := tk) kk hf (Nat.le_refl _) new
    obtain ⟨q1, w1, r1⟩ := s1
    obtain ⟨q2, w2, r2⟩ := s2
    have kTI : g1.get? TI = _ := k1 _ _ ap.a ap.e ap.i ap.j hTI
    refine ⟨.ref s.heap.objs.size, _, I2, rfl, ⟨_, c, e, rfl, I.hok.fresh (Nat.le_refl _), by rw [Array.getElem?_toList]; exact hc1, by rw [Array.getElem?_toList]; exact hc2, rfl⟩, ⟨z2, (sb.2 _ ap.a).trans kTI, ⟨_, _, (sb.2 _ ap.b).trans o1⟩, ⟨q1, (sb.2 _ ap.c).trans w1, r1⟩, q2, (sb.2 _ ap.d).trans w2, r2⟩, fun b hb => ?_⟩
    have hlt : b < s.heap.objs.size := by
      simp only [List.mem_cons, List.not_mem_nil, or_false] at hb
      rcases hb with rfl | rfl | rfl | rfl | rfl
      · exact lz
      · exact Heap.lt_size hTI
      · exact Heap.lt_size hTO
      · obtain ⟨o, ho, _⟩ := h1; exact Heap.lt_size ho
      · obtain ⟨o, ho, _⟩ := h2; exact Heap.lt_size ho
    rw [upd_ne (Nat.ne_of_lt hlt)]
    exact (hf b hb).1
  done := by
    intro X hP hw hK hc i pins s σ H E I hf st hg
    subst hP hw hK
    obtain ⟨hz, hTI, ⟨a, a', hTO⟩, h1, h2⟩ := st
    have hg : i = x.cps.size := hg
    subst hg
    have D1 := draws_str (prog := X.prog) (w := X.w) (A := X.A.in1) (by show X.A.handled = none; exact I.ok.hd hc) i1 x t
    exact zd_stop D1 ap hz hTI h1 fun h' hx => ⟨rfl, I.turnedN (t' := s.toks) (fun b ob hb q => by
      simp only [List.mem_cons, List.not_mem_nil, or_false, not_or] at hb
      exact hx b ob hb.1 hb.2.2.2.1 q) hf⟩
  self := fun A i s Q E st h => wpAny_pyIter_zip st.1 h
section
variable {X : Cx} {p pos pos2 : Pos} {a b : Expr} {elts : List Expr} {k0 : Nat} {ta tb : TE}
def rZip (R : It → Hp → Prop) (vs : List V) (H : Hp) : Prop := match vs with
  | [.str x, .str y] => x.cps.size = y.cps.size ∧ R (ItZS x y) H
  | _ => False
def iZip (t : TA) : TI := fun σ H R => t σ H fun vs H1 => rZip R vs H1
theorem kzip {t : TA} (hm : X.mg "zip" = none) (hA : PA X [a, b] t) (hg : Gl X "zip" := by rfl) (hs : starEach [a, b] X.env = (false, eval a X.env) :: starEach [b] X.env := by rfl) (hp : (backTo pos (starEach [b] X.env)).any (·.1) = false := by rfl) : PI X (.Tuple elts k0 pos2) (.Call (.Name "zip" p) [a, b] [] pos) (iZip t) := by
  intro pins s σ H R I h
  refine Call_ (ld_blt I hg hm bo_zip (PyProof.Rows.callWith_type1 (thn (hA pos pins s σ H (fun vs H1 => rZip R vs H1) I h) fun us s1 ⟨vs, H1, I1, r1, q1⟩ => ?_) hs hp) (by decide) (by decide))
  replace q1 : rZip R vs H1 := q1
  unfold rZip at q1
  split at q1
  · rename_i x y
    obtain ⟨u1, u2, rfl, ⟨t1, rfl⟩, t2, rfl⟩ := vals2 r1
    refine call_zipS fun h' q2 q3 q4 q5 q6 hk => ?_
    have I2 : Inv X pins σ H1 { s1 with heap := h' } := I1.kept (t' := s1.toks) hk
    refine wpAny_pyIter_zip q2 ⟨s1.heap.objs.size + 4, [s1.heap.objs.size + 4, s1.heap.objs.size + 2, s1.heap.objs.size + 3, s1.heap.objs.size, s1.heap.objs.size + 1], _, _, H1, rfl, I2, turn_zipS _ _ _ _ _ x t1 y t2 ?_ q1.1, ⟨q2, q3, ⟨_, _, q4⟩, q5, q6⟩, fun b hb => ?_, q1.2⟩
    · have f : ∀ i j : Nat, i ≠ j → s1.heap.objs.size + i ≠ s1.heap.objs.size + j := fun i j h => by omega
      exact ⟨f 2 4 (by decide), f 3 4 (by decide), f 0 4 (by decide), f 1 4 (by decide), f 2 3 (by decide), f 3 0 (by decide), f 3 1 (by decide), f 0 1 (by decide), f 2 0 (by decide), f 2 1 (by decide)⟩
    · have hb2 : s1.heap.objs.size ≤ b := by
        simp only [List.mem_cons, List.not_mem_nil, or_false] at hb
        rcases hb with rfl | rfl | rfl | rfl | rfl
        · exact Nat.le_add_right _ _
        · exact Nat.le_add_right _ _
        · exact Nat.le_add_right _ _
        · exact Nat.le_refl _
        · exact Nat.le_add_right _ _
      exact I1.fpOk hb2 (I1.hok.fresh hb2)
  · exact q1.elim
end
section
variable {K : PySem.W.Frag} {σ rest : St} {H : Hp} {t : TA} {te : TE} {src : List (Option Nat)} {Q : VK} {x y : Str}
theorem comp_zipS (hl : Av t σ H [.str x, .str y]) (hlen : x.cps.size = y.cps.size) (hz : x.length ≤ 1000) (hs : subSt src σ = none :: none :: rest) (f : Nat → Nat → V)
    (he : ∀ (i c e : Nat) (H' : Hp), x.cps.toList[i]? = some c → y.cps.toList[i]? = some e → Same H H' → Ev te (some (.str (one c)) :: some (.str (one e)) :: rest) H' (f c e))
    (q : ∀ H' d, Same H H' → H' d = none → Q (.ref d) (upd H' d (.lst (List.zipWith f x.cps.toList y.cps.toList)))) : tComp (iZip t) (gTup K 2 (gCons (gName 0) (gCons (gName 1) gNil))) tNoIf te src σ H Q := by
  have hx : x.cps.toList.length = x.length := Array.length_toList
  have hy : y.cps.toList.length = x.length := by rw [Array.length_toList]; exact hlen.symm
  refine hl _ ⟨hlen, ?_⟩
  show compWant _ tNoIf te src σ Q (ItZS x y) H
  refine comp_inv x.length (fun i ys σ' H' => Same H H' ∧ (∃ o0 o1, σ' = o0 :: o1 :: rest) ∧ ys = List.zipWith f (x.cps.toList.take i) (y.cps.toList.take i)) (Nat.le_trans hz (by decide)) (fun i ys σ H h => ?_) (fun i ys σ H h hi => hi) (fun ys σ H h => rfl) ⟨Same.refl H, ⟨_, _, hs⟩, by simp⟩ ?_ ?_
  · rw [h.2.2, List.length_zipWith, List.length_take, List.length_take]
    omega
  · rintro i ys _ H1 v H2 hi ⟨s1, ⟨o0, o1, rfl⟩, rfl⟩ ⟨tq, c, e, rfl, ht0, hc, hd, rfl⟩ Kt Kf kt kf
    have s2 : Same H (upd H1 tq (.tup [.str ⟨#[c]⟩, .str ⟨#[e]⟩])) := s1.upd ht0
    refine ⟨tq, _, rfl, SqT.of upd_same, rfl, _, _, rfl, _, _, rfl, rfl, ?_⟩
    simp only [tNoIf, if_true]
    refine he i c e _ hc hd s2 _ (kt _ _ _ ⟨s2, ⟨_, _, rfl⟩, ?_⟩)
    rw [List.take_add_one, List.take_add_one, hc, hd]
    rw [List.zipWith_append (by rw [List.length_take, List.length_take, hx, hy])]
    rfl
  · rintro ys σ' H' d ⟨s1, _, rfl⟩ hd
    rw [List.take_of_length_le (by omega), List.take_of_length_le (by omega)]
    exact q H' d s1 hd
end
def cellB (ks : List Nat) (c e : Nat) : Bool := if e = 35 then decide (c = 35) else decide (c = 46 ∨ c ∈ ks ∨ c ∈ ks.map (· - 32))
def rowB (wi hi : Int) (hs : List Int) (ks : List Nat) (v : V) : Bool := match v with
  | .str z => decide (z.length = (emptyT wi hi hs).length) && (List.zipWith (cellB ks) z.cps.toList (emptyT wi hi hs).cps.toList).all id
  | _ => false
def placeB (wi hi : Int) (hs : List Int) (ks : List Nat) (H : Hp) (v : V) : Bool := match tupOf H v with
  | some [a, b] => rowB wi hi hs ks a && amongB b 0 1
  | _ => false
theorem placeB_tup {wi hi : Int} {hs : List Int} {ks : List Nat} {H : Hp} {v a b : V} (e : tupOf H v = some [a, b]) : placeB wi hi hs ks H v = (rowB wi hi hs ks a && amongB b 0 1) := by
  unfold placeB; rw [e]
theorem placeB_no {wi hi : Int} {hs : List Int} {ks : List Nat} {H : Hp} {v : V} (h : tupB H v 2 = false) : placeB wi hi hs ks H v = false := by
  unfold tupB at h
  unfold placeB
  split
  · rename_i e1
    rw [e1] at h
    cases h
  · rfl
def spRowG (K : PySem.W.Frag) (cB cG : Addr) : Sp := fun vs H Q _ => ∃ (g b : Addr) (v : V) (wi hi : Int) (hs : List Int) (ks : List Nat) (rs ts es : List V) (st : Str), vs = [.ref g, v] ∧ GmAt cG H g b (ks.map strV) rs ts es st ∧ BrdAt K cB H b wi hi hs ∧ (∀ k ∈ ks, Ltr k) ∧ ks.length ≤ 6 ∧ Thg H v ∧ ∀ H', Same H H' → Q (.bl (rowB wi hi hs ks v)) H'
def spPlaceG (K : PySem.W.Frag) (cB cG : Addr) : Sp := fun vs H Q _ => ∃ (g b : Addr) (v : V) (wi hi : Int) (hs : List Int) (ks : List Nat) (rs ts es : List V) (st : Str), vs = [.ref g, v] ∧ GmAt cG H g b (ks.map strV) rs ts es st ∧ BrdAt K cB H b wi hi hs ∧ (∀ k ∈ ks, Ltr k) ∧ ks.length ≤ 6 ∧ ThgN H 1 v ∧ ∀ H', Same H H' → Q (.bl (placeB wi hi hs ks H v)) H'
structure CR1 (P : Program) (w : World) (K : PySem.W.Frag) (mg : Str → Option Value) (base : Heap) (cB : Addr) : Prop where
  sign_of : Cal P w K mg base "sign_of" ["kind", "side"] 1 spSign
  empty_row : Cal P w K mg base "empty_row" ["board"] 4 (spEmpty K cB)
structure CR2 (P : Program) (w : World) (K : PySem.W.Frag) (mg : Str → Option Value) (base : Heap) (cB cG : Addr) : Prop where
  is_tuple_of : Cal P w K mg base "is_tuple_of" ["thing", "many"] 1 spTupG
  is_among : Cal P w K mg base "is_among" ["thing", "least", "most"] 2 spAmongG
  is_row : Cal P w K mg base "is_row" ["game", "thing"] 5 (spRowG K cB cG)
section
variable {K : PySem.W.Frag} {te ta tb : TE} {t ta' : TA} {c : TT} {u e t1 : TS} {D : Ends} {σ : St} {H : Hp} {Q : VK} {R : List V → Hp → Prop} {v : V}
theorem st_midH (P : St → Hp → Prop) (hu : ∀ σ' H', P σ' H' → u D σ' H') (h : (∀ σ' H', P σ' H' → u D σ' H') → tSeq (tIfS c t1 e) u D σ H) : tSeq (tIfS c t1 e) u D σ H := h hu
theorem lis_k {d : Addr} {ys : List V} (h : Ev te σ H (.ref d)) (hd : SqL K H d ys ∨ SqT K H d ys) (q : ∀ l, H l = none → Q (.ref l) (upd H l (.lst ys))) : cB (listA K) (tCons te tNil) σ H Q := h _ ⟨ys, hd, q⟩
theorem asg1_k {i : Nat} (h : te σ H (fun v H' => D.nx (σ.set i (some v)) H')) : tAsg te (gName i) D σ H := h
theorem cons_k (h : Ev te σ H v) (q : ta' σ H (fun xs H2 => R (v :: xs) H2)) : tCons te ta' σ H R := h _ q
theorem consx_k (h : te σ H (fun x H1 => ta' σ H1 (fun xs H2 => R (x :: xs) H2))) : tCons te ta' σ H R := h
theorem nil_k (q : R [] H) : tNil σ H R := q
theorem lst_k (q : t σ H (fun vs H2 => vs.length ≤ sizeLine ∧ ∀ p, H2 p = none → Q (.ref p) (upd H2 p (.lst vs)))) : tLst t σ H Q := q
theorem tup_k (q : t σ H (fun vs H2 => vs.length ≤ sizeLine ∧ ∀ p, H2 p = none → Q (.ref p) (upd H2 p (.tup vs)))) : tTup t σ H Q := q
theorem cat_k (h : ta σ H fun x H1 => tb σ H1 fun y H2 => binA .Add x y H2 Q) : cBin .Add ta tb σ H Q := h
theorem cat_lst {a b : Addr} {xs ys : List V} (ha : H a = some (.lst xs)) (hb : H b = some (.lst ys)) (hz : xs.length + ys.length ≤ 1000) (q : ∀ p, H p = none → Q (.ref p) (upd H p (.lst (xs ++ ys)))) : binA .Add (.ref a) (.ref b) H Q := by
  rw [r_addr]
  exact ⟨a, b, xs, ys, rfl, rfl, ha, hb, Nat.le_trans hz (by decide), q⟩
end
theorem one_eq {a b : Nat} : (one a = one b) ↔ a = b := by
  constructor
  · intro h
    have h : (one a).cps.toList = (one b).cps.toList := by rw [h]
    have h : [a] = [b] := h
    injection h
  · intro h; rw [h]
theorem hash_one : ("#" : Str) = one 35 := by decide +kernel
theorem dot_one : ("." : Str) = one 46 := by decide +kernel
theorem dec_iff {p q : Prop} [Decidable p] [Decidable q] (h : p ↔ q) : decide p = decide q := by
  by_cases hp : p
  · rw [decide_eq_true hp, decide_eq_true (h.mp hp)]
  · rw [decide_eq_false hp, decide_eq_false (fun z => hp (h.mpr z))]
def upV : V → V
  | .str z => .str (one (z.cps.toList.getD 0 0 - 32))
  | v => v
end L2
namespace L2
open PySem PySem.Spec PyProof.Rows
theorem vals_of : ∀ {xs : List V} {us : List Value}, xs.length = us.length → (∀ (i : Nat) x u, xs[i]? = some x → us[i]? = some u → RelV x u) → Vals xs us
  | [], [], _, _ => .nil
  | [], _ :: _, h, _ => by simp at h
  | _ :: _, [], h, _ => by simp at h
  | x :: xs, u :: us, h, r => .cons (r 0 x u rfl rfl) (vals_of (by simpa using h) fun i a b h1 h2 => r (i + 1) a b (by simpa using h1) (by simpa using h2))
section
variable {X : Cx}
def lisSA (xs : List V) (H : Hp) (Q : VK) : Prop := match xs with
  | [.str z] => z.length ≤ 1000 ∧ ∀ l, H l = none → Q (.ref l) (upd H l (.lst (z.cps.toList.map strV)))
  | _ => False
theorem call_lisSA (hc : X.calm = true) : CallR X (.type "list") lisSA := by
  intro pins s σ H xs us Q I r h
  unfold lisSA at h
  split at h
  · rename_i z
    obtain ⟨hz, q⟩ := h
    obtain ⟨u, rfl, t, rfl⟩ := vals1 r
    have hz2 : z.cps.size ≤ 1000 := hz
    refine call_list_str (I.ok.hd hc) z t (hn := Nat.le_trans hz2 (by decide)) fun h' tk acc c' hk hS hacc => ?_
    have rel : Vals (z.cps.toList.map strV) acc.toList := by
      refine vals_of (by rw [List.length_map, Array.length_toList, Array.length_toList, hacc.1]) fun i x u h1 h2 => ?_
      rw [Array.getElem?_toList] at h2
      obtain ⟨c, u', h3, rfl⟩ := hacc.2 i u h2
      rw [List.getElem?_map, Array.getElem?_toList, h3] at h1
      cases h1
      exact ⟨u', rfl⟩
    exact ⟨.ref s.heap.objs.size, _, I.laid (t' := tk) hk (Nat.le_refl _) (show ObjOk X.prog X.w _ h' _ (.lst (z.cps.toList.map strV)) from ⟨by rw [List.length_map, Array.length_toList]; exact Nat.le_trans hz2 (by decide), acc.toList, c', rel, by simpa using hS⟩), rfl, q _ (I.hok.fresh (Nat.le_refl _))⟩
  · exact h.elim
end
end L2
local macro_rules | `(tactic| walk_at "rd") => `(tactic| simp only [L2.tSeq, L2.tIfS, L2.tRet, L2.tAsg, L2.gName, L2.tNext, L2.tDrop, L2.cVar, L2.tC, L2.cBin, L2.binA, L2.cCmp, L2.cmpA, L2.eqB, L2.cTest, L2.bOnly, L2.cAndV, L2.cOrV, L2.cNotV, L2.cNeg, L2.cIs, L2.isA, L2.cIx, L2.ixA, L2.cSl, L2.slA, L2.cPart, L2.tNoPart, L2.cB, L2.tCons, L2.tNil, L2.cSM, L2.cSM0, L2.cCall, L2.tNot, L2.tAnd, L2.tOr, L2.tIf, L2.cChain, L2.cChainT, L2.lenA, L2.minA, L2.strA, L2.intA, L2.swA, L2.upA, L2.cJR, List.getElem?_cons_zero, List.getElem?_cons_succ, List.set_cons_zero, List.set_cons_succ])
seal L2.PE L2.PT L2.PA L2.PS L2.PSs L2.PG L2.PGs L2.PI L2.PO L2.PIfs L2.PW L2.CallR L2.MtR L2.OpR L2.UnR L2.IxR L2.SlR
namespace L2
open PySem PySem.Spec PyProof.Rows
theorem FnOk.or {P : Program} {w : World} {K : PySem.W.Frag} {mg : Str → Option Value} {base : Heap} {CX : CXT} {k : Nat} {f : Addr} {fd : FuncData} {ps : List Str} {sp sp' : Sp} (F : FnOk P w K mg base CX k f fd ps sp) (G : FnOk P w K mg base CX k f fd ps sp') :
    FnOk P w K mg base CX k f fd ps (fun vs H Q E => sp vs H Q E ∨ sp' vs H Q E) :=
  ⟨fun vs H Q E h => h.elim (F.len vs H Q E) (G.len vs H Q E), fun A outer s H args us vs Q E hr he hb hv hs => hs.elim (F.run A outer s H args us vs Q E hr he hb hv) (G.run A outer s H args us vs Q E hr he hb hv)⟩
def spTextN : Sp := fun vs H Q _ => ∃ n : Int, vs = [.int n] ∧ 0 ≤ n ∧ n < 10 ^ 60 ∧ ∀ H', Same H H' → Q (.str (Str.ofString (toString n))) H'
def spText : Sp := fun vs H Q _ => ∃ n : Int, vs = [.int n] ∧ n.natAbs < 10 ^ 60 ∧ ∀ H', Same H H' → Q (.str (Str.ofString (toString n))) H'
def spTextM : Sp := fun vs H Q _ => ∃ n : Int, vs = [.int n] ∧ n < 0 ∧ n.natAbs < 10 ^ 60 ∧ ∀ H', Same H H' → Q (.str (Str.ofString (toString n))) H'
def figL (l : List Nat) : List Nat := match l with
  | 45 :: r => r
  | l => l
def okNum (l : List Nat) : Bool := decide (1 ≤ (figL l).length) && decide ((figL l).length ≤ 9) && (figL l).all (fun c => decide (48 ≤ c ∧ c ≤ 57)) && !((figL l).head? == some 48 && !(l == [48]))
def numO (x : Str) : Option Int := if okNum x.cps.toList = true then PySem.intText? x else none
def numV (x : Str) : V := match numO x with
  | some n => .int n
  | none => .non
def spNum : Sp := fun vs H Q _ => ∃ x, vs = [.str x] ∧ x.length ≤ 100 ∧ ∀ H', Same H H' → Q (numV x) H'
def fig (x : Str) : Str := if [45].isPrefixOf x.cps.toList = true then cutS x (some 1) none else x
section
variable {P : Program} {w : World} {K : PySem.W.Frag} {mg : Str → Option Value} {base : Heap}
end
def lawAt (ns : List Int) (k : Int) : Int := ((if 0 < ns.length then ns.getD (k % (ns.length : Int)).toNat 0 else 0) + 17 * k) * 48271 % 1000003
theorem atI_in {α : Type} {xs : List α} {i : Int} (h0 : 0 ≤ i) (h1 : i < xs.length) : ∃ v, atI xs i = some v ∧ xs[i.toNat]? = some v := by
  have hx : xs[i.toNat]? = some (xs[i.toNat]'(by omega)) := List.getElem?_eq_getElem (by omega)
  refine ⟨_, ?_, hx⟩
  have e : i = ((i.toNat : Nat) : Int) := by omega
  have := atI_nat hx
  rw [← e] at this
  exact this
def spAt (K : PySem.W.Frag) : Sp := fun vs H Q _ => ∃ a ns k, vs = [.ref a, .int k] ∧ SqL K H a (ns.map V.int) ∧ 0 ≤ k ∧ k ≤ 1000 ∧ Q (.int (lawAt ns k)) H
def findV (a b : Str) : Int := match Builtin.Str.occurrences a b 0 a.length 1 with
  | i :: _ => (i : Int)
  | [] => -1
def findA (x : V) (vs : List V) (H : Hp) (Q : VK) : Prop := match x, vs with
  | .str a, [.str b] => Q (.int (findV a b)) H
  | _, _ => False
theorem dv_go : ∀ (l : List Nat) (a : Nat), a ≤ l.foldl (fun acc c => acc * 10 + (c - 48)) a
  | [], a => Nat.le_refl a
  | c :: r, a => Nat.le_trans (by omega) (dv_go r (a * 10 + (c - 48)))
end L2
namespace K10
open PySem L2
def top (i : Nat) : Stmt := PySem.Challenge.pw_playboard_k10_places_looked_at.main.body.getD i (.Pass ⟨0, 0, 0, 0⟩)
abbrev s__wall : Stmt := top 0
abbrev s_is_whole : Stmt := top 2
theorem sc_is_whole : FnScope ["thing"] ["thing"] (defScope s_is_whole) := ⟨rfl, rfl, rfl, by decide +kernel, rfl, by decide +kernel, by decide +kernel⟩
abbrev s_is_letter : Stmt := top 3
theorem sc_is_letter : FnScope ["thing"] ["thing"] (defScope s_is_letter) := ⟨rfl, rfl, rfl, by decide +kernel, rfl, by decide +kernel, by decide +kernel⟩
abbrev s_is_among : Stmt := top 4
theorem sc_is_among : FnScope ["thing", "least", "most"] ["thing", "least", "most"] (defScope s_is_among) := ⟨rfl, rfl, rfl, by decide +kernel, rfl, by decide +kernel, by decide +kernel⟩
abbrev s_is_word : Stmt := top 13
theorem sc_is_word : FnScope ["thing", "words"] ["thing", "words"] (defScope s_is_word) := ⟨rfl, rfl, rfl, by decide +kernel, rfl, by decide +kernel, by decide +kernel⟩
abbrev s_is_tuple_of : Stmt := top 14
theorem sc_is_tuple_of : FnScope ["thing", "many"] ["thing", "many"] (defScope s_is_tuple_of) := ⟨rfl, rfl, rfl, by decide +kernel, rfl, by decide +kernel, by decide +kernel⟩
abbrev s_is_list_of : Stmt := top 15
theorem sc_is_list_of : FnScope ["thing", "least", "most"] ["thing", "least", "most"] (defScope s_is_list_of) := ⟨rfl, rfl, rfl, by decide +kernel, rfl, by decide +kernel, by decide +kernel⟩
abbrev s_is_step : Stmt := top 16
theorem sc_is_step : FnScope ["sort", "across", "up", "longest"] ["sort", "across", "up"] (defScope s_is_step) := ⟨rfl, rfl, rfl, by decide +kernel, rfl, by decide +kernel, by decide +kernel⟩
abbrev s_is_rule : Stmt := top 17
theorem sc_is_rule : FnScope ["thing", "kinds", "sort", "aim"] ["thing", "kinds"] (defScope s_is_rule) := ⟨rfl, rfl, rfl, by decide +kernel, rfl, by decide +kernel, by decide +kernel⟩
abbrev s_is_pair : Stmt := top 18
theorem sc_is_pair : FnScope ["thing", "firsts", "seconds"] ["thing", "firsts", "seconds"] (defScope s_is_pair) := ⟨rfl, rfl, rfl, by decide +kernel, rfl, by decide +kernel, by decide +kernel⟩
abbrev s_are_pairs : Stmt := top 19
theorem sc_are_pairs : FnScope ["thing", "firsts", "seconds"] ["thing", "firsts", "seconds"] (defScope s_are_pairs) := ⟨rfl, rfl, rfl, by decide +kernel, rfl, by decide +kernel, by decide +kernel⟩
abbrev s_is_turns : Stmt := top 20
theorem sc_is_turns : FnScope ["thing", "kinds", "firsts"] ["thing", "kinds"] (defScope s_is_turns) := ⟨rfl, rfl, rfl, by decide +kernel, rfl, by decide +kernel, by decide +kernel⟩
abbrev s_is_ends : Stmt := top 21
theorem sc_is_ends : FnScope ["thing", "kinds"] ["thing", "kinds"] (defScope s_is_ends) := ⟨rfl, rfl, rfl, by decide +kernel, rfl, by decide +kernel, by decide +kernel⟩
abbrev s_are_kinds : Stmt := top 22
theorem sc_are_kinds : FnScope ["thing"] ["thing"] (defScope s_are_kinds) := ⟨rfl, rfl, rfl, by decide +kernel, rfl, by decide +kernel, by decide +kernel⟩
abbrev s_are_rules : Stmt := top 23
theorem sc_are_rules : FnScope ["thing", "kinds"] ["thing", "kinds"] (defScope s_are_rules) := ⟨rfl, rfl, rfl, by decide +kernel, rfl, by decide +kernel, by decide +kernel⟩
abbrev s_sign_of : Stmt := top 27
theorem sc_sign_of : FnScope ["kind", "side"] ["kind", "side"] (defScope s_sign_of) := ⟨rfl, rfl, rfl, by decide +kernel, rfl, by decide +kernel, by decide +kernel⟩
abbrev s_empty_row : Stmt := top 28
theorem sc_empty_row : FnScope ["board"] ["board"] (defScope s_empty_row) := ⟨rfl, rfl, rfl, by decide +kernel, rfl, by decide +kernel, by decide +kernel⟩
abbrev s_is_row : Stmt := top 29
theorem sc_is_row : FnScope ["game", "thing", "bare", "signs"] ["game", "thing"] (defScope s_is_row) := ⟨rfl, rfl, rfl, by decide +kernel, rfl, by decide +kernel, by decide +kernel⟩
abbrev s_is_place : Stmt := top 30
theorem sc_is_place : FnScope ["game", "thing"] ["game", "thing"] (defScope s_is_place) := ⟨rfl, rfl, rfl, by decide +kernel, rfl, by decide +kernel, by decide +kernel⟩
abbrev s_are_holes : Stmt := top 37
theorem sc_are_holes : FnScope ["thing", "many"] ["thing", "many"] (defScope s_are_holes) := ⟨rfl, rfl, rfl, by decide +kernel, rfl, by decide +kernel, by decide +kernel⟩
abbrev s_Board___init__ : Stmt := inClass (top 38) 0
theorem sc_Board___init__ : FnScope ["self", "wide", "high", "holes"] ["self", "wide", "high", "holes"] (defScope s_Board___init__) := ⟨rfl, rfl, rfl, by decide +kernel, rfl, by decide +kernel, by decide +kernel⟩
abbrev s_Board_has : Stmt := inClass (top 38) 1
theorem sc_Board_has : FnScope ["self", "square"] ["self", "square"] (defScope s_Board_has) := ⟨rfl, rfl, rfl, by decide +kernel, rfl, by decide +kernel, by decide +kernel⟩
abbrev s_Board_squares : Stmt := inClass (top 38) 2
abbrev s_Board_moved : Stmt := inClass (top 38) 3
abbrev s_Board_far_row : Stmt := inClass (top 38) 4
abbrev s_Game___init__ : Stmt := inClass (top 40) 0
theorem sc_Game___init__ : FnScope ["self", "board", "kinds", "rules", "turns", "ends", "stuck"] ["self", "board", "kinds", "rules", "turns", "ends", "stuck"] (defScope s_Game___init__) := ⟨rfl, rfl, rfl, by decide +kernel, rfl, by decide +kernel, by decide +kernel⟩
abbrev s_Game_rules_of : Stmt := inClass (top 40) 1
abbrev s_Game_turned : Stmt := inClass (top 40) 2
abbrev s__law_cell_at : Stmt := top 42
theorem sc__law_cell_at : FnScope ["_law_script", "_law_k"] ["_law_script", "_law_k"] (defScope s__law_cell_at) := ⟨rfl, rfl, rfl, by decide +kernel, rfl, by decide +kernel, by decide +kernel⟩
abbrev s__law_mixed : Stmt := top 43
theorem sc__law_mixed : FnScope ["_law_cell", "_law_k"] ["_law_cell", "_law_k"] (defScope s__law_mixed) := ⟨rfl, rfl, rfl, by decide +kernel, rfl, by decide +kernel, by decide +kernel⟩
abbrev s__law_whole : Stmt := top 44
theorem sc__law_whole : FnScope ["_law_thing"] ["_law_thing"] (defScope s__law_whole) := ⟨rfl, rfl, rfl, by decide +kernel, rfl, by decide +kernel, by decide +kernel⟩
abbrev s__law_board : Stmt := top 45
theorem sc__law_board : FnScope ["_law_script", "_law_cell", "_law_wide", "_law_high", "_law_holes", "_law_k", "_law_hole"] ["_law_script"] (defScope s__law_board) := ⟨rfl, rfl, rfl, by decide +kernel, rfl, by decide +kernel, by decide +kernel⟩
abbrev s__law_kinds : Stmt := top 46
theorem sc__law_kinds : FnScope ["_law_cell", "_law_letters", "_law_step"] ["_law_cell"] (defScope s__law_kinds) := ⟨rfl, rfl, rfl, by decide +kernel, rfl, by decide +kernel, by decide +kernel⟩
abbrev s__law_empty : Stmt := top 47
theorem sc__law_empty : FnScope ["_law_wide", "_law_high", "_law_holes"] ["_law_wide", "_law_high", "_law_holes"] (defScope s__law_empty) := ⟨rfl, rfl, rfl, by decide +kernel, rfl, by decide +kernel, by decide +kernel⟩
abbrev s__law_row : Stmt := top 48
theorem sc__law_row : FnScope ["_law_script", "_law_game", "_law_start", "_law_size", "_law_free", "_law_signs", "_law_cell", "_law_cells", "_law_spots", "_law_k", "_law_square", "_law_more", "_law_kind"] ["_law_script", "_law_game", "_law_start"] (defScope s__law_row) := ⟨rfl, rfl, rfl, by decide +kernel, rfl, by decide +kernel, by decide +kernel⟩
abbrev s__law_odd_row : Stmt := top 49
theorem sc__law_odd_row : FnScope ["_law_row_here", "_law_cell", "_law_at", "_law_letter", "_law_other", "_law_kind", "_law_sign"] ["_law_row_here", "_law_cell"] (defScope s__law_odd_row) := ⟨rfl, rfl, rfl, by decide +kernel, rfl, by decide +kernel, by decide +kernel⟩
abbrev s__law_odd : Stmt := top 50
theorem sc__law_odd : FnScope ["_law_row_here", "_law_side", "_law_cell", "_law_kind", "_law_more"] ["_law_row_here", "_law_side", "_law_cell"] (defScope s__law_odd) := ⟨rfl, rfl, rfl, by decide +kernel, rfl, by decide +kernel, by decide +kernel⟩
abbrev s__law_good : Stmt := top 51
theorem sc__law_good : FnScope ["_law_thing", "_law_wide", "_law_high", "_law_holes", "_law_kinds_here", "_law_pieces", "_law_square"] ["_law_thing", "_law_wide", "_law_high", "_law_holes", "_law_kinds_here"] (defScope s__law_good) := ⟨rfl, rfl, rfl, by decide +kernel, rfl, by decide +kernel, by decide +kernel⟩
abbrev s__law_told : Stmt := top 52
theorem sc__law_told : FnScope ["_law_game", "_law_thing", "_law_due", "_law_found"] ["_law_game", "_law_thing", "_law_due"] (defScope s__law_told) := ⟨rfl, rfl, rfl, by decide +kernel, rfl, by decide +kernel, by decide +kernel⟩
abbrev s_law : Stmt := top 53
theorem sc_law : FnScope ["_law_script", "_law_wide", "_law_high", "_law_holes", "_law_kinds_here", "_law_game", "_law_row_here", "_law_side", "_law_things", "_law_k", "_law_cell", "_law_thing"] ["_law_script"] (defScope s_law) := ⟨rfl, rfl, rfl, by decide +kernel, rfl, by decide +kernel, by decide +kernel⟩
structure Txt (mg : Str → Option Value) (aS aA aE aW : Addr) : Prop where
  isinstance : mg "isinstance" = none
  int : mg "int" = none
  bool : mg "bool" = none
  str : mg "str" = none
  list : mg "list" = none
  tuple : mg "tuple" = none
  len : mg "len" = none
  range : mg "range" = none
  all : mg "all" = none
  any : mg "any" = none
  set : mg "set" = none
  sorted : mg "sorted" = none
  min : mg "min" = none
  enumerate : mg "enumerate" = none
  zip : mg "zip" = none
  EMPTY : ∃ u, mg "EMPTY" = some u ∧ RelV (.str ".") u
  HOLE : ∃ u, mg "HOLE" = some u ∧ RelV (.str "#") u
  MOST_PAIRS : ∃ u, mg "MOST_PAIRS" = some u ∧ RelV (.int 6) u
  MOST_KINDS : ∃ u, mg "MOST_KINDS" = some u ∧ RelV (.int 6) u
  MOST_RULES : ∃ u, mg "MOST_RULES" = some u ∧ RelV (.int 24) u
  LONGEST : ∃ u, mg "LONGEST" = some u ∧ RelV (.int 8) u
  SORTS : ∃ u, mg "SORTS" = some u ∧ RelV (.ref aS) u
  AIMS : ∃ u, mg "AIMS" = some u ∧ RelV (.ref aA) u
  END_WORDS : ∃ u, mg "END_WORDS" = some u ∧ RelV (.ref aE) u
  STUCK_WORDS : ∃ u, mg "STUCK_WORDS" = some u ∧ RelV (.ref aW) u
section
variable {P : Program} {w : World} {K : PySem.W.Frag} {mg : Str → Option Value} {base : Heap} {aS aA aE aW : Addr}
theorem ok_is_whole {f : Addr} {fd : FuncData} (F : Fun K "is_whole" "is_whole" s_is_whole f fd) (T : Txt mg aS aA aE aW) : FnOk P w K mg base CX0 1 f fd ["thing"] spWholeG := by
  refine F.ok sc_is_whole (fun vs H Q E h => ?_) (fun cdv A outer s H vs Q E hr h => ?_)
  · obtain ⟨v, rfl, _⟩ := h
    rfl
  · obtain ⟨v, rfl, t, q⟩ := h
    refine ⟨_, (pss_one (ps_ret (ce_and (kis .int T.isinstance T.int bo_int (cv 0)) (pe_one (ce_not (kis .bool T.isinstance T.bool bo_bool (cv 0))))))), ?_⟩
    show tRet _ _ [some v] H
    refine st_ret (ev_and (ev_is (ev_v rfl) t) (fun _ => ev_not (ev_is (ev_v rfl) t))) ?_
    rw [whole_is t]
    exact q
theorem ok_is_among {f : Addr} {fd : FuncData} (F : Fun K "is_among" "is_among" s_is_among f fd) (T : Txt mg aS aA aE aW) (C : RG0 P w K mg base) : FnOk P w K mg base CX0 2 f fd ["thing", "least", "most"] spAmongG := by
  refine F.ok sc_is_among (fun vs H Q E h => ?_) (fun cdv A outer s H vs Q E hr h => ?_)
  · obtain ⟨v, a, b, rfl, _⟩ := h
    rfl
  · obtain ⟨v, a, b, rfl, t, q⟩ := h
    have hu := hu20 hr
    refine ⟨_, (pss_one (ps_ret (ce_and (kcall C.is_whole hr (pac (cv 0) pa_nil)) (pe_one (kchain K hu (cv 1) (cv 0) (cv 2)))))), ?_⟩
    show tRet _ _ [some v, some (.int a), some (.int b)] H
    have hc := ev_call (sp := spWholeG) (σ := [some v, some (.int a), some (.int b)]) (H := H) (av_cons (ev_v (n := 0) rfl) av_nil) (fun Q q => ⟨v, rfl, t, q⟩)
    cases v with
    | int i => exact st_ret (ev_and hc (fun _ => ev_clee (ev_v rfl) (ev_v rfl) (fun _ => ev_v rfl))) q
    | _ => exact st_ret (ev_and (b := false) hc (fun h => by cases h)) q
theorem ok_is_word {f : Addr} {fd : FuncData} (F : Fun K "is_word" "is_word" s_is_word f fd) (T : Txt mg aS aA aE aW) : FnOk P w K mg base CX0 1 f fd ["thing", "words"] (spWordG K) := by
  refine F.ok sc_is_word (fun vs H Q E h => ?_) (fun cdv A outer s H vs Q E hr h => ?_)
  · obtain ⟨v, d, ws, rfl, _⟩ := h
    rfl
  · obtain ⟨v, d, ws, rfl, t, hw, q⟩ := h
    have hu := hu20 hr
    refine ⟨_, (pss_one (ps_ret (ce_and (kis .str T.isinstance T.str bo_str (cv 0)) (pe_one (kcmp K hu (cv 0) (cv 1)))))), ?_⟩
    show tRet _ _ [some v, some (.ref d)] H
    have hs := ev_is (T := .str) (te := cVar 0) (σ := [some v, some (.ref d)]) (ev_v rfl) t
    rw [str_is t] at hs
    cases v with
    | str z => exact st_ret (ev_and hs (fun _ => ev_inw (ev_v rfl) (ev_v rfl) hw)) q
    | _ => exact st_ret (ev_and (b := false) hs (fun h => by cases h)) q
theorem ok_is_tuple_of {f : Addr} {fd : FuncData} (F : Fun K "is_tuple_of" "is_tuple_of" s_is_tuple_of f fd) (T : Txt mg aS aA aE aW) : FnOk P w K mg base CX0 1 f fd ["thing", "many"] spTupG := by
  refine F.ok sc_is_tuple_of (fun vs H Q E h => ?_) (fun cdv A outer s H vs Q E hr h => ?_)
  · obtain ⟨v, n, rfl, _⟩ := h
    rfl
  · obtain ⟨v, n, rfl, t, q⟩ := h
    have hu := hu20 hr
    refine ⟨_, (pss_one (ps_ret (ce_and (kis .tuple T.isinstance T.tuple bo_tuple (cv 0)) (pe_one (kcmp K hu (kB (klen K) bo_len T.len (pac (cv 0) pa_nil)) (cv 1)))))), ?_⟩
    show tRet _ _ [some v, some (.int n)] H
    have hs := ev_is (T := .tuple) (te := cVar 0) (σ := [some v, some (.int n)]) (ev_v rfl) t
    rw [tup_is t] at hs
    unfold tupB at q
    cases e : tupOf H v with
    | none =>
      rw [e] at hs q
      exact st_ret (ev_and (b := false) hs (fun h => by cases h)) q
    | some xs =>
      rw [e] at hs q
      obtain ⟨a, rfl, ha⟩ := tupOf_some e
      exact st_ret (ev_and hs (fun _ => ev_eq (ev_len (ev_v rfl) (.inr (SqT.of ha))) (ev_v rfl))) q
theorem ok_is_list_of {f : Addr} {fd : FuncData} (F : Fun K "is_list_of" "is_list_of" s_is_list_of f fd) (T : Txt mg aS aA aE aW) : FnOk P w K mg base CX0 1 f fd ["thing", "least", "most"] spLstG := by
  refine F.ok sc_is_list_of (fun vs H Q E h => ?_) (fun cdv A outer s H vs Q E hr h => ?_)
  · obtain ⟨v, a, b, rfl, _⟩ := h
    rfl
  · obtain ⟨v, a, b, rfl, t, q⟩ := h
    have hu := hu20 hr
    refine ⟨_, (pss_one (ps_ret (ce_and (kis .list T.isinstance T.list bo_list (cv 0)) (pe_one (kchain K hu (cv 1) (kB (klen K) bo_len T.len (pac (cv 0) pa_nil)) (cv 2)))))), ?_⟩
    show tRet _ _ [some v, some (.int a), some (.int b)] H
    have hs := ev_is (T := .list) (te := cVar 0) (σ := [some v, some (.int a), some (.int b)]) (ev_v rfl) t
    rw [lst_is t] at hs
    unfold lstB at q
    cases e : lstOf H v with
    | none =>
      rw [e] at hs q
      exact st_ret (ev_and (b := false) hs (fun h => by cases h)) q
    | some xs =>
      rw [e] at hs q
      obtain ⟨d, rfl, hd⟩ := lstOf_some e
      exact st_ret (ev_and hs (fun _ => ev_clee (ev_v rfl) (ev_len (ev_v rfl) (.inl (SqL.of hd))) (fun _ => ev_v rfl))) q
theorem ok_is_step {f : Addr} {fd : FuncData} (F : Fun K "is_step" "is_step" s_is_step f fd) (T : Txt mg aS aA aE aW) (C : RG1 P w K mg base) : FnOk P w K mg base CX0 3 f fd ["sort", "across", "up"] spStepG := by
  refine F.ok sc_is_step (fun vs H Q E h => ?_) (fun cdv A outer s H vs Q E hr h => ?_)
  · obtain ⟨so, x, y, rfl, _⟩ := h
    rfl
  · obtain ⟨so, x, y, rfl, tx, ty, q⟩ := h
    have hu := hu20 hr
    refine ⟨_, (pss_cons (ps_set (i := 3) sc_is_step.nd rfl (Or.inl rfl) (pe_ifExp (ktcmp K hu (cv 0) pe_str) pe_int pe_int))
      (pss_cons (ps_if (PW.pt (pw_or (pt_not (ct_val (kcall C.is_among hr (pac (cv 1) (pac (ce_neg (cv 3)) (pac (cv 3) pa_nil)))))) (pw_or1 (pt_not (ct_val (kcall C.is_among hr (pac (cv 2) (pac (ce_neg (cv 3)) (pac (cv 3) pa_nil))))))))) (pss_one (ps_ret pe_bl)) pss_nil)
      (pss_one (ps_ret (ce_or (kcmp K hu (cv 1) pe_int) (pe_one (kcmp K hu (cv 2) pe_int))))))), ?_⟩
    show tSeq _ _ _ [some (.str so), some x, some y, none] H
    refine st_set (v := .int (limS so)) (fun Q q => ?_) ?_
    · refine evk (ev_if (tv_e (ev_eqs (ev_v rfl) ev_c)) (fun _ => ev_c) (fun _ => ev_c)) ?_
      unfold limS at q
      by_cases h : so = "leap"
      · rw [if_pos h] at q
        rw [decide_eq_true h]
        exact q
      · rw [if_neg h] at q
        rw [decide_eq_false h]
        exact q
    unfold stepB at q
    generalize limS so = l at q ⊢
    refine st_tst (tv_or (tv_not (tv_e (ev_call (av_cons (ev_v rfl) (av_cons (ev_neg (ev_v rfl)) (av_cons (ev_v rfl) av_nil))) (fun Q q => ⟨x, -l, l, rfl, tx, q⟩)))) (fun _ => tv_not (tv_e (ev_call (av_cons (ev_v rfl) (av_cons (ev_neg (ev_v rfl)) (av_cons (ev_v rfl) av_nil))) (fun Q q => ⟨y, -l, l, rfl, ty, q⟩))))) (fun h => ?_) (fun h => ?_)
    · refine st_ret ev_c ?_
      have e : (amongB x (-l) l && amongB y (-l) l && !(decide (x = .int 0) && decide (y = .int 0))) = false := by
        cases h1 : amongB x (-l) l <;> cases h2 : amongB y (-l) l <;> simp_all
      rw [e] at q
      exact q
    · have h1 : amongB x (-l) l = true := by cases h1 : amongB x (-l) l <;> simp_all
      have h2 : amongB y (-l) l = true := by cases h2 : amongB y (-l) l <;> simp_all
      cases x with
      | int i =>
        cases y with
        | int j =>
          refine st_ret (ev_or (ev_ne (ev_v rfl) ev_c) (fun _ => ev_ne (ev_v rfl) ev_c)) ?_
          rw [h1, h2] at q
          have ei : ∀ k : Int, decide (V.int k = V.int 0) = decide (k = 0) := fun k => by
            by_cases e : k = 0
            · rw [decide_eq_true e, decide_eq_true (congrArg V.int e)]
            · rw [decide_eq_false e, decide_eq_false (fun z => e (by injection z))]
          rw [ei, ei] at q
          have e : (true && true && !(decide (i = 0) && decide (j = 0))) = (!decide (i = 0) || !decide (j = 0)) := by
            cases decide (i = 0) <;> cases decide (j = 0) <;> rfl
          rw [e] at q
          exact q
        | _ => cases h2
      | _ => cases h1
theorem ok_is_pair {f : Addr} {fd : FuncData} (F : Fun K "is_pair" "is_pair" s_is_pair f fd) (T : Txt mg aS aA aE aW) (C : RG2 P w K mg base) : FnOk P w K mg base CX0 2 f fd ["thing", "firsts", "seconds"] (spPairG K) := by
  refine F.ok sc_is_pair (fun vs H Q E h => ?_) (fun cdv A outer s H vs Q E hr h => ?_)
  · obtain ⟨v, d, e, A, B, rfl, _⟩ := h
    rfl
  · obtain ⟨v, d, e, A, B, rfl, t, hA, hB, q⟩ := h
    have hu := hu20 hr
    refine ⟨_, (pss_one (ps_ret (ce_and (kcall C.is_tuple_of hr (pac (cv 0) (pac pe_int pa_nil))) (ce_and (kcall C.is_word hr (pac (kix K (cv 0) pe_int) (pac (cv 1) pa_nil))) (pe_one (kcall C.is_word hr (pac (kix K (cv 0) pe_int) (pac (cv 2) pa_nil)))))))), ?_⟩
    show tRet _ _ [some v, some (.ref d), some (.ref e)] H
    have hc := ev_call (sp := spTupG) (σ := [some v, some (.ref d), some (.ref e)]) (H := H) (x := .bl (tupB H v 2)) (av_cons (ev_v (n := 0) rfl) (av_cons (ev_c (x := .int 2)) av_nil)) (fun Q q => ⟨v, 2, rfl, t.thg, q⟩)
    unfold pairB at q
    unfold tupB at hc
    cases e1 : tupOf H v with
    | none =>
      rw [e1] at hc q
      exact st_ret (ev_and (b := false) hc (fun h => by cases h)) q
    | some xs =>
      rw [e1] at hc q
      obtain ⟨a, rfl, ha⟩ := tupOf_some e1
      have tx := t.2 xs (.inl e1)
      by_cases hl : (xs.length : Int) = 2
      · match xs, hl, e1, ha, tx, q, hc with
        | [x, y], _, e1, ha, tx, q, hc =>
          exact st_ret (ev_and hc (fun _ => ev_and (ev_call (av_cons (ev_ix (ev_v rfl) ev_c (.inr (SqT.of ha)) (atI_nat (j := 0) rfl)) (av_cons (ev_v rfl) av_nil)) (fun Q q => ⟨x, d, A, rfl, tx x (by simp), hA, q⟩))
            (fun _ => ev_call (av_cons (ev_ix (ev_v rfl) ev_c (.inr (SqT.of ha)) (atI_nat (j := 1) rfl)) (av_cons (ev_v rfl) av_nil)) (fun Q q => ⟨y, e, B, rfl, tx y (by simp), hB, q⟩)))) q
      · have e2 : pairX xs A B = false := by
          unfold pairX
          split
          · exact absurd rfl hl
          · rfl
        have hc2 : Ev (cCall spTupG (tCons (cVar 0) (tCons (tC (.int 2)) tNil))) [some (.ref a), some (.ref d), some (.ref e)] H (.bl (decide ((xs.length : Int) = 2))) := hc
        rw [decide_eq_false hl] at hc2
        have q2 : Q (.bl (pairX xs A B)) H := q
        rw [e2] at q2
        exact st_ret (ev_and (b := false) hc2 (fun h => by cases h)) q2
theorem ok_is_rule {f : Addr} {fd : FuncData} (F : Fun K "is_rule" "is_rule" s_is_rule f fd) (T : Txt mg aS aA aE aW) (hS : ∀ H, WsAt K H aS sortsL) (hA : ∀ H, WsAt K H aA aimsL) (C : RG3 P w K mg base) : FnOk P w K mg base CX0 4 f fd ["thing", "kinds"] (spRuleG K) := by
  refine F.ok sc_is_rule (fun vs H Q E h => ?_) (fun cdv A outer s H vs Q E hr h => ?_)
  · obtain ⟨v, d, ws, rfl, _⟩ := h
    rfl
  · obtain ⟨v, d, ws, rfl, t, hw, q⟩ := h
    have hu := hu20 hr
    refine ⟨_, (pss_cons (ps_if (PW.pt (pw_or (pt_not (ct_val (kcall C.is_tuple_of hr (pac (cv 0) (pac pe_int pa_nil))))) (pw_or1 (pt_not (ct_val (kcall C.is_word hr (pac (kix K (cv 0) pe_int) (pac (cv 1) pa_nil)))))))) (pss_one (ps_ret pe_bl)) pss_nil)
      (pss_cons (ps_set (i := 2) sc_is_rule.nd rfl (Or.inl rfl) (kix K (cv 0) pe_int))
      (pss_cons (ps_set (i := 3) sc_is_rule.nd rfl (Or.inl rfl) (kix K (cv 0) pe_int))
      (pss_cons (ps_if (PW.pt (pw_or (pt_not (ct_val (kcall C.is_word hr (pac (cv 2) (pac (kg T.SORTS) pa_nil))))) (pw_or1 (pt_not (ct_val (kcall C.is_word hr (pac (cv 3) (pac (kg T.AIMS) pa_nil)))))))) (pss_one (ps_ret pe_bl)) pss_nil)
      (pss_cons (ps_if (PW.pt (pw_and (ktcmp K hu (cv 2) pe_str) (pw_and1 (ktcmp K hu (cv 3) pe_str)))) (pss_one (ps_ret pe_bl)) pss_nil)
      (pss_one (ps_ret (kcall C.is_step hr (pac (cv 2) (pac (kix K (cv 0) pe_int) (pac (kix K (cv 0) pe_int) pa_nil))))))))))), ?_⟩
    show tSeq _ _ _ [some v, some (.ref d), none, none] H
    have rb : tupB H v 5 = false → ruleB H v ws = false := fun h => by
      unfold tupB at h
      unfold ruleB
      cases e1 : tupOf H v with
      | none => rfl
      | some xs =>
        rw [e1] at h
        have h : ¬ (xs.length : Int) = 5 := of_decide_eq_false h
        show ruleX xs ws = false
        unfold ruleX
        split
        · exact absurd rfl h
        · rfl
    cases hb0 : tupB H v 5 with
    | false =>
      rw [rb hb0] at q
      refine st_tst (tv_or (b := false) (tv_not (tv_e (ev_call (sp := spTupG) (x := .bl (tupB H v 5)) (av_cons (ev_v rfl) (av_cons ev_c av_nil)) (fun Q q => ⟨v, 5, rfl, t.thg, q⟩)))) (fun h => ?_)) (fun _ => st_ret ev_c q) (fun h => ?_)
      · rw [hb0] at h; cases h
      · rw [hb0] at h; cases h
    | true =>
      obtain ⟨xs, e1, hl⟩ : ∃ xs, tupOf H v = some xs ∧ (xs.length : Int) = 5 := by
        unfold tupB at hb0
        cases e1 : tupOf H v with
        | none => rw [e1] at hb0; cases hb0
        | some xs => rw [e1] at hb0; exact ⟨xs, rfl, of_decide_eq_true hb0⟩
      unfold ruleB at q
      rw [e1] at q
      have q : Q (.bl (ruleX xs ws)) H := q
      obtain ⟨a, rfl, ha⟩ := tupOf_some e1
      have tx := t.2 xs (.inl e1)
      match xs, hl, e1, ha, tx, q with
      | [k, so, ai, x, y], _, e1, ha, tx, q =>
        have hq : SqT K H a [k, so, ai, x, y] := SqT.of ha
        have hb : tupB H (.ref a) 5 = true := by unfold tupB; rw [e1]; rfl
        refine st_tst (tv_or (tv_not (tv_e (ev_call (sp := spTupG) (x := .bl (tupB H (.ref a) 5)) (av_cons (ev_v rfl) (av_cons ev_c av_nil)) (fun Q q => ⟨.ref a, 5, rfl, t.thg, q⟩)))) (fun _ => tv_not (tv_e (ev_call (sp := spWordG K) (av_cons (ev_ix (ev_v rfl) ev_c (.inr hq) (atI_nat (j := 0) rfl)) (av_cons (ev_v rfl) av_nil)) (fun Q q => ⟨k, d, ws, rfl, tx k (by simp), hw, q⟩))))) (fun h => ?_) (fun h => ?_)
        · rw [hb] at h
          have hk : wordB k ws = false := by
            cases hk : wordB k ws
            · rfl
            · rw [hk] at h; cases h
          refine st_ret ev_c ?_
          have e2 : ruleX [k, so, ai, x, y] ws = false := by
            unfold ruleX
            split
            · rename_i z; cases z; rw [hk]; simp
            · rfl
          rw [e2] at q
          exact q
        · rw [hb] at h
          have hk : wordB k ws = true := by
            cases hk : wordB k ws
            · rw [hk] at h; cases h
            · rfl
          refine st_set (v := so) (ev_ix (ev_v rfl) ev_c (.inr hq) (atI_nat (j := 1) rfl)) ?_
          refine st_set (v := ai) (ev_ix (ev_v rfl) ev_c (.inr hq) (atI_nat (j := 2) rfl)) ?_
          refine st_tst (tv_or (tv_not (tv_e (ev_call (sp := spWordG K) (av_cons (ev_v rfl) (av_cons ev_c av_nil)) (fun Q q => ⟨so, aS, sortsL, rfl, tx so (by simp), hS H, q⟩)))) (fun _ => tv_not (tv_e (ev_call (sp := spWordG K) (av_cons (ev_v rfl) (av_cons ev_c av_nil)) (fun Q q => ⟨ai, aA, aimsL, rfl, tx ai (by simp), hA H, q⟩))))) (fun h => ?_) (fun h => ?_)
          · refine st_ret ev_c ?_
            have e2 : ruleX [k, so, ai, x, y] ws = false := by
              unfold ruleX
              split
              · rename_i k' so' ai' x' y' z
                cases z
                have h : (!decide (so' ∈ sortsL) || !decide (ai' ∈ aimsL)) = true := h
                cases h1 : decide (so' ∈ sortsL) <;> cases h2 : decide (ai' ∈ aimsL) <;> simp_all
              · rfl
            rw [e2] at q
            exact q
          · have h1 : wordB so sortsL = true := by cases h1 : wordB so sortsL <;> simp_all
            have h2 : wordB ai aimsL = true := by cases h2 : wordB ai aimsL <;> simp_all
            cases so with
            | str so =>
              cases ai with
              | str ai =>
                have h1 : decide (so ∈ sortsL) = true := h1
                have h2 : decide (ai ∈ aimsL) = true := h2
                have eR : ruleX [k, .str so, .str ai, x, y] ws = (!(decide (so = "jump") && !decide (ai = "hit")) && stepB so x y) := by
                  show (wordB k ws && decide (so ∈ sortsL) && decide (ai ∈ aimsL) && !(decide (so = "jump") && !decide (ai = "hit")) && stepB so x y) = _
                  rw [hk, h1, h2]
                  simp
                rw [eR] at q
                refine st_tst (tv_and (tv_e (ev_eqs (ev_v rfl) ev_c)) (fun _ => tv_e (ev_nes (ev_v rfl) ev_c))) (fun h => ?_) (fun h => ?_)
                · refine st_ret ev_c ?_
                  rw [h] at q
                  exact q
                · rw [h] at q
                  exact cal_k (av_cons (ev_v rfl) (av_cons (ev_ix (ev_v rfl) ev_c (.inr hq) (atI_nat (j := 3) rfl)) (av_cons (ev_ix (ev_v rfl) ev_c (.inr hq) (atI_nat (j := 4) rfl)) av_nil))) ⟨so, x, y, rfl, tx x (by simp), tx y (by simp), q⟩
              | _ => cases h2
            | _ => cases h1
theorem ok_are_pairs {f : Addr} {fd : FuncData} (F : Fun K "are_pairs" "are_pairs" s_are_pairs f fd) (T : Txt mg aS aA aE aW) (C : RG4 P w K mg base) : FnOk P w K mg base CX0 3 f fd ["thing", "firsts", "seconds"] (spPairsG K) := by
  refine F.ok sc_are_pairs (fun vs H Q E h => ?_) (fun cdv A outer s H vs Q E hr h => ?_)
  · obtain ⟨v, d, e, A, B, rfl, _⟩ := h
    rfl
  · obtain ⟨v, d, e, A, B, rfl, t, hA, hB, q⟩ := h
    have hu := hu20 hr
    refine ⟨_, (pss_one (ps_ret (ce_and (kcall C.is_list_of hr (pac (cv 0) (pac pe_int (pac (kg T.MOST_PAIRS) pa_nil)))) (pe_one (kB (kall K) bo_all T.all (pac (kcomp (cscope (N := ["part", "firsts", "seconds"]) (src := [none, some 1, some 2]) (defScope s_are_pairs) ["thing", "firsts", "seconds"]) (kpl K (cv 0)) (fun _ _ _ => (pg_name' (i := 0) ["part", "firsts", "seconds"])) (fun _ _ _ => pifs_nil) (fun _ _ _ => (kcall C.is_pair hr (pac (cv 0) (pac (cv 1) (pac (cv 2) pa_nil)))))) pa_nil)))))), ?_⟩
    show tRet _ _ [some v, some (.ref d), some (.ref e)] H
    refine andv_k (a := lstB H v 0 6) (ev_call (av_cons (ev_v rfl) (av_cons ev_c (av_cons ev_c av_nil))) (fun Q q => ⟨v, 0, 6, rfl, t.thg, q⟩)) (fun h => ?_) (fun h => ?_)
    · unfold lstB at h
      cases e1 : lstOf H v with
      | none => rw [e1] at h; cases h
      | some xs =>
        rw [e1] at h
        have h : 0 ≤ (xs.length : Int) ∧ (xs.length : Int) ≤ 6 := of_decide_eq_true h
        obtain ⟨a, rfl, ha⟩ := lstOf_some e1
        have tx := t.2 xs (.inr e1)
        refine comp_ev (d := a) (xs := xs) (rest := [some (.ref d), some (.ref e)]) (ev_v rfl) (SqL.of ha) (by rw [sizeLine_eq]; omega) rfl (fun _ => true) (fun x => .bl (pairB H x A B)) (fun x hx => tv_noif) (fun x hx _ => ?_) (fun p hp => ?_)
        · exact ev_call (av_cons (ev_v rfl) (av_cons (ev_v rfl) (av_cons (ev_v rfl) av_nil))) (fun Q q => ⟨x, d, e, A, B, rfl, tx x hx, hA, hB, q⟩)
        · refine ⟨xs.map (fun x => pairB H x A B), ?_, ?_⟩
          · have e2 : (xs.filter fun _ => true).map (fun x => V.bl (pairB H x A B)) = (xs.map (fun x => pairB H x A B)).map V.bl := by
              rw [List.filter_eq_self.mpr (fun _ _ => rfl), List.map_map]
              rfl
            rw [← e2]
            exact SqL.of upd_same
          · have k := q _ ((Same.refl H).upd (o := .lst ((xs.filter fun _ => true).map (fun x => V.bl (pairB H x A B)))) hp)
            unfold pairsB at k
            rw [e1] at k
            have e3 : (decide (xs.length ≤ 6) && xs.all (fun x => pairB H x A B)) = (xs.map (fun x => pairB H x A B)).all id := by
              rw [decide_eq_true (by omega : xs.length ≤ 6), List.all_map]
              rfl
            have k : Q (.bl (decide (xs.length ≤ 6) && xs.all (fun x => pairB H x A B))) _ := k
            rw [e3] at k
            exact k
    · have k := q H (Same.refl H)
      have e2 : pairsB H v A B = false := by
        unfold pairsB
        unfold lstB at h
        cases e1 : lstOf H v with
        | none => rfl
        | some xs =>
          rw [e1] at h
          have h : ¬ (0 ≤ (xs.length : Int) ∧ (xs.length : Int) ≤ 6) := of_decide_eq_false h
          show (decide (xs.length ≤ 6) && _) = false
          rw [decide_eq_false (by omega : ¬ xs.length ≤ 6)]
          rfl
      rw [e2] at k
      exact k
theorem ok_is_ends {f : Addr} {fd : FuncData} (F : Fun K "is_ends" "is_ends" s_is_ends f fd) (T : Txt mg aS aA aE aW) (hE : ∀ H, WsAt K H aE endsL) (C : RG5 P w K mg base) : FnOk P w K mg base CX0 4 f fd ["thing", "kinds"] (spEndsG K) := by
  refine F.ok sc_is_ends (fun vs H Q E h => ?_) (fun cdv A outer s H vs Q E hr h => ?_)
  · obtain ⟨v, d, ws, rfl, _⟩ := h
    rfl
  · obtain ⟨v, d, ws, rfl, t, hw, q⟩ := h
    refine ⟨_, (pss_one (ps_ret (kcall C.are_pairs hr (pac (cv 0) (pac (kg T.END_WORDS) (pac (cv 1) pa_nil)))))), ?_⟩
    show tRet _ _ [some v, some (.ref d)] H
    exact cal_k (av_cons (ev_v rfl) (av_cons ev_c (av_cons (ev_v rfl) av_nil))) ⟨v, aE, d, endsL, ws, rfl, t, hE H, hw, q⟩
theorem ok_is_turns {f : Addr} {fd : FuncData} (F : Fun K "is_turns" "is_turns" s_is_turns f fd) (T : Txt mg aS aA aE aW) (C : RG5 P w K mg base) : FnOk P w K mg base CX0 4 f fd ["thing", "kinds"] (spTurnsG K) := by
  refine F.ok sc_is_turns (fun vs H Q E h => ?_) (fun cdv A outer s H vs Q E hr h => ?_)
  · obtain ⟨v, d, ws, rfl, _⟩ := h
    rfl
  · obtain ⟨v, d, ws, rfl, t, hw, q⟩ := h
    have hu := hu20 hr
    refine ⟨_, (pss_cons (ps_if (pt_not (ct_val (kcall C.are_pairs hr (pac (cv 0) (pac (cv 1) (pac (cv 1) pa_nil)))))) (pss_one (ps_ret pe_bl)) pss_nil)
      (pss_cons (ps_set (i := 2) sc_is_turns.nd rfl (Or.inr rfl) (kcomp (cscope (N := ["pair"]) (src := [none]) (defScope s_is_turns) ["thing", "kinds", "firsts"]) (kpl K (cv 0)) (fun _ _ _ => (pg_name' (i := 0) ["pair"])) (fun _ _ _ => pifs_nil) (fun _ _ _ => (kix K (cv 0) pe_int))))
      (pss_cons (ps_if (ct_val (kB (kany K) bo_any T.any (pac (kcomp (cscope (N := ["pair", "firsts"]) (src := [none, some 2]) (defScope s_is_turns) ["thing", "kinds", "firsts"]) (kpl K (cv 0)) (fun _ _ _ => (pg_name' (i := 0) ["pair", "firsts"])) (fun _ _ _ => pifs_nil) (fun _ _ _ => (kcmp K hu (kix K (cv 0) pe_int) (cv 1)))) pa_nil))) (pss_one (ps_ret pe_bl)) pss_nil)
      (pss_one (ps_ret (kcmp K hu (kB call_lenXA bo_len T.len (pac (kTy (ksetS K hr) bo_set T.set (pac (cv 2) pa_nil)) pa_nil)) (kB (klen K) bo_len T.len (pac (cv 2) pa_nil)))))))), ?_⟩
    show tSeq _ _ _ [some v, some (.ref d), none] H
    refine st_ifH (fun b H' => b = (!pairsB H v ws ws) ∧ Same H H') (fun Q q => calN_k (av_cons (ev_v rfl) (av_cons (ev_v rfl) (av_cons (ev_v rfl) av_nil))) ⟨v, d, d, ws, ws, rfl, t, hw, hw, fun H' s => q _ _ ⟨rfl, s⟩⟩) (fun H1 h => ?_) (fun H1 h => ?_)
    · obtain ⟨hb, s1⟩ := h
      have k := q H1 s1
      have e0 : pairsB H v ws ws = false := by
        cases z : pairsB H v ws ws
        · rfl
        · rw [z] at hb; cases hb
      unfold turnsB at k
      rw [e0] at k
      exact st_ret ev_c k
    · obtain ⟨hb, s1⟩ := h
      have e0 : pairsB H v ws ws = true := by
        cases z : pairsB H v ws ws
        · rw [z] at hb; cases hb
        · rfl
      unfold turnsB at q
      rw [e0] at q
      obtain ⟨xs, e1, l6, hp⟩ := pairs_yes e0
      rw [e1] at q
      have q : ∀ H', Same H H' → Q (.bl (!(xs.any fun x => decide (sndS H x ∈ xs.map (fstS H))) && decide ((xs.map (fstS H)).Nodup))) H' := q
      obtain ⟨a, rfl, ha⟩ := lstOf_some e1
      have ha1 := s1 _ _ ha
      refine st_asg (fun u H' => ∃ fq, u = .ref fq ∧ H' fq = some (.lst ((xs.map (fstS H)).map V.str)) ∧ Same H1 H') (fun Q q => ?_) ?_
      · refine comp_ev (d := a) (xs := xs) (rest := []) (ev_v rfl) (SqL.of ha1) (by rw [sizeLine_eq]; omega) rfl (fun _ => true) (fun x => .str (fstS H x)) (fun x hx => tv_noif) (fun x hx _ => ?_) (fun p hp' => ?_)
        · obtain ⟨c, f1, f2, rfl, hc⟩ := hp x hx
          have e : fstS H (.ref c) = f1 := by simp only [fstS, tupOf, hc]
          rw [e]
          exact ev_ix (ev_v rfl) ev_c (.inr (SqT.of (s1 _ _ hc))) (atI_nat (j := 0) rfl)
        · have e : (xs.filter fun _ => true).map (fun x => V.str (fstS H x)) = (xs.map (fstS H)).map V.str := by
            rw [List.filter_eq_self.mpr (fun _ _ => rfl), List.map_map]
            rfl
          rw [e]
          exact q _ _ ⟨p, rfl, upd_same, (Same.refl H1).upd hp'⟩
      rintro _ H2 ⟨fq, rfl, hf, s2⟩
      have ha2 := s2 _ _ ha1
      refine st_ifH (fun b H' => b = (xs.any fun x => decide (sndS H x ∈ xs.map (fstS H))) ∧ Same H2 H') (fun Q q => ?_) (fun H3 h => ?_) (fun H3 h => ?_)
      · refine comp_ev (d := a) (xs := xs) (rest := [some (.ref fq)]) (ev_v rfl) (SqL.of ha2) (by rw [sizeLine_eq]; omega) rfl (fun _ => true) (fun x => .bl (decide (sndS H x ∈ xs.map (fstS H)))) (fun x hx => tv_noif) (fun x hx _ => ?_) (fun p hp' => ?_)
        · obtain ⟨c, f1, f2, rfl, hc⟩ := hp x hx
          have e : sndS H (.ref c) = f2 := by simp only [sndS, tupOf, hc]
          rw [e]
          exact ev_inw (ev_ix (ev_v rfl) ev_c (.inr (SqT.of (s2 _ _ (s1 _ _ hc)))) (atI_nat (j := 1) rfl)) (ev_v rfl) (.inl (SqL.of hf))
        · refine ⟨xs.map (fun x => decide (sndS H x ∈ xs.map (fstS H))), ?_, ?_⟩
          · have e2 : (xs.filter fun _ => true).map (fun x => V.bl (decide (sndS H x ∈ xs.map (fstS H)))) = (xs.map (fun x => decide (sndS H x ∈ xs.map (fstS H)))).map V.bl := by
              rw [List.filter_eq_self.mpr (fun _ _ => rfl), List.map_map]
              rfl
            rw [← e2]
            exact SqL.of upd_same
          · have e3 : (xs.map (fun x => decide (sndS H x ∈ xs.map (fstS H)))).any id = xs.any fun x => decide (sndS H x ∈ xs.map (fstS H)) := by
              rw [List.any_map]
              rfl
            rw [e3]
            exact q _ _ ⟨rfl, (Same.refl H2).upd hp'⟩
      · have k := q H3 ((s1.trans s2).trans h.2)
        rw [← h.1] at k
        exact st_ret ev_c k
      · have s03 := (s1.trans s2).trans h.2
        show tRet _ _ [some (.ref a), some (.ref d), some (.ref fq)] H3
        have hf3 := h.2 _ _ hf
        refine cmpS_k (lenset_k (ss := xs.map (fstS H)) (ev_v rfl) (SqL.of hf3) (by rw [List.length_map]; omega) (fun H4 s4 => ?_))
        refine evk (ev_len (ev_v rfl) (.inl (SqL.of (s4 _ _ hf3)))) ?_
        have k := q H4 (s03.trans s4)
        rw [← h.1] at k
        have e4 : decide ((((uniqS (xs.map (fstS H))).length : Nat) : Int) = ((((xs.map (fstS H)).map V.str).length : Nat) : Int)) = decide ((xs.map (fstS H)).Nodup) := by
          rw [List.length_map (f := V.str)]
          by_cases hn : (xs.map (fstS H)).Nodup
          · rw [decide_eq_true hn, decide_eq_true (by rw [(uniqS_iff _).mpr hn])]
          · rw [decide_eq_false hn, decide_eq_false (fun z => hn ((uniqS_iff _).mp (by omega)))]
        show Q (.bl (decide ((((uniqS (xs.map (fstS H))).length : Nat) : Int) = ((((xs.map (fstS H)).map V.str).length : Nat) : Int)))) H4
        rw [e4]
        exact k
theorem ok_is_letter {f : Addr} {fd : FuncData} (F : Fun K "is_letter" "is_letter" s_is_letter f fd) (T : Txt mg aS aA aE aW) : FnOk P w K mg base CX0 1 f fd ["thing"] spLetterG := by
  refine F.ok sc_is_letter (fun vs H Q E h => ?_) (fun cdv A outer s H vs Q E hr h => ?_)
  · obtain ⟨v, rfl, _⟩ := h
    rfl
  · obtain ⟨v, rfl, t, q⟩ := h
    have hu := hu20 hr
    refine ⟨_, (pss_one (ps_ret (ce_and (kis .str T.isinstance T.str bo_str (cv 0)) (ce_and (kcmp K hu (kB (klen K) bo_len T.len (pac (cv 0) pa_nil)) pe_int) (pe_one (kchain K hu pe_str (cv 0) pe_str)))))), ?_⟩
    show tRet _ _ [some v] H
    have hs := ev_is (T := .str) (te := cVar 0) (σ := [some v]) (ev_v rfl) t
    rw [str_is t] at hs
    cases v with
    | str z =>
      refine st_ret (ev_and hs (fun _ => ev_and (ev_eq (ev_lens (ev_v rfl) (Nat.le_trans (show z.length ≤ 1000 from t) (by decide))) ev_c) (fun _ => ev_cles ev_c (ev_v rfl) ev_c))) ?_
      rw [str_a, str_z]
      have e : (true && (decide ((z.length : Int) = 1) && (!decide (z.cps.toList < [97]) && !decide ([122] < z.cps.toList)))) = letB (.str z) := by
        rw [str_len]
        match e : z.cps.toList with
        | [c] =>
          simp only [letB, e, lt_one]
          rw [Bool.eq_iff_iff]
          simp
        | [] => simp only [letB, e]; rfl
        | _ :: _ :: r =>
          simp only [letB, e]
          rw [decide_eq_false (by simp only [List.length_cons]; omega)]
          rfl
      have q2 := q
      rw [← e] at q2
      exact q2
    | _ => exact st_ret (ev_and (b := false) hs (fun h => by cases h)) q
theorem ok_are_kinds {f : Addr} {fd : FuncData} (F : Fun K "are_kinds" "are_kinds" s_are_kinds f fd) (T : Txt mg aS aA aE aW) (C : GG1 P w K mg base) : FnOk P w K mg base CX0 2 f fd ["thing"] spKindsG := by
  refine F.ok sc_are_kinds (fun vs H Q E h => ?_) (fun cdv A outer s H vs Q E hr h => ?_)
  · obtain ⟨v, rfl, _⟩ := h
    rfl
  · obtain ⟨v, rfl, t, q⟩ := h
    have hu := hu20 hr
    refine ⟨_, (pss_cons (ps_if (PW.pt (pw_or (pt_not (ct_val (kcall C.is_list_of hr (pac (cv 0) (pac pe_int (pac (kg T.MOST_KINDS) pa_nil)))))) (pw_or1 (pt_not (ct_val (kB (kall K) bo_all T.all (pac (kcomp (cscope (N := ["part"]) (src := [none]) (defScope s_are_kinds) ["thing"]) (kpl K (cv 0)) (fun _ _ _ => (pg_name' (i := 0) ["part"])) (fun _ _ _ => pifs_nil) (fun _ _ _ => (kcall C.is_letter hr (pac (cv 0) pa_nil)))) pa_nil))))))) (pss_one (ps_ret pe_bl)) pss_nil)
      (pss_one (ps_ret (kcmp K hu (kB call_lenXA bo_len T.len (pac (kTy (ksetS K hr) bo_set T.set (pac (cv 0) pa_nil)) pa_nil)) (kB (klen K) bo_len T.len (pac (cv 0) pa_nil)))))), ?_⟩
    show tSeq _ _ _ [some v] H
    have eL : Ev (cCall spLstG (tCons (cVar 0) (tCons (tC (.int 1)) (tCons (tC (.int 6)) tNil)))) [some v] H (.bl (lstB H v 1 6)) := ev_call (av_cons (ev_v rfl) (av_cons ev_c (av_cons ev_c av_nil))) (fun Q q => ⟨v, 1, 6, rfl, t.thg, q⟩)
    unfold kindsB at q
    cases e1 : lstOf H v with
    | none =>
      have hb : lstB H v 1 6 = false := by unfold lstB; rw [e1]
      rw [hb] at eL
      rw [e1] at q
      refine st_tst (b := true) (fun Q q => tv_not (tv_e eL) _ (iteT q)) (fun _ => st_ret ev_c (q H (Same.refl H))) (fun h => by cases h)
    | some xs =>
      rw [e1] at q
      have q : ∀ H', Same H H' → Q (.bl (decide (1 ≤ xs.length ∧ xs.length ≤ 6) && xs.all letB && decide ((xs.map strOf).Nodup))) H' := q
      obtain ⟨a, rfl, ha⟩ := lstOf_some e1
      have tx := t.2 xs (.inr e1)
      have hb : lstB H (.ref a) 1 6 = decide (1 ≤ xs.length ∧ xs.length ≤ 6) := by
        unfold lstB
        rw [e1]
        show decide ((1 : Int) ≤ xs.length ∧ (xs.length : Int) ≤ 6) = _
        rw [decide_eq_decide]
        omega
      rw [hb] at eL
      by_cases hl : 1 ≤ xs.length ∧ xs.length ≤ 6
      · rw [decide_eq_true hl] at eL q
        refine st_ifH (fun b H' => b = (!xs.all letB) ∧ Same H H') (fun Q q => ?_) (fun H1 h => ?_) (fun H1 h => ?_)
        · refine tor_k (tv_not (tv_e eL)) ?_
          refine comp_ev (d := a) (xs := xs) (rest := []) (ev_v rfl) (SqL.of ha) (by rw [sizeLine_eq]; omega) rfl (fun _ => true) (fun x => .bl (letB x)) (fun x hx => tv_noif) (fun x hx _ => ?_) (fun p hp => ?_)
          · exact ev_call (av_cons (ev_v rfl) av_nil) (fun Q q => ⟨x, rfl, tx x hx, q⟩)
          · refine ⟨xs.map letB, ?_, ?_⟩
            · have e2 : (xs.filter fun _ => true).map (fun x => V.bl (letB x)) = (xs.map letB).map V.bl := by
                rw [List.filter_eq_self.mpr (fun _ _ => rfl), List.map_map]
                rfl
              rw [← e2]
              exact SqL.of upd_same
            · have e3 : (xs.map letB).all id = xs.all letB := by
                rw [List.all_map]
                rfl
              rw [e3]
              exact q _ _ ⟨rfl, (Same.refl H).upd hp⟩
        · have k := q H1 h.2
          have e0 : xs.all letB = false := by
            cases z : xs.all letB
            · rfl
            · rw [z] at h; cases h.1
          rw [e0] at k
          exact st_ret ev_c k
        · obtain ⟨hq, s1⟩ := h
          have e0 : xs.all letB = true := by
            cases z : xs.all letB
            · rw [z] at hq; cases hq
            · rfl
          have e5 : xs = (xs.map strOf).map V.str := by
            rw [List.map_map]
            have : ∀ x ∈ xs, x = (V.str ∘ strOf) x := fun x hx => by
              obtain ⟨c, rfl, _⟩ := letB_str (List.all_eq_true.mp e0 x hx)
              rfl
            exact (List.map_id xs).symm.trans (List.map_congr_left this)
          have ha1 := s1 _ _ ha
          rw [e5] at ha1
          show tRet _ _ [some (.ref a)] H1
          refine cmpS_k (lenset_k (ss := xs.map strOf) (ev_v rfl) (SqL.of ha1) (by rw [List.length_map]; omega) (fun H4 s4 => ?_))
          refine evk (ev_len (ev_v rfl) (.inl (SqL.of (s4 _ _ ha1)))) ?_
          have k := q H4 (s1.trans s4)
          rw [e0] at k
          have e4 : decide ((((uniqS (xs.map strOf)).length : Nat) : Int) = ((((xs.map strOf).map V.str).length : Nat) : Int)) = decide ((xs.map strOf).Nodup) := by
            rw [List.length_map (f := V.str)]
            by_cases hn : (xs.map strOf).Nodup
            · rw [decide_eq_true hn, decide_eq_true (by rw [(uniqS_iff _).mpr hn])]
            · rw [decide_eq_false hn, decide_eq_false (fun z => hn ((uniqS_iff _).mp (by omega)))]
          show Q (.bl (decide ((((uniqS (xs.map strOf)).length : Nat) : Int) = ((((xs.map strOf).map V.str).length : Nat) : Int)))) H4
          rw [e4]
          exact k
      · rw [decide_eq_false hl] at eL q
        exact st_tst (b := true) (fun Q q => tv_not (tv_e eL) _ (iteT q)) (fun _ => st_ret ev_c (q H (Same.refl H))) (fun h => by cases h)
theorem ok_are_rules {f : Addr} {fd : FuncData} (F : Fun K "are_rules" "are_rules" s_are_rules f fd) (T : Txt mg aS aA aE aW) (C : GG1 P w K mg base) : FnOk P w K mg base CX0 5 f fd ["thing", "kinds"] (spRulesG K) := by
  refine F.ok sc_are_rules (fun vs H Q E h => ?_) (fun cdv A outer s H vs Q E hr h => ?_)
  · obtain ⟨v, d, ws, rfl, _⟩ := h
    rfl
  · obtain ⟨v, d, ws, rfl, t, hw, q⟩ := h
    have hu := hu20 hr
    refine ⟨_, (pss_one (ps_ret (ce_and (kcall C.is_list_of hr (pac (cv 0) (pac pe_int (pac (kg T.MOST_RULES) pa_nil)))) (pe_one (kB (kall K) bo_all T.all (pac (kcomp (cscope (N := ["part", "kinds"]) (src := [none, some 1]) (defScope s_are_rules) ["thing", "kinds"]) (kpl K (cv 0)) (fun _ _ _ => (pg_name' (i := 0) ["part", "kinds"])) (fun _ _ _ => pifs_nil) (fun _ _ _ => (kcall C.is_rule hr (pac (cv 0) (pac (cv 1) pa_nil))))) pa_nil)))))), ?_⟩
    show tRet _ _ [some v, some (.ref d)] H
    refine andv_k (a := lstB H v 0 24) (ev_call (av_cons (ev_v rfl) (av_cons ev_c (av_cons ev_c av_nil))) (fun Q q => ⟨v, 0, 24, rfl, t.thg, q⟩)) (fun h => ?_) (fun h => ?_)
    · unfold lstB at h
      cases e1 : lstOf H v with
      | none => rw [e1] at h; cases h
      | some xs =>
        rw [e1] at h
        have h : 0 ≤ (xs.length : Int) ∧ (xs.length : Int) ≤ 24 := of_decide_eq_true h
        obtain ⟨a, rfl, ha⟩ := lstOf_some e1
        have tx := t.2 xs (.inr e1)
        refine comp_ev (d := a) (xs := xs) (rest := [some (.ref d)]) (ev_v rfl) (SqL.of ha) (by rw [sizeLine_eq]; omega) rfl (fun _ => true) (fun x => .bl (ruleB H x ws)) (fun x hx => tv_noif) (fun x hx _ => ?_) (fun p hp => ?_)
        · exact ev_call (av_cons (ev_v rfl) (av_cons (ev_v rfl) av_nil)) (fun Q q => ⟨x, d, ws, rfl, tx x hx, hw, q⟩)
        · refine ⟨xs.map (fun x => ruleB H x ws), ?_, ?_⟩
          · have e2 : (xs.filter fun _ => true).map (fun x => V.bl (ruleB H x ws)) = (xs.map (fun x => ruleB H x ws)).map V.bl := by
              rw [List.filter_eq_self.mpr (fun _ _ => rfl), List.map_map]
              rfl
            rw [← e2]
            exact SqL.of upd_same
          · have k := q _ ((Same.refl H).upd (o := .lst ((xs.filter fun _ => true).map (fun x => V.bl (ruleB H x ws)))) hp)
            unfold rulesB at k
            rw [e1] at k
            have e3 : (decide (xs.length ≤ 24) && xs.all (fun x => ruleB H x ws)) = (xs.map (fun x => ruleB H x ws)).all id := by
              rw [decide_eq_true (by omega : xs.length ≤ 24), List.all_map]
              rfl
            have k : Q (.bl (decide (xs.length ≤ 24) && xs.all (fun x => ruleB H x ws))) _ := k
            rw [e3] at k
            exact k
    · have k := q H (Same.refl H)
      have e2 : rulesB H v ws = false := by
        unfold rulesB
        unfold lstB at h
        cases e1 : lstOf H v with
        | none => rfl
        | some xs =>
          rw [e1] at h
          have h : ¬ (0 ≤ (xs.length : Int) ∧ (xs.length : Int) ≤ 24) := of_decide_eq_false h
          show (decide (xs.length ≤ 24) && _) = false
          rw [decide_eq_false (by omega : ¬ xs.length ≤ 24)]
          rfl
      rw [e2] at k
      exact k
theorem ok_Game_init {f cG : Addr} {fd : FuncData} (F : Fun K "__init__" "Game.__init__" s_Game___init__ f fd) (T : Txt mg aS aA aE aW) (hW : ∀ H, WsAt K H aW stuckL) (B : GmC K cG) (C : GG2 P w K mg base) : FnOk P w K mg base CX0 6 f fd ["self", "board", "kinds", "rules", "turns", "ends", "stuck"] (spGInit K cG) := by
  refine F.ok sc_Game___init__ (fun vs H Q E h => ?_) (fun cdv A outer s H vs Q E hr h => ?_)
  · obtain ⟨p, b, kd, rd, td, ed, dx, ws, rs, ts, es, st, rfl, _⟩ := h
    rfl
  · obtain ⟨p, b, kd, rd, td, ed, dx, ws, rs, ts, es, st, rfl, hp, hk, hr', ht, he, tk, tr, tt, te, bk, br, bt, be, hst, lst', q⟩ := h
    have hu := hu20 hr
    have wk : ∀ H', Same H H' → WsAt K H' kd ws := fun H' s => .inl (SqL.of (s _ _ hk))
    refine ⟨_, (pss_cons (ps_if (pt_not (ct_val (kcall C.are_kinds hr (pac (cv 2) pa_nil)))) (pss_one ps_never) pss_nil)
      (pss_cons (ps_if (pt_not (ct_val (kcall C.are_rules hr (pac (cv 3) (pac (cv 2) pa_nil))))) (pss_one ps_never) pss_nil)
      (pss_cons (ps_if (pt_not (ct_val (kcall C.is_turns hr (pac (cv 4) (pac (cv 2) pa_nil))))) (pss_one ps_never) pss_nil)
      (pss_cons (ps_if (pt_not (ct_val (kcall C.is_ends hr (pac (cv 5) (pac (cv 2) pa_nil))))) (pss_one ps_never) pss_nil)
      (pss_cons (ps_if (pt_not (ct_val (kcall C.is_word hr (pac (cv 6) (pac (kg T.STUCK_WORDS) pa_nil))))) (pss_one ps_never) pss_nil)
      (pss_cons (ksfld K (cv 0) (cv 1))
      (pss_cons (ksfld K (cv 0) (kTy (klist K) bo_list T.list (pac (cv 2) pa_nil)))
      (pss_cons (ksfld K (cv 0) (kTy (klist K) bo_list T.list (pac (cv 3) pa_nil)))
      (pss_cons (ksfld K (cv 0) (kTy (klist K) bo_list T.list (pac (cv 4) pa_nil)))
      (pss_cons (ksfld K (cv 0) (kTy (klist K) bo_list T.list (pac (cv 5) pa_nil)))
      (pss_one (ksfld K (cv 0) (cv 6))))))))))))), ?_⟩
    show tSeq _ _ _ [some (.ref p), some (.ref b), some (.ref kd), some (.ref rd), some (.ref td), some (.ref ed), some (.str st)] H
    refine st_ifH (fun b H' => b = false ∧ Same H H') (fun Q q => calN_k (av_cons (ev_v rfl) av_nil) ⟨.ref kd, rfl, tk, fun H' s => ?_⟩) (fun H' h => by cases h.1) (fun H1 h => ?_)
    · rw [bk]; exact q _ _ ⟨rfl, s⟩
    obtain ⟨_, s1⟩ := h
    have eqR : rulesB H1 (.ref rd) ws = rulesB H (.ref rd) ws := rulesB_same tr s1
    refine st_ifH (fun b H' => b = false ∧ Same H1 H') (fun Q q => calN_k (av_cons (ev_v rfl) (av_cons (ev_v rfl) av_nil)) ⟨.ref rd, kd, ws, rfl, tr.same s1, wk _ s1, fun H' s => ?_⟩) (fun H' h => by cases h.1) (fun H2 h => ?_)
    · rw [eqR, br]; exact q _ _ ⟨rfl, s⟩
    obtain ⟨_, s2⟩ := h
    have s02 := s1.trans s2
    have eqT : turnsB H2 (.ref td) ws = turnsB H (.ref td) ws := turnsB_same tt s02
    refine st_ifH (fun b H' => b = false ∧ Same H2 H') (fun Q q => calN_k (av_cons (ev_v rfl) (av_cons (ev_v rfl) av_nil)) ⟨.ref td, kd, ws, rfl, tt.same s02, wk _ s02, fun H' s => ?_⟩) (fun H' h => by cases h.1) (fun H3 h => ?_)
    · rw [eqT, bt]; exact q _ _ ⟨rfl, s⟩
    obtain ⟨_, s3⟩ := h
    have s03 := s02.trans s3
    have eqE : pairsB H3 (.ref ed) endsL ws = pairsB H (.ref ed) endsL ws := pairsB_same te s03
    refine st_ifH (fun b H' => b = false ∧ Same H3 H') (fun Q q => calN_k (av_cons (ev_v rfl) (av_cons (ev_v rfl) av_nil)) ⟨.ref ed, kd, ws, rfl, te.same s03, wk _ s03, fun H' s => ?_⟩) (fun H' h => by cases h.1) (fun H4 h => ?_)
    · rw [eqE, be]; exact q _ _ ⟨rfl, s⟩
    obtain ⟨_, s4⟩ := h
    have s04 := s03.trans s4
    refine st_tst (tv_not (tv_e (ev_call (av_cons (ev_v rfl) (av_cons ev_c av_nil)) (fun Q q => ⟨.str st, aW, stuckL, rfl, lst', hW H4, q⟩)))) (fun h => ?_) (fun _ => ?_)
    · have e : wordB (.str st) stuckL = true := decide_eq_true hst
      rw [e] at h
      cases h
    have gl := fun b k r t e => gf_len (b := b) (k := k) (r := r) (t := t) (e := e)
    have nk : p ≠ kd := ne_of_get hp hk (by intro z; cases z)
    have nr : p ≠ rd := ne_of_get hp hr' (by intro z; cases z)
    have nt : p ≠ td := ne_of_get hp ht (by intro z; cases z)
    have ne' : p ≠ ed := ne_of_get hp he (by intro z; cases z)
    have h4 : ∀ (G : Hp), SameBut p H G → G kd = some (.lst (ws.map V.str)) ∧ G rd = some (.lst rs) ∧ G td = some (.lst ts) ∧ G ed = some (.lst es) := fun G sb => ⟨sb _ _ hk nk.symm, sb _ _ hr' nr.symm, sb _ _ ht nt.symm, sb _ _ he ne'.symm⟩
    refine st_fld (ev_v rfl) (ev_v rfl) (s04 _ _ hp) B.cl B.board (by decide) ?_
    generalize hG5 : upd H4 p (HO.ins cG dx (putF "board" (V.ref b) [])) = G5
    have p5 : G5 p = some (.ins cG dx (gf1 b)) := hG5 ▸ upd_same
    have b5 : SameBut p H G5 := hG5 ▸ s04.but.self
    have nfree : ∀ (G : Hp) (q : Addr), SameBut p H G → G p ≠ none → G q = none → H q = none := fun G q sb hpp hq => by
      cases e : H q with
      | none => rfl
      | some o =>
        by_cases z : q = p
        · rw [z] at hq; exact absurd hq hpp
        · have := sb q o e z; rw [hq] at this; cases this
    refine st_fldL (ev_v rfl) (h4 _ b5).1 (fun H' => ev_v rfl) p5 B.cl B.kinds (by have := (gl b 0 0 0 0).1; omega) (fun kq hkq => ?_)
    have nkq : p ≠ kq := ne_of_none p5 hkq
    generalize hG6 : upd (upd G5 kq (HO.lst (ws.map V.str))) p (HO.ins cG dx (putF "kinds" (V.ref kq) (gf1 b))) = G6
    have p6 : G6 p = some (.ins cG dx (gf2 b kq)) := hG6 ▸ upd_same
    have k6 : G6 kq = some (.lst (ws.map V.str)) := by rw [← hG6, upd_ne nkq.symm, upd_same]
    have b6 : SameBut p H G6 := hG6 ▸ (b5.new (nfree _ _ b5 (by rw [p5]; simp) hkq)).self
    refine st_fldL (ev_v rfl) (h4 _ b6).2.1 (fun H' => ev_v rfl) p6 B.cl B.rules (by have := (gl b kq 0 0 0).2.1; omega) (fun rq hrq => ?_)
    have nrq : p ≠ rq := ne_of_none p6 hrq
    generalize hG7 : upd (upd G6 rq (HO.lst rs)) p (HO.ins cG dx (putF "rules" (V.ref rq) (gf2 b kq))) = G7
    have p7 : G7 p = some (.ins cG dx (gf3 b kq rq)) := hG7 ▸ upd_same
    have r7 : G7 rq = some (.lst rs) := by rw [← hG7, upd_ne nrq.symm, upd_same]
    have k7 : G7 kq = some (.lst (ws.map V.str)) := by rw [← hG7, upd_ne nkq.symm, upd_ne (ne_of_none k6 hrq)]; exact k6
    have b7 : SameBut p H G7 := hG7 ▸ (b6.new (nfree _ _ b6 (by rw [p6]; simp) hrq)).self
    refine st_fldL (ev_v rfl) (h4 _ b7).2.2.1 (fun H' => ev_v rfl) p7 B.cl B.turns (by have := (gl b kq rq 0 0).2.2.1; omega) (fun tq htq => ?_)
    have ntq : p ≠ tq := ne_of_none p7 htq
    generalize hG8 : upd (upd G7 tq (HO.lst ts)) p (HO.ins cG dx (putF "turns" (V.ref tq) (gf3 b kq rq))) = G8
    have p8 : G8 p = some (.ins cG dx (gf4 b kq rq tq)) := hG8 ▸ upd_same
    have t8 : G8 tq = some (.lst ts) := by rw [← hG8, upd_ne ntq.symm, upd_same]
    have r8 : G8 rq = some (.lst rs) := by rw [← hG8, upd_ne nrq.symm, upd_ne (ne_of_none r7 htq)]; exact r7
    have k8 : G8 kq = some (.lst (ws.map V.str)) := by rw [← hG8, upd_ne nkq.symm, upd_ne (ne_of_none k7 htq)]; exact k7
    have b8 : SameBut p H G8 := hG8 ▸ (b7.new (nfree _ _ b7 (by rw [p7]; simp) htq)).self
    refine st_fldL (ev_v rfl) (h4 _ b8).2.2.2 (fun H' => ev_v rfl) p8 B.cl B.ends (by have := (gl b kq rq tq 0).2.2.2.1; omega) (fun eq heq => ?_)
    have neq : p ≠ eq := ne_of_none p8 heq
    generalize hG9 : upd (upd G8 eq (HO.lst es)) p (HO.ins cG dx (putF "ends" (V.ref eq) (gf4 b kq rq tq))) = G9
    have p9 : G9 p = some (.ins cG dx (gf5 b kq rq tq eq)) := hG9 ▸ upd_same
    have e9 : G9 eq = some (.lst es) := by rw [← hG9, upd_ne neq.symm, upd_same]
    have t9 : G9 tq = some (.lst ts) := by rw [← hG9, upd_ne ntq.symm, upd_ne (ne_of_none t8 heq)]; exact t8
    have r9 : G9 rq = some (.lst rs) := by rw [← hG9, upd_ne nrq.symm, upd_ne (ne_of_none r8 heq)]; exact r8
    have k9 : G9 kq = some (.lst (ws.map V.str)) := by rw [← hG9, upd_ne nkq.symm, upd_ne (ne_of_none k8 heq)]; exact k8
    have b9 : SameBut p H G9 := hG9 ▸ (b8.new (nfree _ _ b8 (by rw [p8]; simp) heq)).self
    refine st_fld1 (fun v H' => v = .str st ∧ H' = G9) (fun Q q => evk (v := .str st) (ev_v rfl) (q _ _ ⟨rfl, rfl⟩)) p cG dx (fun H' Q q => ev_v rfl Q q) B.cl B.stuck ?_
    rintro _ _ ⟨rfl, rfl⟩
    refine ⟨_, p9, by have := (gl b kq rq tq eq).2.2.2.2; omega, ?_⟩
    refine q _ ⟨dx, kq, rq, tq, eq, upd_same, ?_, ?_, ?_, ?_⟩ b9.self
    · rw [upd_ne nkq.symm]; exact k9
    · rw [upd_ne nrq.symm]; exact r9
    · rw [upd_ne ntq.symm]; exact t9
    · rw [upd_ne neq.symm]; exact e9
end
end K10
namespace K10
open PySem L2
section
variable {P : Program} {w : World} {K : PySem.W.Frag} {mg : Str → Option Value} {base : Heap} {aS aA aE aW : Addr}
theorem ok_sign_of {f : Addr} {fd : FuncData} (F : Fun K "sign_of" "sign_of" s_sign_of f fd) (T : Txt mg aS aA aE aW) : FnOk P w K mg base CX0 1 f fd ["kind", "side"] spSign := by
  refine F.ok sc_sign_of (fun vs H Q E h => ?_) (fun cdv A outer s H vs Q E hr h => ?_)
  · obtain ⟨c, sd, rfl, _⟩ := h
    rfl
  · obtain ⟨c, sd, rfl, hc, q⟩ := h
    have hu := hu20 hr
    refine ⟨_, (pss_one (ps_ret (pe_ifExp (ktcmp K hu (cv 1) pe_int) (ce_sm0 PySem.F.slot_str_upper PySem.F.type_str_upper mt_upA (cv 0)) (cv 0)))), ?_⟩
    show tRet _ _ [some (.str (one c)), some (.int sd)] H
    refine st_ret (ev_if (tv_e (ev_eq (ev_v rfl) ev_c)) (fun _ => ev_up (ev_v rfl) hc) (fun _ => ev_v rfl)) ?_
    by_cases h : sd = 0
    · rw [decide_eq_true h]
      rw [if_pos h] at q
      exact q
    · rw [decide_eq_false h]
      rw [if_neg h] at q
      exact q
theorem ok_Board_has {f cB : Addr} {fd : FuncData} (F : Fun K "has" "Board.has" s_Board_has f fd) (T : Txt mg aS aA aE aW) (B : BrdC K cB) (C : CA P w K mg base) : FnOk P w K mg base CX0 3 f fd ["self", "square"] (spHas K cB) := by
  refine F.ok sc_Board_has (fun vs H Q E h => ?_) (fun cdv A outer s H vs Q E hr h => ?_)
  · obtain ⟨p, wi, hi, hs, sq, rfl, _⟩ := h
    rfl
  · obtain ⟨p, wi, hi, hs, sq, rfl, O, k⟩ := h
    have hu := hu20 hr
    obtain ⟨pf, ff, hf⟩ := O.firm B
    have mm := O.many
    have hl : (((firmL wi hi hs).map V.bl).length : Int) = wi * hi := by rw [List.length_map, firm_len]; omega
    refine ⟨_, (pss_one (ps_ret (ce_and (kcall C.is_among hr (pac (cv 1) (pac pe_int (pac (ce_bin (kB (klen K) bo_len T.len (pac (kfld K (cv 0)) pa_nil)) pe_int) pa_nil)))) (pe_one (kix K (kfld K (cv 0)) (cv 1)))))), ?_⟩
    show tRet _ _ [some (.ref p), some (.int sq)] H
    refine st_ret (ev_and (b := !decide (sq ∈ hs)) (ev_call (av_cons (ev_v rfl) (av_cons ev_c (av_cons (ev_sub (ev_len (ev_fld (ev_v rfl) ff) (.inl (SqL.of hf))) ev_c) av_nil))) (fun Q q => ⟨sq, 0, _, rfl, q⟩)) (fun h => ?_)) ?_
    · have h := of_decide_eq_true h
      rw [hl] at h
      exact ev_ix (ev_fld (ev_v rfl) ff) (ev_v rfl) (.inl (SqL.of hf)) (firm_at h.1 (by omega))
    · rw [hl]
      have e : (decide (0 ≤ sq ∧ sq ≤ wi * hi - 1) && !decide (sq ∈ hs)) = decide (0 ≤ sq ∧ sq < wi * hi ∧ ¬ sq ∈ hs) := by
        rw [Bool.eq_iff_iff]
        simp only [Bool.and_eq_true, decide_eq_true_eq, Bool.not_eq_true', decide_eq_false_iff_not]
        constructor
        · rintro ⟨⟨a, b⟩, c⟩
          exact ⟨a, by omega, c⟩
        · rintro ⟨a, b, c⟩
          exact ⟨⟨a, by omega⟩, c⟩
      show Q (.bl (decide (0 ≤ sq ∧ sq ≤ wi * hi - 1) && !decide (sq ∈ hs))) H
      rw [e]
      exact k
theorem ok_empty_row {f cB : Addr} {fd : FuncData} (F : Fun K "empty_row" "empty_row" s_empty_row f fd) (T : Txt mg aS aA aE aW) (B : BrdC K cB) (C : CP2 P w K mg base cB) : FnOk P w K mg base CX0 4 f fd ["board"] (spEmpty K cB) := by
  refine F.ok sc_empty_row (fun vs H Q E h => ?_) (fun cdv A outer s H vs Q E hr h => ?_)
  · obtain ⟨p, wi, hi, hs, rfl, _⟩ := h
    rfl
  · obtain ⟨p, wi, hi, hs, rfl, O, k⟩ := h
    have hu := hu20 hr
    have mm := O.many
    have fw := O.wide B
    have fh := O.high B
    have w8 := O.w8
    have w1 := O.w1
    refine ⟨_, (pss_one (ps_ret (ksm PySem.F.slot_str_join PySem.F.type_str_join (kjoin K) pe_str (pac (kcomp (cscope (N := ["square", "board"]) (src := [none, some 0]) (defScope s_empty_row) ["board"]) (kr1 T.range (pac (ce_bin (kfld K (cv 0)) (kfld K (cv 0))) pa_nil)) (fun _ _ _ => (pg_name' (i := 0) ["square", "board"])) (fun _ _ _ => pifs_nil) (fun _ _ _ => (pe_ifExp (ct_val (kmeth C.Board_has hr (cv 1) (pac (cv 0) pa_nil))) (kg T.EMPTY) (kg T.HOLE)))) pa_nil)))), ?_⟩
    show tRet _ _ [some (.ref p)] H
    refine sm1_k ev_c ?_
    refine comp_evR (n := wi * hi) (rest := [some (.ref p)]) (av_cons (ev_mul (ev_fld (ev_v rfl) fw) (ev_fld (ev_v rfl) fh) (.inl ⟨by omega, by omega⟩)) av_nil) (by omega) (by rw [sizeLine_eq]; omega) (by omega) rfl (fun _ => true)
      (fun x => match x with | .int i => if i ∈ hs then .str (one 35) else .str (one 46) | _ => .non) (fun i hi => tv_noif) (fun i hi' _ => ?_) (fun d hd => ?_)
    · have e : (if decide (0 ≤ 0 + (i : Int) ∧ 0 + (i : Int) < wi * hi ∧ ¬ (0 + (i : Int)) ∈ hs) = true then V.str (one 46) else V.str (one 35)) = (if 0 + (i : Int) ∈ hs then V.str (one 35) else V.str (one 46)) := by
        by_cases m : 0 + (i : Int) ∈ hs
        · rw [if_pos m, if_neg (by rw [decide_eq_true_eq]; exact fun z => z.2.2 m)]
        · rw [if_neg m, if_pos (by rw [decide_eq_true_eq]; exact ⟨by omega, by omega, m⟩)]
      show Ev _ _ _ (if 0 + (i : Int) ∈ hs then V.str (one 35) else V.str (one 46))
      rw [← e]
      exact ev_if (tv_e (ev_meth (p := p) (ev_v rfl) O.no (av_cons (ev_v rfl) av_nil) (fun Q q => ⟨p, wi, hi, hs, _, rfl, O, q⟩))) (fun _ => ev_dot) (fun _ => ev_hash)
    · have e : (((List.range (wi * hi).toNat).map fun (i : Nat) => V.int (0 + (i : Int))).filter fun _ => true).map (fun x => match x with | .int i => if i ∈ hs then V.str (one 35) else V.str (one 46) | _ => .non) = (((List.range (wi * hi).toNat).map fun (s : Nat) => if (s : Int) ∈ hs then 35 else 46).map one).map V.str := by
        rw [List.filter_eq_self.mpr (fun _ _ => rfl), List.map_map, List.map_map, List.map_map]
        refine List.map_congr_left fun i _ => ?_
        show (if 0 + (i : Int) ∈ hs then V.str (one 35) else V.str (one 46)) = V.str (one (if (i : Int) ∈ hs then 35 else 46))
        rw [Int.zero_add]
        split <;> rfl
      rw [e]
      show joinA K (.str "") [.ref d] _ Q
      rw [r_join]
      refine ⟨_, SqL.of upd_same, ?_, ?_⟩
      · rw [List.map_map]
        have es : ∀ l : List Nat, (l.map ((fun x : Str => x.length) ∘ one)).sum = l.length := fun l => by
          induction l with
          | nil => rfl
          | cons a r ih => rw [List.map_cons, List.sum_cons, ih, List.length_cons]; show 1 + r.length = _; omega
        have ez : ("" : Str).length = 0 := by decide +kernel
        rw [es, ez, List.length_map, List.length_range]
        omega
      · rw [join_ones]
        exact k _ ((Same.refl H).upd hd)
theorem ok_are_holes {f : Addr} {fd : FuncData} (F : Fun K "are_holes" "are_holes" s_are_holes f fd) (T : Txt mg aS aA aE aW) (C : CA P w K mg base) : FnOk P w K mg base CX0 3 f fd ["thing", "many"] spHolesT := by
  refine F.ok sc_are_holes (fun vs H Q E h => ?_) (fun cdv A outer s H vs Q E hr h => ?_)
  · obtain ⟨d, m, hs, rfl, _⟩ := h
    rfl
  · obtain ⟨d, m, hs, rfl, hd, good, nd, hl, m64, k⟩ := h
    have hu := hu20 hr
    have hS : SqL K H d (hs.map V.int) := SqL.of hd
    refine ⟨_, (pss_cons (ps_if (PW.pt (pw_or (pt_not (ct_val (kis .list T.isinstance T.list bo_list (cv 0)))) (pw_or1 (ktcmp K hu (kB (klen K) bo_len T.len (pac (cv 0) pa_nil)) (cv 1))))) (pss_one (ps_ret pe_bl)) pss_nil)
      (pss_cons (ps_if (pt_not (ct_val (kB (kall K) bo_all T.all (pac (kcomp (cscope (N := ["hole", "many"]) (src := [none, some 1]) (defScope s_are_holes) ["thing", "many"]) (kpl K (cv 0)) (fun _ _ _ => (pg_name' (i := 0) ["hole", "many"])) (fun _ _ _ => pifs_nil) (fun _ _ _ => (kcall C.is_among hr (pac (cv 0) (pac pe_int (pac (ce_bin (cv 1) pe_int) pa_nil)))))) pa_nil)))) (pss_one (ps_ret pe_bl)) pss_nil)
      (pss_one (ps_ret (kcmp K hu (kB call_lenSA bo_len T.len (pac (kTy (kset K hr) bo_set T.set (pac (cv 0) pa_nil)) pa_nil)) (kB (klen K) bo_len T.len (pac (cv 0) pa_nil))))))), ?_⟩
    show tSeq _ _ _ [some (.ref d), some (.int m)] H
    refine st_tst (tv_or (tv_not (tv_e (ev_isl (ev_v rfl) hd))) (fun _ => (tv_e (ev_ge (ev_len (ev_v rfl) (.inl hS)) (ev_v rfl))))) (fun h => ?_) (fun _ => ?_)
    · have h : decide (m ≤ ((hs.map V.int).length : Int)) = true := h
      have h := of_decide_eq_true h
      rw [List.length_map] at h
      omega
    refine st_ifH (fun b H' => b = false ∧ Same H H') (fun Q q => ?_) (fun H' h => by cases h.1) (fun H1 h => ?_)
    · refine comp_ev (d := d) (xs := hs.map V.int) (rest := [some (.int m)]) (ev_v rfl) hS (by rw [List.length_map, sizeLine_eq]; omega) rfl (fun _ => true) (fun _ => .bl true) (fun x hx => tv_noif) (fun x hx _ => ?_) (fun d' hd' => ?_)
      · obtain ⟨z, hz, rfl⟩ := List.mem_map.mp hx
        have g := good z hz
        refine ev_call (av_cons (ev_v rfl) (av_cons ev_c (av_cons (ev_sub (ev_v rfl) ev_c) av_nil))) (fun Q q => ⟨z, 0, m - 1, rfl, ?_⟩)
        rw [decide_eq_true (by omega : 0 ≤ z ∧ z ≤ m - 1)]
        exact q
      · refine ⟨List.replicate hs.length true, ?_, ?_⟩
        · have e : ((hs.map V.int).filter fun _ => true).map (fun _ => V.bl true) = (List.replicate hs.length true).map V.bl := by
            rw [List.filter_eq_self.mpr (fun _ _ => rfl), List.map_map, List.map_replicate]
            show hs.map (fun _ => V.bl true) = _
            rw [List.map_const']
          rw [← e]
          exact SqL.of upd_same
        · have e : (List.replicate hs.length true).all id = true := by simp
          rw [e]
          exact q _ _ ⟨rfl, (Same.refl H).upd hd'⟩
    obtain ⟨_, s1⟩ := h
    have hS1 := s1.seq hS
    simp only [tRet, cCmp, cB, tCons, tNil]
    refine evk (ev_v rfl) ?_
    refine ⟨hs, hS1, by have : scanBound = 4096 := rfl; omega, fun q hq => ?_⟩
    refine ⟨_, _, upd_same, ?_⟩
    have s2 : Same H1 (upd H1 q (.set (fun k => (uniq hs).any (· == k)) (uniq hs).length)) := (Same.refl H1).upd hq
    refine evk (v := .ref d) (ev_v rfl) ⟨_, .inl (s2.seq hS1), ?_⟩
    rw [List.length_map, (uniq_iff hs).mpr nd]
    show Q (.bl (decide ((hs.length : Int) = hs.length))) _
    rw [decide_eq_true rfl]
    exact k _ (s1.trans ((Same.refl H1).upd hq))
theorem ok_Board_init {f cB : Addr} {fd : FuncData} (F : Fun K "__init__" "Board.__init__" s_Board___init__ f fd) (T : Txt mg aS aA aE aW) (B : BrdC K cB) (C : CB2 P w K mg base) : FnOk P w K mg base CX0 4 f fd ["self", "wide", "high", "holes"] (spBInit K cB) := by
  refine F.ok sc_Board___init__ (fun vs H Q E h => ?_) (fun cdv A outer s H vs Q E hr h => ?_)
  · obtain ⟨p, d, dx, wi, hi, hs, rfl, _⟩ := h
    rfl
  · obtain ⟨p, d, dx, wi, hi, hs, rfl, hp, hd, w1, w8, h1, h8, good, nd, hl, k⟩ := h
    have hu := hu20 hr
    have m1 : wi * hi ≤ 8 * 8 := Int.mul_le_mul w8 h8 (by omega) (by omega)
    have m0 : 0 ≤ wi * hi := Int.mul_nonneg (by omega) (by omega)
    have npd : p ≠ d := ne_of_get hp hd (by intro z; cases z)
    refine ⟨_, (pss_cons (ps_if (PW.pt (pw_or (pt_not (ct_val (kcall C.is_among hr (pac (cv 1) (pac pe_int (pac (kg T.LONGEST) pa_nil)))))) (pw_or1 (pt_not (ct_val (kcall C.is_among hr (pac (cv 2) (pac pe_int (pac (kg T.LONGEST) pa_nil))))))))) (pss_one ps_never) pss_nil)
      (pss_cons (ps_if (pt_not (ct_val (kcall C.are_holes hr (pac (cv 3) (pac (ce_bin (cv 1) (cv 2)) pa_nil))))) (pss_one ps_never) pss_nil)
      (pss_cons (ksfld K (cv 0) (cv 1))
      (pss_cons (ksfld K (cv 0) (cv 2))
      (pss_cons (ksfld K (cv 0) (kB (ksort K) bo_sorted T.sorted (pac (cv 3) pa_nil)))
      (pss_one (ksfld K (cv 0) (kcomp (cscope (N := ["square", "self"]) (src := [none, some 0]) (defScope s_Board___init__) ["self", "wide", "high", "holes"]) (kr1 T.range (pac (ce_bin (cv 1) (cv 2)) pa_nil)) (fun _ _ _ => (pg_name' (i := 0) ["square", "self"])) (fun _ _ _ => pifs_nil) (fun _ _ _ => (kcmp K hu (cv 0) (kfld K (cv 1)))))))))))), ?_⟩
    show tSeq _ _ _ [some (.ref p), some (.int wi), some (.int hi), some (.ref d)] H
    refine st_tst (tv_or (tv_not (tv_e (ev_call (av_cons (ev_v rfl) (av_cons ev_c (av_cons ev_c av_nil))) (fun Q q => ⟨wi, 1, 8, rfl, q⟩)))) (fun _ => (tv_not (tv_e (ev_call (av_cons (ev_v rfl) (av_cons ev_c (av_cons ev_c av_nil))) (fun Q q => ⟨hi, 1, 8, rfl, q⟩)))))) (fun h => ?_) (fun _ => ?_)
    · rw [decide_eq_true (⟨w1, w8⟩ : 1 ≤ wi ∧ wi ≤ 8), decide_eq_true (⟨h1, h8⟩ : 1 ≤ hi ∧ hi ≤ 8)] at h
      cases h
    refine st_ifH (fun b H' => b = false ∧ Same H H') (fun Q q => ?_) (fun H' h => by cases h.1) (fun H1 h => ?_)
    · exact calN_k (av_cons (ev_v rfl) (av_cons (ev_mul (ev_v rfl) (ev_v rfl) (.inl ⟨by omega, by omega⟩)) av_nil)) ⟨d, wi * hi, hs, rfl, hd, good, nd, hl, by omega, fun H' s => q _ _ ⟨rfl, s⟩⟩
    obtain ⟨_, s1⟩ := h
    refine st_fld (ev_v rfl) (ev_v rfl) (s1 _ _ hp) B.cl B.wide (by decide) ?_
    have a1 := length_putF "wide" (V.int wi) []
    have a2 := length_putF "high" (V.int hi) (putF "wide" (V.int wi) [])
    simp only [List.length_nil] at a1
    refine st_fld (ev_v rfl) (ev_v rfl) upd_same B.cl B.high (by omega) ?_
    generalize hH3 : upd (upd H1 p (HO.ins cB dx (putF "wide" (V.int wi) []))) p (HO.ins cB dx (putF "high" (V.int hi) (putF "wide" (V.int wi) []))) = H3
    have p3 : H3 p = some (.ins cB dx (putF "high" (V.int hi) (putF "wide" (V.int wi) []))) := hH3 ▸ upd_same
    have s3 : SameBut p H H3 := hH3 ▸ (s1.but.self.self)
    have d3 : H3 d = some (.lst (hs.map V.int)) := s3 _ _ hd npd.symm
    refine st_asgH (fun v H' => ∃ (hs' : List Int) (q : Addr), v = .ref q ∧ hs'.Perm hs ∧ hs'.Pairwise (· ≤ ·) ∧ H3 q = none ∧ H' = upd H3 q (.lst (hs'.map V.int))) (fun Q q => ?_) p cB dx (fun H' Q q => ev_v rfl Q q) B.cl B.holes ?_
    · exact b1_k (ev_v rfl) ⟨hs, SqL.of d3, by omega, fun hs' q' h1 h2 h3 => q _ _ ⟨hs', q', rfl, h1, h2, h3, rfl⟩⟩
    rintro _ _ ⟨hs', q, rfl, pm, sr, hq, rfl⟩
    have npq : p ≠ q := ne_of_none p3 hq
    have a3 := length_putF "holes" (V.ref q) (putF "high" (V.int hi) (putF "wide" (V.int wi) []))
    refine ⟨_, (by rw [upd_ne npq]; exact p3), (by omega), ?_⟩
    generalize hH4 : upd (upd H3 q (HO.lst (hs'.map V.int))) p (HO.ins cB dx (putF "holes" (V.ref q) (putF "high" (V.int hi) (putF "wide" (V.int wi) [])))) = H4
    have p4 : H4 p = some (.ins cB dx (putF "holes" (V.ref q) (putF "high" (V.int hi) (putF "wide" (V.int wi) [])))) := hH4 ▸ upd_same
    have q4 : H4 q = some (.lst (hs'.map V.int)) := by rw [← hH4, upd_ne npq.symm, upd_same]
    have hqH : H q = none := by
      cases e : H q with
      | none => rfl
      | some o =>
        have := s3 q o e npq.symm
        rw [hq] at this
        cases this
    have s4 : SameBut p H H4 := hH4 ▸ ((s3.new hqH).self)
    have f4 : Fl K H4 p "holes" (.ref q) := ⟨cB, dx, _, p4, B.cl, B.holes, by rw [lookup_putF, if_pos rfl]⟩
    refine st_fld1 (fun v H' => ∃ (pf : Addr), v = .ref pf ∧ H4 pf = none ∧ H' = upd H4 pf (.lst ((firmL wi hi hs').map V.bl))) (fun Q k' => ?_) p cB dx (fun H' Q q => ev_v rfl Q q) B.cl B.firm ?_
    · refine comp_evR (n := wi * hi) (rest := [some (.ref p)]) (av_cons (ev_mul (ev_v rfl) (ev_v rfl) (.inl ⟨by omega, by omega⟩)) av_nil) m0 (by rw [sizeLine_eq]; omega) (by omega) rfl (fun _ => true) (fun x => match x with | .int i => .bl (!decide (i ∈ hs')) | _ => .non) (fun i hi => tv_noif) (fun i hi _ => ?_) (fun d' hd' => ?_)
      · exact (ev_nin (ev_v rfl) (ev_fld (ev_v rfl) (f4)) (.inl (SqL.of q4)))
      · refine k' _ _ ⟨d', rfl, hd', ?_⟩
        have e : (((List.range (wi * hi).toNat).map fun (i : Nat) => V.int (0 + (i : Int))).filter fun _ => true).map (fun x => match x with | .int i => V.bl (!decide (i ∈ hs')) | _ => .non) = (firmL wi hi hs').map V.bl := by
          rw [List.filter_eq_self.mpr (fun _ _ => rfl), List.map_map]
          unfold firmL
          rw [List.map_map]
          refine List.map_congr_left fun i _ => ?_
          show V.bl (!decide (0 + (i : Int) ∈ hs')) = V.bl (!decide ((i : Int) ∈ hs'))
          rw [Int.zero_add]
        rw [e]
    rintro _ _ ⟨pf, rfl, hpf, rfl⟩
    have npf : p ≠ pf := ne_of_none p4 hpf
    have nqf : q ≠ pf := ne_of_none q4 hpf
    have hfH : H pf = none := by
      cases e : H pf with
      | none => rfl
      | some o =>
        have := s4 pf o e npf.symm
        rw [hpf] at this
        cases this
    refine ⟨_, (by rw [upd_ne npf]; exact p4), (by omega), ?_⟩
    refine k hs' _ pm ⟨⟨dx, q, pf, upd_same, by rw [upd_ne npq.symm, upd_ne nqf]; exact q4, by rw [upd_ne npf.symm, upd_same]⟩, w1, w8, h1, h8, fun h hh => good h (pm.mem_iff.mp hh), sr, pm.nodup_iff.mpr nd⟩ ((s4.new hfH).self)
theorem ok_is_row {f cB cG : Addr} {fd : FuncData} (F : Fun K "is_row" "is_row" s_is_row f fd) (T : Txt mg aS aA aE aW) (B : BrdC K cB) (D : GmC K cG) (C : CR1 P w K mg base cB) : FnOk P w K mg base CX0 5 f fd ["game", "thing"] (spRowG K cB cG) := by
  refine F.ok sc_is_row (fun vs H Q E h => ?_) (fun cdv A outer s H vs Q E hr h => ?_)
  · obtain ⟨g, b, v, wi, hi, hs, ks, rs, ts, es, st, rfl, _⟩ := h
    rfl
  · obtain ⟨g, b, v, wi, hi, hs, ks, rs, ts, es, st, rfl, G, O, hl, h6, t, q⟩ := h
    have hu := hu20 hr
    refine ⟨_, (pss_cons (ps_set (i := 2) sc_is_row.nd rfl (Or.inl rfl) (kcall C.empty_row hr (pac (kfld K (cv 0)) pa_nil)))
      (pss_cons (ps_if (PW.pt (pw_or (pt_not (ct_val (kis .str T.isinstance T.str bo_str (cv 1)))) (pw_or1 (ktcmp K hu (kB (klen K) bo_len T.len (pac (cv 1) pa_nil)) (kB (klen K) bo_len T.len (pac (cv 2) pa_nil)))))) (pss_one (ps_ret pe_bl)) pss_nil)
      (pss_cons (ps_set (i := 3) sc_is_row.nd rfl (Or.inr rfl) (ce_bin (ce_bin (pe_lst (pac (kg T.EMPTY) pa_nil)) (kfld K (cv 0))) (kcomp (cscope (N := ["kind"]) (src := [none]) (defScope s_is_row) ["game", "thing", "bare", "signs"]) (kpl K (kfld K (cv 0))) (fun _ _ _ => (pg_name' (i := 0) ["kind"])) (fun _ _ _ => pifs_nil) (fun _ _ _ => (kcall C.sign_of hr (pac (cv 0) (pac pe_int pa_nil)))))))
      (pss_one (ps_ret (kB (kall K) bo_all T.all (pac (kcomp (cscope (N := ["sign", "under", "signs"]) (src := [none, none, some 3]) (defScope s_is_row) ["game", "thing", "bare", "signs"]) (kzip T.zip (pac (cv 1) (pac (cv 2) pa_nil))) (fun _ _ _ => (kgt K (n := 2) (pgs_cons (pg_name' (i := 0) ["sign", "under", "signs"]) (pgs_cons (pg_name' (i := 1) ["sign", "under", "signs"]) pgs_nil)))) (fun _ _ _ => pifs_nil) (fun _ _ _ => (pe_ifExp (ktcmp K hu (cv 1) (kg T.HOLE)) (kcmp K hu (cv 0) (kg T.HOLE)) (kcmp K hu (cv 0) (cv 2))))) pa_nil))))))), ?_⟩
    show tSeq _ _ _ [some (.ref g), some v, none, none] H
    have mm := O.many
    refine st_asg (fun u H' => u = .str (emptyT wi hi hs) ∧ Same H H') (fun Q q => cal_k (av_cons (ev_fld (ev_v rfl) (G.board D)) av_nil) ⟨b, wi, hi, hs, rfl, O, fun H' s => q _ _ ⟨rfl, s⟩⟩) ?_
    rintro _ H1 ⟨rfl, s1⟩
    have t1 := t.same s1
    have hel : (emptyT wi hi hs).length ≤ 64 := by rw [emptyT_len]; omega
    have hs0 := ev_is (T := .str) (te := cVar 1) (σ := [some (.ref g), some v, some (.str (emptyT wi hi hs)), none]) (ev_v rfl) t1
    rw [str_is t1] at hs0
    cases v with
    | str z =>
      have hz : z.length ≤ 1000 := t
      refine st_tst (tv_or (tv_not (tv_e hs0)) (fun _ => tv_e (ev_ne (ev_lens (ev_v rfl) (Nat.le_trans hz (by decide))) (ev_lens (ev_v rfl) (Nat.le_trans hel (by decide)))))) (fun h => ?_) (fun h => ?_)
      · have hne : ¬ z.length = (emptyT wi hi hs).length := fun e => by
          rw [e] at h
          simp at h
        have k := q H1 s1
        have e : rowB wi hi hs ks (.str z) = false := by
          unfold rowB
          dsimp only
          rw [decide_eq_false hne]
          rfl
        rw [e] at k
        exact st_ret ev_c k
      · have heq : z.length = (emptyT wi hi hs).length := by
          have h : (!decide ((z.length : Int) = (emptyT wi hi hs).length)) = false := h
          have : ((z.length : Int) = (emptyT wi hi hs).length) := of_decide_eq_true (by cases hd : decide ((z.length : Int) = (emptyT wi hi hs).length) with | true => rfl | false => rw [hd] at h; cases h)
          omega
        obtain ⟨kq, fk, hkq⟩ := (G.same s1).kinds D
        refine st_asg (fun u H' => ∃ sq, u = .ref sq ∧ H' sq = some (.lst (([46] ++ ks ++ ks.map (· - 32)).map strV)) ∧ Same H1 H') (fun Q q => ?_) ?_
        · refine cat_k (cat_k (lst_k (cons_k ev_c (nil_k ⟨by show 1 ≤ sizeLine; decide, fun p hp => ?_⟩))))
          have s2 := (Same.refl H1).upd (o := .lst [.str "."]) hp
          obtain ⟨kq2, fk2, hkq2⟩ := ((G.same s1).same s2).kinds D
          refine evk (ev_fld (ev_v rfl) fk2) (cat_lst upd_same hkq2 (by rw [List.length_map]; show 1 + ks.length ≤ 1000; omega) (fun p2 hp2 => ?_))
          have s3 := s2.upd (o := .lst ([.str "."] ++ ks.map strV)) hp2
          obtain ⟨kq3, fk3, hkq3⟩ := ((G.same s1).same s3).kinds D
          refine comp_ev (d := kq3) (xs := ks.map strV) (rest := []) (ev_fld (ev_v rfl) fk3) (SqL.of hkq3) (by rw [List.length_map, sizeLine_eq]; omega) rfl (fun _ => true) upV (fun x hx => tv_noif) (fun x hx _ => ?_) (fun p3 hp3 => ?_)
          · obtain ⟨k, hk, rfl⟩ := List.mem_map.mp hx
            exact ev_call (sp := spSign) (av_cons (ev_v rfl) (av_cons ev_c av_nil)) (fun Q q => ⟨k, 0, rfl, hl k hk, by rw [if_pos rfl]; exact q⟩)
          · refine cat_lst (by rw [upd_ne (ne_of_none upd_same hp3), upd_same]) upd_same ?_ (fun p4 hp4 => q _ _ ⟨p4, rfl, ?_, (s3.upd hp3).upd hp4⟩)
            · rw [List.length_append, List.length_map, List.filter_eq_self.mpr (fun _ _ => rfl), List.length_map, List.length_map]; show 1 + ks.length + ks.length ≤ 1000; omega
            · rw [upd_same, List.filter_eq_self.mpr (fun _ _ => rfl), List.map_map, List.map_append, List.map_append, List.map_map, dot_one]
              rfl
        rintro _ H2 ⟨sq, rfl, hsq, s2⟩
        show tRet _ _ [some (.ref g), some (.str z), some (.str (emptyT wi hi hs)), some (.ref sq)] H2
        have hws : ∀ H', Same H2 H' → SqL K H' sq ((([46] ++ ks ++ ks.map (· - 32)).map one).map V.str) := fun H' s => by
          rw [List.map_map]; exact SqL.of (s _ _ hsq)
        refine comp_zipS (rest := [some (.ref sq)]) (av_cons (ev_v rfl) (av_cons (ev_v rfl) av_nil)) heq hz rfl (fun c e => .bl (cellB ks c e)) (fun i c e H' hc he s' => ?_) (fun H' dq s' hd => ?_)
        · refine fun Q q => evk (ev_if (tv_e (ev_eqs (ev_v rfl) ev_c)) (fun _ => ev_eqs (ev_v rfl) ev_c) (fun _ => ev_inw (ev_v rfl) (ev_v rfl) (.inl (hws H' s')))) ?_
          unfold cellB at q
          rw [hash_one, dec_iff (one_eq (a := e) (b := 35)), dec_iff (one_eq (a := c) (b := 35))]
          by_cases h35 : e = 35
          · rw [if_pos h35] at q
            rw [decide_eq_true h35]
            exact q
          · rw [if_neg h35] at q
            rw [decide_eq_false h35]
            rw [dec_iff (p := one c ∈ List.map one ([46] ++ ks ++ ks.map (· - 32))) (q := c = 46 ∨ c ∈ ks ∨ c ∈ ks.map (· - 32))]
            · exact q
            · constructor
              · intro h
                obtain ⟨c', h1, h2⟩ := List.mem_map.mp h
                have e2 := one_eq.mp h2
                subst e2
                simpa [or_assoc] using h1
              · intro h
                exact List.mem_map.mpr ⟨c, by simpa [or_assoc] using h, rfl⟩
        · refine ⟨List.zipWith (cellB ks) z.cps.toList (emptyT wi hi hs).cps.toList, ?_, ?_⟩
          · rw [List.map_zipWith]
            exact SqL.of upd_same
          · have k := q _ (((s1.trans s2).trans s').upd (o := .lst (List.zipWith (fun c e => V.bl (cellB ks c e)) z.cps.toList (emptyT wi hi hs).cps.toList)) hd)
            unfold rowB at k
            dsimp only at k
            rw [decide_eq_true heq, Bool.true_and] at k
            exact k
    | _ =>
      refine st_tst (tv_or (b := false) (tv_not (tv_e hs0)) (fun h => by cases h)) (fun _ => st_ret ev_c (q H1 s1)) (fun h => by cases h)
theorem ok_is_place {f cB cG : Addr} {fd : FuncData} (F : Fun K "is_place" "is_place" s_is_place f fd) (T : Txt mg aS aA aE aW) (C : CR2 P w K mg base cB cG) : FnOk P w K mg base CX0 6 f fd ["game", "thing"] (spPlaceG K cB cG) := by
  refine F.ok sc_is_place (fun vs H Q E h => ?_) (fun cdv A outer s H vs Q E hr h => ?_)
  · obtain ⟨g, b, v, wi, hi, hs, ks, rs, ts, es, st, rfl, _⟩ := h
    rfl
  · obtain ⟨g, b, v, wi, hi, hs, ks, rs, ts, es, st, rfl, G, O, hl, h6, t, q⟩ := h
    have hu := hu20 hr
    refine ⟨_, (pss_one (ps_ret (ce_and (kcall C.is_tuple_of hr (pac (cv 1) (pac pe_int pa_nil))) (ce_and (kcall C.is_row hr (pac (cv 0) (pac (kix K (cv 1) pe_int) pa_nil))) (pe_one (kcall C.is_among hr (pac (kix K (cv 1) pe_int) (pac pe_int (pac pe_int pa_nil))))))))), ?_⟩
    show tRet _ _ [some (.ref g), some v] H
    refine andv_k (a := tupB H v 2) (ev_call (sp := spTupG) (av_cons (ev_v rfl) (av_cons ev_c av_nil)) (fun Q q => ⟨v, 2, rfl, t.thg, q⟩)) (fun h => ?_) (fun h => ?_)
    · unfold tupB at h
      cases e1 : tupOf H v with
      | none => rw [e1] at h; cases h
      | some xs =>
        rw [e1] at h
        obtain ⟨a, rfl, ha⟩ := tupOf_some e1
        have h : (xs.length : Int) = 2 := of_decide_eq_true h
        have tx := t.2 xs (.inl e1)
        match xs, h, e1, ha, tx, q with
        | [x, y], _, e1, ha, tx, q =>
          refine cal_k (sp := spRowG K cB cG) (av_cons (ev_v rfl) (av_cons (ev_ix (ev_v rfl) ev_c (.inr (SqT.of ha)) (atI_nat (j := 0) rfl)) av_nil)) ⟨g, b, x, wi, hi, hs, ks, rs, ts, es, st, rfl, G, O, hl, h6, tx x (by simp), fun H' s' => ?_⟩
          have k := q H' s'
          rw [placeB_tup e1] at k
          cases hr2 : rowB wi hi hs ks x with
          | false =>
            rw [hr2] at k
            exact k
          | true =>
            rw [hr2, Bool.true_and] at k
            simp only [bOnly, if_true]
            exact cal_k (sp := spAmongG) (av_cons (ev_ix (ev_v rfl) ev_c (.inr (SqT.of (s' _ _ ha))) (atI_nat (j := 1) rfl)) (av_cons ev_c (av_cons ev_c av_nil))) ⟨y, 0, 1, rfl, (tx y (by simp)).thg.same s', k⟩
    · have k := q H (Same.refl H)
      rw [placeB_no h] at k
      exact k
end
end K10
namespace K10
open PySem L2
def spTold (K : PySem.W.Frag) (cB cG : Addr) : Sp := fun vs H Q _ => ∃ (g b : Addr) (v : V) (wi hi : Int) (hs : List Int) (ks : List Nat) (rs ts es : List V) (st : Str) (due : Bool), vs = [.ref g, v, .bl due] ∧ GmAt cG H g b (ks.map strV) rs ts es st ∧ BrdAt K cB H b wi hi hs ∧ (∀ k ∈ ks, Ltr k) ∧ ks.length ≤ 6 ∧ ThgN H 1 v ∧ ∀ H', Same H H' → Q (.bl (decide (placeB wi hi hs ks H v = due))) H'
def spGood (K : PySem.W.Frag) : Sp := fun vs H Q _ => ∃ (v : V) (wi hi : Int) (hl kd : Addr) (hs : List Int) (ks : List Nat), vs = [v, .int wi, .int hi, .ref hl, .ref kd] ∧ ThgN H 1 v ∧ H hl = some (.lst (hs.map V.int)) ∧ H kd = some (.lst (ks.map strV)) ∧ (∀ k ∈ ks, Ltr k) ∧ ks.length ≤ 6 ∧ 1 ≤ wi ∧ wi ≤ 8 ∧ 1 ≤ hi ∧ hi ≤ 8 ∧ hs.length ≤ 64 ∧ ∀ H', Same H H' → Q (.bl (placeB wi hi hs ks H v)) H'
theorem zw_true {f : Nat → Nat → Bool} : ∀ {xs ys : List Nat}, (∀ (s : Nat) c e, xs[s]? = some c → ys[s]? = some e → f c e = true) → (List.zipWith f xs ys).all id = true
  | [], _, _ => by simp
  | _ :: _, [], _ => by simp
  | a :: xs, b :: ys, h => by
    rw [List.zipWith_cons_cons, List.all_cons, zw_true (xs := xs) (ys := ys) (fun s c e h1 h2 => h (s + 1) c e (by simpa using h1) (by simpa using h2))]
    have := h 0 a b rfl rfl
    simp [this]
theorem zw_false {f : Nat → Nat → Bool} : ∀ {xs ys : List Nat} {s c e : Nat}, xs[s]? = some c → ys[s]? = some e → f c e = false → (List.zipWith f xs ys).all id = false
  | [], _, _, _, _, h1, _, _ => by simp at h1
  | _ :: _, [], _, _, _, _, h2, _ => by simp at h2
  | a :: xs, b :: ys, 0, c, e, h1, h2, h3 => by
    simp at h1 h2
    subst h1; subst h2
    simp [h3]
  | a :: xs, b :: ys, s + 1, c, e, h1, h2, h3 => by
    rw [List.zipWith_cons_cons, List.all_cons, zw_false (xs := xs) (ys := ys) (s := s) (by simpa using h1) (by simpa using h2) h3]
    simp
theorem empty_at {wi hi : Int} {hs : List Int} {s : Nat} (h : s < (wi * hi).toNat) : (emptyT wi hi hs).cps.toList[s]? = some (if (s : Int) ∈ hs then 35 else 46) := by
  unfold emptyT
  simp [h]
theorem one_le (k : Nat) : (one k).length ≤ 1000 := by show 1 ≤ 1000; decide
theorem inGT_k {K : PySem.W.Frag} {ta tb : TE} {σ : St} {H : Hp} {R : Bool → Hp → Prop} {v : V} (ha : Ev ta σ H v) (q : tb σ H fun y H2 => inG K .NotIn v y H2 (bOnly R)) : cTest (cInG K .NotIn ta tb) σ H R := ha _ q
theorem tandh_k {tt u : TT} {σ : St} {H : Hp} {R : Bool → Hp → Prop} {b : Bool} (h : Tv tt σ H b) (q1 : b = true → u σ H R) (q2 : b = false → R false H) : tAnd tt u σ H R := h _ (by
  cases b with
  | true => exact iteT (q1 rfl)
  | false => exact iteF (q2 rfl))
theorem mem_ones {c : Nat} {ks : List Nat} : one c ∈ ([46] ++ (ks ++ ks.map (· - 32))).map one ↔ (c = 46 ∨ c ∈ ks ∨ c ∈ ks.map (· - 32)) := by
  constructor
  · intro h
    obtain ⟨c', h1, h2⟩ := List.mem_map.mp h
    have e2 := one_eq.mp h2
    subst e2
    simpa using h1
  · intro h
    exact List.mem_map.mpr ⟨c, by simpa using h, rfl⟩
structure M1 (P : Program) (w : World) (K : PySem.W.Frag) (mg : Str → Option Value) (base : Heap) (cB cG : Addr) : Prop where
  is_place : Cal P w K mg base "is_place" ["game", "thing"] 6 (spPlaceG K cB cG)
structure M2 (P : Program) (w : World) (K : PySem.W.Frag) (mg : Str → Option Value) (base : Heap) : Prop where
  _law_whole : Cal P w K mg base "_law_whole" ["_law_thing"] 1 spWholeG
section
variable {P : Program} {w : World} {K : PySem.W.Frag} {mg : Str → Option Value} {base : Heap} {aS aA aE aW : Addr}
theorem ok__law_whole {f : Addr} {fd : FuncData} (F : Fun K "_law_whole" "_law_whole" s__law_whole f fd) (T : Txt mg aS aA aE aW) : FnOk P w K mg base CX0 1 f fd ["_law_thing"] spWholeG := by
  refine F.ok sc__law_whole (fun vs H Q E h => ?_) (fun cdv A outer s H vs Q E hr h => ?_)
  · obtain ⟨v, rfl, _⟩ := h
    rfl
  · obtain ⟨v, rfl, t, q⟩ := h
    refine ⟨_, (pss_one (ps_ret (ce_and (kis .int T.isinstance T.int bo_int (cv 0)) (pe_one (ce_not (kis .bool T.isinstance T.bool bo_bool (cv 0))))))), ?_⟩
    show tRet _ _ [some v] H
    refine st_ret (ev_and (ev_is (ev_v rfl) t) (fun _ => ev_not (ev_is (ev_v rfl) t))) ?_
    rw [whole_is t]
    exact q
theorem ok__law_told {f cB cG : Addr} {fd : FuncData} (F : Fun K "_law_told" "_law_told" s__law_told f fd) (T : Txt mg aS aA aE aW) (C : M1 P w K mg base cB cG) : FnOk P w K mg base CX0 7 f fd ["_law_game", "_law_thing", "_law_due"] (spTold K cB cG) := by
  refine F.ok sc__law_told (fun vs H Q E h => ?_) (fun cdv A outer s H vs Q E hr h => ?_)
  · obtain ⟨g, b, v, wi, hi, hs, ks, rs, ts, es, st, due, rfl, _⟩ := h
    rfl
  · obtain ⟨g, b, v, wi, hi, hs, ks, rs, ts, es, st, due, rfl, G, O, hl, h6, t, q⟩ := h
    have hu := hu20 hr
    refine ⟨_, (pss_cons (ps_set (i := 3) sc__law_told.nd rfl (Or.inl rfl) (kcall C.is_place hr (pac (cv 0) (pac (cv 1) pa_nil))))
      (pss_one (ps_ret (ce_and (kis .bool T.isinstance T.bool bo_bool (cv 3)) (pe_one (kcmp K hu (cv 3) (cv 2))))))), ?_⟩
    show tSeq _ _ _ [some (.ref g), some v, some (.bl due), none] H
    refine st_asg (fun u H' => u = .bl (placeB wi hi hs ks H v) ∧ Same H H') (fun Q q => cal_k (av_cons (ev_v rfl) (av_cons (ev_v rfl) av_nil)) ⟨g, b, v, wi, hi, hs, ks, rs, ts, es, st, rfl, G, O, hl, h6, t, fun H' s => q _ _ ⟨rfl, s⟩⟩) ?_
    rintro _ H1 ⟨rfl, s1⟩
    exact st_ret (ev_and (ev_is (ev_v rfl) trivial) (fun _ => ev_eqb (ev_v rfl) (ev_v rfl))) (q _ s1)
theorem ok__law_good {f : Addr} {fd : FuncData} (F : Fun K "_law_good" "_law_good" s__law_good f fd) (T : Txt mg aS aA aE aW) (C : M2 P w K mg base) : FnOk P w K mg base CX0 2 f fd ["_law_thing", "_law_wide", "_law_high", "_law_holes", "_law_kinds_here"] (spGood K) := by
  refine F.ok sc__law_good (fun vs H Q E h => ?_) (fun cdv A outer s H vs Q E hr h => ?_)
  · obtain ⟨v, wi, hi, hl, kd, hs, ks, rfl, _⟩ := h
    rfl
  · obtain ⟨v, wi, hi, hl, kd, hs, ks, rfl, t, hhl, hkd, hlt, h6, w1, w8, h1, h8, hhs, q⟩ := h
    have hu := hu20 hr
    refine ⟨_, (pss_cons (ps_if (PW.pt (pw_or (pt_not (ct_val (kis .tuple T.isinstance T.tuple bo_tuple (cv 0)))) (pw_or (ktcmp K hu (kB (klen K) bo_len T.len (pac (cv 0) pa_nil)) pe_int) (pw_or1 (pt_not (ct_val (kis .str T.isinstance T.str bo_str (kix K (cv 0) pe_int)))))))) (pss_one (ps_ret pe_bl)) pss_nil)
      (pss_cons (ps_if (PW.pt (pw_or (pt_not (ct_val (kcall C._law_whole hr (pac (kix K (cv 0) pe_int) pa_nil)))) (pw_or (pt_not (ktchain K hu pe_int (kix K (cv 0) pe_int) pe_int)) (pw_or1 (ktcmp K hu (kB (klen K) bo_len T.len (pac (kix K (cv 0) pe_int) pa_nil)) (ce_bin (cv 1) (cv 2))))))) (pss_one (ps_ret pe_bl)) pss_nil)
      (pss_cons (ps_set (i := 5) sc__law_good.nd rfl (Or.inl rfl) (ce_bin (cv 4) (kcomp (cscope (N := ["_law_kind"]) (src := [none]) (defScope s__law_good) ["_law_thing", "_law_wide", "_law_high", "_law_holes", "_law_kinds_here", "_law_pieces", "_law_square"]) (kpl K (cv 4)) (fun _ _ _ => (pg_name' (i := 0) ["_law_kind"])) (fun _ _ _ => pifs_nil) (fun _ _ _ => (ce_sm0 PySem.F.slot_str_upper PySem.F.type_str_upper mt_upA (cv 0))))))
      (pss_cons (ps_for PassesOwn.never rfl (kr1 T.range (pac (ce_bin (cv 1) (cv 2)) pa_nil)) (pg_name (i := 6) sc__law_good.nd rfl (Or.inl rfl)) (pss_cons (ps_if (PW.pt (pw_and (ktcmp K hu (cv 6) (cv 3)) (pw_and1 (ktcmp K hu (kix K (kix K (cv 0) pe_int) (cv 6)) pe_str)))) (pss_one (ps_ret pe_bl)) pss_nil)
      (pss_one (ps_if (PW.pt (pw_and (ktcmp K hu (cv 6) (cv 3)) (pw_and1 (ktinG K hu (kix K (kix K (cv 0) pe_int) (cv 6)) (ce_bin (pe_lst (pac pe_str pa_nil)) (cv 5)))))) (pss_one (ps_ret pe_bl)) pss_nil))))
      (pss_one (ps_ret pe_bl)))))), ?_⟩
    show tSeq _ _ _ [some v, some (.int wi), some (.int hi), some (.ref hl), some (.ref kd), none, none] H
    have hs0 := ev_is (T := .tuple) (te := cVar 0) (σ := [some v, some (.int wi), some (.int hi), some (.ref hl), some (.ref kd), none, none]) (ev_v rfl) t.1
    rw [tup_is t.1] at hs0
    have no2 : tupB H v 2 = false → Q (.bl false) H := fun h => by
      have k := q H (Same.refl H)
      rw [placeB_no h] at k
      exact k
    cases e1 : tupOf H v with
    | none =>
      rw [e1] at hs0
      exact st_tst (tv_or (b := false) (tv_not (tv_e hs0)) (fun h => by cases h)) (fun _ => st_ret ev_c (no2 (by unfold tupB; rw [e1]))) (fun h => by cases h)
    | some xs =>
      rw [e1] at hs0
      obtain ⟨a, rfl, ha⟩ := tupOf_some e1
      have tx := t.2 xs (.inl e1)
      by_cases hx2 : (xs.length : Int) = 2
      · match xs, hx2, e1, ha, tx, hs0 with
        | [x, y], _, e1, ha, tx, hs0 =>
          have hq : SqT K H a [x, y] := SqT.of ha
          have tX : Thg H x := tx x (by simp)
          have tY : Thg H y := tx y (by simp)
          have q : ∀ H', Same H H' → Q (.bl (rowB wi hi hs ks x && amongB y 0 1)) H' := fun H' s => by
            have k := q H' s
            rw [placeB_tup e1] at k
            exact k
          have i0 : ∀ (σ : St) (H' : Hp), σ[0]? = some (some (V.ref a)) → Same H H' → Ev (cIx K (cVar 0) (tC (.int 0))) σ H' x := fun σ H' h s => ev_ix (ev_v h) ev_c (.inr (SqT.of (s _ _ ha))) (atI_nat (j := 0) rfl)
          have i1 : ∀ (σ : St) (H' : Hp), σ[0]? = some (some (V.ref a)) → Same H H' → Ev (cIx K (cVar 0) (tC (.int 1))) σ H' y := fun σ H' h s => ev_ix (ev_v h) ev_c (.inr (SqT.of (s _ _ ha))) (atI_nat (j := 1) rfl)
          have hsx := ev_is (T := .str) (i0 [some (.ref a), some (.int wi), some (.int hi), some (.ref hl), some (.ref kd), none, none] H rfl (Same.refl H)) tX
          rw [str_is tX] at hsx
          have hl2 := ev_ne (K := K) (ev_len (K := K) (to := cVar 0) (σ := [some (.ref a), some (.int wi), some (.int hi), some (.ref hl), some (.ref kd), none, none]) (ev_v rfl) (.inr hq)) (ev_c (x := .int 2))
          have q0 := q H (Same.refl H)
          cases x with
          | str z =>
            refine st_tst (b := false) (tv_or (tv_not (tv_e hs0)) (fun _ => tv_or (tv_e hl2) (fun _ => tv_not (tv_e hsx)))) (fun h => by cases h) (fun _ => ?_)
            have hz : z.length ≤ 1000 := tX
            have whole := ev_call (sp := spWholeG) (x := .bl (wholeB y)) (av_cons (i1 [some (.ref a), some (.int wi), some (.int hi), some (.ref hl), some (.ref kd), none, none] H rfl (Same.refl H)) av_nil) (fun Q q => ⟨y, rfl, tY, q⟩)
            cases y with
            | int j =>
              have mm : 1 ≤ wi * hi ∧ wi * hi ≤ 64 := ⟨by have := Int.mul_le_mul w1 h1 (by omega) (by omega); omega, by have := Int.mul_le_mul w8 h8 (by omega) (by omega); omega⟩
              refine st_tst (tv_or (tv_not (tv_e whole)) (fun _ => tv_or (tv_not (tv_clee ev_c (i1 _ _ rfl (Same.refl H)) (fun _ => ev_c))) (fun _ => tv_e (ev_ne (ev_lens (i0 _ _ rfl (Same.refl H)) (Nat.le_trans hz (by decide))) (ev_mul (ev_v rfl) (ev_v rfl) (.inl ⟨by omega, by omega⟩)))))) (fun h => ?_) (fun h => ?_)
              · have e : (rowB wi hi hs ks (.str z) && amongB (.int j) 0 1) = false := by
                  by_cases hj : (0 : Int) ≤ j ∧ j ≤ 1
                  · have h : (!wholeB (.int j) || (!decide ((0 : Int) ≤ j ∧ j ≤ 1) || !decide ((z.length : Int) = wi * hi))) = true := h
                    rw [decide_eq_true hj] at h
                    have hne : ¬ (z.length : Int) = wi * hi := fun e => by rw [decide_eq_true e] at h; cases h
                    have hne2 : ¬ z.length = (emptyT wi hi hs).length := by rw [emptyT_len]; omega
                    unfold rowB
                    dsimp only
                    rw [decide_eq_false hne2]
                    rfl
                  · rw [show amongB (.int j) 0 1 = decide ((0 : Int) ≤ j ∧ j ≤ 1) from rfl, decide_eq_false hj, Bool.and_false]
                rw [e] at q0
                exact st_ret ev_c q0
              · have h : (!wholeB (.int j) || (!decide ((0 : Int) ≤ j ∧ j ≤ 1) || !decide ((z.length : Int) = wi * hi))) = false := h
                rw [Bool.or_eq_false_iff, Bool.or_eq_false_iff] at h
                have hj : decide ((0 : Int) ≤ j ∧ j ≤ 1) = true := by cases hd : decide ((0 : Int) ≤ j ∧ j ≤ 1) with | true => rfl | false => rw [hd] at h; cases h.2.1
                have hzl : (z.length : Int) = wi * hi := of_decide_eq_true (by cases hd : decide ((z.length : Int) = wi * hi) with | true => rfl | false => rw [hd] at h; cases h.2.2)
                have hzl2 : z.length = (emptyT wi hi hs).length := by rw [emptyT_len]; omega
                have q : ∀ H', Same H H' → Q (.bl ((List.zipWith (cellB ks) z.cps.toList (emptyT wi hi hs).cps.toList).all id)) H' := fun H' s => by
                  have k := q H' s
                  rw [show amongB (.int j) 0 1 = decide ((0 : Int) ≤ j ∧ j ≤ 1) from rfl, hj, Bool.and_true] at k
                  unfold rowB at k
                  dsimp only at k
                  rw [decide_eq_true hzl2, Bool.true_and] at k
                  exact k
                refine st_asg (fun u H' => ∃ pq, u = .ref pq ∧ H' pq = some (.lst ((ks ++ ks.map (· - 32)).map strV)) ∧ Same H H') (fun Q q => ?_) ?_
                · refine cat_k (evk (ev_v rfl) (comp_ev (d := kd) (xs := ks.map strV) (rest := []) (ev_v rfl) (SqL.of hkd) (by rw [List.length_map, sizeLine_eq]; omega) rfl (fun _ => true) upV (fun x hx => tv_noif) (fun x hx _ => ?_) (fun p hp => ?_)))
                  · obtain ⟨k, hk, rfl⟩ := List.mem_map.mp hx
                    exact ev_up (ev_v rfl) (hlt k hk)
                  · refine cat_lst (by rw [upd_ne (ne_of_none hkd hp)]; exact hkd) upd_same ?_ (fun p4 hp4 => q _ _ ⟨p4, rfl, ?_, ((Same.refl H).upd hp).upd hp4⟩)
                    · rw [List.filter_eq_self.mpr (fun _ _ => rfl), List.length_map, List.length_map, List.length_map]; omega
                    · rw [upd_same, List.filter_eq_self.mpr (fun _ _ => rfl), List.map_map, List.map_append, List.map_map]
                      rfl
                rintro _ H1 ⟨pq, rfl, hpq, s1⟩
                show tSeq _ _ _ [some (.ref a), some (.int wi), some (.int hi), some (.ref hl), some (.ref kd), some (.ref pq), none] H1
                refine tSeq_of (fun σ' H' => Same H1 H' ∧ (List.zipWith (cellB ks) z.cps.toList (emptyT wi hi hs).cps.toList).all id = true) (fun K' hK => ?_) (fun σ' H' h => ?_)
                · refine for_rng1 (wi * hi) (fun Q q => (av_cons (ev_mul (ev_v rfl) (ev_v rfl) (.inl ⟨by omega, by omega⟩)) av_nil) _ q) (by omega) (by omega)
                    (fun i σ' H' => (∃ o, σ' = [some (.ref a), some (.int wi), some (.int hi), some (.ref hl), some (.ref kd), some (.ref pq), o]) ∧ Same H1 H' ∧ ∀ (s c e : Nat), s < i → z.cps.toList[s]? = some c → (emptyT wi hi hs).cps.toList[s]? = some e → cellB ks c e = true) ⟨⟨_, rfl⟩, Same.refl _, fun s c e h => by omega⟩ ?_ ?_
                  · rintro i _ H2 hi' ⟨⟨o, rfl⟩, s2, hg⟩
                    have s02 := s1.trans s2
                    have hil : i < z.length := by omega
                    obtain ⟨c, hc⟩ : ∃ c, z.cps.toList[i]? = some c := ⟨_, List.getElem?_eq_getElem (by rw [Array.length_toList]; exact hil)⟩
                    have he := empty_at (hs := hs) hi'
                    show tSeq _ _ _ [some (.ref a), some (.int wi), some (.int hi), some (.ref hl), some (.ref kd), some (.ref pq), some (.int (0 + (i : Int)))] H2
                    have ec : ∀ H', Same H2 H' → Ev (cIx K (cIx K (cVar 0) (tC (.int 0))) (cVar 6)) [some (.ref a), some (.int wi), some (.int hi), some (.ref hl), some (.ref kd), some (.ref pq), some (.int (0 + (i : Int)))] H' (.str (one c)) := fun H' s => ev_ixs (i0 _ _ rfl (s02.trans s)) (ev_v rfl) (Nat.le_trans hz (by decide)) (by rw [Int.zero_add]; exact atI_nat hc)
                    have hh2 : SqL K H2 hl (hs.map V.int) := SqL.of (s02 _ _ hhl)
                    have bad : cellB ks c (if (i : Int) ∈ hs then 35 else 46) = false → ∀ H', Same H2 H' → Q (.bl false) H' := fun hb H' s' => by
                      have k := q H' (s02.trans s')
                      rw [zw_false hc he hb] at k
                      exact k
                    refine st_tst (tv_and (tv_e (ev_in (ev_v rfl) (ev_v rfl) (.inl hh2))) (fun _ => tv_e (ev_nes (ec _ (Same.refl _)) ev_c))) (fun h => ?_) (fun h => ?_)
                    · rw [Bool.and_eq_true] at h
                      have hin : (i : Int) ∈ hs := by have := of_decide_eq_true h.1; rwa [Int.zero_add] at this
                      refine st_ret ev_c (bad ?_ _ (Same.refl _))
                      rw [if_pos hin]
                      unfold cellB
                      rw [if_pos rfl]
                      have h2 := h.2
                      rw [hash_one, dec_iff (one_eq (a := c) (b := 35))] at h2
                      cases hd : decide (c = 35) with
                      | false => rfl
                      | true => rw [hd] at h2; cases h2
                    · have good1 : (i : Int) ∈ hs → cellB ks c 35 = true := fun hin => by
                        rw [decide_eq_true (by rw [Int.zero_add]; exact hin), Bool.true_and, hash_one, dec_iff (one_eq (a := c) (b := 35))] at h
                        unfold cellB
                        rw [if_pos rfl]
                        cases hd : decide (c = 35) with
                        | true => rfl
                        | false => rw [hd] at h; cases h
                      refine st_if1 (fun b H' => Same H2 H' ∧ cellB ks c (if (i : Int) ∈ hs then 35 else 46) = !b) (fun Q q => ?_) (fun H3 h3 => ?_) (fun H3 h3 => ?_)
                      · refine tandh_k (tv_e (ev_nin (ev_v rfl) (ev_v rfl) (.inl hh2))) (fun hn => ?_) (fun hn => ?_)
                        · have hin : ¬ (i : Int) ∈ hs := fun hin => by
                            rw [decide_eq_true (by rw [Int.zero_add]; exact hin)] at hn
                            cases hn
                          refine inGT_k (ec _ (Same.refl _)) (cat_k (lst_k (cons_k ev_c (nil_k ⟨by show 1 ≤ sizeLine; decide, fun p hp => evk (ev_v rfl) (cat_lst upd_same ((Same.refl H2).upd hp _ _ (s2 _ _ hpq)) ?_ (fun p2 hp2 => ⟨([46] ++ (ks ++ ks.map (· - 32))).map one, ?_, one_le _, q _ _ ⟨((Same.refl H2).upd hp).upd hp2, ?_⟩⟩))⟩))))
                          · rw [List.length_map, List.length_append, List.length_map]; show 1 + (ks.length + ks.length) ≤ 1000; omega
                          · refine SqL.of ?_
                            rw [upd_same, List.map_map, dot_one]
                            rfl
                          · rw [if_neg hin]
                            unfold cellB
                            rw [if_neg (by decide)]
                            show _ = !(!decide (one c ∈ ([46] ++ (ks ++ ks.map (· - 32))).map one))
                            rw [Bool.not_not]
                            exact dec_iff mem_ones.symm
                        · have hin : (i : Int) ∈ hs := by
                            cases hd : decide ((0 + (i : Int)) ∈ hs) with
                            | true => have := of_decide_eq_true hd; rwa [Int.zero_add] at this
                            | false => rw [hd] at hn; cases hn
                          exact q _ _ ⟨Same.refl _, by rw [if_pos hin, good1 hin]; rfl⟩
                      · exact st_ret ev_c (bad h3.2 _ h3.1)
                      · refine ⟨⟨_, rfl⟩, s2.trans h3.1, fun s c' e' hs' h1' h2' => ?_⟩
                        by_cases hsi : s = i
                        · subst hsi
                          rw [hc] at h1'; rw [he] at h2'
                          cases h1'; cases h2'
                          exact h3.2
                        · exact hg s c' e' (by omega) h1' h2'
                  · rintro _ H2 ⟨_, s2, hg⟩
                    refine hK _ _ ⟨s2, zw_true fun s c e h1 h2 => hg s c e ?_ h1 h2⟩
                    have := (List.getElem?_eq_some_iff.mp h1).1
                    rw [Array.length_toList] at this
                    have : s < z.length := this
                    omega
                · have k := q H' (s1.trans h.1)
                  rw [h.2] at k
                  exact st_ret ev_c k
            | _ =>
              have e : (rowB wi hi hs ks (.str z) && false) = false := Bool.and_false _
              rw [show amongB _ 0 1 = false from rfl, e] at q0
              exact st_tst (tv_or (b := false) (tv_not (tv_e whole)) (fun h => by cases h)) (fun _ => st_ret ev_c q0) (fun h => by cases h)
          | _ =>
            exact st_tst (b := true) (tv_or (tv_not (tv_e hs0)) (fun _ => tv_or (tv_e hl2) (fun _ => tv_not (tv_e hsx)))) (fun _ => st_ret ev_c q0) (fun h => by cases h)
      · have hn : Tv (cTest (cCmp K .NotEq (cB (lenA K) (tCons (cVar 0) tNil)) (tC (.int 2)))) [some (.ref a), some (.int wi), some (.int hi), some (.ref hl), some (.ref kd), none, none] H true := by
          have z := tv_e (ev_ne (K := K) (ev_len (K := K) (to := cVar 0) (σ := [some (.ref a), some (.int wi), some (.int hi), some (.ref hl), some (.ref kd), none, none]) (ev_v rfl) (.inr (SqT.of ha))) (ev_c (x := .int 2)))
          rw [decide_eq_false hx2] at z
          exact z
        refine st_tst (b := true) (tv_or (tv_not (tv_e hs0)) (fun _ => tv_or (b := false) hn (fun h => by cases h))) (fun _ => st_ret ev_c (no2 (by unfold tupB; rw [e1]; exact decide_eq_false hx2))) (fun h => by cases h)
end
end K10
namespace K10
open PySem L2
def spLEmpty (K : PySem.W.Frag) : Sp := fun vs H Q _ => ∃ (wi hi : Int) (d : Addr) (hs : List Int), vs = [.int wi, .int hi, .ref d] ∧ 1 ≤ wi ∧ wi ≤ 8 ∧ 1 ≤ hi ∧ hi ≤ 8 ∧ SqL K H d (hs.map V.int) ∧ ∀ H', Same H H' → Q (.str (emptyT wi hi hs)) H'
section
variable {P : Program} {w : World} {K : PySem.W.Frag} {mg : Str → Option Value} {base : Heap} {aS aA aE aW : Addr}
theorem ok__law_cell_at {f : Addr} {fd : FuncData} (F : Fun K "_law_cell_at" "_law_cell_at" s__law_cell_at f fd) (T : Txt mg aS aA aE aW) : FnOk P w K mg base CX0 1 f fd ["_law_script", "_law_k"] (spCellAt K) := by
  refine F.ok sc__law_cell_at (fun vs H Q E h => ?_) (fun cdv A outer s H vs Q E hr h => ?_)
  · obtain ⟨a, ns, k, rfl, _⟩ := h
    rfl
  · obtain ⟨a, ns, k, rfl, hS, k0, q⟩ := h
    have hu := hu20 hr
    refine ⟨_, (pss_cons (ps_if (ktcmp K hu (cv 1) (kB (klen K) bo_len T.len (pac (cv 0) pa_nil))) (pss_one (ps_ret (kix K (cv 0) (cv 1)))) pss_nil)
      (pss_one (ps_ret pe_int))), ?_⟩
    show tSeq _ _ _ [some (.ref a), some (.int k)] H
    unfold cellAt at q
    refine st_tst (tv_e (ev_lt (ev_v rfl) (ev_len (ev_v rfl) (.inl hS)))) (fun h => ?_) (fun h => ?_)
    · have h := of_decide_eq_true h
      rw [List.length_map] at h
      have hlt : k.toNat < ns.length := by omega
      have e : (ns.map V.int)[k.toNat]? = some (.int (ns.getD k.toNat 0)) := by
        rw [List.getElem?_map, List.getD_eq_getElem?_getD, List.getElem?_eq_getElem hlt]
        rfl
      have e2 := atI_nat e
      have ei : ((k.toNat : Nat) : Int) = k := by omega
      rw [ei] at e2
      exact st_ret (ev_ix (ev_v rfl) (ev_v rfl) (.inl hS) e2) q
    · have h := of_decide_eq_false h
      rw [List.length_map] at h
      rw [List.getD_eq_getElem?_getD, List.getElem?_eq_none (by omega)] at q
      exact st_ret ev_c q
theorem ok__law_mixed {f : Addr} {fd : FuncData} (F : Fun K "_law_mixed" "_law_mixed" s__law_mixed f fd) (T : Txt mg aS aA aE aW) : FnOk P w K mg base CX0 1 f fd ["_law_cell", "_law_k"] spMixed := by
  refine F.ok sc__law_mixed (fun vs H Q E h => ?_) (fun cdv A outer s H vs Q E hr h => ?_)
  · obtain ⟨c, k, rfl, _⟩ := h
    rfl
  · obtain ⟨c, k, rfl, q⟩ := h
    refine ⟨_, (pss_one (ps_ret (ce_bin (ce_bin (ce_bin (ce_bin (cv 0) (ce_bin pe_int (cv 1))) pe_int) pe_int) pe_int))), ?_⟩
    show tRet _ _ [some (.int c), some (.int k)] H
    exact st_ret (ev_mod (ev_mul (ev_add (ev_add (ev_v rfl) (ev_mul ev_c (ev_v rfl) (.inl ⟨by decide, by decide⟩))) ev_c) ev_c (.inr ⟨by decide, by decide⟩)) ev_c (by decide)) q
theorem ok__law_kinds {f : Addr} {fd : FuncData} (F : Fun K "_law_kinds" "_law_kinds" s__law_kinds f fd) (T : Txt mg aS aA aE aW) : FnOk P w K mg base CX0 1 f fd ["_law_cell"] spLKinds := by
  refine F.ok sc__law_kinds (fun vs H Q E h => ?_) (fun cdv A outer s H vs Q E hr h => ?_)
  · obtain ⟨c, rfl, _⟩ := h
    rfl
  · obtain ⟨c, rfl, k⟩ := h
    have hu := hu20 hr
    refine ⟨_, (pss_cons (ps_set (i := 1) sc__law_kinds.nd rfl (Or.inr rfl) pe_str)
      (pss_cons (ps_set (i := 2) sc__law_kinds.nd rfl (Or.inr rfl) (kix K (pe_lst (pa_consts rfl)) (ce_bin (ce_bin (cv 0) pe_int) pe_int)))
      (pss_one (ps_ret (kcomp (cscope (N := ["_law_k", "_law_letters", "_law_cell", "_law_step"]) (src := [none, some 1, some 0, some 2]) (defScope s__law_kinds) ["_law_cell", "_law_letters", "_law_step"]) (kr1 T.range (pac (kix K (pe_lst (pa_consts rfl)) (ce_bin (cv 0) pe_int)) pa_nil)) (fun _ _ _ => (pg_name' (i := 0) ["_law_k", "_law_letters", "_law_cell", "_law_step"])) (fun _ _ _ => pifs_nil) (fun _ _ _ => (kix K (cv 1) (ce_bin (ce_bin (ce_bin (cv 2) pe_int) (ce_bin (cv 3) (cv 0))) pe_int)))))))), ?_⟩
    show tSeq _ _ _ [some (.int c), none, none] H
    refine st_set ev_c ?_
    refine st_asg (fun v H' => ∃ st : Int, v = .int st ∧ st ∈ ([1, 3, 5, 7, 9, 11] : List Int) ∧ Same H H') (fun Q q => ?_) ?_
    · obtain ⟨n, e, hn⟩ := pickN (ns := [1, 3, 5, 7, 9, 11]) (i := c / 208 % 6) (by omega) (by show _ < (6 : Int); omega)
      exact lix_k av_cs (by decide) (fun H' => (ev_mod (ev_div (ev_v rfl) ev_c ⟨by decide, by decide⟩) ev_c (by decide))) e (fun H' s => q _ _ ⟨n, rfl, hn, s⟩)
    rintro _ H1 ⟨st, rfl, hst, s1⟩
    obtain ⟨n, e, hn⟩ := pickN (ns := [1, 2, 2, 3, 3, 1, 6, 4]) (i := c % 8) (by omega) (by show _ < (8 : Int); omega)
    have hn6 : 1 ≤ n ∧ n ≤ 6 := by
      simp only [List.mem_cons, List.not_mem_nil, or_false] at hn
      omega
    show tRet _ _ [some (.int c), some (.str "abcdefghijklmnopqrstuvwxyz"), some (.int st)] H1
    refine comp_evRH (n := n) (rest := [some (.str "abcdefghijklmnopqrstuvwxyz"), some (.int c), some (.int st)]) (fun Q q => rix_k av_cs (by decide) (fun H' => (ev_mod (ev_v rfl) ev_c (by decide))) e q) (by omega) (by rw [sizeLine_eq]; omega) (by omega) rfl (fun _ => true)
      (fun x => match x with | .int i => strV (97 + ((c / 8 + st * i) % 26).toNat) | _ => .non) (fun i H' s hi => tv_noif) (fun i H' s hi _ => ?_) (fun H' d s hd => ?_)
    · have hlt : 0 ≤ 0 + (i : Int) ∧ 0 + (i : Int) < 6 := by omega
      exact ev_ixs (ev_v rfl) (ev_mod (ev_add (ev_div (ev_v rfl) ev_c ⟨by decide, by decide⟩) (ev_mul (ev_v rfl) (ev_v rfl) (.inr ⟨by omega, by omega⟩))) ev_c (by decide)) (by decide) (abc_at (by omega) (by omega))
    · have e2 : (((List.range n.toNat).map fun (i : Nat) => V.int (0 + (i : Int))).filter fun _ => true).map (fun x => match x with | .int i => strV (97 + ((c / 8 + st * i) % 26).toNat) | _ => .non) = (kindsL (c / 8) st n.toNat).map strV := by
        rw [List.filter_eq_self.mpr (fun _ _ => rfl), List.map_map]
        unfold kindsL
        rw [List.map_map]
        refine List.map_congr_left fun i _ => ?_
        show strV (97 + ((c / 8 + st * (0 + (i : Int))) % 26).toNat) = strV (97 + ((c / 8 + st * (i : Int)) % 26).toNat)
        rw [Int.zero_add]
      rw [e2]
      have hl : (kindsL (c / 8) st n.toNat).length = n.toNat := by unfold kindsL; simp
      exact k d _ _ ((s1.trans s).free hd) upd_same kindsL_ltr (kindsL_nd (by omega) hst) (by omega) (by omega) ((s1.trans s).upd hd)
theorem ok__law_board {f : Addr} {fd : FuncData} (F : Fun K "_law_board" "_law_board" s__law_board f fd) (T : Txt mg aS aA aE aW) (C : LG1 P w K mg base) : FnOk P w K mg base CX0 2 f fd ["_law_script"] (spLBoard K) := by
  refine F.ok sc__law_board (fun vs H Q E h => ?_) (fun cdv A outer s H vs Q E hr h => ?_)
  · obtain ⟨a, ns, rfl, _⟩ := h
    rfl
  · obtain ⟨a, ns, rfl, hS, k⟩ := h
    have hu := hu20 hr
    refine ⟨_, (pss_cons (ps_set (i := 1) sc__law_board.nd rfl (Or.inl rfl) (kcall C._law_cell_at hr (pac (cv 0) (pac pe_int pa_nil))))
      (pss_cons (ps_set (i := 2) sc__law_board.nd rfl (Or.inl rfl) (ce_bin pe_int (ce_bin (cv 1) pe_int)))
      (pss_cons (ps_set (i := 3) sc__law_board.nd rfl (Or.inl rfl) (ce_bin pe_int (ce_bin (ce_bin (cv 1) pe_int) pe_int)))
      (pss_cons (ps_if (ktcmp K hu (ce_bin (ce_bin (cv 1) pe_int) pe_int) pe_int) (pss_cons (ps_set (i := 2) sc__law_board.nd rfl (Or.inl rfl) (ce_bin pe_int (ce_bin (ce_bin (cv 1) pe_int) pe_int)))
      (pss_one (ps_set (i := 3) sc__law_board.nd rfl (Or.inl rfl) (ce_bin pe_int (ce_bin (ce_bin (cv 1) pe_int) pe_int))))) pss_nil)
      (pss_cons (ps_set (i := 1) sc__law_board.nd rfl (Or.inl rfl) (kcall C._law_cell_at hr (pac (cv 0) (pac pe_int pa_nil))))
      (pss_cons (ps_set (i := 4) sc__law_board.nd rfl (Or.inl rfl) (pe_lst pa_nil))
      (pss_cons (ps_for PassesOwn.never rfl (kr1 T.range (pac (kix K (pe_lst (pa_consts rfl)) (ce_bin (cv 1) pe_int)) pa_nil)) (pg_name (i := 5) sc__law_board.nd rfl (Or.inl rfl)) (pss_cons (ps_set (i := 6) sc__law_board.nd rfl (Or.inl rfl) (ce_bin (kcall C._law_mixed hr (pac (ce_bin (cv 1) pe_int) (pac (cv 5) pa_nil))) (ce_bin (cv 2) (cv 3))))
      (pss_one (ps_if (PW.pt (pw_and (ktcmp K hu (cv 6) (cv 4)) (pw_and1 (ktcmp K hu (ce_bin (kB (klen K) bo_len T.len (pac (cv 4) pa_nil)) pe_int) (ce_bin (cv 2) (cv 3)))))) (pss_one (ps_expr (ce_app (cv 4) (cv 6)))) pss_nil))))
      (pss_one (ps_ret (pe_tup (pac (cv 2) (pac (cv 3) (pac (cv 4) pa_nil))))))))))))), ?_⟩
    show tSeq _ _ _ [some (.ref a), none, none, none, none, none, none] H
    refine st_set (ev_call (av_cons (ev_v rfl) (av_cons ev_c av_nil)) (fun Q q => ⟨a, ns, 0, rfl, hS, by decide, q⟩)) ?_
    generalize cellAt ns 0 = c
    refine st_set (ev_add ev_c (ev_mod (ev_v rfl) ev_c (by decide))) ?_
    refine st_set (ev_add ev_c (ev_mod (ev_div (ev_v rfl) ev_c ⟨by decide, by decide⟩) ev_c (by decide))) ?_
    refine tSeq_of (fun σ' H' => ∃ wi hi : Int, 1 ≤ wi ∧ wi ≤ 8 ∧ 1 ≤ hi ∧ hi ≤ 8 ∧ σ' = [some (.ref a), some (.int c), some (.int wi), some (.int hi), none, none, none] ∧ H' = H) (fun K' hK => ?_) ?_
    · refine st_tst1 (tv_e (ev_eq (ev_mod (ev_div (ev_v rfl) ev_c ⟨by decide, by decide⟩) ev_c (by decide)) ev_c)) (fun _ => ?_) (fun _ => hK _ _ ⟨_, _, by omega, by omega, by omega, by omega, rfl, rfl⟩)
      refine st_set (ev_add ev_c (ev_mod (ev_div (ev_v rfl) ev_c ⟨by decide, by decide⟩) ev_c (by decide))) ?_
      exact st_set1 (ev_add ev_c (ev_mod (ev_div (ev_v rfl) ev_c ⟨by decide, by decide⟩) ev_c (by decide))) (hK _ _ ⟨_, _, by omega, by omega, by omega, by omega, rfl, rfl⟩)
    rintro _ H1 ⟨wi, hi, w1, w8, h1, h8, rfl, rfl⟩
    have m1 : wi * hi ≤ 8 * 8 := Int.mul_le_mul w8 h8 (by omega) (by omega)
    have m0 : 1 * 1 ≤ wi * hi := Int.mul_le_mul w1 h1 (by omega) (by omega)
    refine st_set (ev_call (av_cons (ev_v rfl) (av_cons ev_c av_nil)) (fun Q q => ⟨a, ns, 1, rfl, hS, by decide, q⟩)) ?_
    generalize cellAt ns 1 = c1
    refine st_nil fun q1 hq1 => ?_
    have sm : Same H1 (upd H1 q1 (.lst [])) := (Same.refl H1).upd hq1
    obtain ⟨n, e, hn⟩ := pickN (ns := [0, 0, 1, 2]) (i := c1 % 4) (by omega) (by show _ < (4 : Int); omega)
    have hn2 : 0 ≤ n ∧ n ≤ 2 := by
      simp only [List.mem_cons, List.not_mem_nil, or_false] at hn
      omega
    refine tSeq_of (fun σ' H' => ∃ hs : List Int, (∃ o5 o6, σ' = [some (.ref a), some (.int c1), some (.int wi), some (.int hi), some (.ref q1), o5, o6]) ∧ H' q1 = some (.lst (hs.map V.int)) ∧ (∀ h ∈ hs, 0 ≤ h ∧ h < wi * hi) ∧ hs.Nodup ∧ (hs.length : Int) < wi * hi ∧ hs.length ≤ 2 ∧ Same H1 H') (fun K' hK => ?_) ?_
    · refine for_rng1H n (fun Q q => rix_k av_cs (by decide) (fun H' => (ev_mod (ev_v rfl) ev_c (by decide))) e q) (by omega) (by omega)
        (fun i σ' H' => ∃ hs : List Int, (∃ o5 o6, σ' = [some (.ref a), some (.int c1), some (.int wi), some (.int hi), some (.ref q1), o5, o6]) ∧ H' q1 = some (.lst (hs.map V.int)) ∧ (∀ h ∈ hs, 0 ≤ h ∧ h < wi * hi) ∧ hs.Nodup ∧ (hs.length : Int) < wi * hi ∧ hs.length ≤ i ∧ Same H1 H')
        (fun H' s => ⟨[], ⟨_, _, rfl⟩, s _ _ upd_same, (fun h hh => by cases hh), List.nodup_nil, by show (0 : Int) < _; omega, Nat.le_refl _, sm.trans s⟩) ?_ (fun σ' H' h => ?_)
      · rintro i _ H3 hi' ⟨hs, ⟨o5, o6, rfl⟩, h3, gd, nd, hl, hl2, s3⟩
        show tSeq _ _ _ [some (.ref a), some (.int c1), some (.int wi), some (.int hi), some (.ref q1), some (.int (0 + (i : Int))), o6] H3
        generalize 0 + (i : Int) = j
        refine st_set (ev_mod (ev_call (av_cons (ev_div (ev_v rfl) ev_c ⟨by decide, by decide⟩) (av_cons (ev_v rfl) av_nil)) (fun Q q => ⟨_, _, rfl, q⟩)) (ev_mul (ev_v rfl) (ev_v rfl) (.inl ⟨by omega, by omega⟩)) (by omega)) ?_
        generalize hsq : mixed (c1 / 4) j % (wi * hi) = sq
        have sq0 : 0 ≤ sq := hsq ▸ Int.emod_nonneg _ (by omega)
        have sq1 : sq < wi * hi := hsq ▸ Int.emod_lt_of_pos _ (by omega)
        refine st_tst1 (tv_and (tv_e (ev_nin (ev_v rfl) (ev_v rfl) (.inl (SqL.of h3)))) (fun _ => (tv_e (ev_lt (ev_add (ev_len (ev_v rfl) (.inl (SqL.of h3))) ev_c) (ev_mul (ev_v rfl) (ev_v rfl) (.inl ⟨by omega, by omega⟩)))))) (fun h => ?_) (fun _ => ⟨hs, ⟨_, _, rfl⟩, h3, gd, nd, hl, by omega, s3⟩)
        rw [Bool.and_eq_true] at h
        have hni : ¬ sq ∈ hs := fun z => by
          have h1 := h.1
          rw [decide_eq_true z] at h1
          cases h1
        have hl' := of_decide_eq_true h.2
        rw [List.length_map] at hl'
        refine st_app1 (ev_v rfl) (ev_v rfl) h3 (by rw [List.length_map, sizeLine_eq]; omega) ⟨hs ++ [sq], ⟨_, _, rfl⟩, ?_, fun h hh => ?_, ?_, ?_, ?_, s3.put hq1⟩
        · rw [upd_same, List.map_append]; rfl
        · rcases List.mem_append.mp hh with z | z
          · exact gd h z
          · rw [List.mem_singleton.mp z]; exact ⟨sq0, sq1⟩
        · rw [List.nodup_append]
          refine ⟨nd, by simp, fun x hx y hy e => ?_⟩
          rw [List.mem_singleton.mp hy] at e
          exact hni (e ▸ hx)
        · rw [List.length_append]; show ((hs.length + 1 : Nat) : Int) < _; omega
        · rw [List.length_append]; show hs.length + 1 ≤ _; omega
      · obtain ⟨hs, o, h3, gd, nd, hl, hl2, s3⟩ := h
        exact hK _ _ ⟨hs, o, h3, gd, nd, hl, by omega, s3⟩
    rintro _ H3 ⟨hs, ⟨o5, o6, rfl⟩, h3, gd, nd, hl, hl2, s3⟩
    show tRet _ _ [some (.ref a), some (.int c1), some (.int wi), some (.int hi), some (.ref q1), o5, o6] H3
    refine tup3_k (ev_v rfl) (ev_v rfl) (ev_v rfl) (fun t ht => ?_)
    exact k t q1 wi hi hs _ w1 w8 h1 h8 upd_same (by rw [upd_ne (ne_of_none h3 ht)]; exact h3) gd nd hl hl2 hq1 (s3.free ht) (s3.upd ht)
theorem ok__law_empty {f : Addr} {fd : FuncData} (F : Fun K "_law_empty" "_law_empty" s__law_empty f fd) (T : Txt mg aS aA aE aW) : FnOk P w K mg base CX0 1 f fd ["_law_wide", "_law_high", "_law_holes"] (spLEmpty K) := by
  refine F.ok sc__law_empty (fun vs H Q E h => ?_) (fun cdv A outer s H vs Q E hr h => ?_)
  · obtain ⟨wi, hi, d, hs, rfl, _⟩ := h
    rfl
  · obtain ⟨wi, hi, d, hs, rfl, w1, w8, h1, h8, hS, k⟩ := h
    have hu := hu20 hr
    have m1 : wi * hi ≤ 8 * 8 := Int.mul_le_mul w8 h8 (by omega) (by omega)
    have m0 : 1 * 1 ≤ wi * hi := Int.mul_le_mul w1 h1 (by omega) (by omega)
    refine ⟨_, (pss_one (ps_ret (ksm PySem.F.slot_str_join PySem.F.type_str_join (kjoin K) pe_str (pac (kcomp (cscope (N := ["_law_square", "_law_holes"]) (src := [none, some 2]) (defScope s__law_empty) ["_law_wide", "_law_high", "_law_holes"]) (kr1 T.range (pac (ce_bin (cv 0) (cv 1)) pa_nil)) (fun _ _ _ => (pg_name' (i := 0) ["_law_square", "_law_holes"])) (fun _ _ _ => pifs_nil) (fun _ _ _ => (kix K pe_str (kTy call_intA bo_int T.int (pac (kcmp K hu (cv 0) (cv 1)) pa_nil))))) pa_nil)))), ?_⟩
    show tRet _ _ [some (.int wi), some (.int hi), some (.ref d)] H
    refine sm1_k ev_c ?_
    refine comp_evR (n := wi * hi) (rest := [some (.ref d)]) (av_cons (ev_mul (ev_v rfl) (ev_v rfl) (.inl ⟨by omega, by omega⟩)) av_nil) (by omega) (by rw [sizeLine_eq]; omega) (by omega) rfl (fun _ => true)
      (fun x => match x with | .int i => strV (if i ∈ hs then 35 else 46) | _ => .non) (fun i hi => tv_noif) (fun i hi' _ => ?_) (fun q hq => ?_)
    · have e : strV (if decide (0 + (i : Int) ∈ hs) = true then 35 else 46) = strV (if 0 + (i : Int) ∈ hs then 35 else 46) := by
        by_cases m : 0 + (i : Int) ∈ hs
        · rw [if_pos m, if_pos (decide_eq_true m)]
        · rw [if_neg m, decide_eq_false m]; rfl
      show Ev _ _ _ (strV (if 0 + (i : Int) ∈ hs then 35 else 46))
      rw [← e]
      exact ev_ixs ev_c (ev_intb (ev_in (ev_v rfl) (ev_v rfl) (.inl hS))) (by decide) (dh_at _)
    · have e : (((List.range (wi * hi).toNat).map fun (i : Nat) => V.int (0 + (i : Int))).filter fun _ => true).map (fun x => match x with | .int i => strV (if i ∈ hs then 35 else 46) | _ => .non) = (((List.range (wi * hi).toNat).map fun (s : Nat) => if (s : Int) ∈ hs then 35 else 46).map one).map V.str := by
        rw [List.filter_eq_self.mpr (fun _ _ => rfl), List.map_map, List.map_map, List.map_map]
        refine List.map_congr_left fun i _ => ?_
        show strV (if 0 + (i : Int) ∈ hs then 35 else 46) = V.str (one (if (i : Int) ∈ hs then 35 else 46))
        rw [Int.zero_add]
        rfl
      rw [e]
      show joinA K (.str "") [.ref q] _ Q
      rw [r_join]
      refine ⟨_, SqL.of upd_same, ?_, ?_⟩
      · rw [List.map_map]
        have es : ∀ l : List Nat, (l.map ((fun x : Str => x.length) ∘ one)).sum = l.length := fun l => by
          induction l with
          | nil => rfl
          | cons a r ih => rw [List.map_cons, List.sum_cons, ih, List.length_cons]; show 1 + r.length = _; omega
        have ez : ("" : Str).length = 0 := by decide +kernel
        rw [es, ez, List.length_map, List.length_range]
        omega
      · rw [join_ones]
        exact k _ ((Same.refl H).upd hq)
end
end K10
namespace K10
open PySem L2
theorem cutS_le (x : Str) (lo hi : Option Int) : (cutS x lo hi).length ≤ x.length := by
  show ((x.cps.toList.drop (HT.sIx x.length 0 lo)).take (HT.sIx x.length x.length hi - HT.sIx x.length 0 lo)).toArray.size ≤ x.length
  rw [List.size_toArray, List.length_take, List.length_drop, Array.length_toList]
  have : x.cps.size = x.length := rfl
  omega
theorem atI_last {xs : List Nat} (h : 0 < xs.length) : ∃ c, atI xs (-1) = some c := by
  refine ⟨xs[xs.length - 1]'(by omega), ?_⟩
  have e : ixN xs.length (-1) = some (xs.length - 1) := by
    unfold ixN
    rw [if_neg (by omega), if_pos (by omega)]
    congr 1
    omega
  unfold atI
  rw [e]
  exact List.getElem?_eq_getElem (by omega)
theorem len_app (a b : Str) : (a ++ b).length = a.length + b.length := by
  show (a.cps ++ b.cps).size = _
  rw [Array.size_append]
  rfl
def spOddRow : Sp := fun vs H Q _ => ∃ (row : Str) (c : Int), vs = [.str row, .int c] ∧ 1 ≤ row.length ∧ row.length ≤ 64 ∧ 1 ≤ c % 16 ∧ c % 16 ≤ 7 ∧ ∀ (z : Str) (H' : Hp), z.length ≤ 1000 → Same H H' → Q (.str z) H'
section
variable {P : Program} {w : World} {K : PySem.W.Frag} {mg : Str → Option Value} {base : Heap} {aS aA aE aW : Addr}
theorem ok__law_odd_row {f : Addr} {fd : FuncData} (F : Fun K "_law_odd_row" "_law_odd_row" s__law_odd_row f fd) (T : Txt mg aS aA aE aW) : FnOk P w K mg base CX0 1 f fd ["_law_row_here", "_law_cell"] spOddRow := by
  refine F.ok sc__law_odd_row (fun vs H Q E h => ?_) (fun cdv A outer s H vs Q E hr h => ?_)
  · obtain ⟨row, c, rfl, _⟩ := h
    rfl
  · obtain ⟨row, c, rfl, r1, r64, c1, c7, q⟩ := h
    have hu := hu20 hr
    refine ⟨_, (pss_cons (ps_set (i := 2) sc__law_odd_row.nd rfl (Or.inl rfl) (ce_bin (ce_bin (cv 1) pe_int) (kB (klen K) bo_len T.len (pac (cv 0) pa_nil))))
      (pss_cons (ps_set (i := 3) sc__law_odd_row.nd rfl (Or.inl rfl) (kix K pe_str (ce_bin (ce_bin (cv 1) pe_int) pe_int)))
      (pss_cons (ps_set (i := 4) sc__law_odd_row.nd rfl (Or.inl rfl) (ce_bin pe_str (kix K (cv 0) (ce_neg pe_int))))
      (pss_cons (ps_set (i := 5) sc__law_odd_row.nd rfl (Or.inl rfl) (ce_bin (cv 1) pe_int))
      (pss_cons (ps_if (ktcmp K hu (cv 5) pe_int) (pss_one (ps_ret (ce_bin (ksl K (cv 0) po_none (co_some (cv 2))) (ksl K (cv 0) (co_some (ce_bin (cv 2) pe_int)) po_none)))) pss_nil)
      (pss_cons (ps_if (ktcmp K hu (cv 5) pe_int) (pss_one (ps_ret (ce_bin (ce_bin (ksl K (cv 0) po_none (co_some (cv 2))) (ksl K (cv 0) (co_some (cv 2)) (co_some (ce_bin (cv 2) pe_int)))) (ksl K (cv 0) (co_some (cv 2)) po_none)))) pss_nil)
      (pss_cons (ps_set (i := 6) sc__law_odd_row.nd rfl (Or.inl rfl) (kix K (pe_lst (pac pe_str (pac pe_str (pac (cv 3) (pac (ce_sm0 PySem.F.slot_str_upper PySem.F.type_str_upper mt_upA (cv 3)) (pac (kix K (cv 4) (ce_bin (ce_bin (cv 1) pe_int) pe_int)) (pac pe_str pa_nil))))))) (kB (call_minA rfl) bo_min T.min (pac (ce_bin (cv 5) pe_int) (pac pe_int pa_nil)))))
      (pss_one (ps_ret (ce_bin (ce_bin (ksl K (cv 0) po_none (co_some (cv 2))) (cv 6)) (ksl K (cv 0) (co_some (ce_bin (cv 2) pe_int)) po_none))))))))))), ?_⟩
    show tSeq _ _ _ [some (.str row), some (.int c), none, none, none, none, none] H
    have rz : row.length ≤ sizeLine := Nat.le_trans r64 (by decide)
    refine st_set (ev_mod (ev_div (ev_v rfl) ev_c ⟨by decide, by decide⟩) (ev_lens (ev_v rfl) rz) (by omega)) ?_
    generalize c / 16 % (row.length : Int) = at_
    refine st_set (ev_ixs ev_c (ev_mod (ev_div (ev_v rfl) ev_c ⟨by decide, by decide⟩) ev_c (by decide)) (by decide) (abc_at (by omega) (by omega))) ?_
    have hlt : Ltr (97 + (c / 1024 % 26).toNat) := by constructor <;> omega
    generalize 97 + (c / 1024 % 26).toNat = lt at hlt
    obtain ⟨la, hla⟩ := atI_last (xs := row.cps.toList) (by rw [Array.length_toList]; exact r1)
    refine st_set (ev_adds ev_c (ev_ixs (ev_v rfl) (ev_neg ev_c) rz hla) (by show 9 ≤ sizeLine; decide)) ?_
    refine st_set (ev_mod (ev_v rfl) ev_c (by decide)) ?_
    show tSeq _ _ _ [some (.str row), some (.int c), some (.int at_), some (.str (one lt)), some (.str ((" 0-?*'/x" : Str) ++ one la)), some (.int (c % 16)), none] H
    have sl : ∀ (lo hi : Option Int), (cutS row lo hi).length ≤ 64 := fun lo hi => Nat.le_trans (cutS_le row lo hi) r64
    have z2 : ∀ a b : Str, a.length ≤ 400 → b.length ≤ 400 → a.length + b.length ≤ sizeLine := fun a b h1 h2 => Nat.le_trans (Nat.add_le_add h1 h2) (by decide)
    refine st_tst (tv_e (ev_eq (ev_v rfl) ev_c)) (fun _ => ?_) (fun n1 => ?_)
    · refine st_ret (ev_adds (ev_sl (lo := none) (hi := some at_) (ev_v rfl) (fun Q q => q) (fun Q q => evk (ev_v rfl) q) rz) (ev_sl (lo := some (at_ + 1)) (hi := none) (ev_v rfl) (fun Q q => evk (ev_add (ev_v rfl) ev_c) q) (fun Q q => q) rz) (z2 _ _ (Nat.le_trans (sl _ _) (by decide)) (Nat.le_trans (sl _ _) (by decide)))) (q _ _ ?_ (Same.refl H))
      rw [len_app]
      have := sl none (some at_)
      have := sl (some (at_ + 1)) none
      omega
    refine st_tst (tv_e (ev_eq (ev_v rfl) ev_c)) (fun _ => ?_) (fun n2 => ?_)
    · have a1 := sl none (some at_)
      have a2 := sl (some at_) (some (at_ + 1))
      have a3 := sl (some at_) none
      refine st_ret (ev_adds (ev_adds (ev_sl (lo := none) (hi := some at_) (ev_v rfl) (fun Q q => q) (fun Q q => evk (ev_v rfl) q) rz) (ev_sl (lo := some at_) (hi := some (at_ + 1)) (ev_v rfl) (fun Q q => evk (ev_v rfl) q) (fun Q q => evk (ev_add (ev_v rfl) ev_c) q) rz) (z2 _ _ (by omega) (by omega))) (ev_sl (lo := some at_) (hi := none) (ev_v rfl) (fun Q q => evk (ev_v rfl) q) (fun Q q => q) rz) (z2 _ _ (by rw [len_app]; omega) (by omega))) (q _ _ ?_ (Same.refl H))
      rw [len_app, len_app]
      omega
    have m1 : ¬ c % 16 = 1 := of_decide_eq_false n1
    have m2 : ¬ c % 16 = 2 := of_decide_eq_false n2
    obtain ⟨oc, hoc, _⟩ := atI_in (xs := ((" 0-?*'/x" : Str) ++ one la).cps.toList) (i := c / 1024 % 9) (by omega) (by rw [Array.length_toList]; show _ < ((9 : Nat) : Int); omega)
    refine st_asg (fun v H' => ∃ sg : Str, v = .str sg ∧ sg.length ≤ 1 ∧ Same H H') (fun Q q => ?_) ?_
    · obtain ⟨v, e, hv⟩ : ∃ v, atI [V.str "#", .str ".", .str (one lt), .str (one (lt - 32)), .str (one oc), .str ""] (if (5 : Int) < c % 16 - 3 then 5 else c % 16 - 3) = some v ∧ v ∈ [V.str "#", .str ".", .str (one lt), .str (one (lt - 32)), .str (one oc), .str ""] := by
        obtain ⟨v, e1, e2⟩ := atI_in (xs := [V.str "#", .str ".", .str (one lt), .str (one (lt - 32)), .str (one oc), .str ""]) (i := if (5 : Int) < c % 16 - 3 then 5 else c % 16 - 3) (by split <;> omega) (by show _ < (6 : Int); split <;> omega)
        exact ⟨v, e1, List.mem_of_getElem? e2⟩
      have hs : ∃ sg : Str, v = .str sg ∧ sg.length ≤ 1 := by
        simp only [List.mem_cons, List.not_mem_nil, or_false] at hv
        rcases hv with rfl | rfl | rfl | rfl | rfl | rfl
        · exact ⟨_, rfl, by decide⟩
        · exact ⟨_, rfl, by decide⟩
        · exact ⟨_, rfl, by show 1 ≤ 1; decide⟩
        · exact ⟨_, rfl, by show 1 ≤ 1; decide⟩
        · exact ⟨_, rfl, by show 1 ≤ 1; decide⟩
        · exact ⟨_, rfl, by decide⟩
      obtain ⟨sg, rfl, hsg⟩ := hs
      exact lix_k (av_cons ev_c (av_cons ev_c (av_cons (ev_v rfl) (av_cons (ev_up (ev_v rfl) hlt) (av_cons (ev_ixs (ev_v rfl) (ev_mod (ev_div (ev_v rfl) ev_c ⟨by decide, by decide⟩) ev_c (by decide)) (by show 9 ≤ sizeLine; decide) hoc) (av_cons ev_c av_nil)))))) (by show 6 ≤ 1000; decide) (fun H' => ev_min (ev_sub (ev_v rfl) ev_c) ev_c) e (fun H' s => q _ _ ⟨sg, rfl, hsg, s⟩)
    rintro _ H1 ⟨sg, rfl, hsg, s1⟩
    have a1 := sl none (some at_)
    have a3 := sl (some (at_ + 1)) none
    refine st_ret (ev_adds (ev_adds (ev_sl (lo := none) (hi := some at_) (ev_v rfl) (fun Q q => q) (fun Q q => evk (ev_v rfl) q) rz) (ev_v rfl) (z2 _ _ (by omega) (by omega))) (ev_sl (lo := some (at_ + 1)) (hi := none) (ev_v rfl) (fun Q q => evk (ev_add (ev_v rfl) ev_c) q) (fun Q q => q) rz) (z2 _ _ (by rw [len_app]; omega) (by omega))) (q _ _ ?_ s1)
    rw [len_app, len_app]
    omega
end
end K10
namespace K10
open PySem L2
theorem tn_tup {H : Hp} {a : Addr} {xs : List V} (h : H a = some (.tup xs)) (hx : ∀ x ∈ xs, Thg H x) : ThgN H 1 (.ref a) := ⟨.inr (.inl ⟨xs, h⟩), fun ys hy => by
  rcases hy with z | z
  · simp only [tupOf, h] at z; cases z; exact hx
  · simp only [lstOf, h] at z; cases z⟩
theorem tn_lst {H : Hp} {a : Addr} {xs : List V} (h : H a = some (.lst xs)) (hx : ∀ x ∈ xs, Thg H x) : ThgN H 1 (.ref a) := ⟨.inl ⟨xs, h⟩, fun ys hy => by
  rcases hy with z | z
  · simp only [tupOf, h] at z; cases z
  · simp only [lstOf, h] at z; cases z; exact hx⟩
theorem tn_dict {H : Hp} {a : Addr} {kvs : List (Key × V)} (h : H a = some (.dK kvs)) : ThgN H 1 (.ref a) := ⟨.inr (.inr ⟨kvs, h⟩), fun ys hy => by
  rcases hy with z | z
  · simp only [tupOf, h] at z; cases z
  · simp only [lstOf, h] at z; cases z⟩
theorem tn_flat {H : Hp} {v : V} (h : Thg H v) (f : flatV v = true) : ThgN H 1 v := ⟨h, fun xs hx => by
  cases v with
  | ref a => cases f
  | _ => rcases hx with z | z <;> cases z⟩
theorem ixl_k {K : PySem.W.Frag} {t : TA} {ti : TE} {σ : St} {H : Hp} {Q : VK} (h : tLst t σ H (fun x H1 => ti σ H1 fun i H2 => ixA K x i H2 Q)) : cIx K (tLst t) ti σ H Q := h
theorem ev_strI {σ : St} {H : Hp} {ta : TE} {i : Int} (ha : Ev ta σ H (.int i)) (h : i.natAbs.log2 < 1920) : Ev (cB strA (tCons ta tNil)) σ H (.str (toString i)) := fun Q q => ha _ ⟨h, q⟩
theorem lisS_k {te : TE} {σ : St} {H : Hp} {Q : VK} {z : Str} (h : Ev te σ H (.str z)) (hz : z.length ≤ 1000) (q : ∀ l, H l = none → Q (.ref l) (upd H l (.lst (z.cps.toList.map strV)))) : cB lisSA (tCons te tNil) σ H Q := h _ ⟨hz, q⟩
theorem pickM {xs : List V} {i : Int} (h0 : 0 ≤ i) (h1 : i < xs.length) : ∃ v, atI xs i = some v ∧ v ∈ xs := by
  obtain ⟨v, e1, e2⟩ := atI_in (xs := xs) h0 h1
  exact ⟨v, e1, List.mem_of_getElem? e2⟩
def spOddT : Sp := fun vs H Q _ => ∃ (row : Str) (sd c : Int), vs = [.str row, .int sd, .int c] ∧ 1 ≤ row.length ∧ row.length ≤ 64 ∧ (sd = 0 ∨ sd = 1) ∧ ∀ (v : V) (H' : Hp), ThgN H' 1 v → Same H H' → Q v H'
structure M3 (P : Program) (w : World) (K : PySem.W.Frag) (mg : Str → Option Value) (base : Heap) : Prop where
  _law_odd_row : Cal P w K mg base "_law_odd_row" ["_law_row_here", "_law_cell"] 1 spOddRow
section
variable {P : Program} {w : World} {K : PySem.W.Frag} {mg : Str → Option Value} {base : Heap} {aS aA aE aW : Addr}
theorem ok__law_odd {f : Addr} {fd : FuncData} (F : Fun K "_law_odd" "_law_odd" s__law_odd f fd) (T : Txt mg aS aA aE aW) (C : M3 P w K mg base) : FnOk P w K mg base CX0 2 f fd ["_law_row_here", "_law_side", "_law_cell"] spOddT := by
  refine F.ok sc__law_odd (fun vs H Q E h => ?_) (fun cdv A outer s H vs Q E hr h => ?_)
  · obtain ⟨row, sd, c, rfl, _⟩ := h
    rfl
  · obtain ⟨row, sd, c, rfl, r1, r64, hsd, q⟩ := h
    have hu := hu20 hr
    refine ⟨_, (pss_cons (ps_set (i := 3) sc__law_odd.nd rfl (Or.inl rfl) (ce_bin (cv 2) pe_int))
      (pss_cons (ps_set (i := 4) sc__law_odd.nd rfl (Or.inl rfl) (ce_bin (cv 2) pe_int))
      (pss_cons (ps_if (ktcmp K hu (cv 3) pe_int) (pss_one (ps_ret (pe_tup (pac (cv 0) (pac (cv 1) pa_nil))))) pss_nil)
      (pss_cons (ps_if (ktcmp K hu (cv 3) pe_int) (pss_one (ps_ret (pe_tup (pac (kcall C._law_odd_row hr (pac (cv 0) (pac (cv 2) pa_nil))) (pac (cv 1) pa_nil))))) pss_nil)
      (pss_cons (ps_if (ktcmp K hu (cv 3) pe_int) (pss_one (ps_ret (pe_tup (pac (cv 0) (pac (kix K (pe_lst (pac pe_int (pac (ce_neg pe_int) (pac pe_bl (pac pe_bl (pac pe_non (pac pe_str (pac (pe_lst (pac pe_int pa_nil)) (pac pe_str (pac (ce_bin pe_int pe_int) pa_nil)))))))))) (ce_bin (cv 4) pe_int)) pa_nil))))) pss_nil)
      (pss_cons (ps_if (ktcmp K hu (cv 3) pe_int) (pss_one (ps_ret (kix K (pe_lst (pac (pe_lst (pac (cv 0) (pac (cv 1) pa_nil))) (pac (pe_tup (pac (cv 0) (pac (cv 1) (pac pe_int pa_nil)))) (pac (pe_tup (pac (cv 0) pa_nil)) (pac (pe_tup pa_nil) (pac (pe_tup (pac (cv 1) (pac (cv 0) pa_nil))) (pac (ce_bin (cv 0) (kTy call_strA bo_str T.str (pac (cv 1) pa_nil))) pa_nil))))))) (ce_bin (cv 4) pe_int)))) pss_nil)
      (pss_cons (ps_if (ktcmp K hu (cv 3) pe_int) (pss_one (ps_ret (kix K (pe_lst (pac pe_non (pac pe_int (pac (cv 0) (pac pe_dnewK (pac (pe_lst pa_nil) (pac pe_bl pa_nil))))))) (ce_bin (cv 4) pe_int)))) pss_nil)
      (pss_cons (ps_if (ktcmp K hu (cv 3) pe_int) (pss_one (ps_ret (pe_tup (pac (kix K (pe_lst (pac (kTy (call_lisSA rfl) bo_list T.list (pac (cv 0) pa_nil)) (pac (pe_tup (pac (cv 0) pa_nil)) (pac pe_non (pac pe_int (pac (pe_lst (pac (cv 0) pa_nil)) (pac pe_dnewK pa_nil))))))) (ce_bin (cv 4) pe_int)) (pac (cv 1) pa_nil))))) pss_nil)
      (pss_one (ps_ret (pe_tup (pac (cv 0) (pac (ce_bin pe_int (cv 1)) pa_nil))))))))))))), ?_⟩
    show tSeq _ _ _ [some (.str row), some (.int sd), some (.int c), none, none] H
    have tr : ∀ H', Thg H' (.str row) := fun H' => (by show row.length ≤ 1000; omega)
    have pair : ∀ (H' : Hp) (p : Addr) (i : Int), H' p = none → Same H H' → Q (.ref p) (upd H' p (.tup [.str row, .int i])) := fun H' p i hp s' => q _ _ (tn_tup upd_same (fun x hx => by
      simp only [List.mem_cons, List.not_mem_nil, or_false] at hx
      rcases hx with rfl | rfl
      · exact tr _
      · trivial)) (s'.upd hp)
    refine st_set (ev_mod (ev_v rfl) ev_c (by decide)) ?_
    refine st_set (ev_div (ev_v rfl) ev_c ⟨by decide, by decide⟩) ?_
    generalize c / 16 = more
    show tSeq _ _ _ [some (.str row), some (.int sd), some (.int c), some (.int (c % 16)), some (.int more)] H
    refine st_tst (tv_e (ev_eq (ev_v rfl) ev_c)) (fun _ => ?_) (fun n0 => ?_)
    · exact tup_k (cons_k (ev_v rfl) (cons_k (ev_v rfl) (nil_k ⟨by show 2 ≤ sizeLine; decide, fun p hp => pair H p sd hp (Same.refl H)⟩)))
    have m0 : ¬ c % 16 = 0 := of_decide_eq_false n0
    refine st_tst (tv_e (ev_lt (ev_v rfl) ev_c)) (fun n8 => ?_) (fun n8 => ?_)
    · have m8 : c % 16 < 8 := of_decide_eq_true n8
      exact tup_k (consx_k (cal_k (av_cons (ev_v rfl) (av_cons (ev_v rfl) av_nil)) ⟨row, c, rfl, r1, r64, by omega, by omega, fun z H' hz s' => cons_k (ev_v rfl) (nil_k ⟨by show 2 ≤ sizeLine; decide, fun p hp => q _ _ (tn_tup upd_same (fun x hx => by
        simp only [List.mem_cons, List.not_mem_nil, or_false] at hx
        rcases hx with rfl | rfl
        · exact hz
        · trivial)) (s'.upd hp)⟩)⟩))
    refine st_tst (tv_e (ev_lt (ev_v rfl) ev_c)) (fun _ => ?_) (fun _ => ?_)
    · refine tup_k (cons_k (ev_v rfl) (consx_k (ixl_k (lst_k (cons_k ev_c (cons_k (ev_neg ev_c) (cons_k ev_c (cons_k ev_c (cons_k ev_c (cons_k ev_c (consx_k (lst_k (cons_k ev_c (nil_k ⟨by show 1 ≤ sizeLine; decide, fun lp hlp => cons_k ev_c (cons_k (ev_pow ev_c ev_c ⟨by decide, by decide, by decide⟩) (nil_k ⟨by show 9 ≤ sizeLine; decide, fun r hr' => ?_⟩))⟩))))))))))))))
      obtain ⟨v, e, hv⟩ := pickM (xs := [.int 2, .int (-1), .bl true, .bl false, .non, .str "0", .ref lp, .str "first", .int (10 ^ (30 : Int).toNat)]) (i := more % 9) (by omega) (by show _ < (9 : Int); omega)
      have sf := ((Same.refl H).upd (o := .lst [.int 0]) hlp).upd (o := .lst [.int 2, .int (-1), .bl true, .bl false, .non, .str "0", .ref lp, .str "first", .int (10 ^ (30 : Int).toNat)]) hr'
      refine evk (ev_mod (ev_v rfl) ev_c (by decide)) ⟨_, v, .inl (SqL.of upd_same), e, nil_k ⟨by show 2 ≤ sizeLine; decide, fun p hp => q _ _ (tn_tup upd_same (fun x hx => ?_)) (sf.upd hp)⟩⟩
      simp only [List.mem_cons, List.not_mem_nil, or_false] at hx
      rcases hx with rfl | rfl
      · exact tr _
      · simp only [List.mem_cons, List.not_mem_nil, or_false] at hv
        rcases hv with rfl | rfl | rfl | rfl | rfl | rfl | rfl | rfl | rfl
        · trivial
        · trivial
        · trivial
        · trivial
        · trivial
        · exact (show ("0" : Str).length ≤ 1000 by decide)
        · exact .inl ⟨_, ((((Same.refl _).upd hr').upd hp) _ _ upd_same)⟩
        · exact (show ("first" : Str).length ≤ 1000 by decide)
        · trivial
    refine st_tst (tv_e (ev_eq (ev_v rfl) ev_c)) (fun _ => ?_) (fun _ => ?_)
    · have hts : (toString sd : Str).length ≤ 400 := by rcases hsd with rfl | rfl <;> decide
      refine ixl_k (lst_k (consx_k (lst_k (cons_k (ev_v rfl) (cons_k (ev_v rfl) (nil_k ⟨by show 2 ≤ sizeLine; decide, fun p1 g1 => consx_k (tup_k (cons_k (ev_v rfl) (cons_k (ev_v rfl) (cons_k ev_c (nil_k ⟨by show 3 ≤ sizeLine; decide, fun p2 g2 => consx_k (tup_k (cons_k (ev_v rfl) (nil_k ⟨by show 1 ≤ sizeLine; decide, fun p3 g3 => consx_k (tup_k (nil_k ⟨Nat.zero_le _, fun p4 g4 => consx_k (tup_k (cons_k (ev_v rfl) (cons_k (ev_v rfl) (nil_k ⟨by show 2 ≤ sizeLine; decide, fun p5 g5 => cons_k (ev_adds (ev_v rfl) (ev_strI (ev_v rfl) ?_) ?_) (nil_k ⟨by show 6 ≤ sizeLine; decide, fun r hr' => ?_⟩)⟩))))⟩))⟩)))⟩)))))⟩))))))
      · rcases hsd with rfl | rfl <;> decide
      · exact Nat.le_trans (Nat.add_le_add r64 hts) (by decide)
      obtain ⟨v, e, hv⟩ := pickM (xs := [.ref p1, .ref p2, .ref p3, .ref p4, .ref p5, .str (row ++ toString sd)]) (i := more % 6) (by omega) (by show _ < (6 : Int); omega)
      have sf := ((((((Same.refl H).upd (o := .lst [.str row, .int sd]) g1).upd (o := .tup [.str row, .int sd, .int 0]) g2).upd (o := .tup [.str row]) g3).upd (o := .tup []) g4).upd (o := .tup [.int sd, .str row]) g5).upd (o := .lst [.ref p1, .ref p2, .ref p3, .ref p4, .ref p5, .str (row ++ toString sd)]) hr'
      refine evk (ev_mod (ev_v rfl) ev_c (by decide)) ⟨_, v, .inl (SqL.of upd_same), e, q _ _ ?_ sf⟩
      simp only [List.mem_cons, List.not_mem_nil, or_false] at hv
      rcases hv with rfl | rfl | rfl | rfl | rfl | rfl
      · refine tn_lst ((((((Same.refl _).upd g2).upd g3).upd g4).upd g5).upd hr' _ _ upd_same) (fun x hx => ?_)
        simp only [List.mem_cons, List.not_mem_nil, or_false] at hx
        rcases hx with rfl | rfl
        · exact tr _
        · trivial
      · refine tn_tup (((((Same.refl _).upd g3).upd g4).upd g5).upd hr' _ _ upd_same) (fun x hx => ?_)
        simp only [List.mem_cons, List.not_mem_nil, or_false] at hx
        rcases hx with rfl | rfl | rfl
        · exact tr _
        · trivial
        · trivial
      · refine tn_tup ((((Same.refl _).upd g4).upd g5).upd hr' _ _ upd_same) (fun x hx => ?_)
        simp only [List.mem_cons, List.not_mem_nil, or_false] at hx
        rw [hx]
        exact tr _
      · exact tn_tup (((Same.refl _).upd g5).upd hr' _ _ upd_same) (fun x hx => by cases hx)
      · refine tn_tup ((Same.refl _).upd hr' _ _ upd_same) (fun x hx => ?_)
        simp only [List.mem_cons, List.not_mem_nil, or_false] at hx
        rcases hx with rfl | rfl
        · trivial
        · exact tr _
      · refine tn_flat ?_ rfl
        show (row ++ toString sd : Str).length ≤ 1000
        rw [len_app]
        omega
    refine st_tst (tv_e (ev_eq (ev_v rfl) ev_c)) (fun _ => ?_) (fun _ => ?_)
    · refine ixl_k (lst_k (cons_k ev_c (cons_k ev_c (cons_k (ev_v rfl) (consx_k (fun dp hd => consx_k (lst_k (nil_k ⟨Nat.zero_le _, fun lp hlp => cons_k ev_c (nil_k ⟨by show 6 ≤ sizeLine; decide, fun r hr' => ?_⟩)⟩))))))))
      obtain ⟨v, e, hv⟩ := pickM (xs := [.non, .int 5, .str row, .ref dp, .ref lp, .bl true]) (i := more % 6) (by omega) (by show _ < (6 : Int); omega)
      have sf := (((Same.refl H).upd (o := .dK []) hd).upd (o := .lst []) hlp).upd (o := .lst [.non, .int 5, .str row, .ref dp, .ref lp, .bl true]) hr'
      refine evk (ev_mod (ev_v rfl) ev_c (by decide)) ⟨_, v, .inl (SqL.of upd_same), e, q _ _ ?_ sf⟩
      simp only [List.mem_cons, List.not_mem_nil, or_false] at hv
      rcases hv with rfl | rfl | rfl | rfl | rfl | rfl
      · exact tn_flat trivial rfl
      · exact tn_flat trivial rfl
      · exact tn_flat (tr _) rfl
      · exact tn_dict ((((Same.refl _).upd hlp).upd hr') _ _ upd_same)
      · exact tn_lst (((Same.refl _).upd hr') _ _ upd_same) (fun x hx => by cases hx)
      · exact tn_flat trivial rfl
    refine st_tst (tv_e (ev_eq (ev_v rfl) ev_c)) (fun _ => ?_) (fun _ => ?_)
    · refine tup_k (consx_k (ixl_k (lst_k (consx_k (lisS_k (ev_v rfl) (by omega) fun p1 g1 => consx_k (tup_k (cons_k (ev_v rfl) (nil_k ⟨by show 1 ≤ sizeLine; decide, fun p2 g2 => cons_k ev_c (cons_k ev_c (consx_k (lst_k (cons_k (ev_v rfl) (nil_k ⟨by show 1 ≤ sizeLine; decide, fun p3 g3 => consx_k (fun p4 g4 => nil_k ⟨by show 6 ≤ sizeLine; decide, fun r hr' => ?_⟩)⟩)))))⟩))))))))
      obtain ⟨v, e, hv⟩ := pickM (xs := [.ref p1, .ref p2, .non, .int 7, .ref p3, .ref p4]) (i := more % 6) (by omega) (by show _ < (6 : Int); omega)
      have sf := (((((Same.refl H).upd (o := .lst (row.cps.toList.map strV)) g1).upd (o := .tup [.str row]) g2).upd (o := .lst [.str row]) g3).upd (o := .dK []) g4).upd (o := .lst [.ref p1, .ref p2, .non, .int 7, .ref p3, .ref p4]) hr'
      refine evk (ev_mod (ev_v rfl) ev_c (by decide)) ⟨_, v, .inl (SqL.of upd_same), e, cons_k (ev_v rfl) (nil_k ⟨by show 2 ≤ sizeLine; decide, fun p hp => q _ _ (tn_tup upd_same (fun x hx => ?_)) (sf.upd hp)⟩)⟩
      simp only [List.mem_cons, List.not_mem_nil, or_false] at hx
      rcases hx with rfl | rfl
      · simp only [List.mem_cons, List.not_mem_nil, or_false] at hv
        rcases hv with rfl | rfl | rfl | rfl | rfl | rfl
        · exact .inl ⟨_, (((((Same.refl _).upd g2).upd g3).upd g4).upd hr').upd hp _ _ upd_same⟩
        · exact .inr (.inl ⟨_, ((((Same.refl _).upd g3).upd g4).upd hr').upd hp _ _ upd_same⟩)
        · trivial
        · trivial
        · exact .inl ⟨_, (((Same.refl _).upd g4).upd hr').upd hp _ _ upd_same⟩
        · exact .inr (.inr ⟨_, ((Same.refl _).upd hr').upd hp _ _ upd_same⟩)
      · trivial
    exact tup_k (cons_k (ev_v rfl) (cons_k (ev_sub ev_c (ev_v rfl)) (nil_k ⟨by show 2 ≤ sizeLine; decide, fun p hp => pair H p (1 - sd) hp (Same.refl H)⟩)))
end
end K10
namespace K10
open PySem L2
def spLRow (K : PySem.W.Frag) (cB cG : Addr) : Sp := fun vs H Q _ => ∃ (a g b : Addr) (ns : List Int) (st : Int) (wi hi : Int) (hs : List Int) (ks : List Nat) (rs ts es : List V) (sw : Str), vs = [.ref a, .ref g, .int st] ∧ SqL K H a (ns.map V.int) ∧ 0 ≤ st ∧ st ≤ 100 ∧ GmAt cG H g b (ks.map strV) rs ts es sw ∧ BrdAt K cB H b wi hi hs ∧ (∀ k ∈ ks, Ltr k) ∧ 1 ≤ ks.length ∧ ks.length ≤ 6 ∧ (hs.length : Int) < wi * hi ∧
  ∀ (z : Str) (H' : Hp), z.length = (wi * hi).toNat → (∀ (s c : Nat), z.cps.toList[s]? = some c → cellB ks c (if (s : Int) ∈ hs then 35 else 46) = true) → Same H H' → Q (.str z) H'
theorem join_k {K : PySem.W.Frag} {H : Hp} {Q : VK} {d : Addr} {cs : List Nat} (h : H d = some (.lst (cs.map strV))) (hl : cs.length ≤ 1000) (q : Q (.str ⟨cs.toArray⟩) H) : joinA K (.str "") [.ref d] H Q := by
  rw [r_join]
  refine ⟨cs.map one, SqL.of (by rw [List.map_map]; exact h), ?_, ?_⟩
  · rw [List.map_map]
    have es : ∀ l : List Nat, (l.map ((fun x : Str => x.length) ∘ one)).sum = l.length := fun l => by
      induction l with
      | nil => rfl
      | cons a r ih => rw [List.map_cons, List.sum_cons, ih, List.length_cons]; show 1 + r.length = _; omega
    have ez : ("" : Str).length = 0 := by decide +kernel
    have hz : sizeLine = sizeLine := rfl
    rw [es, ez]
    show cs.length + (cs.map one).length * 0 ≤ 16777216
    omega
  · rw [join_ones]
    exact q
theorem cutV_ints (F : List Int) (lo hi : Option Int) : ∃ ss : List Int, cutV (F.map V.int) lo hi = ss.map V.int ∧ (∀ s ∈ ss, s ∈ F) ∧ ss.length ≤ F.length := by
  refine ⟨(F.drop (HT.sIx (F.map V.int).length 0 lo)).take (HT.sIx (F.map V.int).length (F.map V.int).length hi - HT.sIx (F.map V.int).length 0 lo), ?_, fun s hs => List.mem_of_mem_drop (List.mem_of_mem_take hs), ?_⟩
  · unfold cutV
    rw [List.map_take, List.map_drop]
  · rw [List.length_take, List.length_drop]; omega
def gI (F : List Int) (x : V) : Int := F.getD (match x with | .int i => (i % (F.length : Int)).toNat | _ => 0) 0
theorem gI_in {F : List Int} (h : 0 < F.length) (x : V) : gI F x ∈ F := by
  have key : ∀ j, j < F.length → F.getD j 0 ∈ F := fun j hj => by
    rw [List.getD_eq_getElem?_getD, List.getElem?_eq_getElem hj]
    exact List.getElem_mem _
  unfold gI
  cases x with
  | int i =>
    have h0 := Int.emod_nonneg i (by omega : (F.length : Int) ≠ 0)
    have h1 := Int.emod_lt_of_pos i (by omega : (0 : Int) < F.length)
    refine key _ ?_
    dsimp only
    omega
  | _ => exact key _ h
theorem gI_at {F : List Int} (h : 0 < F.length) (i : Int) : atI (F.map V.int) (i % ((F.map V.int).length : Int)) = some (.int (gI F (.int i))) := by
  rw [List.length_map]
  have h0 := Int.emod_nonneg i (by omega : (F.length : Int) ≠ 0)
  have h1 := Int.emod_lt_of_pos i (by omega : (0 : Int) < F.length)
  obtain ⟨v, e1, e2⟩ := atI_in (xs := F.map V.int) h0 (by rw [List.length_map]; exact h1)
  rw [e1]
  rw [List.getElem?_map] at e2
  unfold gI
  dsimp only
  rw [List.getD_eq_getElem?_getD]
  cases e : F[(i % (F.length : Int)).toNat]? with
  | none => rw [e] at e2; cases e2
  | some z => rw [e] at e2; exact e2.symm
def bareL (n : Nat) (hs : List Int) : List Nat := (List.range n).map fun (s : Nat) => if (s : Int) ∈ hs then 35 else 46
def signV (hs : List Int) : V → V
  | .int i => strV (if i ∈ hs then 35 else 46)
  | _ => .non
section
variable {P : Program} {w : World} {K : PySem.W.Frag} {mg : Str → Option Value} {base : Heap} {aS aA aE aW : Addr}
theorem ok__law_row {f cB cG : Addr} {fd : FuncData} (F : Fun K "_law_row" "_law_row" s__law_row f fd) (T : Txt mg aS aA aE aW) (B : BrdC K cB) (D : GmC K cG) (C : LG1 P w K mg base) : FnOk P w K mg base CX0 2 f fd ["_law_script", "_law_game", "_law_start"] (spLRow K cB cG) := by
  refine F.ok sc__law_row (fun vs H Q E h => ?_) (fun cdv A outer s H vs Q E hr h => ?_)
  · obtain ⟨a, g, b, ns, st, wi, hi, hs, ks, rs, ts, es, sw, rfl, _⟩ := h
    rfl
  · obtain ⟨a, g, b, ns, st, wi, hi, hs, ks, rs, ts, es, sw, rfl, hS, st0, st1, G, O, hlt, k1, k6, ln, q⟩ := h
    have hu := hu20 hr
    refine ⟨_, (pss_cons (ps_set (i := 3) sc__law_row.nd rfl (Or.inl rfl) (ce_bin (kfld K (kfld K (cv 1))) (kfld K (kfld K (cv 1)))))
      (pss_cons (ps_set (i := 4) sc__law_row.nd rfl (Or.inr rfl) (kcomp (cscope (N := ["_law_square", "_law_game"]) (src := [none, some 1]) (defScope s__law_row) ["_law_script", "_law_game", "_law_start", "_law_size", "_law_free", "_law_signs", "_law_cell", "_law_cells", "_law_spots", "_law_k", "_law_square", "_law_more", "_law_kind"]) (kr1 T.range (pac (cv 3) pa_nil)) (fun _ _ _ => (pg_name' (i := 0) ["_law_square", "_law_game"])) (fun _ _ _ => (pifs_one (ktcmp K hu (cv 0) (kfld K (kfld K (cv 1)))))) (fun _ _ _ => (cv 0))))
      (pss_cons (ps_setC (i := 5) rfl (cscope (N := ["_law_square", "_law_game"]) (src := [none, some 1]) (defScope s__law_row) ["_law_script", "_law_game", "_law_start", "_law_size", "_law_free", "_law_signs", "_law_cell", "_law_cells", "_law_spots", "_law_k", "_law_square", "_law_more", "_law_kind"]) (kr1 T.range (pac (cv 3) pa_nil)) (fun _ _ _ => (pg_name' (i := 0) ["_law_square", "_law_game"])) (fun _ _ _ => pifs_nil) (fun _ _ _ => (kix K pe_str (kTy call_intA bo_int T.int (pac (kcmp K hu (cv 0) (kfld K (kfld K (cv 1)))) pa_nil)))) sc__law_row.nd rfl (Or.inl rfl) rfl (Or.inl rfl))
      (pss_cons (ps_set (i := 6) sc__law_row.nd rfl (Or.inl rfl) (kcall C._law_cell_at hr (pac (cv 0) (pac (cv 2) pa_nil))))
      (pss_cons (ps_setC (i := 7) rfl (cscope (N := ["_law_k", "_law_script", "_law_start"]) (src := [none, some 0, some 2]) (defScope s__law_row) ["_law_script", "_law_game", "_law_start", "_law_size", "_law_free", "_law_signs", "_law_cell", "_law_cells", "_law_spots", "_law_k", "_law_square", "_law_more", "_law_kind"]) (kr1 T.range (pac pe_int pa_nil)) (fun _ _ _ => (pg_name' (i := 0) ["_law_k", "_law_script", "_law_start"])) (fun _ _ _ => pifs_nil) (fun _ _ _ => (kcall C._law_mixed hr (pac (kcall C._law_cell_at hr (pac (cv 1) (pac (ce_bin (ce_bin (cv 2) pe_int) (cv 0)) pa_nil))) (pac (cv 0) pa_nil)))) sc__law_row.nd rfl (Or.inl rfl) rfl (Or.inl rfl))
      (pss_cons (ps_setC (i := 8) rfl (cscope (N := ["_law_more", "_law_free"]) (src := [none, some 4]) (defScope s__law_row) ["_law_script", "_law_game", "_law_start", "_law_size", "_law_free", "_law_signs", "_law_cell", "_law_cells", "_law_spots", "_law_k", "_law_square", "_law_more", "_law_kind"]) (kpl K (ksl K (cv 7) po_none (co_some (ce_bin pe_int (ce_bin (cv 6) pe_int))))) (fun _ _ _ => (pg_name' (i := 0) ["_law_more", "_law_free"])) (fun _ _ _ => pifs_nil) (fun _ _ _ => (kix K (cv 1) (ce_bin (cv 0) (kB (klen K) bo_len T.len (pac (cv 1) pa_nil))))) sc__law_row.nd rfl (Or.inl rfl) rfl (Or.inl rfl))
      (pss_cons (ps_if (ktcmp K hu (ce_bin (ce_bin (cv 6) pe_int) pe_int) pe_int) (pss_one (ps_set (i := 8) sc__law_row.nd rfl (Or.inl rfl) (ksl K (cv 4) po_none (co_some pe_int)))) pss_nil)
      (pss_cons (ps_if (ktcmp K hu (ce_bin (ce_bin (cv 6) pe_int) pe_int) pe_int) (pss_one (ps_set (i := 8) sc__law_row.nd rfl (Or.inl rfl) (pe_lst pa_nil))) pss_nil)
      (pss_cons (ps_for PassesOwn.never rfl (kenum K T.enumerate (cv 8)) (kgt K (n := 2) (pgs_cons (pg_name (i := 9) sc__law_row.nd rfl (Or.inl rfl)) (pgs_cons (pg_name (i := 10) sc__law_row.nd rfl (Or.inl rfl)) pgs_nil))) (pss_cons (ps_set (i := 11) sc__law_row.nd rfl (Or.inl rfl) (ce_bin (kix K (cv 7) (ce_bin (cv 9) pe_int)) (ce_bin pe_int (ce_bin (cv 9) pe_int))))
      (pss_cons (ps_set (i := 12) sc__law_row.nd rfl (Or.inl rfl) (kix K (kfld K (cv 1)) (ce_bin (ce_bin (cv 11) pe_int) (kB (klen K) bo_len T.len (pac (kfld K (cv 1)) pa_nil)))))
      (pss_one (ps_asg (kix K (pe_lst (pac (ce_sm0 PySem.F.slot_str_upper PySem.F.type_str_upper mt_upA (cv 12)) (pac (cv 12) pa_nil))) (ce_bin (ce_bin (cv 11) pe_int) pe_int)) (pg_sub (cv 5) (cv 10) set_list))))))
      (pss_one (ps_ret (ksm PySem.F.slot_str_join PySem.F.type_str_join (kjoin K) pe_str (pac (cv 5) pa_nil))))))))))))), ?_⟩
    show tSeq _ _ _ [some (.ref a), some (.ref g), some (.int st), none, none, none, none, none, none, none, none, none, none] H
    have mm := O.many
    have w1 := O.w1
    have w8 := O.w8
    have fb : ∀ (H' : Hp) (σ : St) (j : Nat), σ[j]? = some (some (V.ref g)) → Same H H' → Ev (cFld K (cVar j) "board") σ H' (.ref b) := fun H' σ j h s => ev_fld (ev_v h) ((G.same s).board D)
    refine st_set (ev_mul (ev_fld (fb H _ 1 rfl (Same.refl H)) (O.wide B)) (ev_fld (fb H _ 1 rfl (Same.refl H)) (O.high B)) (.inl ⟨by omega, by omega⟩)) ?_
    obtain ⟨hq, fh, eh⟩ := O.holes B
    refine st_asg (fun v H' => ∃ fq, v = .ref fq ∧ H' fq = some (.lst ((freeL wi hi hs).map V.int)) ∧ Same H H') (fun Q q => ?_) ?_
    · refine comp_evR (n := wi * hi) (rest := [some (.ref g)]) (av_cons (ev_v rfl) av_nil) (by omega) (by rw [sizeLine_eq]; omega) (by omega) rfl (freeP hs) (fun v => v) (fun i hi => ?_) (fun i hi _ => ev_v rfl) (fun q' hq' => ?_)
      · exact tv_e (ev_nin (ev_v rfl) (ev_fld (fb H _ 1 rfl (Same.refl H)) fh) (.inl (SqL.of eh)))
      · rw [freeL_comp]
        exact q _ _ ⟨q', rfl, upd_same, (Same.refl H).upd hq'⟩
    rintro _ H1 ⟨fq, rfl, ef, s1⟩
    obtain ⟨hq1, fh1, eh1⟩ := (O.same s1).holes B
    refine st_asg (fun v H' => ∃ sq, v = .ref sq ∧ H1 sq = none ∧ H' sq = some (.lst ((bareL (wi * hi).toNat hs).map strV)) ∧ Same H1 H') (fun Q q => ?_) ?_
    · refine comp_evR (n := wi * hi) (rest := [some (.ref g)]) (av_cons (ev_v rfl) av_nil) (by omega) (by rw [sizeLine_eq]; omega) (by omega) rfl (fun _ => true) (signV hs) (fun i hi => tv_noif) (fun i hi' _ => ?_) (fun q' hq' => ?_)
      · have e : strV (if decide (0 + (i : Int) ∈ hs) = true then 35 else 46) = signV hs (.int (0 + (i : Int))) := by
          show _ = strV (if 0 + (i : Int) ∈ hs then 35 else 46)
          by_cases m : 0 + (i : Int) ∈ hs
          · rw [if_pos m, if_pos (decide_eq_true m)]
          · rw [if_neg m, decide_eq_false m]; rfl
        rw [← e]
        exact ev_ixs ev_c (ev_intb (ev_in (ev_v rfl) (ev_fld (fb H1 _ 1 rfl s1) fh1) (.inl (SqL.of eh1)))) (by decide) (dh_at _)
      · refine q _ _ ⟨q', rfl, hq', ?_, (Same.refl H1).upd hq'⟩
        rw [upd_same, List.filter_eq_self.mpr (fun _ _ => rfl), List.map_map]
        unfold bareL
        rw [List.map_map]
        congr 2
        refine List.map_congr_left fun i _ => ?_
        show strV (if 0 + (i : Int) ∈ hs then 35 else 46) = strV (if (i : Int) ∈ hs then 35 else 46)
        rw [Int.zero_add]
    rintro _ H2 ⟨sq, rfl, sqn, esq, s2⟩
    have s02 := s1.trans s2
    refine st_set (ev_call (sp := spCellAt K) (av_cons (ev_v rfl) (av_cons (ev_v rfl) av_nil)) (fun Q q => ⟨a, ns, st, rfl, s02.seq hS, st0, q⟩)) ?_
    generalize cellAt ns st = c
    refine st_asg (fun v H' => ∃ (cq : Addr) (cs : List Int), v = .ref cq ∧ H' cq = some (.lst (cs.map V.int)) ∧ cs.length = 6 ∧ Same H2 H') (fun Q q => ?_) ?_
    · refine comp_evR (n := 6) (rest := [some (.ref a), some (.int st)]) (av_cons ev_c av_nil) (by omega) (by decide) (by decide) rfl (fun _ => true) (fun x => match x with | .int i => .int (mixed (cellAt ns (st + 1 + i)) i) | _ => .non) (fun i hi => tv_noif) (fun i hi' _ => ?_) (fun q' hq' => ?_)
      · exact ev_call (sp := spMixed) (av_cons (ev_call (sp := spCellAt K) (av_cons (ev_v rfl) (av_cons (ev_add (ev_add (ev_v rfl) ev_c) (ev_v rfl)) av_nil)) (fun Q q => ⟨a, ns, _, rfl, s02.seq hS, by omega, q⟩)) (av_cons (ev_v rfl) av_nil)) (fun Q q => ⟨_, _, rfl, q⟩)
      · refine q _ _ ⟨q', (List.range 6).map fun (i : Nat) => mixed (cellAt ns (st + 1 + (0 + (i : Int)))) (0 + (i : Int)), rfl, ?_, by rw [List.length_map, List.length_range], (Same.refl H2).upd hq'⟩
        rw [upd_same, List.filter_eq_self.mpr (fun _ _ => rfl), List.map_map, List.map_map]
        rfl
    rintro _ H3 ⟨cq, cs, rfl, ecs, l6, s3⟩
    have s03 := s02.trans s3
    have esq3 := s3 _ _ esq
    have ef3 := (s2.trans s3) _ _ ef
    have fpos := freeL_pos ln
    show tSeq _ _ _ [some (.ref a), some (.ref g), some (.int st), some (.int (wi * hi)), some (.ref fq), some (.ref sq), some (.int c), some (.ref cq), none, none, none, none, none] H3
    have flen : (freeL wi hi hs).length ≤ 64 := by
      unfold freeL
      have := List.length_filter_le (fun i => !decide (i ∈ hs)) ((List.range (wi * hi).toNat).map fun (i : Nat) => (i : Int))
      rw [List.length_map, List.length_range] at this
      omega
    have nsq : ∀ p, H3 p = none → p ≠ sq := fun p hp e => by rw [e, esq3] at hp; cases hp
    refine st_asg (fun v H' => ∃ (pq : Addr) (ss : List Int), v = .ref pq ∧ H' pq = some (.lst (ss.map V.int)) ∧ pq ≠ sq ∧ (∀ s ∈ ss, s ∈ freeL wi hi hs) ∧ ss.length ≤ 64 ∧ Same H3 H') (fun Q q => ?_) ?_
    · refine sll_k (lo := none) (hi := some (1 + c % 6)) (ev_v rfl) (fun Q q => q) (fun Q q => evk (ev_add ev_c (ev_mod (ev_v rfl) ev_c (by decide))) q) (SqL.of ecs) (fun p hp => ?_)
      have s4 := (Same.refl H3).upd (o := .lst (cutV (cs.map V.int) none (some (1 + c % 6)))) hp
      have cl : (cutV (cs.map V.int) none (some (1 + c % 6))).length ≤ 6 := by have := cutV_length (cs.map V.int) none (some (1 + c % 6)); rw [List.length_map] at this; omega
      have ef4 : SqL K _ fq ((freeL wi hi hs).map V.int) := SqL.of (s4 _ _ ef3)
      refine comp_ev (tl := tC (.ref p)) (d := p) (xs := cutV (cs.map V.int) none (some (1 + c % 6))) (rest := [some (.ref fq)]) ev_c (SqL.of upd_same) (by rw [sizeLine_eq]; omega) rfl (fun _ => true) (fun x => .int (gI (freeL wi hi hs) x)) (fun x hx => tv_noif) (fun x hx _ => ?_) (fun p2 hp2 => ?_)
      · obtain ⟨i, _, rfl⟩ := List.mem_map.mp (cutV_mem hx)
        exact ev_ix (ev_v rfl) (ev_mod (ev_v rfl) (ev_len (ev_v rfl) (.inl ef4)) (by rw [List.length_map]; omega)) (.inl ef4) (gI_at fpos i)
      · refine q _ _ ⟨p2, (cutV (cs.map V.int) none (some (1 + c % 6))).map (gI (freeL wi hi hs)), rfl, ?_, nsq _ (s4.free hp2), fun s hs' => ?_, by rw [List.length_map]; omega, s4.upd hp2⟩
        · rw [upd_same, List.filter_eq_self.mpr (fun _ _ => rfl), List.map_map]
          rfl
        · obtain ⟨x, _, rfl⟩ := List.mem_map.mp hs'
          exact gI_in fpos x
    rintro _ H4 ⟨pq, ss, rfl, epq, npq, hss, lss, s4⟩
    show tSeq _ _ _ [some (.ref a), some (.ref g), some (.int st), some (.int (wi * hi)), some (.ref fq), some (.ref sq), some (.int c), some (.ref cq), some (.ref pq), none, none, none, none] H4
    have ef4 := s4 _ _ ef3
    refine st_midH (fun σ' H' => ∃ (pq : Addr) (ss : List Int), σ' = [some (.ref a), some (.ref g), some (.int st), some (.int (wi * hi)), some (.ref fq), some (.ref sq), some (.int c), some (.ref cq), some (.ref pq), none, none, none, none] ∧ H' pq = some (.lst (ss.map V.int)) ∧ pq ≠ sq ∧ (∀ s ∈ ss, s ∈ freeL wi hi hs) ∧ ss.length ≤ 64 ∧ Same H3 H') ?_ (fun go => ?_)
    rotate_left
    · refine st_tst (tv_e (ev_eq (ev_mod (ev_div (ev_v rfl) ev_c ⟨by decide, by decide⟩) ev_c (by decide)) ev_c)) (fun _ => ?_) (fun _ => go _ _ ⟨pq, ss, rfl, epq, npq, hss, lss, s4⟩)
      obtain ⟨ss2, e2, h2, l2⟩ := cutV_ints (freeL wi hi hs) none (some 12)
      exact asg1_k (sll_k (lo := none) (hi := some 12) (ev_v rfl) (fun Q q => q) (fun Q q => evk ev_c q) (SqL.of ef4) (fun p hp => go _ _ ⟨p, ss2, rfl, by rw [upd_same, e2], nsq _ (s4.free hp), h2, by omega, s4.upd hp⟩))
    rintro _ H4 ⟨pq, ss, rfl, epq, npq, hss, lss, s4⟩
    refine st_midH (fun σ' H' => ∃ (pq : Addr) (ss : List Int), σ' = [some (.ref a), some (.ref g), some (.int st), some (.int (wi * hi)), some (.ref fq), some (.ref sq), some (.int c), some (.ref cq), some (.ref pq), none, none, none, none] ∧ H' pq = some (.lst (ss.map V.int)) ∧ pq ≠ sq ∧ (∀ s ∈ ss, s ∈ freeL wi hi hs) ∧ ss.length ≤ 64 ∧ Same H3 H') ?_ (fun go => ?_)
    rotate_left
    · refine st_tst (tv_e (ev_eq (ev_mod (ev_div (ev_v rfl) ev_c ⟨by decide, by decide⟩) ev_c (by decide)) ev_c)) (fun _ => ?_) (fun _ => go _ _ ⟨pq, ss, rfl, epq, npq, hss, lss, s4⟩)
      exact asg1_k (lst_k (nil_k ⟨Nat.zero_le _, fun p hp => go _ _ ⟨p, [], rfl, upd_same, nsq _ (s4.free hp), fun s hs => (by cases hs), Nat.zero_le _, s4.upd hp⟩⟩))
    rintro _ H4 ⟨pq, ss, rfl, epq, npq, hss, lss, s4⟩
    have esq4 := s4 _ _ esq3
    have hsn : H sq = none := s1.free sqn
    have s04 := s03.trans s4
    have back : ∀ H', SameBut sq H4 H' → Same H H' := fun H' sb d o e => sb d o (s04 d o e) (fun z => by rw [z, hsn] at e; cases e)
    have ncq : cq ≠ sq := fun z => by
      have h1 : H3 sq = some (.lst (cs.map V.int)) := z ▸ ecs
      rw [esq3] at h1
      have h2 : (bareL (wi * hi).toNat hs).map strV = cs.map V.int := by injection h1 with h1; injection h1
      cases cs with
      | nil => simp at l6
      | cons x r =>
        cases hb : bareL (wi * hi).toNat hs with
        | nil => rw [hb] at h2; cases h2
        | cons y r2 => rw [hb] at h2; injection h2 with h2 _; cases h2
    refine tSeq_of (fun σ' H' => ∃ (zs : List Nat) (o9 o10 o11 o12 : Option V), σ' = [some (.ref a), some (.ref g), some (.int st), some (.int (wi * hi)), some (.ref fq), some (.ref sq), some (.int c), some (.ref cq), some (.ref pq), o9, o10, o11, o12] ∧ H' sq = some (.lst (zs.map strV)) ∧ zs.length = (wi * hi).toNat ∧ (∀ (s c : Nat), zs[s]? = some c → cellB ks c (if (s : Int) ∈ hs then 35 else 46) = true) ∧ SameBut sq H4 H') (fun K' hK => ?_) ?_
    · refine for_enLP (fun q' H' => q' = pq ∧ H' = H4) (fun Q q => evk (v := .ref pq) (ev_v rfl) (q _ _ ⟨rfl, rfl⟩)) ?_
      rintro q' H' ⟨rfl, rfl⟩
      refine ⟨ss.map V.int, SqL.of epq, fun i σ' H'' => ∃ (zs : List Nat) (o9 o10 o11 o12 : Option V), σ' = [some (.ref a), some (.ref g), some (.int st), some (.int (wi * hi)), some (.ref fq), some (.ref sq), some (.int c), some (.ref cq), some (.ref q'), o9, o10, o11, o12] ∧ H'' sq = some (.lst (zs.map strV)) ∧ zs.length = (wi * hi).toNat ∧ (∀ (s c : Nat), zs[s]? = some c → cellB ks c (if (s : Int) ∈ hs then 35 else 46) = true) ∧ SameBut sq H' H'',
        ⟨bareL (wi * hi).toNat hs, _, _, _, _, rfl, esq4, ?_, ?_, SameBut.refl _⟩, ?_, ?_, ?_⟩
      · unfold bareL; rw [List.length_map, List.length_range]
      · intro s c' h
        unfold bareL at h
        rw [List.getElem?_map] at h
        cases hr : (List.range (wi * hi).toNat)[s]? with
        | none => rw [hr] at h; cases h
        | some s' =>
          rw [hr] at h
          have e1 : s' = s := by
            have := List.getElem?_eq_some_iff.mp hr
            obtain ⟨h1, h2⟩ := this
            rw [List.getElem_range] at h2
            exact h2.symm
          subst e1
          have h : (if (s' : Int) ∈ hs then 35 else 46) = c' := by injection h
          rw [← h]
          unfold cellB
          by_cases m : (s' : Int) ∈ hs
          · rw [if_pos m]; rfl
          · rw [if_neg m, if_neg (by decide)]; exact decide_eq_true (.inl rfl)
      · rintro i σ' H'' ⟨_, _, _, _, _, _, _, _, _, sb⟩
        exact SqL.of (sb _ _ epq npq)
      · rintro i x _ H5 t hx ⟨zs, o9, o10, o11, o12, rfl, e5, lz, gz, sb⟩ nt
        obtain ⟨z, hz, rfl⟩ := List.mem_map.mp (List.mem_of_getElem? hx)
        refine gpair upd_same ?_
        obtain ⟨z0, z1, z2⟩ := freeL_in (hss z hz)
        have s6 := (Same.refl H5).upd (o := .tup [.int (i : Int), .int z]) nt
        generalize upd H5 t (HO.tup [V.int (i : Int), V.int z]) = H6 at s6
        have sb6 : SameBut sq H' H6 := sb.trans s6.but
        have ecs6 : SqL K H6 cq (cs.map V.int) := SqL.of (sb6 _ _ (s4 _ _ ecs) ncq)
        have s06 := back H6 sb6
        have e6 := s6 _ _ e5
        show tSeq _ _ _ [some (.ref a), some (.ref g), some (.int st), some (.int (wi * hi)), some (.ref fq), some (.ref sq), some (.int c), some (.ref cq), some (.ref q'), some (.int (i : Int)), some (.int z), o11, o12] H6
        obtain ⟨n1, en1, _⟩ := pickN (ns := cs) (i := (i : Int) % 6) (by omega) (by omega)
        refine st_set (ev_add (ev_ix (ev_v rfl) (ev_mod (ev_v rfl) ev_c (by decide)) (.inl ecs6) en1) (ev_mul ev_c (ev_div (ev_v rfl) ev_c ⟨by decide, by decide⟩) (.inl ⟨by decide, by decide⟩))) ?_
        generalize n1 + 4099 * ((i : Int) / 6) = more
        obtain ⟨kq, fk, ek⟩ := (G.same s06).kinds D
        have kpos : (0 : Int) < ((ks.map strV).length : Int) := by rw [List.length_map]; omega
        obtain ⟨kv, ekv, mkv⟩ := pickM (xs := ks.map strV) (i := more / 64 % ((ks.map strV).length : Int)) (Int.emod_nonneg _ (by omega)) (Int.emod_lt_of_pos _ kpos)
        obtain ⟨k, hk, rfl⟩ := List.mem_map.mp mkv
        refine st_set (ev_ix (ev_fld (ev_v rfl) fk) (ev_mod (ev_div (ev_v rfl) ev_c ⟨by decide, by decide⟩) (ev_len (ev_fld (ev_v rfl) fk) (.inl (SqL.of ek))) kpos) (.inl (SqL.of ek)) ekv) ?_
        show tAsg _ _ _ [some (.ref a), some (.ref g), some (.int st), some (.int (wi * hi)), some (.ref fq), some (.ref sq), some (.int c), some (.ref cq), some (.ref q'), some (.int (i : Int)), some (.int z), some (.int more), some (strV k)] H6
        obtain ⟨v, ev, mv⟩ := pickM (xs := [strV (k - 32), strV k]) (i := more / 512 % 2) (by omega) (by show _ < (2 : Int); omega)
        refine put_k (l := sq) (i := z) (P := fun v H' => Same H6 H' ∧ ∃ c, v = strV c ∧ (c ∈ ks ∨ c ∈ ks.map (· - 32))) (fun Q q => lix_k (av_cons (ev_up (ev_v rfl) (hlt k hk)) (av_cons (ev_v rfl) av_nil)) (by show 2 ≤ 1000; decide) (fun H' => (ev_mod (ev_div (ev_v rfl) ev_c ⟨by decide, by decide⟩) ev_c (by decide))) ev (fun H' s => q _ _ ⟨s, ?_⟩)) (fun u H7 h => ?_)
        · simp only [List.mem_cons, List.not_mem_nil, or_false] at mv
          rcases mv with rfl | rfl
          · exact ⟨_, rfl, .inr (List.mem_map.mpr ⟨k, hk, rfl⟩)⟩
          · exact ⟨_, rfl, .inl hk⟩
        · obtain ⟨s7, c', rfl, hc'⟩ := h
          refine ⟨ev_v rfl, ev_v rfl, zs.map strV, s7 _ _ e6, z0, by rw [List.length_map]; omega, zs.set z.toNat c', _, _, _, _, rfl, ?_, by rw [List.length_set]; exact lz, fun s c2 h2 => ?_, (sb6.trans s7.but).self⟩
          · rw [upd_same, List.map_set]
          · by_cases hs2 : s = z.toNat
            · subst hs2
              rw [List.getElem?_set_self (by omega)] at h2
              cases h2
              rw [if_neg (by rw [Int.toNat_of_nonneg z0]; exact z2)]
              unfold cellB
              rw [if_neg (by decide)]
              exact decide_eq_true (.inr hc')
            · rw [List.getElem?_set_ne (fun e => hs2 e.symm)] at h2
              exact gz s c2 h2
      · rintro σ' H'' h
        exact hK _ _ h
    rintro _ H5 ⟨zs, o9, o10, o11, o12, rfl, e5, lz, gz, sb⟩
    show tRet _ _ [some (.ref a), some (.ref g), some (.int st), some (.int (wi * hi)), some (.ref fq), some (.ref sq), some (.int c), some (.ref cq), some (.ref pq), o9, o10, o11, o12] H5
    refine sm1_k ev_c (evk (ev_v rfl) (join_k e5 (by omega) (q _ _ ?_ (fun s c' h => gz s c' h) (back _ sb))))
    show zs.toArray.size = _
    rw [List.size_toArray]
    exact lz
end
end K10
namespace K10
open PySem L2
def spLaw (K : PySem.W.Frag) : Sp := fun vs H Q _ => ∃ (a : Addr) (ns : List Int), vs = [.ref a] ∧ SqL K H a (ns.map V.int) ∧ ns.length ≤ 63 ∧ ∀ H', Q (.bl true) H'
theorem make_same {H H1 H' : Hp} {x dx : Addr} {o1 o2 : HO} (s : Same H H1) (nx : H1 x = none) (nd : H1 dx = none) (sb : SameBut x (upd (upd H1 dx o1) x o2) H') : Same H H' := fun b o e => by
  have e1 := s b o e
  have nbx := ne_of_none e1 nx
  have nbd := ne_of_none e1 nd
  exact sb b o (by rw [upd_ne nbx, upd_ne nbd]; exact e1) nbx
theorem make_k {C : Addr} {sp : Sp} {t : TA} {σ : St} {H : Hp} {Q : VK} (h : t σ H fun vs H1 => ∀ x dx, H1 x = none → H1 dx = none → dx ≠ x → sp (.ref x :: vs) (upd (upd H1 dx (.own x)) x (.ins C dx [])) (fun v H2 => v = .non ∧ Q (.ref x) H2) E0) : cMake C sp t σ H Q := h
theorem callx_k {sp : Sp} {t : TA} {σ : St} {H : Hp} {Q : VK} (h : t σ H (fun vs H1 => sp vs H1 Q E0)) : cCall sp t σ H Q := h
theorem calNx_k {sp : Sp} {t : TA} {σ : St} {H : Hp} {R : Bool → Hp → Prop} (h : t σ H (fun vs H1 => sp vs H1 (bOnly fun c H1 => R (!c) H1) E0)) : tNot (cTest (cCall sp t)) σ H R := h
theorem lst_nil {H : Hp} {a : Addr} (h : H a = some (.lst [])) : lstOf H (.ref a) = some [] := by simp only [lstOf, h]
theorem tn2_nil {H : Hp} {a : Addr} (h : H a = some (.lst [])) : ThgN H 2 (.ref a) := ⟨.inl ⟨[], h⟩, fun ys hy => by
  rcases hy with z | z
  · simp only [tupOf, h] at z; cases z
  · simp only [lstOf, h] at z; cases z; intro x hx; cases hx⟩
theorem kindsB_ok {H : Hp} {q : Addr} {ks : List Nat} (h : H q = some (.lst (ks.map strV))) (hl : ∀ k ∈ ks, Ltr k) (nd : ks.Nodup) (k1 : 1 ≤ ks.length) (k6 : ks.length ≤ 6) : kindsB H (.ref q) = true := by
  have e : lstOf H (.ref q) = some (ks.map strV) := by simp only [lstOf, h]
  unfold kindsB
  rw [e]
  dsimp only
  rw [List.length_map, decide_eq_true ⟨k1, k6⟩, Bool.true_and, Bool.and_eq_true]
  refine ⟨List.all_eq_true.mpr fun x hx => ?_, decide_eq_true ?_⟩
  · obtain ⟨k, hk, rfl⟩ := List.mem_map.mp hx
    exact decide_eq_true (p := 97 ≤ k ∧ k ≤ 122) (hl k hk)
  · rw [List.map_map]
    exact List.pairwise_map.mpr (nd.imp fun hab e => hab (one_eq.mp e))
theorem thg_put {H : Hp} {tp : Addr} {ys : List V} {v : V} (h : Thg H v) : Thg (upd H tp (.lst ys)) v := by
  cases v with
  | ref a =>
    by_cases z : a = tp
    · subst z; exact .inl ⟨ys, upd_same⟩
    · rcases h with ⟨zs, h⟩ | ⟨zs, h⟩ | ⟨zs, h⟩
      · exact .inl ⟨zs, by rw [upd_ne z]; exact h⟩
      · exact .inr (.inl ⟨zs, by rw [upd_ne z]; exact h⟩)
      · exact .inr (.inr ⟨zs, by rw [upd_ne z]; exact h⟩)
  | _ => exact h
theorem tn_put {H : Hp} {tp : Addr} {ys : List V} {v : V} (hy : ∀ y ∈ ys, Thg H y) (h : ThgN H 1 v) : ThgN (upd H tp (.lst ys)) 1 v := by
  refine ⟨thg_put h.1, fun zs hz z mz => ?_⟩
  show Thg _ z
  cases v with
  | ref a =>
    by_cases q : a = tp
    · subst q
      have e2 : (upd H a (.lst ys)) a = some (.lst ys) := upd_same
      rcases hz with hz | hz
      · simp only [tupOf, e2] at hz; cases hz
      · simp only [lstOf, e2] at hz; cases hz; exact thg_put (hy z mz)
    · have e2 : (upd H tp (.lst ys)) a = H a := upd_ne q
      refine thg_put (h.2 zs ?_ z mz)
      rcases hz with hz | hz
      · exact .inl (by unfold tupOf at hz ⊢; dsimp only at hz ⊢; rw [e2] at hz; exact hz)
      · exact .inr (by unfold lstOf at hz ⊢; dsimp only at hz ⊢; rw [e2] at hz; exact hz)
  | _ => rcases hz with hz | hz <;> cases hz
theorem placeB_perm {wi hi : Int} {hs hs' : List Int} {ks : List Nat} {H : Hp} {v : V} (pm : hs'.Perm hs) : placeB wi hi hs' ks H v = placeB wi hi hs ks H v := by
  simp only [placeB, rowB, emptyT_perm pm]
theorem placeB_same {wi hi : Int} {hs : List Int} {ks : List Nat} {H H' : Hp} {v : V} (t : Thg H v) (s : Same H H') : placeB wi hi hs ks H' v = placeB wi hi hs ks H v := by unfold placeB; rw [tupOf_same t s]
theorem placeB_yes {wi hi : Int} {hs : List Int} {ks : List Nat} {H : Hp} {p : Addr} {z : Str} {sd : Int} (e : H p = some (.tup [.str z, .int sd])) (hz : z.length = (wi * hi).toNat)
    (g : ∀ (s c : Nat), z.cps.toList[s]? = some c → cellB ks c (if (s : Int) ∈ hs then 35 else 46) = true) (hsd : sd = 0 ∨ sd = 1) : placeB wi hi hs ks H (.ref p) = true := by
  rw [placeB_tup (a := .str z) (b := .int sd) (by simp only [tupOf, e])]
  rw [show amongB (.int sd) 0 1 = decide (0 ≤ sd ∧ sd ≤ 1) from rfl, decide_eq_true (by omega), Bool.and_true]
  unfold rowB
  dsimp only
  rw [decide_eq_true (by rw [emptyT_len]; exact hz), Bool.true_and]
  refine zw_true fun s c e h1 h2 => ?_
  have hlt := (List.getElem?_eq_some_iff.mp h1).1
  rw [Array.length_toList] at hlt
  have hlt : s < z.length := hlt
  rw [empty_at (by omega)] at h2
  cases h2
  exact g s c h1
theorem Cal.imp {P : Program} {w : World} {K : PySem.W.Frag} {mg : Str → Option Value} {base : Heap} {name : Str} {ps : List Str} {k : Nat} {sp sp' : Sp} (C : Cal P w K mg base name ps k sp) (h : ∀ vs H Q E, sp' vs H Q E → sp vs H Q E) : Cal P w K mg base name ps k sp' := by
  obtain ⟨f, fd, F, a, b, c⟩ := C.ex
  exact ⟨f, fd, F.imp h, a, b, c⟩
theorem amI_of {P : Program} {w : World} {K : PySem.W.Frag} {mg : Str → Option Value} {base : Heap} (C : Cal P w K mg base "is_among" ["thing", "least", "most"] 2 spAmongG) : Cal P w K mg base "is_among" ["thing", "least", "most"] 2 spAmI := Cal.imp C fun vs H Q E h => by
  obtain ⟨t, a, b, rfl, q⟩ := h
  exact ⟨.int t, a, b, rfl, trivial, q⟩
structure CL (P : Program) (w : World) (K : PySem.W.Frag) (mg : Str → Option Value) (base : Heap) (cB cG : Addr) : Prop extends LG1 P w K mg base where
  _law_board : Cal P w K mg base "_law_board" ["_law_script"] 2 (spLBoard K)
  _law_kinds : Cal P w K mg base "_law_kinds" ["_law_cell"] 1 spLKinds
  _law_empty : Cal P w K mg base "_law_empty" ["_law_wide", "_law_high", "_law_holes"] 1 (spLEmpty K)
  _law_row : Cal P w K mg base "_law_row" ["_law_script", "_law_game", "_law_start"] 2 (spLRow K cB cG)
  _law_odd : Cal P w K mg base "_law_odd" ["_law_row_here", "_law_side", "_law_cell"] 2 spOddT
  _law_good : Cal P w K mg base "_law_good" ["_law_thing", "_law_wide", "_law_high", "_law_holes", "_law_kinds_here"] 2 (spGood K)
  _law_told : Cal P w K mg base "_law_told" ["_law_game", "_law_thing", "_law_due"] 7 (spTold K cB cG)
  Board : MkCal P w K mg base "Board" cB ["self", "wide", "high", "holes"] 4 (spBInit K cB)
  Game : MkCal P w K mg base "Game" cG ["self", "board", "kinds", "rules", "turns", "ends", "stuck"] 6 (spGInit K cG)
section
variable {P : Program} {w : World} {K : PySem.W.Frag} {mg : Str → Option Value} {base : Heap} {aS aA aE aW : Addr}
theorem ok_law {f cB cG : Addr} {fd : FuncData} (F : Fun K "law" "law" s_law f fd) (T : Txt mg aS aA aE aW) (B : BrdC K cB) (D : GmC K cG) (C : CL P w K mg base cB cG) : FnOk P w K mg base CX0 8 f fd ["_law_script"] (spLaw K) := by
  refine F.ok sc_law (fun vs H Q E h => ?_) (fun cdv A outer s H vs Q E hr h => ?_)
  · obtain ⟨a, ns, rfl, _⟩ := h
    rfl
  · obtain ⟨a, ns, rfl, hS, hlen, k⟩ := h
    have hu := hu20 hr
    refine ⟨_, (pss_cons (ps_asg (kcall C._law_board hr (pac (cv 0) pa_nil)) (kgt K (n := 3) (pgs_cons (pg_name (i := 1) sc_law.nd rfl (Or.inl rfl)) (pgs_cons (pg_name (i := 2) sc_law.nd rfl (Or.inl rfl)) (pgs_cons (pg_name (i := 3) sc_law.nd rfl (Or.inl rfl)) pgs_nil)))))
      (pss_cons (ps_set (i := 4) sc_law.nd rfl (Or.inl rfl) (kcall C._law_kinds hr (pac (kcall C._law_cell_at hr (pac (cv 0) (pac pe_int pa_nil))) pa_nil)))
      (pss_cons (ps_set (i := 5) sc_law.nd rfl (Or.inl rfl) (kmake C.Game hr (pac (kmake C.Board hr (pac (cv 1) (pac (cv 2) (pac (kTy (klist K) bo_list T.list (pac (cv 3) pa_nil)) pa_nil)))) (pac (kTy (klist K) bo_list T.list (pac (cv 4) pa_nil)) (pac (pe_lst pa_nil) (pac (pe_lst pa_nil) (pac (pe_lst pa_nil) (pac pe_str pa_nil))))))))
      (pss_cons (ps_set (i := 6) sc_law.nd rfl (Or.inl rfl) (kcall C._law_row hr (pac (cv 0) (pac (cv 5) (pac pe_int pa_nil)))))
      (pss_cons (ps_set (i := 7) sc_law.nd rfl (Or.inl rfl) (ce_bin (kcall C._law_cell_at hr (pac (cv 0) (pac pe_int pa_nil))) pe_int))
      (pss_cons (ps_set (i := 8) sc_law.nd rfl (Or.inl rfl) (pe_lst (pac (pe_tup (pac (cv 6) (pac (cv 7) pa_nil))) (pac (kcall C._law_odd hr (pac (cv 6) (pac (cv 7) (pac (kcall C._law_cell_at hr (pac (cv 0) (pac pe_int pa_nil))) pa_nil)))) (pac (pe_tup (pac (kcall C._law_empty hr (pac (cv 1) (pac (cv 2) (pac (cv 3) pa_nil)))) (pac (ce_bin pe_int (cv 7)) pa_nil))) pa_nil)))))
      (pss_cons (ps_for PassesOwn.never rfl (kenum K T.enumerate (ksl K (cv 0) (co_some pe_int) (co_some pe_int))) (kgt K (n := 2) (pgs_cons (pg_name (i := 9) sc_law.nd rfl (Or.inl rfl)) (pgs_cons (pg_name (i := 10) sc_law.nd rfl (Or.inl rfl)) pgs_nil))) (pss_one (ps_expr (ce_app (cv 8) (kcall C._law_odd hr (pac (cv 6) (pac (cv 7) (pac (kcall C._law_mixed hr (pac (cv 10) (pac (cv 9) pa_nil))) pa_nil))))))))
      (pss_cons (ps_for PassesOwn.never rfl (kpl K (ce_bin (cv 8) (ksl K (cv 8) po_none (co_some pe_int)))) (pg_name (i := 11) sc_law.nd rfl (Or.inl rfl)) (pss_one (ps_if (pt_not (ct_val (kcall C._law_told hr (pac (cv 5) (pac (cv 11) (pac (kcall C._law_good hr (pac (cv 11) (pac (cv 1) (pac (cv 2) (pac (cv 3) (pac (cv 4) pa_nil)))))) pa_nil)))))) (pss_one (ps_ret pe_bl)) pss_nil)))
      (pss_one (ps_ret (ce_and (kcmp K hu (kfld K (cv 5)) (cv 4)) (pe_one (kcall C._law_good hr (pac (pe_tup (pac (cv 6) (pac (cv 7) pa_nil))) (pac (cv 1) (pac (cv 2) (pac (cv 3) (pac (cv 4) pa_nil)))))))))))))))))), ?_⟩
    show tSeq _ _ _ [some (.ref a), none, none, none, none, none, none, none, none, none, none, none] H
    refine tSeq_of (fun σ' H' => ∃ (wi hi : Int) (d : Addr) (hs : List Int), σ' = [some (.ref a), some (.int wi), some (.int hi), some (.ref d), none, none, none, none, none, none, none, none] ∧ 1 ≤ wi ∧ wi ≤ 8 ∧ 1 ≤ hi ∧ hi ≤ 8 ∧ H' d = some (.lst (hs.map V.int)) ∧ (∀ h ∈ hs, 0 ≤ h ∧ h < wi * hi) ∧ hs.Nodup ∧ (hs.length : Int) < wi * hi ∧ Same H H') (fun K' hK => ?_) ?_
    · refine asgc_k (av_cons (ev_v rfl) av_nil) ⟨a, ns, rfl, hS, fun t d wi hi hs H' w1 w8 h1 h8 et ed gd nd ln l2 nq nt s => ?_⟩
      exact gtrip et (hK _ _ ⟨wi, hi, d, hs, rfl, w1, w8, h1, h8, ed, gd, nd, ln, s⟩)
    rintro _ H1 ⟨wi, hi, d, hs, rfl, w1, w8, h1, h8, ed, gd, nd, ln, s1⟩
    have m1 : wi * hi ≤ 8 * 8 := Int.mul_le_mul w8 h8 (by omega) (by omega)
    have m0 : 1 * 1 ≤ wi * hi := Int.mul_le_mul w1 h1 (by omega) (by omega)
    have hS1 := s1.seq hS
    refine st_asg (fun v H' => ∃ (kq : Addr) (ks : List Nat), v = .ref kq ∧ H' kq = some (.lst (ks.map strV)) ∧ (∀ c ∈ ks, Ltr c) ∧ ks.Nodup ∧ 1 ≤ ks.length ∧ ks.length ≤ 6 ∧ Same H1 H') (fun Q q => ?_) ?_
    · exact cal_k (av_cons (ev_call (av_cons (ev_v rfl) (av_cons ev_c av_nil)) (fun Q q => ⟨a, ns, 2, rfl, hS1, by decide, q⟩)) av_nil) ⟨_, rfl, fun kq ks H' z1 z2 z3 z4 z5 z6 z7 => q _ _ ⟨kq, ks, rfl, z2, z3, z4, z5, z6, z7⟩⟩
    rintro _ H2 ⟨kq, ks, rfl, ek, hks, knd, k1, k6, s2⟩
    have ed2 := s2 _ _ ed
    refine st_asg (fun v H' => ∃ (g b : Addr) (hs' : List Int), v = .ref g ∧ hs'.Perm hs ∧ BrdAt K cB H' b wi hi hs' ∧ GmAt cG H' g b (ks.map strV) [] [] [] "lost" ∧ Same H2 H') (fun Q q => ?_) ?_
    · refine make_k (consx_k (make3_k (ev_v rfl) (ev_v rfl) (ev_v rfl) (.inl (SqL.of ed2)) fun l hl x dx nx ndx ne => ?_))
      have sl := (Same.refl H2).upd (o := .lst (hs.map V.int)) hl
      have el : (upd H2 l (.lst (hs.map V.int))) l = some (.lst (hs.map V.int)) := upd_same
      refine ⟨x, l, dx, wi, hi, hs, rfl, upd_same, by rw [upd_ne (ne_of_none el nx), upd_ne (ne_of_none el ndx)]; exact el, w1, w8, h1, h8, gd, nd, ln, fun hs' H' pm O sb => ⟨rfl, ?_⟩⟩
      have s3 := make_same sl nx ndx sb
      have ek3 := s3 _ _ ek
      refine consx_k (lis_k (ev_v rfl) (.inl (SqL.of ek3)) fun kl hkl => consx_k (lst_k (nil_k ⟨Nat.zero_le _, fun r hr' => consx_k (lst_k (nil_k ⟨Nat.zero_le _, fun t ht => consx_k (lst_k (nil_k ⟨Nat.zero_le _, fun e he => cons_k ev_c (nil_k fun g gx ng ngx nne => ?_)⟩))⟩))⟩)))
      have sA := (Same.refl H').upd (o := .lst (ks.map strV)) hkl
      have eA : (upd H' kl (.lst (ks.map strV))) kl = some (.lst (ks.map strV)) := upd_same
      generalize upd H' kl (HO.lst (ks.map strV)) = HA at sA eA hr' ht he ng ngx ⊢
      have sB := (Same.refl HA).upd (o := .lst []) hr'
      have eB : (upd HA r (.lst [])) r = some (.lst []) := upd_same
      generalize upd HA r (HO.lst []) = HB at sB eB ht he ng ngx ⊢
      have sC := (Same.refl HB).upd (o := .lst []) ht
      have eC : (upd HB t (.lst [])) t = some (.lst []) := upd_same
      generalize upd HB t (HO.lst []) = HC at sC eC he ng ngx ⊢
      have sD := (Same.refl HC).upd (o := .lst []) he
      have eD : (upd HC e (.lst [])) e = some (.lst []) := upd_same
      generalize upd HC e (HO.lst []) = HD at sD eD ng ngx ⊢
      have sF : Same HD (upd (upd HD gx (.own g)) g (.ins cG gx [])) := ((Same.refl HD).upd ngx).upd (by rw [upd_ne (Ne.symm nne)]; exact ng)
      have ekF := (((sB.trans sC).trans sD).trans sF) _ _ eA
      have erF := ((sC.trans sD).trans sF) _ _ eB
      have etF := (sD.trans sF) _ _ eC
      have eeF := sF _ _ eD
      have mm : (ks.map one).map V.str = ks.map strV := by rw [List.map_map]; rfl
      refine ⟨g, x, kl, r, t, e, gx, ks.map one, [], [], [], "lost", rfl, upd_same, by rw [mm]; exact ekF, erF, etF, eeF, tn_lst ekF (fun y hy => ?_), tn2_nil erF, tn2_nil etF, tn2_nil eeF, kindsB_ok ekF hks knd k1 k6, ?_, ?_, ?_, by decide, by decide, fun H'' G sb' => ⟨rfl, ?_⟩⟩
      · obtain ⟨c, _, rfl⟩ := List.mem_map.mp hy
        exact one_le c
      · unfold rulesB; rw [lst_nil erF]; rfl
      · unfold turnsB pairsB; rw [lst_nil etF]; rfl
      · unfold pairsB; rw [lst_nil eeF]; rfl
      · rw [mm] at G
        have s4 : Same H' H'' := make_same (((sA.trans sB).trans sC).trans sD) ng ngx sb'
        exact q _ _ ⟨g, x, hs', rfl, pm, O.same s4, G, s3.trans s4⟩
    rintro _ H3 ⟨g, b, hs', rfl, pm, O, G, s3⟩
    have hS3 := (s2.trans s3).seq hS1
    refine st_asg (fun v H' => ∃ z : Str, v = .str z ∧ z.length = (wi * hi).toNat ∧ (∀ (s c : Nat), z.cps.toList[s]? = some c → cellB ks c (if (s : Int) ∈ hs' then 35 else 46) = true) ∧ Same H3 H') (fun Q q => ?_) ?_
    · exact cal_k (av_cons (ev_v rfl) (av_cons (ev_v rfl) (av_cons ev_c av_nil))) ⟨a, g, b, ns, 5, wi, hi, hs', ks, [], [], [], "lost", rfl, hS3, by decide, by decide, G, O, hks, k1, k6, by rw [pm.length_eq]; exact ln, fun z H' e1 e2 s => q _ _ ⟨z, rfl, e1, e2, s⟩⟩
    rintro _ H4 ⟨z, rfl, hz, gz, s4⟩
    have hS4 := s4.seq hS3
    refine st_set (ev_mod (ev_call (av_cons (ev_v rfl) (av_cons ev_c av_nil)) (fun Q q => ⟨a, ns, 3, rfl, hS4, by decide, q⟩)) ev_c (by decide)) ?_
    have hsd : cellAt ns 3 % 2 = 0 ∨ cellAt ns 3 % 2 = 1 := by omega
    generalize cellAt ns 3 % 2 = sd at hsd
    show tSeq _ _ _ [some (.ref a), some (.int wi), some (.int hi), some (.ref d), some (.ref kq), some (.ref g), some (.str z), some (.int sd), none, none, none, none] H4
    have z64 : z.length ≤ 64 := by omega
    have z1 : 1 ≤ z.length := by omega
    have ed4 := ((s2.trans s3).trans s4) _ _ ed
    have ek4 := (s3.trans s4) _ _ ek
    have G4 := G.same s4
    have O4 := O.same s4
    refine st_asg (fun v H' => ∃ (tp : Addr) (xs : List V) (H5 : Hp), v = .ref tp ∧ H5 tp = none ∧ Same H4 H5 ∧ H' = upd H5 tp (.lst xs) ∧ xs.length = 3 ∧ ∀ x ∈ xs, ThgN H' 1 x) (fun Q q => ?_) ?_
    · refine lst_k (consx_k (tup_k (cons_k (ev_v rfl) (cons_k (ev_v rfl) (nil_k ⟨by show 2 ≤ sizeLine; decide, fun p hp => ?_⟩)))))
      have sp := (Same.refl H4).upd (o := .tup [.str z, .int sd]) hp
      have ep : (upd H4 p (.tup [.str z, .int sd])) p = some (.tup [.str z, .int sd]) := upd_same
      generalize upd H4 p (HO.tup [.str z, .int sd]) = HP at sp ep ⊢
      refine consx_k (cal_k (av_cons (ev_v rfl) (av_cons (ev_v rfl) (av_cons (ev_call (av_cons (ev_v rfl) (av_cons ev_c av_nil)) (fun Q q => ⟨a, ns, 4, rfl, sp.seq hS4, by decide, q⟩)) av_nil))) ⟨z, sd, _, rfl, z1, z64, hsd, fun v HV tv sv => ?_⟩)
      refine consx_k (tup_k (consx_k (cal_k (av_cons (ev_v rfl) (av_cons (ev_v rfl) (av_cons (ev_v rfl) av_nil))) ⟨wi, hi, d, hs, rfl, w1, w8, h1, h8, SqL.of ((sp.trans sv) _ _ ed4), fun HE sE => ?_⟩)))
      refine cons_k (ev_sub ev_c (ev_v rfl)) (nil_k ⟨by show 2 ≤ sizeLine; decide, fun p2 hp2 => ?_⟩)
      have sp2 := (Same.refl HE).upd (o := .tup [.str (emptyT wi hi hs), .int (1 - sd)]) hp2
      have ep2 : (upd HE p2 (.tup [.str (emptyT wi hi hs), .int (1 - sd)])) p2 = some (.tup [.str (emptyT wi hi hs), .int (1 - sd)]) := upd_same
      generalize upd HE p2 (HO.tup [.str (emptyT wi hi hs), .int (1 - sd)]) = HF at sp2 ep2 ⊢
      refine nil_k ⟨by show 3 ≤ sizeLine; decide, fun tp htp => ?_⟩
      have st := (Same.refl HF).upd (o := .lst [.ref p, v, .ref p2]) htp
      refine q _ _ ⟨tp, [.ref p, v, .ref p2], HF, rfl, htp, ((sp.trans sv).trans sE).trans sp2, rfl, rfl, fun x hx => ?_⟩
      simp only [List.mem_cons, List.not_mem_nil, or_false] at hx
      rcases hx with rfl | rfl | rfl
      · refine (tn_tup ep (fun y hy => ?_)).same (((sv.trans sE).trans sp2).trans st)
        simp only [List.mem_cons, List.not_mem_nil, or_false] at hy
        rcases hy with rfl | rfl
        · show z.length ≤ 1000; omega
        · trivial
      · exact tv.same ((sE.trans sp2).trans st)
      · refine (tn_tup ep2 (fun y hy => ?_)).same st
        simp only [List.mem_cons, List.not_mem_nil, or_false] at hy
        rcases hy with rfl | rfl
        · show (emptyT wi hi hs).length ≤ 1000; rw [emptyT_len]; omega
        · trivial
    rintro _ _ ⟨tp, xs, H5, rfl, ntp, s5, rfl, lx, tx⟩
    have e6 : (upd H5 tp (.lst xs)) tp = some (.lst xs) := upd_same
    have s56 := (Same.refl H5).upd (o := .lst xs) ntp
    generalize upd H5 tp (HO.lst xs) = H6 at e6 s56 tx
    have hS6 := (s5.trans s56).seq hS4
    have back : ∀ H', SameBut tp H6 H' → Same H5 H' := fun H' sb c o e => sb c o (s56 c o e) (ne_of_none e ntp)
    show tSeq _ _ _ [some (.ref a), some (.int wi), some (.int hi), some (.ref d), some (.ref kq), some (.ref g), some (.str z), some (.int sd), some (.ref tp), none, none, none] H6
    refine tSeq_of (fun σ' H' => ∃ (o9 o10 : Option V) (xs : List V), σ' = [some (.ref a), some (.int wi), some (.int hi), some (.ref d), some (.ref kq), some (.ref g), some (.str z), some (.int sd), some (.ref tp), o9, o10, none] ∧ H' tp = some (.lst xs) ∧ xs.length ≤ 66 ∧ (∀ x ∈ xs, ThgN H' 1 x) ∧ Same H5 H') (fun K' hK => ?_) ?_
    · refine for_enLP (fun q' H' => H' q' = some (.lst (cutV (ns.map V.int) (some 12) (some 22))) ∧ q' ≠ tp ∧ Same H6 H') (fun Q q => sll_k (ev_v rfl) (po_ev ev_c) (po_ev ev_c) hS6 (fun p hp => q _ _ ⟨upd_same, fun e => (by rw [e, e6] at hp; cases hp), (Same.refl H6).upd hp⟩)) ?_
      rintro q' H7 ⟨eq7, nq, s7⟩
      have cl : (cutV (ns.map V.int) (some 12) (some 22)).length ≤ 63 := by have := cutV_length (ns.map V.int) (some 12) (some 22); rw [List.length_map] at this; omega
      refine ⟨_, SqL.of eq7, fun i σ' H' => ∃ (o9 o10 : Option V) (xs : List V), σ' = [some (.ref a), some (.int wi), some (.int hi), some (.ref d), some (.ref kq), some (.ref g), some (.str z), some (.int sd), some (.ref tp), o9, o10, none] ∧ H' tp = some (.lst xs) ∧ xs.length = 3 + i ∧ (∀ x ∈ xs, ThgN H' 1 x) ∧ SameBut tp H7 H',
        ⟨_, _, xs, rfl, s7 _ _ e6, lx, fun x hx => (tx x hx).same s7, SameBut.refl _⟩, ?_, ?_, ?_⟩
      · rintro i σ' H' ⟨_, _, _, _, _, _, _, sb⟩
        exact SqL.of (sb _ _ eq7 nq)
      · rintro i x _ H8 t hx ⟨o9, o10, xs, rfl, e8, l8, t8, sb⟩ nt
        obtain ⟨c, _, rfl⟩ := List.mem_map.mp (cutV_mem (List.mem_of_getElem? hx))
        refine gpair upd_same ?_
        have s9 := (Same.refl H8).upd (o := .tup [.int (i : Int), .int c]) nt
        generalize upd H8 t (HO.tup [V.int (i : Int), V.int c]) = H9 at s9
        have hi' := (List.getElem?_eq_some_iff.mp hx).1
        show tDrop _ _ [some (.ref a), some (.int wi), some (.int hi), some (.ref d), some (.ref kq), some (.ref g), some (.str z), some (.int sd), some (.ref tp), some (.int (i : Int)), some (.int c), none] H9
        refine app_k (ev_v rfl) ⟨xs, s9 _ _ e8⟩ (cal_k (av_cons (ev_v rfl) (av_cons (ev_v rfl) (av_cons (ev_call (av_cons (ev_v rfl) (av_cons (ev_v rfl) av_nil)) (fun Q q => ⟨_, _, rfl, q⟩)) av_nil))) ⟨z, sd, _, rfl, z1, z64, hsd, fun v H10 tv s10 => ?_⟩)
        have tv' : ∀ y ∈ xs ++ [v], ThgN H10 1 y := fun y hy => by
          rcases List.mem_append.mp hy with hy | hy
          · exact ((t8 y hy).same s9).same s10
          · rw [List.mem_singleton.mp hy]; exact tv
        refine ⟨xs, (s9.trans s10) _ _ e8, by rw [sizeLine_eq]; omega, _, _, xs ++ [v], rfl, upd_same, by rw [List.length_append]; show xs.length + 1 = _; omega, fun y hy => tn_put (fun y hy => (tv' y hy).thg) (tv' y hy), ((sb.trans s9.but).trans s10.but).self⟩
      · rintro σ' H' ⟨o9, o10, xs, rfl, e8, l8, t8, sb⟩
        exact hK _ _ ⟨o9, o10, xs, rfl, e8, by omega, t8, back _ (s7.but.trans sb)⟩
    clear tx e6 lx xs
    rintro _ H7 ⟨o9, o10, xs, rfl, e7, l7, t7, s57⟩
    have s47 := s5.trans s57
    have cl := cutV_length xs none (some 2)
    refine tSeq_of (fun σ' H' => ∃ o11 : Option V, σ' = [some (.ref a), some (.int wi), some (.int hi), some (.ref d), some (.ref kq), some (.ref g), some (.str z), some (.int sd), some (.ref tp), o9, o10, o11] ∧ Same H7 H') (fun K' hK => ?_) ?_
    · refine for_lstP (fun v H' => ∃ p, v = .ref p ∧ H' p = some (.lst (xs ++ cutV xs none (some 2))) ∧ Same H7 H') (fun Q q => ?_) ?_
      · refine cat_k (evk (v := .ref tp) (ev_v rfl) (sll_k (lo := none) (hi := some 2) (ev_v rfl) (fun Q q => q) (fun Q q => evk ev_c q) (SqL.of e7) (fun p hp => ?_)))
        have sp := (Same.refl H7).upd (o := .lst (cutV xs none (some 2))) hp
        exact cat_lst (sp _ _ e7) upd_same (by omega) (fun p2 hp2 => q _ _ ⟨p2, rfl, upd_same, sp.upd hp2⟩)
      rintro _ H8 ⟨p, rfl, e8, s8⟩
      refine ⟨p, _, rfl, SqL.of e8, fun i σ' H' => ∃ o11 : Option V, σ' = [some (.ref a), some (.int wi), some (.int hi), some (.ref d), some (.ref kq), some (.ref g), some (.str z), some (.int sd), some (.ref tp), o9, o10, o11] ∧ Same H8 H', ⟨_, rfl, Same.refl _⟩, ?_, ?_, ?_⟩
      · rintro i σ' H' _ ⟨_, _, s⟩
        exact SqL.of (s _ _ e8)
      · rintro i y _ H9 hy ⟨o11, rfl, s9⟩
        have ty : ThgN H9 1 y := by
          have hm := List.mem_of_getElem? hy
          rcases List.mem_append.mp hm with hm | hm
          · exact (t7 y hm).same (s8.trans s9)
          · exact (t7 y (cutV_mem hm)).same (s8.trans s9)
        have s49 := (s47.trans s8).trans s9
        show tIfS _ _ _ _ [some (.ref a), some (.int wi), some (.int hi), some (.ref d), some (.ref kq), some (.ref g), some (.str z), some (.int sd), some (.ref tp), o9, o10, some y] H9
        refine st_if1 (fun b H' => b = false ∧ Same H9 H') (fun Q q => ?_) (fun H' h => by cases h.1) (fun H' h => ⟨_, rfl, s9.trans h.2⟩)
        refine calNx_k (cons_k (ev_v rfl) (cons_k (ev_v rfl) (consx_k (cal_k (av_cons (ev_v rfl) (av_cons (ev_v rfl) (av_cons (ev_v rfl) (av_cons (ev_v rfl) (av_cons (ev_v rfl) av_nil))))) ⟨y, wi, hi, d, kq, hs, ks, rfl, ty, s49 _ _ ed4, s49 _ _ ek4, hks, k6, w1, w8, h1, h8, by omega, fun H10 s10 => nil_k ⟨g, b, y, wi, hi, hs', ks, [], [], [], "lost", _, rfl, G4.same (s49.trans s10), O4.same (s49.trans s10), hks, k6, ty.same s10, fun H11 s11 => ?_⟩⟩))))
        rw [placeB_same ty.thg s10, placeB_perm pm, decide_eq_true rfl]
        exact q _ _ ⟨rfl, s10.trans s11⟩
      · rintro σ' H' ⟨o11, rfl, s⟩
        exact hK _ _ ⟨o11, rfl, s8.trans s⟩
    rintro _ H8 ⟨o11, rfl, s8⟩
    have s48 := s47.trans s8
    show tRet _ _ [some (.ref a), some (.int wi), some (.int hi), some (.ref d), some (.ref kq), some (.ref g), some (.str z), some (.int sd), some (.ref tp), o9, o10, o11] H8
    obtain ⟨fq, fk, ef⟩ := (G4.same s48).kinds D
    refine andv_k (a := true) (ev_eqr (ev_fld (ev_v rfl) fk) (ev_v rfl) (eqT_copy (SqL.of ef) (SqL.of (s48 _ _ ek4)) (fun x hx => ?_))) (fun _ => ?_) (fun h => by cases h)
    · obtain ⟨c, _, rfl⟩ := List.mem_map.mp hx
      rfl
    refine callx_k (consx_k (tup_k (cons_k (ev_v rfl) (cons_k (ev_v rfl) (nil_k ⟨by show 2 ≤ sizeLine; decide, fun p hp => ?_⟩)))))
    have sp := (Same.refl H8).upd (o := .tup [.str z, .int sd]) hp
    have ep : (upd H8 p (.tup [.str z, .int sd])) p = some (.tup [.str z, .int sd]) := upd_same
    generalize upd H8 p (HO.tup [.str z, .int sd]) = H9 at sp ep ⊢
    have s49 := s48.trans sp
    refine cons_k (ev_v rfl) (cons_k (ev_v rfl) (cons_k (ev_v rfl) (cons_k (ev_v rfl) (nil_k ⟨.ref p, wi, hi, d, kq, hs, ks, rfl, tn_tup ep (fun y hy => ?_), s49 _ _ ed4, s49 _ _ ek4, hks, k6, w1, w8, h1, h8, by omega, fun H' s' => ?_⟩))))
    · simp only [List.mem_cons, List.not_mem_nil, or_false] at hy
      rcases hy with rfl | rfl
      · show z.length ≤ 1000; omega
      · trivial
    · rw [← placeB_perm pm, placeB_yes ep hz gz hsd]
      exact k _
end
end K10
namespace L2
open PySem PySem.W PyProof.Rows
theorem walkX_of {q : Program} {loose : List Str} {XP : (Str → Option Value) → Heap → Prop} {YP : World → Heap → Prop} {α : Type} {Yf : Shared → α} {Ya : World → α} {r : RowW} {d : DefRec} {kwd : List (Str × Expr)} {run : Value → List Value → Sem Value}
    (hY : ∀ (w : World) (s₀ s₁ : Shared), Yf s₀ = Ya w → (∀ b o, s₀.heap.get? b = some o → s₁.heap.get? b = some o) → YP w s₁.heap) (h : WalkO q loose XP YP r d kwd run) : PySem.W.WalkX q loose XP Yf Ya r d kwd run :=
  fun w s₀ s₁ mg mb G y a o pm cd doc dV kV ho hd hcd hD hmg hg args vals as L hpre hlay hrd hwl hlo => h w s₀ s₁ mg mb G (hY w s₀ s₁ y L.keeps) a o pm cd doc dV kV ho hd hcd hD hmg hg args vals as hpre hlay hrd hwl hlo
theorem ln1 {P : List Value → Prop} (h : ∀ a0 : Value, P [a0]) : ∀ us : List Value, us.length = 1 → P us
  | [a0], _ => h a0
theorem ln2 {P : List Value → Prop} (h : ∀ a0 a1 : Value, P [a0, a1]) : ∀ us : List Value, us.length = 2 → P us
  | [a0, a1], _ => h a0 a1
theorem ln3 {P : List Value → Prop} (h : ∀ a0 a1 a2 : Value, P [a0, a1, a2]) : ∀ us : List Value, us.length = 3 → P us
  | [a0, a1, a2], _ => h a0 a1 a2
theorem ln4 {P : List Value → Prop} (h : ∀ a0 a1 a2 a3 : Value, P [a0, a1, a2, a3]) : ∀ us : List Value, us.length = 4 → P us
  | [a0, a1, a2, a3], _ => h a0 a1 a2 a3
theorem ln5 {P : List Value → Prop} (h : ∀ a0 a1 a2 a3 a4 : Value, P [a0, a1, a2, a3, a4]) : ∀ us : List Value, us.length = 5 → P us
  | [a0, a1, a2, a3, a4], _ => h a0 a1 a2 a3 a4
theorem ln7 {P : List Value → Prop} (h : ∀ a0 a1 a2 a3 a4 a5 a6 : Value, P [a0, a1, a2, a3, a4, a5, a6]) : ∀ us : List Value, us.length = 7 → P us
  | [a0, a1, a2, a3, a4, a5, a6], _ => h a0 a1 a2 a3 a4 a5 a6
end L2
namespace L2
open PySem PySem.W PyProof.Rows
def treeOf : Nat → List Obj → Nat → Nat → PySem.W.BT
  | 0, _, _, _ => .nil
  | f + 1, l, a, b => (l[b]?).elim .nil fun o => .node o (treeOf f l (2 * a) (a + b)) (treeOf f l (2 * a) (2 * a + b))
def toT (s : Shared) : SharedT := ⟨treeOf 12 s.heap.objs.toList 1 0, s.heap.objs.size, s.heap.life, s.gens, s.drawn, s.toks, s.os⟩
theorem left_own {p q : Program} {loose : List Str} {Xt : Shared → Bool} {α : Type} {Yf : Shared → α} {Ya : World → α} {N : Nat} {g0 : Bool} {H₀ : Params → Heap} {gs₀ : Array GenState} {d₀ : Drawn} {k₀ m₀ : Nat} {ann : Option Value} {n0 nb n nf : Nat}
    {b : List Stmt} {env : Env} {qp p0 p1 p2 : Pos} {sa : World → OsState → Shared} {sb sc : World → OsState → SharedT} {sf : World → OsState → Shared}
    (open_ : ∀ w : World, (fencedOpening treeTable p w N).map (fun s => (s.heap, s.gens, s.drawn, s.toks)) = some (H₀ w.params, gs₀, d₀, k₀))
    (size : ∀ w : World, ((H₀ w.params).isNs mainGlobals && gs₀.size == 0, (H₀ w.params).objs.size, (H₀ w.params).nsMap mainGlobals "__annotations__") = (true, m₀, ann))
    (pre : ∀ w os, topGo treeTable p w m₀ ann n0 ⟨H₀ w.params, gs₀, d₀, k₀, os⟩ (topStub p) = some (sa w os, ⟨denote treeTable (.body b env), .body b env, p0, [topFrame qp]⟩))
    (block : ∀ w os, segRun treeTable p w m₀ ann 1 nb (sa w os) (blockOf b env (.body b env) p0 [topFrame qp]) = some (.next, (sb w os).abs, .body b env, p1))
    (main : ∀ w os, segRunT treeTable p w m₀ ann 1 n (sb w os) (piecesOf b env (.body b env) p1 [topFrame qp]) = some (.next, sc w os, .body b env, p2))
    (fin : ∀ w os, topRun treeTable p w m₀ ann nf (sc w os).abs ⟨doneF .next, .body b env, p2, [topFrame qp]⟩ = some (sf w os))
    (le : Nat.ble (n0 + (nb + (n + nf))) N = true)
    (looks : ∀ w os, ((staticsOk (importedModules p.main.body) (H₀ w.params) (sf w os).heap && namesBound p (sf w os).heap && gensDone (sf w os) && laidKept (H₀ w.params) (sf w os).heap),
        openSeen q loose (importedModules p.main.body) Xt g0 (sf w os), Yf (sf w os)) = (true, openGood q loose, Ya w)) : LeftO p q loose Xt Yf Ya N g0 := fun w => by
  obtain ⟨⟨h, gs, d, k, os⟩, e, e'⟩ := Option.map_eq_some_iff.mp (open_ w)
  obtain ⟨rfl, rfl, rfl, rfl⟩ : h = H₀ w.params ∧ gs = gs₀ ∧ d = d₀ ∧ k = k₀ := by simpa using e'
  obtain ⟨z1, z2, z3⟩ : _ ∧ _ ∧ _ := by simpa only [Prod.mk.injEq] using size w
  obtain ⟨l1, l2, l3⟩ : _ ∧ _ ∧ _ := by simpa only [Prod.mk.injEq] using looks w os
  have r1 := piece_app (rest := []) (segRun_of (main w os)) (piece_nil (fin w os))
  rw [List.append_nil] at r1
  have r3 := go_top (pre w os) (piece_block (block w os) r1)
  have r := topRun_mono (N - (n0 + (nb + (n + nf)))) _ _ _ _ r3
  rw [show n0 + (nb + (n + nf)) + (N - (n0 + (nb + (n + nf)))) = N by have := Nat.le_of_ble_eq_true le; omega] at r
  have t : topFrom treeTable p w N ⟨H₀ w.params, gs, d, k, os⟩ = some (sf w os) := by
    unfold topFrom
    dsimp only
    rw [z1, z2, z3, r]
    show (match staticsOk (importedModules p.main.body) (H₀ w.params) (sf w os).heap && namesBound p (sf w os).heap && gensDone (sf w os) && laidKept (H₀ w.params) (sf w os).heap with | true => _ | false => _) = _
    rw [l1]
  unfold openEnds
  rw [e]
  show (topFrom treeTable p w N _).map _ = _
  rw [t]
  exact congrArg some (Prod.ext l2 l3)
def hookF (as : List Addr) (s : Shared) : List (Option Obj) := as.map s.heap.get?
def hookV (K : Params → Frag) (w : World) : List (Option Obj) := (K w.params).map fun p => some p.2
theorem hookY {K : Params → Frag} {as : List Addr} (e : ∀ P, as = (K P).map (·.1)) (w : World) (s₀ s₁ : Shared) (y : hookF as s₀ = hookV K w) (k : ∀ b o, s₀.heap.get? b = some o → s₁.heap.get? b = some o) : (K w.params).In s₁.heap :=
  InK.keeps w s₀.heap s₁.heap (InK.of e w s₀ y) k
end L2
namespace K10
open PySem L2
abbrev hP : Program := PySem.Challenge.pw_playboard_k10_places_looked_at
noncomputable def hQ : Program := { hP with main := { hP.main with body := top 0 :: top 2 :: top 3 :: top 4 :: top 6 :: top 7 :: top 8 :: top 9 :: top 10 :: top 11 :: top 12 :: top 13 :: top 14 :: top 15 :: top 16 :: top 17 :: top 18 :: top 19 :: top 20 :: top 21 :: top 22 :: top 23 :: top 25 :: top 26 :: top 27 :: top 28 :: top 29 :: top 30 :: top 32 :: top 33 :: top 34 :: top 36 :: top 37 :: top 38 :: top 40 :: top 42 :: top 43 :: top 44 :: top 45 :: top 46 :: top 47 :: top 48 :: top 49 :: top 50 :: top 51 :: top 52 :: top 53 :: [] } }
noncomputable def zo2 (P : Params) : Obj := ⟨.none, none, (.dict #[] 0), #[]⟩
noncomputable def zo3 (P : Params) : Obj := ⟨(.type "dict"), none, (.dict #[⟨PyData.keyHash P "__name__", (.str "__name__" 165), (.str "law_playboard_k10_places_looked_at" 543)⟩, ⟨PyData.keyHash P "__doc__", (.str "__doc__" 166), .none⟩, ⟨PyData.keyHash P "__package__", (.str "__package__" 167), .none⟩, ⟨PyData.keyHash P "__loader__", (.str "__loader__" 168), (.builtin "__main__.__loader__#opaque")⟩, ⟨PyData.keyHash P "__spec__", (.str "__spec__" 169), .none⟩, ⟨PyData.keyHash P "__annotations__", (.str "__annotations__" 170), (.ref 6)⟩, ⟨PyData.keyHash P "__builtins__", (.str "__builtins__" 171), (.ref 4)⟩, ⟨PyData.keyHash P "__file__", (.str "__file__" 173), (.str "/claim/cut.py" 172)⟩, ⟨PyData.keyHash P "__cached__", (.str "__cached__" 174), .none⟩, ⟨PyData.keyHash P "_wall", (.str "_wall" 193), (.ref 21)⟩, ⟨PyData.keyHash P "is_whole", (.str "is_whole" 202), (.ref 28)⟩, ⟨PyData.keyHash P "is_letter", (.str "is_letter" 209), (.ref 35)⟩, ⟨PyData.keyHash P "is_among", (.str "is_among" 218), (.ref 42)⟩, ⟨PyData.keyHash P "SORTS", (.str "SORTS" 224), (.ref 43)⟩, ⟨PyData.keyHash P "AIMS", (.str "AIMS" 228), (.ref 44)⟩, ⟨PyData.keyHash P "END_WORDS", (.str "END_WORDS" 231), (.ref 45)⟩, ⟨PyData.keyHash P "STUCK_WORDS", (.str "STUCK_WORDS" 235), (.ref 46)⟩, ⟨PyData.keyHash P "MOST_KINDS", (.str "MOST_KINDS" 237), (.int 6 236)⟩, ⟨PyData.keyHash P "MOST_RULES", (.str "MOST_RULES" 239), (.int 24 238)⟩, ⟨PyData.keyHash P "MOST_PAIRS", (.str "MOST_PAIRS" 241), (.int 6 240)⟩, ⟨PyData.keyHash P "is_word", (.str "is_word" 249), (.ref 53)⟩, ⟨PyData.keyHash P "is_tuple_of", (.str "is_tuple_of" 257), (.ref 60)⟩, ⟨PyData.keyHash P "is_list_of", (.str "is_list_of" 266), (.ref 67)⟩, ⟨PyData.keyHash P "is_step", (.str "is_step" 276), (.ref 74)⟩, ⟨PyData.keyHash P "is_rule", (.str "is_rule" 286), (.ref 81)⟩, ⟨PyData.keyHash P "is_pair", (.str "is_pair" 295), (.ref 88)⟩, ⟨PyData.keyHash P "are_pairs", (.str "are_pairs" 301), (.ref 93)⟩, ⟨PyData.keyHash P "is_turns", (.str "is_turns" 307), (.ref 98)⟩, ⟨PyData.keyHash P "is_ends", (.str "is_ends" 315), (.ref 105)⟩, ⟨PyData.keyHash P "are_kinds", (.str "are_kinds" 321), (.ref 110)⟩, ⟨PyData.keyHash P "are_rules", (.str "are_rules" 327), (.ref 115)⟩, ⟨PyData.keyHash P "EMPTY", (.str "EMPTY" 331), (.str "." 330)⟩, ⟨PyData.keyHash P "HOLE", (.str "HOLE" 333), (.str "#" 332)⟩, ⟨PyData.keyHash P "sign_of", (.str "sign_of" 341), (.ref 122)⟩, ⟨PyData.keyHash P "empty_row", (.str "empty_row" 347), (.ref 127)⟩, ⟨PyData.keyHash P "is_row", (.str "is_row" 353), (.ref 132)⟩, ⟨PyData.keyHash P "is_place", (.str "is_place" 361), (.ref 139)⟩, ⟨PyData.keyHash P "PlayError", (.str "PlayError" 381), (.ref 149)⟩, ⟨PyData.keyHash P "BadBoard", (.str "BadBoard" 397), (.ref 162)⟩, ⟨PyData.keyHash P "BadGame", (.str "BadGame" 413), (.ref 174)⟩, ⟨PyData.keyHash P "LONGEST", (.str "LONGEST" 417), (.int 8 416)⟩, ⟨PyData.keyHash P "are_holes", (.str "are_holes" 423), (.ref 181)⟩, ⟨PyData.keyHash P "Board", (.str "Board" 485), (.ref 222)⟩, ⟨PyData.keyHash P "Game", (.str "Game" 542), (.ref 257)⟩, ⟨PyData.keyHash P "_law_cell_at", (.str "_law_cell_at" 552), (.ref 268)⟩, ⟨PyData.keyHash P "_law_mixed", (.str "_law_mixed" 560), (.ref 275)⟩, ⟨PyData.keyHash P "_law_whole", (.str "_law_whole" 567), (.ref 282)⟩, ⟨PyData.keyHash P "_law_board", (.str "_law_board" 580), (.ref 289)⟩, ⟨PyData.keyHash P "_law_kinds", (.str "_law_kinds" 586), (.ref 294)⟩, ⟨PyData.keyHash P "_law_empty", (.str "_law_empty" 592), (.ref 299)⟩, ⟨PyData.keyHash P "_law_row", (.str "_law_row" 598), (.ref 304)⟩, ⟨PyData.keyHash P "_law_odd_row", (.str "_law_odd_row" 611), (.ref 311)⟩, ⟨PyData.keyHash P "_law_odd", (.str "_law_odd" 622), (.ref 318)⟩, ⟨PyData.keyHash P "_law_good", (.str "_law_good" 628), (.ref 323)⟩, ⟨PyData.keyHash P "_law_told", (.str "_law_told" 638), (.ref 330)⟩, ⟨PyData.keyHash P "law", (.str "law" 656), (.ref 337)⟩] 56), #[]⟩
noncomputable def zo15 (P : Params) : Obj := ⟨(.type "tuple"), none, (.seq #[] 0), #[]⟩
noncomputable def zo17 (P : Params) : Obj := ⟨(.type "tuple"), none, (.seq #[(.str "k" 190)] 0), #[]⟩
noncomputable def zo18 (P : Params) : Obj := ⟨(.type "tuple"), none, (.seq #[] 0), #[]⟩
noncomputable def zo20 (P : Params) : Obj := ⟨(.type "code"), none, (.fields #[(.str "_wall" 187), (.str "_wall" 188), (.str "/claim/cut.py" 189), (.int 1 0), (.int 1 0), (.int 0 0), (.int 0 0), (.int 3 0), (.ref 15), (.bool true), (.int 181 0), (.ref 16), .none, (.ref 17), (.ref 18), (.ref 19), (.int 191 0), (.int 1 0), (.str "/claim/cut.py" 192)]), #[]⟩
noncomputable def zo21 (P : Params) : Obj := ⟨(.type "function"), none, (.func (PySem.W.fnOf "_wall" "_wall" (defArgs s__wall) (defBody s__wall) (defScope s__wall) .none .none .none (.str "__main__" 164) none (.ref 20) .none)), #[]⟩
noncomputable def zo22 (P : Params) : Obj := ⟨(.type "tuple"), none, (.seq #[] 0), #[]⟩
noncomputable def zo24 (P : Params) : Obj := ⟨(.type "tuple"), none, (.seq #[(.str "thing" 199)] 0), #[]⟩
noncomputable def zo25 (P : Params) : Obj := ⟨(.type "tuple"), none, (.seq #[] 0), #[]⟩
noncomputable def zo27 (P : Params) : Obj := ⟨(.type "code"), none, (.fields #[(.str "is_whole" 196), (.str "is_whole" 197), (.str "/claim/cut.py" 198), (.int 5 0), (.int 1 0), (.int 0 0), (.int 0 0), (.int 3 0), (.ref 22), (.bool true), (.int 181 0), (.ref 23), .none, (.ref 24), (.ref 25), (.ref 26), (.int 200 0), (.int 5 0), (.str "/claim/cut.py" 201)]), #[]⟩
noncomputable def zo28 (P : Params) : Obj := ⟨(.type "function"), none, (.func (PySem.W.fnOf "is_whole" "is_whole" (defArgs s_is_whole) (defBody s_is_whole) (defScope s_is_whole) .none .none .none (.str "playboard.words" 194) none (.ref 27) .none)), #[]⟩
noncomputable def zo29 (P : Params) : Obj := ⟨(.type "tuple"), none, (.seq #[] 0), #[]⟩
noncomputable def zo31 (P : Params) : Obj := ⟨(.type "tuple"), none, (.seq #[(.str "thing" 206)] 0), #[]⟩
noncomputable def zo32 (P : Params) : Obj := ⟨(.type "tuple"), none, (.seq #[] 0), #[]⟩
noncomputable def zo34 (P : Params) : Obj := ⟨(.type "code"), none, (.fields #[(.str "is_letter" 203), (.str "is_letter" 204), (.str "/claim/cut.py" 205), (.int 7 0), (.int 1 0), (.int 0 0), (.int 0 0), (.int 3 0), (.ref 29), (.bool true), (.int 181 0), (.ref 30), .none, (.ref 31), (.ref 32), (.ref 33), (.int 207 0), (.int 7 0), (.str "/claim/cut.py" 208)]), #[]⟩
noncomputable def zo35 (P : Params) : Obj := ⟨(.type "function"), none, (.func (PySem.W.fnOf "is_letter" "is_letter" (defArgs s_is_letter) (defBody s_is_letter) (defScope s_is_letter) .none .none .none (.str "playboard.words" 194) none (.ref 34) .none)), #[]⟩
noncomputable def zo36 (P : Params) : Obj := ⟨(.type "tuple"), none, (.seq #[] 0), #[]⟩
noncomputable def zo38 (P : Params) : Obj := ⟨(.type "tuple"), none, (.seq #[(.str "thing" 213), (.str "least" 214), (.str "most" 215)] 0), #[]⟩
noncomputable def zo39 (P : Params) : Obj := ⟨(.type "tuple"), none, (.seq #[] 0), #[]⟩
noncomputable def zo41 (P : Params) : Obj := ⟨(.type "code"), none, (.fields #[(.str "is_among" 210), (.str "is_among" 211), (.str "/claim/cut.py" 212), (.int 9 0), (.int 3 0), (.int 0 0), (.int 0 0), (.int 3 0), (.ref 36), (.bool true), (.int 181 0), (.ref 37), .none, (.ref 38), (.ref 39), (.ref 40), (.int 216 0), (.int 9 0), (.str "/claim/cut.py" 217)]), #[]⟩
noncomputable def zo42 (P : Params) : Obj := ⟨(.type "function"), none, (.func (PySem.W.fnOf "is_among" "is_among" (defArgs s_is_among) (defBody s_is_among) (defScope s_is_among) .none .none .none (.str "playboard.words" 194) none (.ref 41) .none)), #[]⟩
noncomputable def zo43 (P : Params) : Obj := ⟨(.type "tuple"), none, (.seq #[(.str "leap" 221), (.str "slide" 222), (.str "jump" 223)] 0), #[]⟩
noncomputable def zo44 (P : Params) : Obj := ⟨(.type "tuple"), none, (.seq #[(.str "go" 225), (.str "hit" 226), (.str "any" 227)] 0), #[]⟩
noncomputable def zo45 (P : Params) : Obj := ⟨(.type "tuple"), none, (.seq #[(.str "without" 229), (.str "home" 230)] 0), #[]⟩
noncomputable def zo46 (P : Params) : Obj := ⟨(.type "tuple"), none, (.seq #[(.str "lost" 232), (.str "even" 233), (.str "won" 234)] 0), #[]⟩
noncomputable def zo47 (P : Params) : Obj := ⟨(.type "tuple"), none, (.seq #[] 0), #[]⟩
noncomputable def zo49 (P : Params) : Obj := ⟨(.type "tuple"), none, (.seq #[(.str "thing" 245), (.str "words" 246)] 0), #[]⟩
noncomputable def zo50 (P : Params) : Obj := ⟨(.type "tuple"), none, (.seq #[] 0), #[]⟩
noncomputable def zo52 (P : Params) : Obj := ⟨(.type "code"), none, (.fields #[(.str "is_word" 242), (.str "is_word" 243), (.str "/claim/cut.py" 244), (.int 19 0), (.int 2 0), (.int 0 0), (.int 0 0), (.int 3 0), (.ref 47), (.bool true), (.int 181 0), (.ref 48), .none, (.ref 49), (.ref 50), (.ref 51), (.int 247 0), (.int 19 0), (.str "/claim/cut.py" 248)]), #[]⟩
noncomputable def zo53 (P : Params) : Obj := ⟨(.type "function"), none, (.func (PySem.W.fnOf "is_word" "is_word" (defArgs s_is_word) (defBody s_is_word) (defScope s_is_word) .none .none .none (.str "playboard.rules" 219) none (.ref 52) .none)), #[]⟩
noncomputable def zo54 (P : Params) : Obj := ⟨(.type "tuple"), none, (.seq #[] 0), #[]⟩
noncomputable def zo56 (P : Params) : Obj := ⟨(.type "tuple"), none, (.seq #[(.str "thing" 253), (.str "many" 254)] 0), #[]⟩
noncomputable def zo57 (P : Params) : Obj := ⟨(.type "tuple"), none, (.seq #[] 0), #[]⟩
noncomputable def zo59 (P : Params) : Obj := ⟨(.type "code"), none, (.fields #[(.str "is_tuple_of" 250), (.str "is_tuple_of" 251), (.str "/claim/cut.py" 252), (.int 21 0), (.int 2 0), (.int 0 0), (.int 0 0), (.int 3 0), (.ref 54), (.bool true), (.int 181 0), (.ref 55), .none, (.ref 56), (.ref 57), (.ref 58), (.int 255 0), (.int 21 0), (.str "/claim/cut.py" 256)]), #[]⟩
noncomputable def zo60 (P : Params) : Obj := ⟨(.type "function"), none, (.func (PySem.W.fnOf "is_tuple_of" "is_tuple_of" (defArgs s_is_tuple_of) (defBody s_is_tuple_of) (defScope s_is_tuple_of) .none .none .none (.str "playboard.rules" 219) none (.ref 59) .none)), #[]⟩
noncomputable def zo61 (P : Params) : Obj := ⟨(.type "tuple"), none, (.seq #[] 0), #[]⟩
noncomputable def zo63 (P : Params) : Obj := ⟨(.type "tuple"), none, (.seq #[(.str "thing" 261), (.str "least" 262), (.str "most" 263)] 0), #[]⟩
noncomputable def zo64 (P : Params) : Obj := ⟨(.type "tuple"), none, (.seq #[] 0), #[]⟩
noncomputable def zo66 (P : Params) : Obj := ⟨(.type "code"), none, (.fields #[(.str "is_list_of" 258), (.str "is_list_of" 259), (.str "/claim/cut.py" 260), (.int 23 0), (.int 3 0), (.int 0 0), (.int 0 0), (.int 3 0), (.ref 61), (.bool true), (.int 181 0), (.ref 62), .none, (.ref 63), (.ref 64), (.ref 65), (.int 264 0), (.int 23 0), (.str "/claim/cut.py" 265)]), #[]⟩
noncomputable def zo67 (P : Params) : Obj := ⟨(.type "function"), none, (.func (PySem.W.fnOf "is_list_of" "is_list_of" (defArgs s_is_list_of) (defBody s_is_list_of) (defScope s_is_list_of) .none .none .none (.str "playboard.rules" 219) none (.ref 66) .none)), #[]⟩
noncomputable def zo68 (P : Params) : Obj := ⟨(.type "tuple"), none, (.seq #[] 0), #[]⟩
noncomputable def zo70 (P : Params) : Obj := ⟨(.type "tuple"), none, (.seq #[(.str "sort" 270), (.str "across" 271), (.str "up" 272), (.str "longest" 273)] 0), #[]⟩
noncomputable def zo71 (P : Params) : Obj := ⟨(.type "tuple"), none, (.seq #[] 0), #[]⟩
noncomputable def zo73 (P : Params) : Obj := ⟨(.type "code"), none, (.fields #[(.str "is_step" 267), (.str "is_step" 268), (.str "/claim/cut.py" 269), (.int 25 0), (.int 3 0), (.int 0 0), (.int 0 0), (.int 3 0), (.ref 68), (.bool true), (.int 181 0), (.ref 69), .none, (.ref 70), (.ref 71), (.ref 72), (.int 274 0), (.int 25 0), (.str "/claim/cut.py" 275)]), #[]⟩
noncomputable def zo74 (P : Params) : Obj := ⟨(.type "function"), none, (.func (PySem.W.fnOf "is_step" "is_step" (defArgs s_is_step) (defBody s_is_step) (defScope s_is_step) .none .none .none (.str "playboard.rules" 219) none (.ref 73) .none)), #[]⟩
noncomputable def zo75 (P : Params) : Obj := ⟨(.type "tuple"), none, (.seq #[] 0), #[]⟩
noncomputable def zo77 (P : Params) : Obj := ⟨(.type "tuple"), none, (.seq #[(.str "thing" 280), (.str "kinds" 281), (.str "sort" 282), (.str "aim" 283)] 0), #[]⟩
noncomputable def zo78 (P : Params) : Obj := ⟨(.type "tuple"), none, (.seq #[] 0), #[]⟩
noncomputable def zo80 (P : Params) : Obj := ⟨(.type "code"), none, (.fields #[(.str "is_rule" 277), (.str "is_rule" 278), (.str "/claim/cut.py" 279), (.int 30 0), (.int 2 0), (.int 0 0), (.int 0 0), (.int 3 0), (.ref 75), (.bool true), (.int 181 0), (.ref 76), .none, (.ref 77), (.ref 78), (.ref 79), (.int 284 0), (.int 30 0), (.str "/claim/cut.py" 285)]), #[]⟩
noncomputable def zo81 (P : Params) : Obj := ⟨(.type "function"), none, (.func (PySem.W.fnOf "is_rule" "is_rule" (defArgs s_is_rule) (defBody s_is_rule) (defScope s_is_rule) .none .none .none (.str "playboard.rules" 219) none (.ref 80) .none)), #[]⟩
noncomputable def zo82 (P : Params) : Obj := ⟨(.type "tuple"), none, (.seq #[] 0), #[]⟩
noncomputable def zo84 (P : Params) : Obj := ⟨(.type "tuple"), none, (.seq #[(.str "thing" 290), (.str "firsts" 291), (.str "seconds" 292)] 0), #[]⟩
noncomputable def zo85 (P : Params) : Obj := ⟨(.type "tuple"), none, (.seq #[] 0), #[]⟩
noncomputable def zo87 (P : Params) : Obj := ⟨(.type "code"), none, (.fields #[(.str "is_pair" 287), (.str "is_pair" 288), (.str "/claim/cut.py" 289), (.int 40 0), (.int 3 0), (.int 0 0), (.int 0 0), (.int 3 0), (.ref 82), (.bool true), (.int 181 0), (.ref 83), .none, (.ref 84), (.ref 85), (.ref 86), (.int 293 0), (.int 40 0), (.str "/claim/cut.py" 294)]), #[]⟩
noncomputable def zo88 (P : Params) : Obj := ⟨(.type "function"), none, (.func (PySem.W.fnOf "is_pair" "is_pair" (defArgs s_is_pair) (defBody s_is_pair) (defScope s_is_pair) .none .none .none (.str "playboard.rules" 219) none (.ref 87) .none)), #[]⟩
noncomputable def zo89 (P : Params) : Obj := ⟨(.type "tuple"), none, (.seq #[] 0), #[]⟩
noncomputable def zo92 (P : Params) : Obj := ⟨(.type "code"), none, (.fields #[(.str "are_pairs" 296), (.str "are_pairs" 297), (.str "/claim/cut.py" 298), (.int 42 0), (.int 3 0), (.int 0 0), (.int 0 0), (.int 3 0), (.ref 89), (.bool true), (.int 181 0), (.ref 90), .none, .none, .none, (.ref 91), (.int 299 0), (.int 42 0), (.str "/claim/cut.py" 300)]), #[]⟩
noncomputable def zo93 (P : Params) : Obj := ⟨(.type "function"), none, (.func (PySem.W.fnOf "are_pairs" "are_pairs" (defArgs s_are_pairs) (defBody s_are_pairs) (defScope s_are_pairs) .none .none .none (.str "playboard.rules" 219) none (.ref 92) .none)), #[]⟩
noncomputable def zo94 (P : Params) : Obj := ⟨(.type "tuple"), none, (.seq #[] 0), #[]⟩
noncomputable def zo97 (P : Params) : Obj := ⟨(.type "code"), none, (.fields #[(.str "is_turns" 302), (.str "is_turns" 303), (.str "/claim/cut.py" 304), (.int 44 0), (.int 2 0), (.int 0 0), (.int 0 0), (.int 3 0), (.ref 94), (.bool true), (.int 181 0), (.ref 95), .none, .none, .none, (.ref 96), (.int 305 0), (.int 44 0), (.str "/claim/cut.py" 306)]), #[]⟩
noncomputable def zo98 (P : Params) : Obj := ⟨(.type "function"), none, (.func (PySem.W.fnOf "is_turns" "is_turns" (defArgs s_is_turns) (defBody s_is_turns) (defScope s_is_turns) .none .none .none (.str "playboard.rules" 219) none (.ref 97) .none)), #[]⟩
noncomputable def zo99 (P : Params) : Obj := ⟨(.type "tuple"), none, (.seq #[] 0), #[]⟩
noncomputable def zo101 (P : Params) : Obj := ⟨(.type "tuple"), none, (.seq #[(.str "thing" 311), (.str "kinds" 312)] 0), #[]⟩
noncomputable def zo102 (P : Params) : Obj := ⟨(.type "tuple"), none, (.seq #[] 0), #[]⟩
noncomputable def zo104 (P : Params) : Obj := ⟨(.type "code"), none, (.fields #[(.str "is_ends" 308), (.str "is_ends" 309), (.str "/claim/cut.py" 310), (.int 51 0), (.int 2 0), (.int 0 0), (.int 0 0), (.int 3 0), (.ref 99), (.bool true), (.int 181 0), (.ref 100), .none, (.ref 101), (.ref 102), (.ref 103), (.int 313 0), (.int 51 0), (.str "/claim/cut.py" 314)]), #[]⟩
noncomputable def zo105 (P : Params) : Obj := ⟨(.type "function"), none, (.func (PySem.W.fnOf "is_ends" "is_ends" (defArgs s_is_ends) (defBody s_is_ends) (defScope s_is_ends) .none .none .none (.str "playboard.rules" 219) none (.ref 104) .none)), #[]⟩
noncomputable def zo106 (P : Params) : Obj := ⟨(.type "tuple"), none, (.seq #[] 0), #[]⟩
noncomputable def zo109 (P : Params) : Obj := ⟨(.type "code"), none, (.fields #[(.str "are_kinds" 316), (.str "are_kinds" 317), (.str "/claim/cut.py" 318), (.int 53 0), (.int 1 0), (.int 0 0), (.int 0 0), (.int 3 0), (.ref 106), (.bool true), (.int 181 0), (.ref 107), .none, .none, .none, (.ref 108), (.int 319 0), (.int 53 0), (.str "/claim/cut.py" 320)]), #[]⟩
noncomputable def zo110 (P : Params) : Obj := ⟨(.type "function"), none, (.func (PySem.W.fnOf "are_kinds" "are_kinds" (defArgs s_are_kinds) (defBody s_are_kinds) (defScope s_are_kinds) .none .none .none (.str "playboard.rules" 219) none (.ref 109) .none)), #[]⟩
noncomputable def zo111 (P : Params) : Obj := ⟨(.type "tuple"), none, (.seq #[] 0), #[]⟩
noncomputable def zo114 (P : Params) : Obj := ⟨(.type "code"), none, (.fields #[(.str "are_rules" 322), (.str "are_rules" 323), (.str "/claim/cut.py" 324), (.int 57 0), (.int 2 0), (.int 0 0), (.int 0 0), (.int 3 0), (.ref 111), (.bool true), (.int 181 0), (.ref 112), .none, .none, .none, (.ref 113), (.int 325 0), (.int 57 0), (.str "/claim/cut.py" 326)]), #[]⟩
noncomputable def zo115 (P : Params) : Obj := ⟨(.type "function"), none, (.func (PySem.W.fnOf "are_rules" "are_rules" (defArgs s_are_rules) (defBody s_are_rules) (defScope s_are_rules) .none .none .none (.str "playboard.rules" 219) none (.ref 114) .none)), #[]⟩
noncomputable def zo116 (P : Params) : Obj := ⟨(.type "tuple"), none, (.seq #[] 0), #[]⟩
noncomputable def zo118 (P : Params) : Obj := ⟨(.type "tuple"), none, (.seq #[(.str "kind" 337), (.str "side" 338)] 0), #[]⟩
noncomputable def zo119 (P : Params) : Obj := ⟨(.type "tuple"), none, (.seq #[] 0), #[]⟩
noncomputable def zo121 (P : Params) : Obj := ⟨(.type "code"), none, (.fields #[(.str "sign_of" 334), (.str "sign_of" 335), (.str "/claim/cut.py" 336), (.int 62 0), (.int 2 0), (.int 0 0), (.int 0 0), (.int 3 0), (.ref 116), (.bool true), (.int 181 0), (.ref 117), .none, (.ref 118), (.ref 119), (.ref 120), (.int 339 0), (.int 62 0), (.str "/claim/cut.py" 340)]), #[]⟩
noncomputable def zo122 (P : Params) : Obj := ⟨(.type "function"), none, (.func (PySem.W.fnOf "sign_of" "sign_of" (defArgs s_sign_of) (defBody s_sign_of) (defScope s_sign_of) .none .none .none (.str "playboard.places" 328) none (.ref 121) .none)), #[]⟩
noncomputable def zo123 (P : Params) : Obj := ⟨(.type "tuple"), none, (.seq #[] 0), #[]⟩
noncomputable def zo126 (P : Params) : Obj := ⟨(.type "code"), none, (.fields #[(.str "empty_row" 342), (.str "empty_row" 343), (.str "/claim/cut.py" 344), (.int 64 0), (.int 1 0), (.int 0 0), (.int 0 0), (.int 3 0), (.ref 123), (.bool true), (.int 181 0), (.ref 124), .none, .none, .none, (.ref 125), (.int 345 0), (.int 64 0), (.str "/claim/cut.py" 346)]), #[]⟩
noncomputable def zo127 (P : Params) : Obj := ⟨(.type "function"), none, (.func (PySem.W.fnOf "empty_row" "empty_row" (defArgs s_empty_row) (defBody s_empty_row) (defScope s_empty_row) .none .none .none (.str "playboard.places" 328) none (.ref 126) .none)), #[]⟩
noncomputable def zo128 (P : Params) : Obj := ⟨(.type "tuple"), none, (.seq #[] 0), #[]⟩
noncomputable def zo131 (P : Params) : Obj := ⟨(.type "code"), none, (.fields #[(.str "is_row" 348), (.str "is_row" 349), (.str "/claim/cut.py" 350), (.int 66 0), (.int 2 0), (.int 0 0), (.int 0 0), (.int 3 0), (.ref 128), (.bool true), (.int 181 0), (.ref 129), .none, .none, .none, (.ref 130), (.int 351 0), (.int 66 0), (.str "/claim/cut.py" 352)]), #[]⟩
noncomputable def zo132 (P : Params) : Obj := ⟨(.type "function"), none, (.func (PySem.W.fnOf "is_row" "is_row" (defArgs s_is_row) (defBody s_is_row) (defScope s_is_row) .none .none .none (.str "playboard.places" 328) none (.ref 131) .none)), #[]⟩
noncomputable def zo133 (P : Params) : Obj := ⟨(.type "tuple"), none, (.seq #[] 0), #[]⟩
noncomputable def zo135 (P : Params) : Obj := ⟨(.type "tuple"), none, (.seq #[(.str "game" 357), (.str "thing" 358)] 0), #[]⟩
noncomputable def zo136 (P : Params) : Obj := ⟨(.type "tuple"), none, (.seq #[] 0), #[]⟩
noncomputable def zo138 (P : Params) : Obj := ⟨(.type "code"), none, (.fields #[(.str "is_place" 354), (.str "is_place" 355), (.str "/claim/cut.py" 356), (.int 72 0), (.int 2 0), (.int 0 0), (.int 0 0), (.int 3 0), (.ref 133), (.bool true), (.int 181 0), (.ref 134), .none, (.ref 135), (.ref 136), (.ref 137), (.int 359 0), (.int 72 0), (.str "/claim/cut.py" 360)]), #[]⟩
noncomputable def zo139 (P : Params) : Obj := ⟨(.type "function"), none, (.func (PySem.W.fnOf "is_place" "is_place" (defArgs s_is_place) (defBody s_is_place) (defScope s_is_place) .none .none .none (.str "playboard.places" 328) none (.ref 138) .none)), #[]⟩
noncomputable def zo140 (P : Params) : Obj := ⟨(.type "tuple"), none, (.seq #[(.type "ValueError")] 0), #[]⟩
noncomputable def zo147 (P : Params) : Obj := ⟨(.type "tuple"), none, (.seq #[] 0), #[]⟩
noncomputable def zo148 (P : Params) : Obj := ⟨(.type "dict"), none, (.dict #[⟨PyData.keyHash P "__module__", (.str "__module__" 371), (.str "playboard.errors" 362)⟩, ⟨PyData.keyHash P "__firstlineno__", (.str "__firstlineno__" 375), (.int 75 374)⟩, ⟨PyData.keyHash P "__static_attributes__", (.str "__static_attributes__" 376), (.ref 147)⟩, ⟨PyData.keyHash P "__weakref__", (.str "__weakref__" 378), (.ref 150)⟩, ⟨PyData.keyHash P "__doc__", (.str "__doc__" 379), .none⟩] 3), #[]⟩
noncomputable def zo149 (P : Params) : Obj := ⟨(.type "type"), none, (.cls ⟨"PlayError", [(.type "ValueError")], [(.ref 149), (.type "ValueError"), (.type "Exception"), (.type "BaseException"), (.type "object")], 148, "PlayError", true, [], [(.ref 162), (.ref 174)], false, none, false⟩), #[(some (.ref 140)), none, (some (.str "PlayError" 364)), (some (.str "PlayError" 372)), (some (.builtin "ValueError.__new__")), (some (.bool true))]⟩
noncomputable def zo150 (P : Params) : Obj := ⟨(.type "getset_descriptor"), none, (.fields #[(.str "__weakref__" 377), (.ref 149), (.builtin "ExceptionGroup.__weakref__"), .none]), #[]⟩
noncomputable def zo153 (P : Params) : Obj := ⟨(.type "tuple"), none, (.seq #[(.ref 149)] 0), #[]⟩
noncomputable def zo160 (P : Params) : Obj := ⟨(.type "tuple"), none, (.seq #[] 0), #[]⟩
noncomputable def zo161 (P : Params) : Obj := ⟨(.type "dict"), none, (.dict #[⟨PyData.keyHash P "__module__", (.str "__module__" 389), (.str "playboard.errors" 362)⟩, ⟨PyData.keyHash P "__firstlineno__", (.str "__firstlineno__" 393), (.int 77 392)⟩, ⟨PyData.keyHash P "__static_attributes__", (.str "__static_attributes__" 394), (.ref 160)⟩, ⟨PyData.keyHash P "__doc__", (.str "__doc__" 395), .none⟩] 2), #[]⟩
noncomputable def zo162 (P : Params) : Obj := ⟨(.type "type"), none, (.cls ⟨"BadBoard", [(.ref 149)], [(.ref 162), (.ref 149), (.type "ValueError"), (.type "Exception"), (.type "BaseException"), (.type "object")], 161, "BadBoard", true, [], [], false, none, false⟩), #[(some (.ref 153)), none, (some (.str "BadBoard" 382)), (some (.str "BadBoard" 390)), (some (.builtin "ValueError.__new__")), (some (.bool true))]⟩
noncomputable def zo165 (P : Params) : Obj := ⟨(.type "tuple"), none, (.seq #[(.ref 149)] 0), #[]⟩
noncomputable def zo172 (P : Params) : Obj := ⟨(.type "tuple"), none, (.seq #[] 0), #[]⟩
noncomputable def zo173 (P : Params) : Obj := ⟨(.type "dict"), none, (.dict #[⟨PyData.keyHash P "__module__", (.str "__module__" 405), (.str "playboard.errors" 362)⟩, ⟨PyData.keyHash P "__firstlineno__", (.str "__firstlineno__" 409), (.int 79 408)⟩, ⟨PyData.keyHash P "__static_attributes__", (.str "__static_attributes__" 410), (.ref 172)⟩, ⟨PyData.keyHash P "__doc__", (.str "__doc__" 411), .none⟩] 2), #[]⟩
noncomputable def zo174 (P : Params) : Obj := ⟨(.type "type"), none, (.cls ⟨"BadGame", [(.ref 149)], [(.ref 174), (.ref 149), (.type "ValueError"), (.type "Exception"), (.type "BaseException"), (.type "object")], 173, "BadGame", true, [], [], false, none, false⟩), #[(some (.ref 165)), none, (some (.str "BadGame" 398)), (some (.str "BadGame" 406)), (some (.builtin "ValueError.__new__")), (some (.bool true))]⟩
noncomputable def zo177 (P : Params) : Obj := ⟨(.type "tuple"), none, (.seq #[] 0), #[]⟩
noncomputable def zo180 (P : Params) : Obj := ⟨(.type "code"), none, (.fields #[(.str "are_holes" 418), (.str "are_holes" 419), (.str "/claim/cut.py" 420), (.int 83 0), (.int 2 0), (.int 0 0), (.int 0 0), (.int 3 0), (.ref 177), (.bool true), (.int 181 0), (.ref 178), .none, .none, .none, (.ref 179), (.int 421 0), (.int 83 0), (.str "/claim/cut.py" 422)]), #[]⟩
noncomputable def zo181 (P : Params) : Obj := ⟨(.type "function"), none, (.func (PySem.W.fnOf "are_holes" "are_holes" (defArgs s_are_holes) (defBody s_are_holes) (defScope s_are_holes) .none .none .none (.str "playboard.boards" 414) none (.ref 180) .none)), #[]⟩
noncomputable def zo189 (P : Params) : Obj := ⟨(.type "tuple"), none, (.seq #[] 0), #[]⟩
noncomputable def zo192 (P : Params) : Obj := ⟨(.type "code"), none, (.fields #[(.str "__init__" 436), (.str "Board.__init__" 437), (.str "/claim/cut.py" 438), (.int 91 0), (.int 4 0), (.int 0 0), (.int 0 0), (.int 3 0), (.ref 189), (.bool true), (.int 181 0), (.ref 190), .none, .none, .none, (.ref 191), (.int 439 0), (.int 91 0), (.str "/claim/cut.py" 440)]), #[]⟩
noncomputable def zo193 (P : Params) : Obj := ⟨(.type "function"), none, (.func (PySem.W.fnOf "__init__" "Board.__init__" (defArgs s_Board___init__) (defBody s_Board___init__) (defScope s_Board___init__) .none .none .none (.str "playboard.boards" 414) none (.ref 192) .none)), #[]⟩
noncomputable def zo194 (P : Params) : Obj := ⟨(.type "tuple"), none, (.seq #[] 0), #[]⟩
noncomputable def zo196 (P : Params) : Obj := ⟨(.type "tuple"), none, (.seq #[(.str "self" 445), (.str "square" 446)] 0), #[]⟩
noncomputable def zo197 (P : Params) : Obj := ⟨(.type "tuple"), none, (.seq #[] 0), #[]⟩
noncomputable def zo199 (P : Params) : Obj := ⟨(.type "code"), none, (.fields #[(.str "has" 442), (.str "Board.has" 443), (.str "/claim/cut.py" 444), (.int 101 0), (.int 2 0), (.int 0 0), (.int 0 0), (.int 3 0), (.ref 194), (.bool true), (.int 181 0), (.ref 195), .none, (.ref 196), (.ref 197), (.ref 198), (.int 447 0), (.int 101 0), (.str "/claim/cut.py" 448)]), #[]⟩
noncomputable def zo200 (P : Params) : Obj := ⟨(.type "function"), none, (.func (PySem.W.fnOf "has" "Board.has" (defArgs s_Board_has) (defBody s_Board_has) (defScope s_Board_has) .none .none .none (.str "playboard.boards" 414) none (.ref 199) .none)), #[]⟩
noncomputable def zo201 (P : Params) : Obj := ⟨(.type "tuple"), none, (.seq #[] 0), #[]⟩
noncomputable def zo204 (P : Params) : Obj := ⟨(.type "code"), none, (.fields #[(.str "squares" 450), (.str "Board.squares" 451), (.str "/claim/cut.py" 452), (.int 104 0), (.int 1 0), (.int 0 0), (.int 0 0), (.int 3 0), (.ref 201), (.bool true), (.int 181 0), (.ref 202), .none, .none, .none, (.ref 203), (.int 453 0), (.int 104 0), (.str "/claim/cut.py" 454)]), #[]⟩
noncomputable def zo205 (P : Params) : Obj := ⟨(.type "function"), none, (.func (PySem.W.fnOf "squares" "Board.squares" (defArgs s_Board_squares) (defBody s_Board_squares) (defScope s_Board_squares) .none .none .none (.str "playboard.boards" 414) none (.ref 204) .none)), #[]⟩
noncomputable def zo206 (P : Params) : Obj := ⟨(.type "tuple"), none, (.seq #[] 0), #[]⟩
noncomputable def zo208 (P : Params) : Obj := ⟨(.type "tuple"), none, (.seq #[(.str "self" 459), (.str "square" 460), (.str "across" 461), (.str "up" 462)] 0), #[]⟩
noncomputable def zo209 (P : Params) : Obj := ⟨(.type "tuple"), none, (.seq #[] 0), #[]⟩
noncomputable def zo211 (P : Params) : Obj := ⟨(.type "code"), none, (.fields #[(.str "moved" 456), (.str "Board.moved" 457), (.str "/claim/cut.py" 458), (.int 107 0), (.int 4 0), (.int 0 0), (.int 0 0), (.int 3 0), (.ref 206), (.bool true), (.int 181 0), (.ref 207), .none, (.ref 208), (.ref 209), (.ref 210), (.int 463 0), (.int 107 0), (.str "/claim/cut.py" 464)]), #[]⟩
noncomputable def zo212 (P : Params) : Obj := ⟨(.type "function"), none, (.func (PySem.W.fnOf "moved" "Board.moved" (defArgs s_Board_moved) (defBody s_Board_moved) (defScope s_Board_moved) .none .none .none (.str "playboard.boards" 414) none (.ref 211) .none)), #[]⟩
noncomputable def zo213 (P : Params) : Obj := ⟨(.type "tuple"), none, (.seq #[] 0), #[]⟩
noncomputable def zo215 (P : Params) : Obj := ⟨(.type "tuple"), none, (.seq #[(.str "self" 469), (.str "side" 470)] 0), #[]⟩
noncomputable def zo216 (P : Params) : Obj := ⟨(.type "tuple"), none, (.seq #[] 0), #[]⟩
noncomputable def zo218 (P : Params) : Obj := ⟨(.type "code"), none, (.fields #[(.str "far_row" 466), (.str "Board.far_row" 467), (.str "/claim/cut.py" 468), (.int 110 0), (.int 2 0), (.int 0 0), (.int 0 0), (.int 3 0), (.ref 213), (.bool true), (.int 181 0), (.ref 214), .none, (.ref 215), (.ref 216), (.ref 217), (.int 471 0), (.int 110 0), (.str "/claim/cut.py" 472)]), #[]⟩
noncomputable def zo219 (P : Params) : Obj := ⟨(.type "function"), none, (.func (PySem.W.fnOf "far_row" "Board.far_row" (defArgs s_Board_far_row) (defBody s_Board_far_row) (defScope s_Board_far_row) .none .none .none (.str "playboard.boards" 414) none (.ref 218) .none)), #[]⟩
noncomputable def zo220 (P : Params) : Obj := ⟨(.type "tuple"), none, (.seq #[(.str "firm" 474), (.str "high" 475), (.str "holes" 476), (.str "wide" 477)] 0), #[]⟩
noncomputable def zo221 (P : Params) : Obj := ⟨(.type "dict"), none, (.dict #[⟨PyData.keyHash P "__module__", (.str "__module__" 431), (.str "playboard.boards" 414)⟩, ⟨PyData.keyHash P "__firstlineno__", (.str "__firstlineno__" 435), (.int 89 434)⟩, ⟨PyData.keyHash P "__init__", (.str "__init__" 441), (.ref 193)⟩, ⟨PyData.keyHash P "has", (.str "has" 449), (.ref 200)⟩, ⟨PyData.keyHash P "squares", (.str "squares" 455), (.ref 205)⟩, ⟨PyData.keyHash P "moved", (.str "moved" 465), (.ref 212)⟩, ⟨PyData.keyHash P "far_row", (.str "far_row" 473), (.ref 219)⟩, ⟨PyData.keyHash P "__static_attributes__", (.str "__static_attributes__" 478), (.ref 220)⟩, ⟨PyData.keyHash P "__dict__", (.str "__dict__" 480), (.ref 223)⟩, ⟨PyData.keyHash P "__weakref__", (.str "__weakref__" 482), (.ref 224)⟩, ⟨PyData.keyHash P "__doc__", (.str "__doc__" 483), .none⟩] 4), #[]⟩
noncomputable def zo222 (P : Params) : Obj := ⟨(.type "type"), none, (.cls ⟨"Board", [(.type "object")], [(.ref 222), (.type "object")], 221, "Board", true, [], [], false, none, false⟩), #[none, none, (some (.str "Board" 424)), (some (.str "Board" 432)), (some (.builtin "object.__new__")), (some (.bool true))]⟩
noncomputable def zo223 (P : Params) : Obj := ⟨(.type "getset_descriptor"), none, (.fields #[(.str "__dict__" 479), (.ref 222), (.builtin "function.__dict__"), (.builtin "function.__dict__#set")]), #[]⟩
noncomputable def zo224 (P : Params) : Obj := ⟨(.type "getset_descriptor"), none, (.fields #[(.str "__weakref__" 481), (.ref 222), (.builtin "ExceptionGroup.__weakref__"), .none]), #[]⟩
noncomputable def zo234 (P : Params) : Obj := ⟨(.type "tuple"), none, (.seq #[] 0), #[]⟩
noncomputable def zo236 (P : Params) : Obj := ⟨(.type "tuple"), none, (.seq #[(.str "self" 503), (.str "board" 504), (.str "kinds" 505), (.str "rules" 506), (.str "turns" 507), (.str "ends" 508), (.str "stuck" 509)] 0), #[]⟩
noncomputable def zo237 (P : Params) : Obj := ⟨(.type "tuple"), none, (.seq #[] 0), #[]⟩
noncomputable def zo239 (P : Params) : Obj := ⟨(.type "code"), none, (.fields #[(.str "__init__" 500), (.str "Game.__init__" 501), (.str "/claim/cut.py" 502), (.int 115 0), (.int 7 0), (.int 0 0), (.int 0 0), (.int 3 0), (.ref 234), (.bool true), (.int 181 0), (.ref 235), .none, (.ref 236), (.ref 237), (.ref 238), (.int 510 0), (.int 115 0), (.str "/claim/cut.py" 511)]), #[]⟩
noncomputable def zo240 (P : Params) : Obj := ⟨(.type "function"), none, (.func (PySem.W.fnOf "__init__" "Game.__init__" (defArgs s_Game___init__) (defBody s_Game___init__) (defScope s_Game___init__) .none .none .none (.str "playboard.games" 486) none (.ref 239) .none)), #[]⟩
noncomputable def zo241 (P : Params) : Obj := ⟨(.type "tuple"), none, (.seq #[] 0), #[]⟩
noncomputable def zo243 (P : Params) : Obj := ⟨(.type "tuple"), none, (.seq #[(.str "self" 516), (.str "kind" 517)] 0), #[]⟩
noncomputable def zo244 (P : Params) : Obj := ⟨(.type "tuple"), none, (.seq #[] 0), #[]⟩
noncomputable def zo246 (P : Params) : Obj := ⟨(.type "code"), none, (.fields #[(.str "rules_of" 513), (.str "Game.rules_of" 514), (.str "/claim/cut.py" 515), (.int 133 0), (.int 2 0), (.int 0 0), (.int 0 0), (.int 3 0), (.ref 241), (.bool true), (.int 181 0), (.ref 242), .none, (.ref 243), (.ref 244), (.ref 245), (.int 518 0), (.int 133 0), (.str "/claim/cut.py" 519)]), #[]⟩
noncomputable def zo247 (P : Params) : Obj := ⟨(.type "function"), none, (.func (PySem.W.fnOf "rules_of" "Game.rules_of" (defArgs s_Game_rules_of) (defBody s_Game_rules_of) (defScope s_Game_rules_of) .none .none .none (.str "playboard.games" 486) none (.ref 246) .none)), #[]⟩
noncomputable def zo248 (P : Params) : Obj := ⟨(.type "tuple"), none, (.seq #[] 0), #[]⟩
noncomputable def zo250 (P : Params) : Obj := ⟨(.type "tuple"), none, (.seq #[(.str "self" 524), (.str "kind" 525)] 0), #[]⟩
noncomputable def zo251 (P : Params) : Obj := ⟨(.type "tuple"), none, (.seq #[] 0), #[]⟩
noncomputable def zo253 (P : Params) : Obj := ⟨(.type "code"), none, (.fields #[(.str "turned" 521), (.str "Game.turned" 522), (.str "/claim/cut.py" 523), (.int 136 0), (.int 2 0), (.int 0 0), (.int 0 0), (.int 3 0), (.ref 248), (.bool true), (.int 181 0), (.ref 249), .none, (.ref 250), (.ref 251), (.ref 252), (.int 526 0), (.int 136 0), (.str "/claim/cut.py" 527)]), #[]⟩
noncomputable def zo254 (P : Params) : Obj := ⟨(.type "function"), none, (.func (PySem.W.fnOf "turned" "Game.turned" (defArgs s_Game_turned) (defBody s_Game_turned) (defScope s_Game_turned) .none .none .none (.str "playboard.games" 486) none (.ref 253) .none)), #[]⟩
noncomputable def zo255 (P : Params) : Obj := ⟨(.type "tuple"), none, (.seq #[(.str "board" 529), (.str "ends" 530), (.str "kinds" 531), (.str "rules" 532), (.str "stuck" 533), (.str "turns" 534)] 0), #[]⟩
noncomputable def zo256 (P : Params) : Obj := ⟨(.type "dict"), none, (.dict #[⟨PyData.keyHash P "__module__", (.str "__module__" 495), (.str "playboard.games" 486)⟩, ⟨PyData.keyHash P "__firstlineno__", (.str "__firstlineno__" 499), (.int 113 498)⟩, ⟨PyData.keyHash P "__init__", (.str "__init__" 512), (.ref 240)⟩, ⟨PyData.keyHash P "rules_of", (.str "rules_of" 520), (.ref 247)⟩, ⟨PyData.keyHash P "turned", (.str "turned" 528), (.ref 254)⟩, ⟨PyData.keyHash P "__static_attributes__", (.str "__static_attributes__" 535), (.ref 255)⟩, ⟨PyData.keyHash P "__dict__", (.str "__dict__" 537), (.ref 258)⟩, ⟨PyData.keyHash P "__weakref__", (.str "__weakref__" 539), (.ref 259)⟩, ⟨PyData.keyHash P "__doc__", (.str "__doc__" 540), .none⟩] 4), #[]⟩
noncomputable def zo257 (P : Params) : Obj := ⟨(.type "type"), none, (.cls ⟨"Game", [(.type "object")], [(.ref 257), (.type "object")], 256, "Game", true, [], [], false, none, false⟩), #[none, none, (some (.str "Game" 488)), (some (.str "Game" 496)), (some (.builtin "object.__new__")), (some (.bool true))]⟩
noncomputable def zo258 (P : Params) : Obj := ⟨(.type "getset_descriptor"), none, (.fields #[(.str "__dict__" 536), (.ref 257), (.builtin "function.__dict__"), (.builtin "function.__dict__#set")]), #[]⟩
noncomputable def zo259 (P : Params) : Obj := ⟨(.type "getset_descriptor"), none, (.fields #[(.str "__weakref__" 538), (.ref 257), (.builtin "ExceptionGroup.__weakref__"), .none]), #[]⟩
noncomputable def zo262 (P : Params) : Obj := ⟨(.type "tuple"), none, (.seq #[] 0), #[]⟩
noncomputable def zo264 (P : Params) : Obj := ⟨(.type "tuple"), none, (.seq #[(.str "_law_script" 548), (.str "_law_k" 549)] 0), #[]⟩
noncomputable def zo265 (P : Params) : Obj := ⟨(.type "tuple"), none, (.seq #[] 0), #[]⟩
noncomputable def zo267 (P : Params) : Obj := ⟨(.type "code"), none, (.fields #[(.str "_law_cell_at" 545), (.str "_law_cell_at" 546), (.str "/claim/cut.py" 547), (.int 139 0), (.int 2 0), (.int 0 0), (.int 0 0), (.int 3 0), (.ref 262), (.bool true), (.int 181 0), (.ref 263), .none, (.ref 264), (.ref 265), (.ref 266), (.int 550 0), (.int 139 0), (.str "/claim/cut.py" 551)]), #[]⟩
noncomputable def zo268 (P : Params) : Obj := ⟨(.type "function"), none, (.func (PySem.W.fnOf "_law_cell_at" "_law_cell_at" (defArgs s__law_cell_at) (defBody s__law_cell_at) (defScope s__law_cell_at) .none .none .none (.str "law_playboard_k10_places_looked_at" 543) none (.ref 267) .none)), #[]⟩
noncomputable def zo269 (P : Params) : Obj := ⟨(.type "tuple"), none, (.seq #[] 0), #[]⟩
noncomputable def zo271 (P : Params) : Obj := ⟨(.type "tuple"), none, (.seq #[(.str "_law_cell" 556), (.str "_law_k" 557)] 0), #[]⟩
noncomputable def zo272 (P : Params) : Obj := ⟨(.type "tuple"), none, (.seq #[] 0), #[]⟩
noncomputable def zo274 (P : Params) : Obj := ⟨(.type "code"), none, (.fields #[(.str "_law_mixed" 553), (.str "_law_mixed" 554), (.str "/claim/cut.py" 555), (.int 143 0), (.int 2 0), (.int 0 0), (.int 0 0), (.int 3 0), (.ref 269), (.bool true), (.int 181 0), (.ref 270), .none, (.ref 271), (.ref 272), (.ref 273), (.int 558 0), (.int 143 0), (.str "/claim/cut.py" 559)]), #[]⟩
noncomputable def zo275 (P : Params) : Obj := ⟨(.type "function"), none, (.func (PySem.W.fnOf "_law_mixed" "_law_mixed" (defArgs s__law_mixed) (defBody s__law_mixed) (defScope s__law_mixed) .none .none .none (.str "law_playboard_k10_places_looked_at" 543) none (.ref 274) .none)), #[]⟩
noncomputable def zo276 (P : Params) : Obj := ⟨(.type "tuple"), none, (.seq #[] 0), #[]⟩
noncomputable def zo278 (P : Params) : Obj := ⟨(.type "tuple"), none, (.seq #[(.str "_law_thing" 564)] 0), #[]⟩
noncomputable def zo279 (P : Params) : Obj := ⟨(.type "tuple"), none, (.seq #[] 0), #[]⟩
noncomputable def zo281 (P : Params) : Obj := ⟨(.type "code"), none, (.fields #[(.str "_law_whole" 561), (.str "_law_whole" 562), (.str "/claim/cut.py" 563), (.int 145 0), (.int 1 0), (.int 0 0), (.int 0 0), (.int 3 0), (.ref 276), (.bool true), (.int 181 0), (.ref 277), .none, (.ref 278), (.ref 279), (.ref 280), (.int 565 0), (.int 145 0), (.str "/claim/cut.py" 566)]), #[]⟩
noncomputable def zo282 (P : Params) : Obj := ⟨(.type "function"), none, (.func (PySem.W.fnOf "_law_whole" "_law_whole" (defArgs s__law_whole) (defBody s__law_whole) (defScope s__law_whole) .none .none .none (.str "law_playboard_k10_places_looked_at" 543) none (.ref 281) .none)), #[]⟩
noncomputable def zo283 (P : Params) : Obj := ⟨(.type "tuple"), none, (.seq #[] 0), #[]⟩
noncomputable def zo285 (P : Params) : Obj := ⟨(.type "tuple"), none, (.seq #[(.str "_law_script" 571), (.str "_law_cell" 572), (.str "_law_wide" 573), (.str "_law_high" 574), (.str "_law_holes" 575), (.str "_law_k" 576), (.str "_law_hole" 577)] 0), #[]⟩
noncomputable def zo286 (P : Params) : Obj := ⟨(.type "tuple"), none, (.seq #[] 0), #[]⟩
noncomputable def zo288 (P : Params) : Obj := ⟨(.type "code"), none, (.fields #[(.str "_law_board" 568), (.str "_law_board" 569), (.str "/claim/cut.py" 570), (.int 147 0), (.int 1 0), (.int 0 0), (.int 0 0), (.int 3 0), (.ref 283), (.bool true), (.int 181 0), (.ref 284), .none, (.ref 285), (.ref 286), (.ref 287), (.int 578 0), (.int 147 0), (.str "/claim/cut.py" 579)]), #[]⟩
noncomputable def zo289 (P : Params) : Obj := ⟨(.type "function"), none, (.func (PySem.W.fnOf "_law_board" "_law_board" (defArgs s__law_board) (defBody s__law_board) (defScope s__law_board) .none .none .none (.str "law_playboard_k10_places_looked_at" 543) none (.ref 288) .none)), #[]⟩
noncomputable def zo290 (P : Params) : Obj := ⟨(.type "tuple"), none, (.seq #[] 0), #[]⟩
noncomputable def zo293 (P : Params) : Obj := ⟨(.type "code"), none, (.fields #[(.str "_law_kinds" 581), (.str "_law_kinds" 582), (.str "/claim/cut.py" 583), (.int 161 0), (.int 1 0), (.int 0 0), (.int 0 0), (.int 3 0), (.ref 290), (.bool true), (.int 181 0), (.ref 291), .none, .none, .none, (.ref 292), (.int 584 0), (.int 161 0), (.str "/claim/cut.py" 585)]), #[]⟩
noncomputable def zo294 (P : Params) : Obj := ⟨(.type "function"), none, (.func (PySem.W.fnOf "_law_kinds" "_law_kinds" (defArgs s__law_kinds) (defBody s__law_kinds) (defScope s__law_kinds) .none .none .none (.str "law_playboard_k10_places_looked_at" 543) none (.ref 293) .none)), #[]⟩
noncomputable def zo295 (P : Params) : Obj := ⟨(.type "tuple"), none, (.seq #[] 0), #[]⟩
noncomputable def zo298 (P : Params) : Obj := ⟨(.type "code"), none, (.fields #[(.str "_law_empty" 587), (.str "_law_empty" 588), (.str "/claim/cut.py" 589), (.int 165 0), (.int 3 0), (.int 0 0), (.int 0 0), (.int 3 0), (.ref 295), (.bool true), (.int 181 0), (.ref 296), .none, .none, .none, (.ref 297), (.int 590 0), (.int 165 0), (.str "/claim/cut.py" 591)]), #[]⟩
noncomputable def zo299 (P : Params) : Obj := ⟨(.type "function"), none, (.func (PySem.W.fnOf "_law_empty" "_law_empty" (defArgs s__law_empty) (defBody s__law_empty) (defScope s__law_empty) .none .none .none (.str "law_playboard_k10_places_looked_at" 543) none (.ref 298) .none)), #[]⟩
noncomputable def zo300 (P : Params) : Obj := ⟨(.type "tuple"), none, (.seq #[] 0), #[]⟩
noncomputable def zo303 (P : Params) : Obj := ⟨(.type "code"), none, (.fields #[(.str "_law_row" 593), (.str "_law_row" 594), (.str "/claim/cut.py" 595), (.int 167 0), (.int 3 0), (.int 0 0), (.int 0 0), (.int 3 0), (.ref 300), (.bool true), (.int 181 0), (.ref 301), .none, .none, .none, (.ref 302), (.int 596 0), (.int 167 0), (.str "/claim/cut.py" 597)]), #[]⟩
noncomputable def zo304 (P : Params) : Obj := ⟨(.type "function"), none, (.func (PySem.W.fnOf "_law_row" "_law_row" (defArgs s__law_row) (defBody s__law_row) (defScope s__law_row) .none .none .none (.str "law_playboard_k10_places_looked_at" 543) none (.ref 303) .none)), #[]⟩
noncomputable def zo305 (P : Params) : Obj := ⟨(.type "tuple"), none, (.seq #[] 0), #[]⟩
noncomputable def zo307 (P : Params) : Obj := ⟨(.type "tuple"), none, (.seq #[(.str "_law_row_here" 602), (.str "_law_cell" 603), (.str "_law_at" 604), (.str "_law_letter" 605), (.str "_law_other" 606), (.str "_law_kind" 607), (.str "_law_sign" 608)] 0), #[]⟩
noncomputable def zo308 (P : Params) : Obj := ⟨(.type "tuple"), none, (.seq #[] 0), #[]⟩
noncomputable def zo310 (P : Params) : Obj := ⟨(.type "code"), none, (.fields #[(.str "_law_odd_row" 599), (.str "_law_odd_row" 600), (.str "/claim/cut.py" 601), (.int 183 0), (.int 2 0), (.int 0 0), (.int 0 0), (.int 3 0), (.ref 305), (.bool true), (.int 181 0), (.ref 306), .none, (.ref 307), (.ref 308), (.ref 309), (.int 609 0), (.int 183 0), (.str "/claim/cut.py" 610)]), #[]⟩
noncomputable def zo311 (P : Params) : Obj := ⟨(.type "function"), none, (.func (PySem.W.fnOf "_law_odd_row" "_law_odd_row" (defArgs s__law_odd_row) (defBody s__law_odd_row) (defScope s__law_odd_row) .none .none .none (.str "law_playboard_k10_places_looked_at" 543) none (.ref 310) .none)), #[]⟩
noncomputable def zo312 (P : Params) : Obj := ⟨(.type "tuple"), none, (.seq #[] 0), #[]⟩
noncomputable def zo314 (P : Params) : Obj := ⟨(.type "tuple"), none, (.seq #[(.str "_law_row_here" 615), (.str "_law_side" 616), (.str "_law_cell" 617), (.str "_law_kind" 618), (.str "_law_more" 619)] 0), #[]⟩
noncomputable def zo315 (P : Params) : Obj := ⟨(.type "tuple"), none, (.seq #[] 0), #[]⟩
noncomputable def zo317 (P : Params) : Obj := ⟨(.type "code"), none, (.fields #[(.str "_law_odd" 612), (.str "_law_odd" 613), (.str "/claim/cut.py" 614), (.int 194 0), (.int 3 0), (.int 0 0), (.int 0 0), (.int 3 0), (.ref 312), (.bool true), (.int 181 0), (.ref 313), .none, (.ref 314), (.ref 315), (.ref 316), (.int 620 0), (.int 194 0), (.str "/claim/cut.py" 621)]), #[]⟩
noncomputable def zo318 (P : Params) : Obj := ⟨(.type "function"), none, (.func (PySem.W.fnOf "_law_odd" "_law_odd" (defArgs s__law_odd) (defBody s__law_odd) (defScope s__law_odd) .none .none .none (.str "law_playboard_k10_places_looked_at" 543) none (.ref 317) .none)), #[]⟩
noncomputable def zo319 (P : Params) : Obj := ⟨(.type "tuple"), none, (.seq #[] 0), #[]⟩
noncomputable def zo322 (P : Params) : Obj := ⟨(.type "code"), none, (.fields #[(.str "_law_good" 623), (.str "_law_good" 624), (.str "/claim/cut.py" 625), (.int 210 0), (.int 5 0), (.int 0 0), (.int 0 0), (.int 3 0), (.ref 319), (.bool true), (.int 181 0), (.ref 320), .none, .none, .none, (.ref 321), (.int 626 0), (.int 210 0), (.str "/claim/cut.py" 627)]), #[]⟩
noncomputable def zo323 (P : Params) : Obj := ⟨(.type "function"), none, (.func (PySem.W.fnOf "_law_good" "_law_good" (defArgs s__law_good) (defBody s__law_good) (defScope s__law_good) .none .none .none (.str "law_playboard_k10_places_looked_at" 543) none (.ref 322) .none)), #[]⟩
noncomputable def zo324 (P : Params) : Obj := ⟨(.type "tuple"), none, (.seq #[] 0), #[]⟩
noncomputable def zo326 (P : Params) : Obj := ⟨(.type "tuple"), none, (.seq #[(.str "_law_game" 632), (.str "_law_thing" 633), (.str "_law_due" 634), (.str "_law_found" 635)] 0), #[]⟩
noncomputable def zo327 (P : Params) : Obj := ⟨(.type "tuple"), none, (.seq #[] 0), #[]⟩
noncomputable def zo329 (P : Params) : Obj := ⟨(.type "code"), none, (.fields #[(.str "_law_told" 629), (.str "_law_told" 630), (.str "/claim/cut.py" 631), (.int 222 0), (.int 3 0), (.int 0 0), (.int 0 0), (.int 3 0), (.ref 324), (.bool true), (.int 181 0), (.ref 325), .none, (.ref 326), (.ref 327), (.ref 328), (.int 636 0), (.int 222 0), (.str "/claim/cut.py" 637)]), #[]⟩
noncomputable def zo330 (P : Params) : Obj := ⟨(.type "function"), none, (.func (PySem.W.fnOf "_law_told" "_law_told" (defArgs s__law_told) (defBody s__law_told) (defScope s__law_told) .none .none .none (.str "law_playboard_k10_places_looked_at" 543) none (.ref 329) .none)), #[]⟩
noncomputable def zo331 (P : Params) : Obj := ⟨(.type "tuple"), none, (.seq #[] 0), #[]⟩
noncomputable def zo333 (P : Params) : Obj := ⟨(.type "tuple"), none, (.seq #[(.str "_law_script" 642), (.str "_law_wide" 643), (.str "_law_high" 644), (.str "_law_holes" 645), (.str "_law_kinds_here" 646), (.str "_law_game" 647), (.str "_law_row_here" 648), (.str "_law_side" 649), (.str "_law_things" 650), (.str "_law_k" 651), (.str "_law_cell" 652), (.str "_law_thing" 653)] 0), #[]⟩
noncomputable def zo334 (P : Params) : Obj := ⟨(.type "tuple"), none, (.seq #[] 0), #[]⟩
noncomputable def zo336 (P : Params) : Obj := ⟨(.type "code"), none, (.fields #[(.str "law" 639), (.str "law" 640), (.str "/claim/cut.py" 641), (.int 225 0), (.int 1 0), (.int 0 0), (.int 0 0), (.int 3 0), (.ref 331), (.bool true), (.int 181 0), (.ref 332), .none, (.ref 333), (.ref 334), (.ref 335), (.int 654 0), (.int 225 0), (.str "/claim/cut.py" 655)]), #[]⟩
noncomputable def zo337 (P : Params) : Obj := ⟨(.type "function"), none, (.func (PySem.W.fnOf "law" "law" (defArgs s_law) (defBody s_law) (defScope s_law) .none .none .none (.str "law_playboard_k10_places_looked_at" 543) none (.ref 336) .none)), #[]⟩
noncomputable def hK (P : Params) : PySem.W.Frag := (nat_lit 2, zo2 P) :: (nat_lit 3, zo3 P) :: (nat_lit 15, zo15 P) :: (nat_lit 17, zo17 P) :: (nat_lit 18, zo18 P) :: (nat_lit 20, zo20 P) :: (nat_lit 21, zo21 P) :: (nat_lit 22, zo22 P) :: (nat_lit 24, zo24 P) :: (nat_lit 25, zo25 P) :: (nat_lit 27, zo27 P) :: (nat_lit 28, zo28 P) :: (nat_lit 29, zo29 P) :: (nat_lit 31, zo31 P) :: (nat_lit 32, zo32 P) :: (nat_lit 34, zo34 P) :: (nat_lit 35, zo35 P) :: (nat_lit 36, zo36 P) :: (nat_lit 38, zo38 P) :: (nat_lit 39, zo39 P) :: (nat_lit 41, zo41 P) :: (nat_lit 42, zo42 P) :: (nat_lit 43, zo43 P) :: (nat_lit 44, zo44 P) :: (nat_lit 45, zo45 P) :: (nat_lit 46, zo46 P) :: (nat_lit 47, zo47 P) :: (nat_lit 49, zo49 P) :: (nat_lit 50, zo50 P) :: (nat_lit 52, zo52 P) :: (nat_lit 53, zo53 P) :: (nat_lit 54, zo54 P) :: (nat_lit 56, zo56 P) :: (nat_lit 57, zo57 P) :: (nat_lit 59, zo59 P) :: (nat_lit 60, zo60 P) :: (nat_lit 61, zo61 P) :: (nat_lit 63, zo63 P) :: (nat_lit 64, zo64 P) :: (nat_lit 66, zo66 P) :: (nat_lit 67, zo67 P) :: (nat_lit 68, zo68 P) :: (nat_lit 70, zo70 P) :: (nat_lit 71, zo71 P) :: (nat_lit 73, zo73 P) :: (nat_lit 74, zo74 P) :: (nat_lit 75, zo75 P) :: (nat_lit 77, zo77 P) :: (nat_lit 78, zo78 P) :: (nat_lit 80, zo80 P) :: (nat_lit 81, zo81 P) :: (nat_lit 82, zo82 P) :: (nat_lit 84, zo84 P) :: (nat_lit 85, zo85 P) :: (nat_lit 87, zo87 P) :: (nat_lit 88, zo88 P) :: (nat_lit 89, zo89 P) :: (nat_lit 92, zo92 P) :: (nat_lit 93, zo93 P) :: (nat_lit 94, zo94 P) :: (nat_lit 97, zo97 P) :: (nat_lit 98, zo98 P) :: (nat_lit 99, zo99 P) :: (nat_lit 101, zo101 P) :: (nat_lit 102, zo102 P) :: (nat_lit 104, zo104 P) :: (nat_lit 105, zo105 P) :: (nat_lit 106, zo106 P) :: (nat_lit 109, zo109 P) :: (nat_lit 110, zo110 P) :: (nat_lit 111, zo111 P) :: (nat_lit 114, zo114 P) :: (nat_lit 115, zo115 P) :: (nat_lit 116, zo116 P) :: (nat_lit 118, zo118 P) :: (nat_lit 119, zo119 P) :: (nat_lit 121, zo121 P) :: (nat_lit 122, zo122 P) :: (nat_lit 123, zo123 P) :: (nat_lit 126, zo126 P) :: (nat_lit 127, zo127 P) :: (nat_lit 128, zo128 P) :: (nat_lit 131, zo131 P) :: (nat_lit 132, zo132 P) :: (nat_lit 133, zo133 P) :: (nat_lit 135, zo135 P) :: (nat_lit 136, zo136 P) :: (nat_lit 138, zo138 P) :: (nat_lit 139, zo139 P) :: (nat_lit 140, zo140 P) :: (nat_lit 147, zo147 P) :: (nat_lit 148, zo148 P) :: (nat_lit 149, zo149 P) :: (nat_lit 150, zo150 P) :: (nat_lit 153, zo153 P) :: (nat_lit 160, zo160 P) :: (nat_lit 161, zo161 P) :: (nat_lit 162, zo162 P) :: (nat_lit 165, zo165 P) :: (nat_lit 172, zo172 P) :: (nat_lit 173, zo173 P) :: (nat_lit 174, zo174 P) :: (nat_lit 177, zo177 P) :: (nat_lit 180, zo180 P) :: (nat_lit 181, zo181 P) :: (nat_lit 189, zo189 P) :: (nat_lit 192, zo192 P) :: (nat_lit 193, zo193 P) :: (nat_lit 194, zo194 P) :: (nat_lit 196, zo196 P) :: (nat_lit 197, zo197 P) :: (nat_lit 199, zo199 P) :: (nat_lit 200, zo200 P) :: (nat_lit 201, zo201 P) :: (nat_lit 204, zo204 P) :: (nat_lit 205, zo205 P) :: (nat_lit 206, zo206 P) :: (nat_lit 208, zo208 P) :: (nat_lit 209, zo209 P) :: (nat_lit 211, zo211 P) :: (nat_lit 212, zo212 P) :: (nat_lit 213, zo213 P) :: (nat_lit 215, zo215 P) :: (nat_lit 216, zo216 P) :: (nat_lit 218, zo218 P) :: (nat_lit 219, zo219 P) :: (nat_lit 220, zo220 P) :: (nat_lit 221, zo221 P) :: (nat_lit 222, zo222 P) :: (nat_lit 223, zo223 P) :: (nat_lit 224, zo224 P) :: (nat_lit 234, zo234 P) :: (nat_lit 236, zo236 P) :: (nat_lit 237, zo237 P) :: (nat_lit 239, zo239 P) :: (nat_lit 240, zo240 P) :: (nat_lit 241, zo241 P) :: (nat_lit 243, zo243 P) :: (nat_lit 244, zo244 P) :: (nat_lit 246, zo246 P) :: (nat_lit 247, zo247 P) :: (nat_lit 248, zo248 P) :: (nat_lit 250, zo250 P) :: (nat_lit 251, zo251 P) :: (nat_lit 253, zo253 P) :: (nat_lit 254, zo254 P) :: (nat_lit 255, zo255 P) :: (nat_lit 256, zo256 P) :: (nat_lit 257, zo257 P) :: (nat_lit 258, zo258 P) :: (nat_lit 259, zo259 P) :: (nat_lit 262, zo262 P) :: (nat_lit 264, zo264 P) :: (nat_lit 265, zo265 P) :: (nat_lit 267, zo267 P) :: (nat_lit 268, zo268 P) :: (nat_lit 269, zo269 P) :: (nat_lit 271, zo271 P) :: (nat_lit 272, zo272 P) :: (nat_lit 274, zo274 P) :: (nat_lit 275, zo275 P) :: (nat_lit 276, zo276 P) :: (nat_lit 278, zo278 P) :: (nat_lit 279, zo279 P) :: (nat_lit 281, zo281 P) :: (nat_lit 282, zo282 P) :: (nat_lit 283, zo283 P) :: (nat_lit 285, zo285 P) :: (nat_lit 286, zo286 P) :: (nat_lit 288, zo288 P) :: (nat_lit 289, zo289 P) :: (nat_lit 290, zo290 P) :: (nat_lit 293, zo293 P) :: (nat_lit 294, zo294 P) :: (nat_lit 295, zo295 P) :: (nat_lit 298, zo298 P) :: (nat_lit 299, zo299 P) :: (nat_lit 300, zo300 P) :: (nat_lit 303, zo303 P) :: (nat_lit 304, zo304 P) :: (nat_lit 305, zo305 P) :: (nat_lit 307, zo307 P) :: (nat_lit 308, zo308 P) :: (nat_lit 310, zo310 P) :: (nat_lit 311, zo311 P) :: (nat_lit 312, zo312 P) :: (nat_lit 314, zo314 P) :: (nat_lit 315, zo315 P) :: (nat_lit 317, zo317 P) :: (nat_lit 318, zo318 P) :: (nat_lit 319, zo319 P) :: (nat_lit 322, zo322 P) :: (nat_lit 323, zo323 P) :: (nat_lit 324, zo324 P) :: (nat_lit 326, zo326 P) :: (nat_lit 327, zo327 P) :: (nat_lit 329, zo329 P) :: (nat_lit 330, zo330 P) :: (nat_lit 331, zo331 P) :: (nat_lit 333, zo333 P) :: (nat_lit 334, zo334 P) :: (nat_lit 336, zo336 P) :: (nat_lit 337, zo337 P) :: []
noncomputable def hA : List Addr := nat_lit 2 :: nat_lit 3 :: nat_lit 15 :: nat_lit 17 :: nat_lit 18 :: nat_lit 20 :: nat_lit 21 :: nat_lit 22 :: nat_lit 24 :: nat_lit 25 :: nat_lit 27 :: nat_lit 28 :: nat_lit 29 :: nat_lit 31 :: nat_lit 32 :: nat_lit 34 :: nat_lit 35 :: nat_lit 36 :: nat_lit 38 :: nat_lit 39 :: nat_lit 41 :: nat_lit 42 :: nat_lit 43 :: nat_lit 44 :: nat_lit 45 :: nat_lit 46 :: nat_lit 47 :: nat_lit 49 :: nat_lit 50 :: nat_lit 52 :: nat_lit 53 :: nat_lit 54 :: nat_lit 56 :: nat_lit 57 :: nat_lit 59 :: nat_lit 60 :: nat_lit 61 :: nat_lit 63 :: nat_lit 64 :: nat_lit 66 :: nat_lit 67 :: nat_lit 68 :: nat_lit 70 :: nat_lit 71 :: nat_lit 73 :: nat_lit 74 :: nat_lit 75 :: nat_lit 77 :: nat_lit 78 :: nat_lit 80 :: nat_lit 81 :: nat_lit 82 :: nat_lit 84 :: nat_lit 85 :: nat_lit 87 :: nat_lit 88 :: nat_lit 89 :: nat_lit 92 :: nat_lit 93 :: nat_lit 94 :: nat_lit 97 :: nat_lit 98 :: nat_lit 99 :: nat_lit 101 :: nat_lit 102 :: nat_lit 104 :: nat_lit 105 :: nat_lit 106 :: nat_lit 109 :: nat_lit 110 :: nat_lit 111 :: nat_lit 114 :: nat_lit 115 :: nat_lit 116 :: nat_lit 118 :: nat_lit 119 :: nat_lit 121 :: nat_lit 122 :: nat_lit 123 :: nat_lit 126 :: nat_lit 127 :: nat_lit 128 :: nat_lit 131 :: nat_lit 132 :: nat_lit 133 :: nat_lit 135 :: nat_lit 136 :: nat_lit 138 :: nat_lit 139 :: nat_lit 140 :: nat_lit 147 :: nat_lit 148 :: nat_lit 149 :: nat_lit 150 :: nat_lit 153 :: nat_lit 160 :: nat_lit 161 :: nat_lit 162 :: nat_lit 165 :: nat_lit 172 :: nat_lit 173 :: nat_lit 174 :: nat_lit 177 :: nat_lit 180 :: nat_lit 181 :: nat_lit 189 :: nat_lit 192 :: nat_lit 193 :: nat_lit 194 :: nat_lit 196 :: nat_lit 197 :: nat_lit 199 :: nat_lit 200 :: nat_lit 201 :: nat_lit 204 :: nat_lit 205 :: nat_lit 206 :: nat_lit 208 :: nat_lit 209 :: nat_lit 211 :: nat_lit 212 :: nat_lit 213 :: nat_lit 215 :: nat_lit 216 :: nat_lit 218 :: nat_lit 219 :: nat_lit 220 :: nat_lit 221 :: nat_lit 222 :: nat_lit 223 :: nat_lit 224 :: nat_lit 234 :: nat_lit 236 :: nat_lit 237 :: nat_lit 239 :: nat_lit 240 :: nat_lit 241 :: nat_lit 243 :: nat_lit 244 :: nat_lit 246 :: nat_lit 247 :: nat_lit 248 :: nat_lit 250 :: nat_lit 251 :: nat_lit 253 :: nat_lit 254 :: nat_lit 255 :: nat_lit 256 :: nat_lit 257 :: nat_lit 258 :: nat_lit 259 :: nat_lit 262 :: nat_lit 264 :: nat_lit 265 :: nat_lit 267 :: nat_lit 268 :: nat_lit 269 :: nat_lit 271 :: nat_lit 272 :: nat_lit 274 :: nat_lit 275 :: nat_lit 276 :: nat_lit 278 :: nat_lit 279 :: nat_lit 281 :: nat_lit 282 :: nat_lit 283 :: nat_lit 285 :: nat_lit 286 :: nat_lit 288 :: nat_lit 289 :: nat_lit 290 :: nat_lit 293 :: nat_lit 294 :: nat_lit 295 :: nat_lit 298 :: nat_lit 299 :: nat_lit 300 :: nat_lit 303 :: nat_lit 304 :: nat_lit 305 :: nat_lit 307 :: nat_lit 308 :: nat_lit 310 :: nat_lit 311 :: nat_lit 312 :: nat_lit 314 :: nat_lit 315 :: nat_lit 317 :: nat_lit 318 :: nat_lit 319 :: nat_lit 322 :: nat_lit 323 :: nat_lit 324 :: nat_lit 326 :: nat_lit 327 :: nat_lit 329 :: nat_lit 330 :: nat_lit 331 :: nat_lit 333 :: nat_lit 334 :: nat_lit 336 :: nat_lit 337 :: []
noncomputable def hE : Env := { scope := hP.main.scope, locals := mainNs, globals := mainNs, cells := [], code := (.ref 13), frame := some 14 }
noncomputable def hB : List Stmt := PySem.W.behindTheImports hP
noncomputable abbrev hC : Code := .body hB hE
noncomputable abbrev hN : Option Value := (some (.ref 6))
noncomputable abbrev hF : List Frame := [PySem.W.topFrame ⟨0, 0, 0, 0⟩]
noncomputable def hS (w : World) (os : OsState) : Shared := ⟨PySem.W.boot_heap w.params, Array.mk [], PySem.W.boot_drawn, PySem.W.boot_toks, os⟩
noncomputable def hSa (w : World) (os : OsState) : Shared := (PySem.W.topGo treeTable hP w 11 hN 12 (hS w os) (PySem.W.topStub hP)).elim (hS w os) fun x => x.1
noncomputable def hSb (w : World) (os : OsState) : PySem.W.SharedT := toT ((PySem.W.segRun treeTable hP w 11 hN 1 1 (hSa w os) (PySem.W.blockOf hB hE hC ⟨0, 0, 0, 0⟩ hF)).elim (hSa w os) fun x => x.2.1)
theorem hpre (w : World) (os : OsState) : PySem.W.topGo treeTable hP w 11 hN 12 (hS w os) (PySem.W.topStub hP) = some (hSa w os, ⟨denote treeTable hC, hC, ⟨0, 0, 0, 0⟩, hF⟩) := by kernel_rfl
theorem hblk (w : World) (os : OsState) : PySem.W.segRun treeTable hP w 11 hN 1 1 (hSa w os) (PySem.W.blockOf hB hE hC ⟨0, 0, 0, 0⟩ hF) = some (.next, (hSb w os).abs, hC, ⟨0, 0, 0, 0⟩) := by kernel_rfl
noncomputable def hSc (sr : (String → Option Builtin) → Program → World → Nat → Option Value → Nat → Nat → PySem.W.SharedT → Thread → Option (Flow × PySem.W.SharedT × Code × Pos)) (ex : List Stmt → Env → Sem Flow) (tb : String → Option Builtin) (w : World) (os : OsState) : PySem.W.SharedT :=
  (sr tb hP w 11 hN 1 2368 (hSb w os) ⟨(ex hB hE).wrap PySem.W.doneF PySem.W.deadEnd id id, hC, ⟨0, 0, 0, 0⟩, hF⟩).elim (hSb w os) fun x => x.2.1
noncomputable def hSf (tr : (String → Option Builtin) → Program → World → Nat → Option Value → Nat → Shared → Thread → Option Shared) (sr : (String → Option Builtin) → Program → World → Nat → Option Value → Nat → Nat → PySem.W.SharedT → Thread → Option (Flow × PySem.W.SharedT × Code × Pos)) (ex : List Stmt → Env → Sem Flow) (tb : String → Option Builtin) (w : World) (os : OsState) : Shared :=
  (tr tb hP w 11 hN 2 (hSc sr ex tb w os).abs ⟨PySem.W.doneF .next, hC, ⟨225, 0, 237, 138⟩, hF⟩).elim (hS w os) id
noncomputable def hX (s : Shared) : Bool := PySem.W.xlAt hQ [] s && PySem.W.recOk (PySem.W.RowW.records PySem.Challenge.rw_playboard_k10_places_looked_at.row.toRowW) s
theorem hrun (w : World) : (fun os => (PySem.W.segRunT treeTable hP w 11 hN 1 2368 (hSb w os) ⟨(execs hB hE).wrap PySem.W.doneF PySem.W.deadEnd id id, hC, ⟨0, 0, 0, 0⟩, hF⟩, PySem.W.topRun treeTable hP w 11 hN 2 (hSc PySem.W.segRunT execs treeTable w os).abs ⟨PySem.W.doneF .next, hC, ⟨225, 0, 237, 138⟩, hF⟩, ((PySem.W.staticsOk (importedModules hP.main.body) (PySem.W.boot_heap w.params) (hSf PySem.W.topRun PySem.W.segRunT execs treeTable w os).heap && PySem.W.namesBound hP (hSf PySem.W.topRun PySem.W.segRunT execs treeTable w os).heap && PySem.W.gensDone (hSf PySem.W.topRun PySem.W.segRunT execs treeTable w os) && PySem.W.laidKept (PySem.W.boot_heap w.params) (hSf PySem.W.topRun PySem.W.segRunT execs treeTable w os).heap), PySem.W.openSeen hQ [] (importedModules hP.main.body) hX true (hSf PySem.W.topRun PySem.W.segRunT execs treeTable w os), hookF hA (hSf PySem.W.topRun PySem.W.segRunT execs treeTable w os)))) = fun os => (some (Flow.next, (hSc PySem.W.segRunT execs treeTable w os), hC, ⟨225, 0, 237, 138⟩), some (hSf PySem.W.topRun PySem.W.segRunT execs treeTable w os), (true, PySem.W.openGood hQ [], hookV hK w)) := by
  rw [PySem.W.Fast.te10110043849684766642, PySem.W.Fast.te12563942051412417395, PySem.W.Fast.te14364793385576792824, PySem.W.Fast.te14082659384304107361, PySem.W.Fast.te4187177175401517315, PySem.W.Fast.te5923862056798008813]
  kernel_rfl
theorem hleft : PySem.W.LeftO hP hQ [] hX (hookF hA) (hookV hK) 4860 :=
  left_own (n0 := 12) (nb := 1) (n := 2368) (nf := 2) (qp := ⟨0, 0, 0, 0⟩) (p0 := ⟨0, 0, 0, 0⟩) (p1 := ⟨0, 0, 0, 0⟩) (p2 := ⟨225, 0, 237, 138⟩) (H₀ := PySem.W.boot_heap) (m₀ := 11) (ann := hN) (b := hB) (env := hE) (sa := hSa) (sb := hSb) (sc := fun w os => (hSc PySem.W.segRunT execs treeTable w os)) (sf := fun w os => (hSf PySem.W.topRun PySem.W.segRunT execs treeTable w os))
    (PySem.W.boot_open (by kernel_rfl) (by decide +kernel) (fun s => by kernel_rfl)) (fun w => by kernel_rfl) hpre hblk (fun w os => congrArg (fun x => x.1) (congrFun (hrun w) os)) (fun w os => congrArg (fun x => x.2.1) (congrFun (hrun w) os)) (by decide +kernel) (fun w os => congrArg (fun x => x.2.2) (congrFun (hrun w) os))
end K10
local macro_rules | `(tactic| walk_at "rd") => `(tactic| simp only [L2.tSeq, L2.tIfS, L2.tRet, L2.tAsg, L2.gName, L2.tNext, L2.tDrop, L2.cVar, L2.tC, L2.cBin, L2.cCmp, L2.cTest, L2.cAndV, L2.cOrV, L2.cNotV, L2.cNeg, L2.cIs, L2.cIx, L2.cSl, L2.cPart, L2.tNoPart, L2.cB, L2.tCons, L2.cCs, L2.tNil, L2.cSM, L2.cSM0, L2.cCall, L2.tNot, L2.tAnd, L2.tOr, L2.tIf, L2.cChain, L2.cChainT, L2.r_eq_int, L2.r_ne_int, L2.r_eq_str, L2.r_ne_str, L2.r_eq_bl, L2.r_ne_bl, L2.r_eq_nn, L2.r_ne_nn, L2.r_eq_int_str, L2.r_ne_int_str, L2.r_eq_int_non, L2.r_ne_int_non, L2.r_eq_str_int, L2.r_ne_str_int, L2.r_eq_str_bl, L2.r_ne_str_bl, L2.r_eq_str_non, L2.r_ne_str_non, L2.r_eq_bl_str, L2.r_ne_bl_str, L2.r_eq_bl_non, L2.r_ne_bl_non, L2.r_eq_non_int, L2.r_ne_non_int, L2.r_eq_non_str, L2.r_ne_non_str, L2.r_eq_non_bl, L2.r_ne_non_bl, L2.r_eq_rr, L2.r_ne_rr, L2.r_lt_int, L2.r_lte_int, L2.r_gt_int, L2.r_gte_int, L2.r_lt_str, L2.r_lte_str, L2.r_in_str, L2.r_notin_str, L2.r_in_int_ref, L2.r_notin_int_ref, L2.r_is_int, L2.r_isnot_int, L2.r_in_str_ref, L2.r_notin_str_ref, L2.r_is_str, L2.r_isnot_str, L2.r_in_bl_ref, L2.r_notin_bl_ref, L2.r_is_bl, L2.r_isnot_bl, L2.r_in_non_ref, L2.r_notin_non_ref, L2.r_is_non, L2.r_isnot_non, L2.r_in_ref_ref, L2.r_notin_ref_ref, L2.r_is_ref, L2.r_isnot_ref, L2.r_add, L2.r_adds, L2.r_addr, L2.r_sub, L2.r_mul, L2.r_fdiv, L2.r_mod, L2.r_pow, L2.r_ixs, L2.r_ixr, L2.r_sls, L2.r_slr, L2.r_lens, L2.r_lenr, L2.r_min, L2.r_str, L2.r_ints, L2.r_intb, L2.r_all, L2.r_sw, L2.r_join, L2.r_up, L2.r_isa_non, L2.r_isa_bl, L2.r_isa_int, L2.r_isa_str, L2.r_b, List.getElem?_cons_zero, List.getElem?_cons_succ, List.set_cons_zero, List.set_cons_succ, List.length_map, Bool.not_true, Bool.not_false, Bool.false_eq_true, if_true, if_false, decide_true, decide_false])
namespace K10
open PySem L2
theorem all_mk {l : PySem.W.OpenLaw} {w : World} {K : PySem.W.Frag} {h : Heap} {mg : Str → Option Value} {fa f1 f2 f3 f4 f5 f6 f7 f8 f9 f10 f11 f12 f13 f14 f15 f16 f17 f18 f19 f20 f21 f22 f23 f24 f25 f26 f27 f28 f29 f30 f31 f32 f33 f34 cBoard cGame aS aA aE aW : Addr} (X : K.In h) (G : h.Ns mainGlobals mg) (hfa : mg "law" = some (.ref fa))
    {od1 an1 od2 an2 od3 an3 od4 an4 od5 an5 od6 an6 od7 an7 od8 an8 od9 an9 od10 an10 od11 an11 od12 an12 od13 an13 od14 an14 od15 an15 od16 an16 od17 an17 od18 an18 od19 an19 od20 an20 od21 an21 od22 an22 od23 an23 od24 an24 od25 an25 od26 an26 od27 an27 od28 an28 od29 an29 od30 an30 od31 an31 od32 an32 od33 an33 od34 an34 : Option Addr} {sl1 sl2 sl3 sl4 sl5 sl6 sl7 sl8 sl9 sl10 sl11 sl12 sl13 sl14 sl15 sl16 sl17 sl18 sl19 sl20 sl21 sl22 sl23 sl24 sl25 sl26 sl27 sl28 sl29 sl30 sl31 sl32 sl33 sl34 : Array (Option Value)} {oc1 kV1 dc1 pm1 cd1 ct1 oc2 kV2 dc2 pm2 cd2 ct2 oc3 kV3 dc3 pm3 cd3 ct3 oc4 kV4 dc4 pm4 cd4 ct4 oc5 kV5 dc5 pm5 cd5 ct5 oc6 kV6 dc6 pm6 cd6 ct6 oc7 kV7 dc7 pm7 cd7 ct7 oc8 kV8 dc8 pm8 cd8 ct8 oc9 kV9 dc9 pm9 cd9 ct9 oc10 kV10 dc10 pm10 cd10 ct10 oc11 kV11 dc11 pm11 cd11 ct11 oc12 kV12 dc12 pm12 cd12 ct12 oc13 kV13 dc13 pm13 cd13 ct13 oc14 kV14 dc14 pm14 cd14 ct14 oc15 kV15 dc15 pm15 cd15 ct15 oc16 kV16 dc16 pm16 cd16 ct16 oc17 kV17 dc17 pm17 cd17 ct17 oc18 kV18 dc18 pm18 cd18 ct18 oc19 kV19 dc19 pm19 cd19 ct19 oc20 kV20 dc20 pm20 cd20 ct20 oc21 kV21 dc21 pm21 cd21 ct21 oc22 kV22 dc22 pm22 cd22 ct22 oc23 kV23 dc23 pm23 cd23 ct23 oc24 kV24 dc24 pm24 cd24 ct24 oc25 kV25 dc25 pm25 cd25 ct25 oc26 kV26 dc26 pm26 cd26 ct26 oc27 kV27 dc27 pm27 cd27 ct27 oc28 kV28 dc28 pm28 cd28 ct28 oc29 kV29 dc29 pm29 cd29 ct29 oc30 kV30 dc30 pm30 cd30 ct30 oc31 kV31 dc31 pm31 cd31 ct31 oc32 kV32 dc32 pm32 cd32 ct32 oc33 kV33 dc33 pm33 cd33 ct33 oc34 kV34 dc34 pm34 cd34 ct34 : Value} {u0 u1 u2 u3 u4 u5 : Value}
    (aCBoard : PySem.W.nsIn K mainGlobals "Board" = some (some (.ref cBoard)))
    (aCGame : PySem.W.nsIn K mainGlobals "Game" = some (some (.ref cGame)))
    (a1 : PySem.W.nsIn K mainGlobals "is_whole" = some (some (.ref f1)))
    (l1 : K.lookup f1 = some ⟨oc1, od1, .func (PySem.W.fnOf "is_whole" "is_whole" (defArgs s_is_whole) (defBody s_is_whole) (defScope s_is_whole) .none kV1 dc1 pm1 an1 cd1 ct1), sl1⟩) (c1 : PySem.W.codeIn K cd1 "is_whole" = true) (k1 : PySem.W.keepIn K (.ref f1) = true)
    (a2 : PySem.W.nsIn K mainGlobals "is_letter" = some (some (.ref f2)))
    (l2 : K.lookup f2 = some ⟨oc2, od2, .func (PySem.W.fnOf "is_letter" "is_letter" (defArgs s_is_letter) (defBody s_is_letter) (defScope s_is_letter) .none kV2 dc2 pm2 an2 cd2 ct2), sl2⟩) (c2 : PySem.W.codeIn K cd2 "is_letter" = true) (k2 : PySem.W.keepIn K (.ref f2) = true)
    (a3 : PySem.W.nsIn K mainGlobals "is_among" = some (some (.ref f3)))
    (l3 : K.lookup f3 = some ⟨oc3, od3, .func (PySem.W.fnOf "is_among" "is_among" (defArgs s_is_among) (defBody s_is_among) (defScope s_is_among) .none kV3 dc3 pm3 an3 cd3 ct3), sl3⟩) (c3 : PySem.W.codeIn K cd3 "is_among" = true) (k3 : PySem.W.keepIn K (.ref f3) = true)
    (a4 : PySem.W.nsIn K mainGlobals "is_word" = some (some (.ref f4)))
    (l4 : K.lookup f4 = some ⟨oc4, od4, .func (PySem.W.fnOf "is_word" "is_word" (defArgs s_is_word) (defBody s_is_word) (defScope s_is_word) .none kV4 dc4 pm4 an4 cd4 ct4), sl4⟩) (c4 : PySem.W.codeIn K cd4 "is_word" = true) (k4 : PySem.W.keepIn K (.ref f4) = true)
    (a5 : PySem.W.nsIn K mainGlobals "is_tuple_of" = some (some (.ref f5)))
    (l5 : K.lookup f5 = some ⟨oc5, od5, .func (PySem.W.fnOf "is_tuple_of" "is_tuple_of" (defArgs s_is_tuple_of) (defBody s_is_tuple_of) (defScope s_is_tuple_of) .none kV5 dc5 pm5 an5 cd5 ct5), sl5⟩) (c5 : PySem.W.codeIn K cd5 "is_tuple_of" = true) (k5 : PySem.W.keepIn K (.ref f5) = true)
    (a6 : PySem.W.nsIn K mainGlobals "is_list_of" = some (some (.ref f6)))
    (l6 : K.lookup f6 = some ⟨oc6, od6, .func (PySem.W.fnOf "is_list_of" "is_list_of" (defArgs s_is_list_of) (defBody s_is_list_of) (defScope s_is_list_of) .none kV6 dc6 pm6 an6 cd6 ct6), sl6⟩) (c6 : PySem.W.codeIn K cd6 "is_list_of" = true) (k6 : PySem.W.keepIn K (.ref f6) = true)
    (a7 : PySem.W.nsIn K mainGlobals "is_step" = some (some (.ref f7)))
    (l7 : K.lookup f7 = some ⟨oc7, od7, .func (PySem.W.fnOf "is_step" "is_step" (defArgs s_is_step) (defBody s_is_step) (defScope s_is_step) .none kV7 dc7 pm7 an7 cd7 ct7), sl7⟩) (c7 : PySem.W.codeIn K cd7 "is_step" = true) (k7 : PySem.W.keepIn K (.ref f7) = true)
    (a8 : PySem.W.nsIn K mainGlobals "is_rule" = some (some (.ref f8)))
    (l8 : K.lookup f8 = some ⟨oc8, od8, .func (PySem.W.fnOf "is_rule" "is_rule" (defArgs s_is_rule) (defBody s_is_rule) (defScope s_is_rule) .none kV8 dc8 pm8 an8 cd8 ct8), sl8⟩) (c8 : PySem.W.codeIn K cd8 "is_rule" = true) (k8 : PySem.W.keepIn K (.ref f8) = true)
    (a9 : PySem.W.nsIn K mainGlobals "is_pair" = some (some (.ref f9)))
    (l9 : K.lookup f9 = some ⟨oc9, od9, .func (PySem.W.fnOf "is_pair" "is_pair" (defArgs s_is_pair) (defBody s_is_pair) (defScope s_is_pair) .none kV9 dc9 pm9 an9 cd9 ct9), sl9⟩) (c9 : PySem.W.codeIn K cd9 "is_pair" = true) (k9 : PySem.W.keepIn K (.ref f9) = true)
    (a10 : PySem.W.nsIn K mainGlobals "are_pairs" = some (some (.ref f10)))
    (l10 : K.lookup f10 = some ⟨oc10, od10, .func (PySem.W.fnOf "are_pairs" "are_pairs" (defArgs s_are_pairs) (defBody s_are_pairs) (defScope s_are_pairs) .none kV10 dc10 pm10 an10 cd10 ct10), sl10⟩) (c10 : PySem.W.codeIn K cd10 "are_pairs" = true) (k10 : PySem.W.keepIn K (.ref f10) = true)
    (a11 : PySem.W.nsIn K mainGlobals "is_turns" = some (some (.ref f11)))
    (l11 : K.lookup f11 = some ⟨oc11, od11, .func (PySem.W.fnOf "is_turns" "is_turns" (defArgs s_is_turns) (defBody s_is_turns) (defScope s_is_turns) .none kV11 dc11 pm11 an11 cd11 ct11), sl11⟩) (c11 : PySem.W.codeIn K cd11 "is_turns" = true) (k11 : PySem.W.keepIn K (.ref f11) = true)
    (a12 : PySem.W.nsIn K mainGlobals "is_ends" = some (some (.ref f12)))
    (l12 : K.lookup f12 = some ⟨oc12, od12, .func (PySem.W.fnOf "is_ends" "is_ends" (defArgs s_is_ends) (defBody s_is_ends) (defScope s_is_ends) .none kV12 dc12 pm12 an12 cd12 ct12), sl12⟩) (c12 : PySem.W.codeIn K cd12 "is_ends" = true) (k12 : PySem.W.keepIn K (.ref f12) = true)
    (a13 : PySem.W.nsIn K mainGlobals "are_kinds" = some (some (.ref f13)))
    (l13 : K.lookup f13 = some ⟨oc13, od13, .func (PySem.W.fnOf "are_kinds" "are_kinds" (defArgs s_are_kinds) (defBody s_are_kinds) (defScope s_are_kinds) .none kV13 dc13 pm13 an13 cd13 ct13), sl13⟩) (c13 : PySem.W.codeIn K cd13 "are_kinds" = true) (k13 : PySem.W.keepIn K (.ref f13) = true)
    (a14 : PySem.W.nsIn K mainGlobals "are_rules" = some (some (.ref f14)))
    (l14 : K.lookup f14 = some ⟨oc14, od14, .func (PySem.W.fnOf "are_rules" "are_rules" (defArgs s_are_rules) (defBody s_are_rules) (defScope s_are_rules) .none kV14 dc14 pm14 an14 cd14 ct14), sl14⟩) (c14 : PySem.W.codeIn K cd14 "are_rules" = true) (k14 : PySem.W.keepIn K (.ref f14) = true)
    (a15 : PySem.W.nsIn K mainGlobals "sign_of" = some (some (.ref f15)))
    (l15 : K.lookup f15 = some ⟨oc15, od15, .func (PySem.W.fnOf "sign_of" "sign_of" (defArgs s_sign_of) (defBody s_sign_of) (defScope s_sign_of) .none kV15 dc15 pm15 an15 cd15 ct15), sl15⟩) (c15 : PySem.W.codeIn K cd15 "sign_of" = true) (k15 : PySem.W.keepIn K (.ref f15) = true)
    (a16 : PySem.W.nsIn K mainGlobals "empty_row" = some (some (.ref f16)))
    (l16 : K.lookup f16 = some ⟨oc16, od16, .func (PySem.W.fnOf "empty_row" "empty_row" (defArgs s_empty_row) (defBody s_empty_row) (defScope s_empty_row) .none kV16 dc16 pm16 an16 cd16 ct16), sl16⟩) (c16 : PySem.W.codeIn K cd16 "empty_row" = true) (k16 : PySem.W.keepIn K (.ref f16) = true)
    (a17 : PySem.W.nsIn K mainGlobals "is_row" = some (some (.ref f17)))
    (l17 : K.lookup f17 = some ⟨oc17, od17, .func (PySem.W.fnOf "is_row" "is_row" (defArgs s_is_row) (defBody s_is_row) (defScope s_is_row) .none kV17 dc17 pm17 an17 cd17 ct17), sl17⟩) (c17 : PySem.W.codeIn K cd17 "is_row" = true) (k17 : PySem.W.keepIn K (.ref f17) = true)
    (a18 : PySem.W.nsIn K mainGlobals "is_place" = some (some (.ref f18)))
    (l18 : K.lookup f18 = some ⟨oc18, od18, .func (PySem.W.fnOf "is_place" "is_place" (defArgs s_is_place) (defBody s_is_place) (defScope s_is_place) .none kV18 dc18 pm18 an18 cd18 ct18), sl18⟩) (c18 : PySem.W.codeIn K cd18 "is_place" = true) (k18 : PySem.W.keepIn K (.ref f18) = true)
    (a19 : PySem.W.nsIn K mainGlobals "are_holes" = some (some (.ref f19)))
    (l19 : K.lookup f19 = some ⟨oc19, od19, .func (PySem.W.fnOf "are_holes" "are_holes" (defArgs s_are_holes) (defBody s_are_holes) (defScope s_are_holes) .none kV19 dc19 pm19 an19 cd19 ct19), sl19⟩) (c19 : PySem.W.codeIn K cd19 "are_holes" = true) (k19 : PySem.W.keepIn K (.ref f19) = true)
    (a20 : PySem.W.findIn K (.ref cBoard) "__init__" = some (some (.ref f20))) (iF20 : PySem.W.isFn K (.ref f20) = true)
    (l20 : K.lookup f20 = some ⟨oc20, od20, .func (PySem.W.fnOf "__init__" "Board.__init__" (defArgs s_Board___init__) (defBody s_Board___init__) (defScope s_Board___init__) .none kV20 dc20 pm20 an20 cd20 ct20), sl20⟩) (c20 : PySem.W.codeIn K cd20 "Board.__init__" = true) (k20 : PySem.W.keepIn K (.ref f20) = true)
    (a21 : PySem.W.findIn K (.ref cBoard) "has" = some (some (.ref f21))) (iF21 : PySem.W.isFn K (.ref f21) = true)
    (l21 : K.lookup f21 = some ⟨oc21, od21, .func (PySem.W.fnOf "has" "Board.has" (defArgs s_Board_has) (defBody s_Board_has) (defScope s_Board_has) .none kV21 dc21 pm21 an21 cd21 ct21), sl21⟩) (c21 : PySem.W.codeIn K cd21 "Board.has" = true) (k21 : PySem.W.keepIn K (.ref f21) = true)
    (a22 : PySem.W.findIn K (.ref cGame) "__init__" = some (some (.ref f22))) (iF22 : PySem.W.isFn K (.ref f22) = true)
    (l22 : K.lookup f22 = some ⟨oc22, od22, .func (PySem.W.fnOf "__init__" "Game.__init__" (defArgs s_Game___init__) (defBody s_Game___init__) (defScope s_Game___init__) .none kV22 dc22 pm22 an22 cd22 ct22), sl22⟩) (c22 : PySem.W.codeIn K cd22 "Game.__init__" = true) (k22 : PySem.W.keepIn K (.ref f22) = true)
    (a23 : PySem.W.nsIn K mainGlobals "_law_cell_at" = some (some (.ref f23)))
    (l23 : K.lookup f23 = some ⟨oc23, od23, .func (PySem.W.fnOf "_law_cell_at" "_law_cell_at" (defArgs s__law_cell_at) (defBody s__law_cell_at) (defScope s__law_cell_at) .none kV23 dc23 pm23 an23 cd23 ct23), sl23⟩) (c23 : PySem.W.codeIn K cd23 "_law_cell_at" = true) (k23 : PySem.W.keepIn K (.ref f23) = true)
    (a24 : PySem.W.nsIn K mainGlobals "_law_mixed" = some (some (.ref f24)))
    (l24 : K.lookup f24 = some ⟨oc24, od24, .func (PySem.W.fnOf "_law_mixed" "_law_mixed" (defArgs s__law_mixed) (defBody s__law_mixed) (defScope s__law_mixed) .none kV24 dc24 pm24 an24 cd24 ct24), sl24⟩) (c24 : PySem.W.codeIn K cd24 "_law_mixed" = true) (k24 : PySem.W.keepIn K (.ref f24) = true)
    (a25 : PySem.W.nsIn K mainGlobals "_law_whole" = some (some (.ref f25)))
    (l25 : K.lookup f25 = some ⟨oc25, od25, .func (PySem.W.fnOf "_law_whole" "_law_whole" (defArgs s__law_whole) (defBody s__law_whole) (defScope s__law_whole) .none kV25 dc25 pm25 an25 cd25 ct25), sl25⟩) (c25 : PySem.W.codeIn K cd25 "_law_whole" = true) (k25 : PySem.W.keepIn K (.ref f25) = true)
    (a26 : PySem.W.nsIn K mainGlobals "_law_board" = some (some (.ref f26)))
    (l26 : K.lookup f26 = some ⟨oc26, od26, .func (PySem.W.fnOf "_law_board" "_law_board" (defArgs s__law_board) (defBody s__law_board) (defScope s__law_board) .none kV26 dc26 pm26 an26 cd26 ct26), sl26⟩) (c26 : PySem.W.codeIn K cd26 "_law_board" = true) (k26 : PySem.W.keepIn K (.ref f26) = true)
    (a27 : PySem.W.nsIn K mainGlobals "_law_kinds" = some (some (.ref f27)))
    (l27 : K.lookup f27 = some ⟨oc27, od27, .func (PySem.W.fnOf "_law_kinds" "_law_kinds" (defArgs s__law_kinds) (defBody s__law_kinds) (defScope s__law_kinds) .none kV27 dc27 pm27 an27 cd27 ct27), sl27⟩) (c27 : PySem.W.codeIn K cd27 "_law_kinds" = true) (k27 : PySem.W.keepIn K (.ref f27) = true)
    (a28 : PySem.W.nsIn K mainGlobals "_law_empty" = some (some (.ref f28)))
    (l28 : K.lookup f28 = some ⟨oc28, od28, .func (PySem.W.fnOf "_law_empty" "_law_empty" (defArgs s__law_empty) (defBody s__law_empty) (defScope s__law_empty) .none kV28 dc28 pm28 an28 cd28 ct28), sl28⟩) (c28 : PySem.W.codeIn K cd28 "_law_empty" = true) (k28 : PySem.W.keepIn K (.ref f28) = true)
    (a29 : PySem.W.nsIn K mainGlobals "_law_row" = some (some (.ref f29)))
    (l29 : K.lookup f29 = some ⟨oc29, od29, .func (PySem.W.fnOf "_law_row" "_law_row" (defArgs s__law_row) (defBody s__law_row) (defScope s__law_row) .none kV29 dc29 pm29 an29 cd29 ct29), sl29⟩) (c29 : PySem.W.codeIn K cd29 "_law_row" = true) (k29 : PySem.W.keepIn K (.ref f29) = true)
    (a30 : PySem.W.nsIn K mainGlobals "_law_odd_row" = some (some (.ref f30)))
    (l30 : K.lookup f30 = some ⟨oc30, od30, .func (PySem.W.fnOf "_law_odd_row" "_law_odd_row" (defArgs s__law_odd_row) (defBody s__law_odd_row) (defScope s__law_odd_row) .none kV30 dc30 pm30 an30 cd30 ct30), sl30⟩) (c30 : PySem.W.codeIn K cd30 "_law_odd_row" = true) (k30 : PySem.W.keepIn K (.ref f30) = true)
    (a31 : PySem.W.nsIn K mainGlobals "_law_odd" = some (some (.ref f31)))
    (l31 : K.lookup f31 = some ⟨oc31, od31, .func (PySem.W.fnOf "_law_odd" "_law_odd" (defArgs s__law_odd) (defBody s__law_odd) (defScope s__law_odd) .none kV31 dc31 pm31 an31 cd31 ct31), sl31⟩) (c31 : PySem.W.codeIn K cd31 "_law_odd" = true) (k31 : PySem.W.keepIn K (.ref f31) = true)
    (a32 : PySem.W.nsIn K mainGlobals "_law_good" = some (some (.ref f32)))
    (l32 : K.lookup f32 = some ⟨oc32, od32, .func (PySem.W.fnOf "_law_good" "_law_good" (defArgs s__law_good) (defBody s__law_good) (defScope s__law_good) .none kV32 dc32 pm32 an32 cd32 ct32), sl32⟩) (c32 : PySem.W.codeIn K cd32 "_law_good" = true) (k32 : PySem.W.keepIn K (.ref f32) = true)
    (a33 : PySem.W.nsIn K mainGlobals "_law_told" = some (some (.ref f33)))
    (l33 : K.lookup f33 = some ⟨oc33, od33, .func (PySem.W.fnOf "_law_told" "_law_told" (defArgs s__law_told) (defBody s__law_told) (defScope s__law_told) .none kV33 dc33 pm33 an33 cd33 ct33), sl33⟩) (c33 : PySem.W.codeIn K cd33 "_law_told" = true) (k33 : PySem.W.keepIn K (.ref f33) = true)
    (a34 : PySem.W.nsIn K mainGlobals "law" = some (some (.ref f34)))
    (l34 : K.lookup f34 = some ⟨oc34, od34, .func (PySem.W.fnOf "law" "law" (defArgs s_law) (defBody s_law) (defScope s_law) .none kV34 dc34 pm34 an34 cd34 ct34), sl34⟩) (c34 : PySem.W.codeIn K cd34 "law" = true) (k34 : PySem.W.keepIn K (.ref f34) = true)
    (pgXBoard : PySem.W.plainGet K cBoard Str.empty = true)
    (hdXBoard : PySem.W.hasDictIn K cBoard = true)
    (poXBoard : PySem.W.plainOver K cBoard = true)
    (saXBoard : PySem.W.findIn K (.ref cBoard) "__setattr__" = some (some (.builtin "object.__setattr__")))
    (mkXBoard : PySem.W.makesIn K cBoard = true)
    (kcXBoard : PySem.W.keepIn K (.ref cBoard) = true)
    (naBoardwide : PySem.W.findIn K (.ref cBoard) "wide" = some none)
    (naBoardhigh : PySem.W.findIn K (.ref cBoard) "high" = some none)
    (naBoardholes : PySem.W.findIn K (.ref cBoard) "holes" = some none)
    (naBoardfirm : PySem.W.findIn K (.ref cBoard) "firm" = some none)
    (pgXGame : PySem.W.plainGet K cGame Str.empty = true)
    (hdXGame : PySem.W.hasDictIn K cGame = true)
    (poXGame : PySem.W.plainOver K cGame = true)
    (saXGame : PySem.W.findIn K (.ref cGame) "__setattr__" = some (some (.builtin "object.__setattr__")))
    (mkXGame : PySem.W.makesIn K cGame = true)
    (kcXGame : PySem.W.keepIn K (.ref cGame) = true)
    (naGameboard : PySem.W.findIn K (.ref cGame) "board" = some none)
    (naGamekinds : PySem.W.findIn K (.ref cGame) "kinds" = some none)
    (naGamerules : PySem.W.findIn K (.ref cGame) "rules" = some none)
    (naGameturns : PySem.W.findIn K (.ref cGame) "turns" = some none)
    (naGameends : PySem.W.findIn K (.ref cGame) "ends" = some none)
    (naGamestuck : PySem.W.findIn K (.ref cGame) "stuck" = some none)
    (z0 : PySem.W.nsIn K mainGlobals "isinstance" = some none)
    (z1 : PySem.W.nsIn K mainGlobals "int" = some none)
    (z2 : PySem.W.nsIn K mainGlobals "bool" = some none)
    (z3 : PySem.W.nsIn K mainGlobals "str" = some none)
    (z4 : PySem.W.nsIn K mainGlobals "list" = some none)
    (z5 : PySem.W.nsIn K mainGlobals "tuple" = some none)
    (z6 : PySem.W.nsIn K mainGlobals "len" = some none)
    (z7 : PySem.W.nsIn K mainGlobals "range" = some none)
    (z8 : PySem.W.nsIn K mainGlobals "all" = some none)
    (z9 : PySem.W.nsIn K mainGlobals "any" = some none)
    (z10 : PySem.W.nsIn K mainGlobals "set" = some none)
    (z11 : PySem.W.nsIn K mainGlobals "sorted" = some none)
    (z12 : PySem.W.nsIn K mainGlobals "min" = some none)
    (z13 : PySem.W.nsIn K mainGlobals "enumerate" = some none)
    (z14 : PySem.W.nsIn K mainGlobals "zip" = some none)
    (kg0 : PySem.W.nsIn K mainGlobals "EMPTY" = some (some u0)) (rv0 : RelV (.str ".") u0)
    (kg1 : PySem.W.nsIn K mainGlobals "HOLE" = some (some u1)) (rv1 : RelV (.str "#") u1)
    (kg2 : PySem.W.nsIn K mainGlobals "MOST_PAIRS" = some (some u2)) (rv2 : RelV (.int 6) u2)
    (kg3 : PySem.W.nsIn K mainGlobals "MOST_KINDS" = some (some u3)) (rv3 : RelV (.int 6) u3)
    (kg4 : PySem.W.nsIn K mainGlobals "MOST_RULES" = some (some u4)) (rv4 : RelV (.int 24) u4)
    (kg5 : PySem.W.nsIn K mainGlobals "LONGEST" = some (some u5)) (rv5 : RelV (.int 8) u5)
    {tO0 : Value} {tD0 : Option Addr} {tI0 : Array Value} {tN0 : Nat} {tS0 : Array (Option Value)} (kt0 : PySem.W.nsIn K mainGlobals "SORTS" = some (some (.ref aS))) (lt0 : K.lookup aS = some ⟨tO0, tD0, .seq tI0 tN0, tS0⟩) (ctp0 : tO0 = .type "tuple") (zt0 : tI0.size ≤ sizeLine) (vt0 : Vals ([V.str "leap", V.str "slide", V.str "jump"]) tI0.toList)
    {tO1 : Value} {tD1 : Option Addr} {tI1 : Array Value} {tN1 : Nat} {tS1 : Array (Option Value)} (kt1 : PySem.W.nsIn K mainGlobals "AIMS" = some (some (.ref aA))) (lt1 : K.lookup aA = some ⟨tO1, tD1, .seq tI1 tN1, tS1⟩) (ctp1 : tO1 = .type "tuple") (zt1 : tI1.size ≤ sizeLine) (vt1 : Vals ([V.str "go", V.str "hit", V.str "any"]) tI1.toList)
    {tO2 : Value} {tD2 : Option Addr} {tI2 : Array Value} {tN2 : Nat} {tS2 : Array (Option Value)} (kt2 : PySem.W.nsIn K mainGlobals "END_WORDS" = some (some (.ref aE))) (lt2 : K.lookup aE = some ⟨tO2, tD2, .seq tI2 tN2, tS2⟩) (ctp2 : tO2 = .type "tuple") (zt2 : tI2.size ≤ sizeLine) (vt2 : Vals ([V.str "without", V.str "home"]) tI2.toList)
    {tO3 : Value} {tD3 : Option Addr} {tI3 : Array Value} {tN3 : Nat} {tS3 : Array (Option Value)} (kt3 : PySem.W.nsIn K mainGlobals "STUCK_WORDS" = some (some (.ref aW))) (lt3 : K.lookup aW = some ⟨tO3, tD3, .seq tI3 tN3, tS3⟩) (ctp3 : tO3 = .type "tuple") (zt3 : tI3.size ≤ sizeLine) (vt3 : Vals ([V.str "lost", V.str "even", V.str "won"]) tI3.toList) :
    ∃ fd : FuncData, (∀ (s : Shared) (v : Value), BindsTo s fd ⟨[v], []⟩ [("_law_script", v)]) ∧ ∀ base : Heap, K.In base → base.Ns mainGlobals mg → FnOk l.prog w K mg base CX0 8 fa fd ["_law_script"] (spLaw K) := by
  have e := hfa.symm.trans (PySem.W.mg_of X G a34)
  cases e
  have T : Txt mg aS aA aE aW := ⟨PySem.W.mg_none_of X G z0, PySem.W.mg_none_of X G z1, PySem.W.mg_none_of X G z2, PySem.W.mg_none_of X G z3, PySem.W.mg_none_of X G z4, PySem.W.mg_none_of X G z5, PySem.W.mg_none_of X G z6, PySem.W.mg_none_of X G z7, PySem.W.mg_none_of X G z8, PySem.W.mg_none_of X G z9, PySem.W.mg_none_of X G z10, PySem.W.mg_none_of X G z11, PySem.W.mg_none_of X G z12, PySem.W.mg_none_of X G z13, PySem.W.mg_none_of X G z14, ⟨_, PySem.W.mg_of X G kg0, rv0⟩, ⟨_, PySem.W.mg_of X G kg1, rv1⟩, ⟨_, PySem.W.mg_of X G kg2, rv2⟩, ⟨_, PySem.W.mg_of X G kg3, rv3⟩, ⟨_, PySem.W.mg_of X G kg4, rv4⟩, ⟨_, PySem.W.mg_of X G kg5, rv5⟩, ⟨_, PySem.W.mg_of X G kt0, rfl⟩, ⟨_, PySem.W.mg_of X G kt1, rfl⟩, ⟨_, PySem.W.mg_of X G kt2, rfl⟩, ⟨_, PySem.W.mg_of X G kt3, rfl⟩⟩
  have hT_SORTS : ∀ H, WsAt K H aS ["leap", "slide", "jump"] := fun H => .inr (.inr ⟨_, tI0, tN0, lt0, ctp0, rfl, zt0, vt0⟩)
  have hT_AIMS : ∀ H, WsAt K H aA ["go", "hit", "any"] := fun H => .inr (.inr ⟨_, tI1, tN1, lt1, ctp1, rfl, zt1, vt1⟩)
  have hT_END_WORDS : ∀ H, WsAt K H aE ["without", "home"] := fun H => .inr (.inr ⟨_, tI2, tN2, lt2, ctp2, rfl, zt2, vt2⟩)
  have hT_STUCK_WORDS : ∀ H, WsAt K H aW ["lost", "even", "won"] := fun H => .inr (.inr ⟨_, tI3, tN3, lt3, ctp3, rfl, zt3, vt3⟩)
  have F1 := fun_mk (st := s_is_whole) l1 c1 k1
  have b1 := F1.binds (ps := ["thing"]) fun _ _ _ _ _ _ => L2.ln1 (fun _ => rfl)
  have F2 := fun_mk (st := s_is_letter) l2 c2 k2
  have b2 := F2.binds (ps := ["thing"]) fun _ _ _ _ _ _ => L2.ln1 (fun _ => rfl)
  have F3 := fun_mk (st := s_is_among) l3 c3 k3
  have b3 := F3.binds (ps := ["thing", "least", "most"]) fun _ _ _ _ _ _ => L2.ln3 (fun _ _ _ => rfl)
  have F4 := fun_mk (st := s_is_word) l4 c4 k4
  have b4 := F4.binds (ps := ["thing", "words"]) fun _ _ _ _ _ _ => L2.ln2 (fun _ _ => rfl)
  have F5 := fun_mk (st := s_is_tuple_of) l5 c5 k5
  have b5 := F5.binds (ps := ["thing", "many"]) fun _ _ _ _ _ _ => L2.ln2 (fun _ _ => rfl)
  have F6 := fun_mk (st := s_is_list_of) l6 c6 k6
  have b6 := F6.binds (ps := ["thing", "least", "most"]) fun _ _ _ _ _ _ => L2.ln3 (fun _ _ _ => rfl)
  have F7 := fun_mk (st := s_is_step) l7 c7 k7
  have b7 := F7.binds (ps := ["sort", "across", "up"]) fun _ _ _ _ _ _ => L2.ln3 (fun _ _ _ => rfl)
  have F8 := fun_mk (st := s_is_rule) l8 c8 k8
  have b8 := F8.binds (ps := ["thing", "kinds"]) fun _ _ _ _ _ _ => L2.ln2 (fun _ _ => rfl)
  have F9 := fun_mk (st := s_is_pair) l9 c9 k9
  have b9 := F9.binds (ps := ["thing", "firsts", "seconds"]) fun _ _ _ _ _ _ => L2.ln3 (fun _ _ _ => rfl)
  have F10 := fun_mk (st := s_are_pairs) l10 c10 k10
  have b10 := F10.binds (ps := ["thing", "firsts", "seconds"]) fun _ _ _ _ _ _ => L2.ln3 (fun _ _ _ => rfl)
  have F11 := fun_mk (st := s_is_turns) l11 c11 k11
  have b11 := F11.binds (ps := ["thing", "kinds"]) fun _ _ _ _ _ _ => L2.ln2 (fun _ _ => rfl)
  have F12 := fun_mk (st := s_is_ends) l12 c12 k12
  have b12 := F12.binds (ps := ["thing", "kinds"]) fun _ _ _ _ _ _ => L2.ln2 (fun _ _ => rfl)
  have F13 := fun_mk (st := s_are_kinds) l13 c13 k13
  have b13 := F13.binds (ps := ["thing"]) fun _ _ _ _ _ _ => L2.ln1 (fun _ => rfl)
  have F14 := fun_mk (st := s_are_rules) l14 c14 k14
  have b14 := F14.binds (ps := ["thing", "kinds"]) fun _ _ _ _ _ _ => L2.ln2 (fun _ _ => rfl)
  have F15 := fun_mk (st := s_sign_of) l15 c15 k15
  have b15 := F15.binds (ps := ["kind", "side"]) fun _ _ _ _ _ _ => L2.ln2 (fun _ _ => rfl)
  have F16 := fun_mk (st := s_empty_row) l16 c16 k16
  have b16 := F16.binds (ps := ["board"]) fun _ _ _ _ _ _ => L2.ln1 (fun _ => rfl)
  have F17 := fun_mk (st := s_is_row) l17 c17 k17
  have b17 := F17.binds (ps := ["game", "thing"]) fun _ _ _ _ _ _ => L2.ln2 (fun _ _ => rfl)
  have F18 := fun_mk (st := s_is_place) l18 c18 k18
  have b18 := F18.binds (ps := ["game", "thing"]) fun _ _ _ _ _ _ => L2.ln2 (fun _ _ => rfl)
  have F19 := fun_mk (st := s_are_holes) l19 c19 k19
  have b19 := F19.binds (ps := ["thing", "many"]) fun _ _ _ _ _ _ => L2.ln2 (fun _ _ => rfl)
  have F20 := fun_mk (st := s_Board___init__) l20 c20 k20
  have b20 := F20.binds (ps := ["self", "wide", "high", "holes"]) fun _ _ _ _ _ _ => L2.ln4 (fun _ _ _ _ => rfl)
  have F21 := fun_mk (st := s_Board_has) l21 c21 k21
  have b21 := F21.binds (ps := ["self", "square"]) fun _ _ _ _ _ _ => L2.ln2 (fun _ _ => rfl)
  have F22 := fun_mk (st := s_Game___init__) l22 c22 k22
  have b22 := F22.binds (ps := ["self", "board", "kinds", "rules", "turns", "ends", "stuck"]) fun _ _ _ _ _ _ => L2.ln7 (fun _ _ _ _ _ _ _ => rfl)
  have F23 := fun_mk (st := s__law_cell_at) l23 c23 k23
  have b23 := F23.binds (ps := ["_law_script", "_law_k"]) fun _ _ _ _ _ _ => L2.ln2 (fun _ _ => rfl)
  have F24 := fun_mk (st := s__law_mixed) l24 c24 k24
  have b24 := F24.binds (ps := ["_law_cell", "_law_k"]) fun _ _ _ _ _ _ => L2.ln2 (fun _ _ => rfl)
  have F25 := fun_mk (st := s__law_whole) l25 c25 k25
  have b25 := F25.binds (ps := ["_law_thing"]) fun _ _ _ _ _ _ => L2.ln1 (fun _ => rfl)
  have F26 := fun_mk (st := s__law_board) l26 c26 k26
  have b26 := F26.binds (ps := ["_law_script"]) fun _ _ _ _ _ _ => L2.ln1 (fun _ => rfl)
  have F27 := fun_mk (st := s__law_kinds) l27 c27 k27
  have b27 := F27.binds (ps := ["_law_cell"]) fun _ _ _ _ _ _ => L2.ln1 (fun _ => rfl)
  have F28 := fun_mk (st := s__law_empty) l28 c28 k28
  have b28 := F28.binds (ps := ["_law_wide", "_law_high", "_law_holes"]) fun _ _ _ _ _ _ => L2.ln3 (fun _ _ _ => rfl)
  have F29 := fun_mk (st := s__law_row) l29 c29 k29
  have b29 := F29.binds (ps := ["_law_script", "_law_game", "_law_start"]) fun _ _ _ _ _ _ => L2.ln3 (fun _ _ _ => rfl)
  have F30 := fun_mk (st := s__law_odd_row) l30 c30 k30
  have b30 := F30.binds (ps := ["_law_row_here", "_law_cell"]) fun _ _ _ _ _ _ => L2.ln2 (fun _ _ => rfl)
  have F31 := fun_mk (st := s__law_odd) l31 c31 k31
  have b31 := F31.binds (ps := ["_law_row_here", "_law_side", "_law_cell"]) fun _ _ _ _ _ _ => L2.ln3 (fun _ _ _ => rfl)
  have F32 := fun_mk (st := s__law_good) l32 c32 k32
  have b32 := F32.binds (ps := ["_law_thing", "_law_wide", "_law_high", "_law_holes", "_law_kinds_here"]) fun _ _ _ _ _ _ => L2.ln5 (fun _ _ _ _ _ => rfl)
  have F33 := fun_mk (st := s__law_told) l33 c33 k33
  have b33 := F33.binds (ps := ["_law_game", "_law_thing", "_law_due"]) fun _ _ _ _ _ _ => L2.ln3 (fun _ _ _ => rfl)
  have F34 := fun_mk (st := s_law) l34 c34 k34
  have b34 := F34.binds (ps := ["_law_script"]) fun _ _ _ _ _ _ => L2.ln1 (fun _ => rfl)
  have cl_Board : Cls K cBoard := ⟨pgXBoard, hdXBoard, poXBoard, saXBoard⟩
  have cl_Game : Cls K cGame := ⟨pgXGame, hdXGame, poXGame, saXGame⟩
  refine ⟨PySem.W.fnOf "law" "law" (defArgs s_law) (defBody s_law) (defScope s_law) .none kV34 dc34 pm34 an34 cd34 ct34, fun s v => .of_eq rfl, fun base _ _ => ?_⟩
  have C_is_whole : Cal l.prog w K mg base "is_whole" _ _ _ := ⟨f1, _, ok_is_whole F1 T, PySem.W.mg_of X G a1, F1.kp, b1⟩
  have C_is_letter : Cal l.prog w K mg base "is_letter" _ _ _ := ⟨f2, _, ok_is_letter F2 T, PySem.W.mg_of X G a2, F2.kp, b2⟩
  have C_is_among : Cal l.prog w K mg base "is_among" _ _ _ := ⟨f3, _, ok_is_among F3 T ⟨C_is_whole⟩, PySem.W.mg_of X G a3, F3.kp, b3⟩
  have C_is_word : Cal l.prog w K mg base "is_word" _ _ _ := ⟨f4, _, ok_is_word F4 T, PySem.W.mg_of X G a4, F4.kp, b4⟩
  have C_is_tuple_of : Cal l.prog w K mg base "is_tuple_of" _ _ _ := ⟨f5, _, ok_is_tuple_of F5 T, PySem.W.mg_of X G a5, F5.kp, b5⟩
  have C_is_list_of : Cal l.prog w K mg base "is_list_of" _ _ _ := ⟨f6, _, ok_is_list_of F6 T, PySem.W.mg_of X G a6, F6.kp, b6⟩
  have C_is_step : Cal l.prog w K mg base "is_step" _ _ _ := ⟨f7, _, ok_is_step F7 T ⟨C_is_among⟩, PySem.W.mg_of X G a7, F7.kp, b7⟩
  have R2 : RG2 l.prog w K mg base := ⟨C_is_word, C_is_tuple_of⟩
  have R3 : RG3 l.prog w K mg base := { toRG2 := R2, is_step := C_is_step }
  have C_is_rule : Cal l.prog w K mg base "is_rule" _ _ _ := ⟨f8, _, ok_is_rule F8 T hT_SORTS hT_AIMS R3, PySem.W.mg_of X G a8, F8.kp, b8⟩
  have C_is_pair : Cal l.prog w K mg base "is_pair" _ _ _ := ⟨f9, _, ok_is_pair F9 T R2, PySem.W.mg_of X G a9, F9.kp, b9⟩
  have C_are_pairs : Cal l.prog w K mg base "are_pairs" _ _ _ := ⟨f10, _, ok_are_pairs F10 T ⟨C_is_list_of, C_is_pair⟩, PySem.W.mg_of X G a10, F10.kp, b10⟩
  have C_is_ends : Cal l.prog w K mg base "is_ends" _ _ _ := ⟨f12, _, ok_is_ends F12 T hT_END_WORDS ⟨C_are_pairs⟩, PySem.W.mg_of X G a12, F12.kp, b12⟩
  have C_is_turns : Cal l.prog w K mg base "is_turns" _ _ _ := ⟨f11, _, ok_is_turns F11 T ⟨C_are_pairs⟩, PySem.W.mg_of X G a11, F11.kp, b11⟩
  have G1 : GG1 l.prog w K mg base := ⟨C_is_list_of, C_is_letter, C_is_rule⟩
  have C_are_kinds : Cal l.prog w K mg base "are_kinds" _ _ _ := ⟨f13, _, ok_are_kinds F13 T G1, PySem.W.mg_of X G a13, F13.kp, b13⟩
  have C_are_rules : Cal l.prog w K mg base "are_rules" _ _ _ := ⟨f14, _, ok_are_rules F14 T G1, PySem.W.mg_of X G a14, F14.kp, b14⟩
  have G2 : GG2 l.prog w K mg base := ⟨C_are_kinds, C_are_rules, C_is_turns, C_is_ends, C_is_word⟩
  have GC : GmC K cGame := ⟨cl_Game, naGameboard, naGamekinds, naGamerules, naGameturns, naGameends, naGamestuck⟩
  have C_Game : MkCal l.prog w K mg base "Game" cGame _ _ _ := ⟨f22, _, ⟨mkXGame, a22, iF22, kcXGame⟩, ok_Game_init F22 T hT_STUCK_WORDS GC G2, PySem.W.mg_of X G aCGame, b22⟩
  have DA : CA l.prog w K mg base := ⟨amI_of C_is_among⟩
  have C_are_holes : Cal l.prog w K mg base "are_holes" _ _ _ := ⟨f19, _, ok_are_holes F19 T DA, PySem.W.mg_of X G a19, F19.kp, b19⟩
  have DB2 : CB2 l.prog w K mg base := { toCA := DA, are_holes := C_are_holes }
  have BC : BrdC K cBoard := ⟨cl_Board, naBoardwide, naBoardhigh, naBoardholes, naBoardfirm⟩
  have C_Board : MkCal l.prog w K mg base "Board" cBoard _ _ _ := ⟨f20, _, ⟨mkXBoard, a20, iF20, kcXBoard⟩, ok_Board_init F20 T BC DB2, PySem.W.mg_of X G aCBoard, b20⟩
  have C_Board_has : MCal l.prog w K mg base cBoard "has" _ _ _ := ⟨⟨f21, _, ok_Board_has F21 T BC DA, ⟨a21, iF21, k21⟩, b21⟩, cl_Board⟩
  have C_sign_of : Cal l.prog w K mg base "sign_of" _ _ _ := ⟨f15, _, ok_sign_of F15 T, PySem.W.mg_of X G a15, F15.kp, b15⟩
  have C_empty_row : Cal l.prog w K mg base "empty_row" _ _ _ := ⟨f16, _, ok_empty_row F16 T BC ⟨C_Board_has⟩, PySem.W.mg_of X G a16, F16.kp, b16⟩
  have C_is_row : Cal l.prog w K mg base "is_row" _ _ _ := ⟨f17, _, ok_is_row F17 T BC GC ⟨C_sign_of, C_empty_row⟩, PySem.W.mg_of X G a17, F17.kp, b17⟩
  have C_is_place : Cal l.prog w K mg base "is_place" _ _ _ := ⟨f18, _, ok_is_place F18 T ⟨C_is_tuple_of, C_is_among, C_is_row⟩, PySem.W.mg_of X G a18, F18.kp, b18⟩
  have C__law_cell_at : Cal l.prog w K mg base "_law_cell_at" _ _ _ := ⟨f23, _, ok__law_cell_at F23 T, PySem.W.mg_of X G a23, F23.kp, b23⟩
  have C__law_mixed : Cal l.prog w K mg base "_law_mixed" _ _ _ := ⟨f24, _, ok__law_mixed F24 T, PySem.W.mg_of X G a24, F24.kp, b24⟩
  have C__law_whole : Cal l.prog w K mg base "_law_whole" _ _ _ := ⟨f25, _, ok__law_whole F25 T, PySem.W.mg_of X G a25, F25.kp, b25⟩
  have LG : LG1 l.prog w K mg base := ⟨C__law_cell_at, C__law_mixed⟩
  have C__law_board : Cal l.prog w K mg base "_law_board" _ _ _ := ⟨f26, _, ok__law_board F26 T LG, PySem.W.mg_of X G a26, F26.kp, b26⟩
  have C__law_kinds : Cal l.prog w K mg base "_law_kinds" _ _ _ := ⟨f27, _, ok__law_kinds F27 T, PySem.W.mg_of X G a27, F27.kp, b27⟩
  have C__law_empty : Cal l.prog w K mg base "_law_empty" _ _ _ := ⟨f28, _, ok__law_empty F28 T, PySem.W.mg_of X G a28, F28.kp, b28⟩
  have C__law_row : Cal l.prog w K mg base "_law_row" _ _ _ := ⟨f29, _, ok__law_row F29 T BC GC LG, PySem.W.mg_of X G a29, F29.kp, b29⟩
  have C__law_odd_row : Cal l.prog w K mg base "_law_odd_row" _ _ _ := ⟨f30, _, ok__law_odd_row F30 T, PySem.W.mg_of X G a30, F30.kp, b30⟩
  have C__law_odd : Cal l.prog w K mg base "_law_odd" _ _ _ := ⟨f31, _, ok__law_odd F31 T ⟨C__law_odd_row⟩, PySem.W.mg_of X G a31, F31.kp, b31⟩
  have C__law_good : Cal l.prog w K mg base "_law_good" _ _ _ := ⟨f32, _, ok__law_good F32 T ⟨C__law_whole⟩, PySem.W.mg_of X G a32, F32.kp, b32⟩
  have C__law_told : Cal l.prog w K mg base "_law_told" _ _ _ := ⟨f33, _, ok__law_told F33 T ⟨C_is_place⟩, PySem.W.mg_of X G a33, F33.kp, b33⟩
  have C : CL l.prog w K mg base cBoard cGame := { toLG1 := LG, _law_board := C__law_board, _law_kinds := C__law_kinds, _law_empty := C__law_empty, _law_row := C__law_row, _law_odd := C__law_odd, _law_good := C__law_good, _law_told := C__law_told, Board := C_Board, Game := C_Game }
  exact ok_law F34 T BC GC C
theorem walk {l : PySem.W.OpenLaw} {q : Program} {loose : List Str} {XP : (Str → Option Value) → Heap → Prop} {YP : World → Heap → Prop} {d : DefRec} {K : Params → PySem.W.Frag} (hn : l.most = some 63) (hdf : d.params.defaults = [])
    (hY : ∀ (w : World) (h : Heap), YP w h → (K w.params).In h)
    (F : ∀ (w : World) (mg : Str → Option Value) (fa : Addr) (h : Heap), (K w.params).In h → h.Ns mainGlobals mg → mg d.name = some (.ref fa) →
      ∃ fd : FuncData, (∀ (s : Shared) (u : Value), BindsTo s fd ⟨[u], []⟩ [("_law_script", u)]) ∧ ∀ base : Heap, (K w.params).In base → base.Ns mainGlobals mg → FnOk l.prog w (K w.params) mg base CX0 8 fa fd ["_law_script"] (spLaw (K w.params))) :
    PySem.W.WalkO q loose XP YP l.row.toRowW d [] (fun f vs => PySem.call f vs) :=
  L2.walk_of (n := 63) (k := 8) (x := "_law_script") (CX := fun _ => CX0) (sp := fun w => spLaw (K w.params)) hn (by decide) hdf ⟨rfl, by decide, by decide⟩ hY F (fun _ _ a ns hl _ hS => ⟨a, ns, rfl, hS, hl, fun _ => rfl⟩) fun _ _ _ _ _ z => z
end K10
open PySem PySem.W PyProof.Rows
set_option maxRecDepth 100000 in
set_option maxHeartbeats 0 in
theorem PySem.Challenge.cw_playboard_k10_places_looked_at_holds : PySem.Challenge.rw_playboard_k10_places_looked_at.Holds := by
  w_on
  refine PySem.W.holds_law (by kernel_rfl) fun said => ?_
  refine PySem.W.holds_openX (q := K10.hQ) (loose := []) (Xt := K10.hX) (XP := PySem.W.XL K10.hQ []) (Yf := L2.hookF K10.hA) (Ya := L2.hookV K10.hK) K10.hleft (fun s e => PySem.W.xl_of s (Bool.and_eq_true_iff.mp e).1) PySem.W.XL.keeps (by rfl) (by rfl) (by rfl) (fun s e => PySem.W.recFacts_of (Bool.and_eq_true_iff.mp e).2) (by rfl) (by first | assumption | decide +kernel) (by decide +kernel) ⟨rfl, rfl, rfl, rfl, rfl, by decide +kernel⟩ ?hw ?hc
  (case hw => w_witness2)
  k_fill
  refine L2.walkX_of (L2.hookY (fun _ => by kernel_rfl)) ?_
  refine K10.walk (l := PySem.Challenge.rw_playboard_k10_places_looked_at) rfl rfl (fun w h Y => Y) ?F
  case F =>
    intro w mg fa h KX G hmg
    refine' K10.all_mk KX G hmg ?aCBoard ?aCGame ?a1 ?l1 ?c1 ?k1 ?a2 ?l2 ?c2 ?k2 ?a3 ?l3 ?c3 ?k3 ?a4 ?l4 ?c4 ?k4 ?a5 ?l5 ?c5 ?k5 ?a6 ?l6 ?c6 ?k6 ?a7 ?l7 ?c7 ?k7 ?a8 ?l8 ?c8 ?k8 ?a9 ?l9 ?c9 ?k9 ?a10 ?l10 ?c10 ?k10 ?a11 ?l11 ?c11 ?k11 ?a12 ?l12 ?c12 ?k12 ?a13 ?l13 ?c13 ?k13 ?a14 ?l14 ?c14 ?k14 ?a15 ?l15 ?c15 ?k15 ?a16 ?l16 ?c16 ?k16 ?a17 ?l17 ?c17 ?k17 ?a18 ?l18 ?c18 ?k18 ?a19 ?l19 ?c19 ?k19 ?a20 ?iF20 ?l20 ?c20 ?k20 ?a21 ?iF21 ?l21 ?c21 ?k21 ?a22 ?iF22 ?l22 ?c22 ?k22 ?a23 ?l23 ?c23 ?k23 ?a24 ?l24 ?c24 ?k24 ?a25 ?l25 ?c25 ?k25 ?a26 ?l26 ?c26 ?k26 ?a27 ?l27 ?c27 ?k27 ?a28 ?l28 ?c28 ?k28 ?a29 ?l29 ?c29 ?k29 ?a30 ?l30 ?c30 ?k30 ?a31 ?l31 ?c31 ?k31 ?a32 ?l32 ?c32 ?k32 ?a33 ?l33 ?c33 ?k33 ?a34 ?l34 ?c34 ?k34 ?pgXBoard ?hdXBoard ?poXBoard ?saXBoard ?mkXBoard ?kcXBoard ?naBoardwide ?naBoardhigh ?naBoardholes ?naBoardfirm ?pgXGame ?hdXGame ?poXGame ?saXGame ?mkXGame ?kcXGame ?naGameboard ?naGamekinds ?naGamerules ?naGameturns ?naGameends ?naGamestuck ?z0 ?z1 ?z2 ?z3 ?z4 ?z5 ?z6 ?z7 ?z8 ?z9 ?z10 ?z11 ?z12 ?z13 ?z14 ?kg0 ?rv0 ?kg1 ?rv1 ?kg2 ?rv2 ?kg3 ?rv3 ?kg4 ?rv4 ?kg5 ?rv5 ?kt0 ?lt0 ?ctp0 ?zt0 ?vt0 ?kt1 ?lt1 ?ctp1 ?zt1 ?vt1 ?kt2 ?lt2 ?ctp2 ?zt2 ?vt2 ?kt3 ?lt3 ?ctp3 ?zt3 ?vt3
    (case aCBoard => k_is)
    (case aCGame => k_is)
    (case a1 => k_is)
    (case l1 => k_is)
    (case c1 => k_is)
    (case k1 => k_is)
    (case a2 => k_is)
    (case l2 => k_is)
    (case c2 => k_is)
    (case k2 => k_is)
    (case a3 => k_is)
    (case l3 => k_is)
    (case c3 => k_is)
    (case k3 => k_is)
    (case a4 => k_is)
    (case l4 => k_is)
    (case c4 => k_is)
    (case k4 => k_is)
    (case a5 => k_is)
    (case l5 => k_is)
    (case c5 => k_is)
    (case k5 => k_is)
    (case a6 => k_is)
    (case l6 => k_is)
    (case c6 => k_is)
    (case k6 => k_is)
    (case a7 => k_is)
    (case l7 => k_is)
    (case c7 => k_is)
    (case k7 => k_is)
    (case a8 => k_is)
    (case l8 => k_is)
    (case c8 => k_is)
    (case k8 => k_is)
    (case a9 => k_is)
    (case l9 => k_is)
    (case c9 => k_is)
    (case k9 => k_is)
    (case a10 => k_is)
    (case l10 => k_is)
    (case c10 => k_is)
    (case k10 => k_is)
    (case a11 => k_is)
    (case l11 => k_is)
    (case c11 => k_is)
    (case k11 => k_is)
    (case a12 => k_is)
    (case l12 => k_is)
    (case c12 => k_is)
    (case k12 => k_is)
    (case a13 => k_is)
    (case l13 => k_is)
    (case c13 => k_is)
    (case k13 => k_is)
    (case a14 => k_is)
    (case l14 => k_is)
    (case c14 => k_is)
    (case k14 => k_is)
    (case a15 => k_is)
    (case l15 => k_is)
    (case c15 => k_is)
    (case k15 => k_is)
    (case a16 => k_is)
    (case l16 => k_is)
    (case c16 => k_is)
    (case k16 => k_is)
    (case a17 => k_is)
    (case l17 => k_is)
    (case c17 => k_is)
    (case k17 => k_is)
    (case a18 => k_is)
    (case l18 => k_is)
    (case c18 => k_is)
    (case k18 => k_is)
    (case a19 => k_is)
    (case l19 => k_is)
    (case c19 => k_is)
    (case k19 => k_is)
    (case a20 => k_is)
    (case iF20 => k_is)
    (case l20 => k_is)
    (case c20 => k_is)
    (case k20 => k_is)
    (case a21 => k_is)
    (case iF21 => k_is)
    (case l21 => k_is)
    (case c21 => k_is)
    (case k21 => k_is)
    (case a22 => k_is)
    (case iF22 => k_is)
    (case l22 => k_is)
    (case c22 => k_is)
    (case k22 => k_is)
    (case a23 => k_is)
    (case l23 => k_is)
    (case c23 => k_is)
    (case k23 => k_is)
    (case a24 => k_is)
    (case l24 => k_is)
    (case c24 => k_is)
    (case k24 => k_is)
    (case a25 => k_is)
    (case l25 => k_is)
    (case c25 => k_is)
    (case k25 => k_is)
    (case a26 => k_is)
    (case l26 => k_is)
    (case c26 => k_is)
    (case k26 => k_is)
    (case a27 => k_is)
    (case l27 => k_is)
    (case c27 => k_is)
    (case k27 => k_is)
    (case a28 => k_is)
    (case l28 => k_is)
    (case c28 => k_is)
    (case k28 => k_is)
    (case a29 => k_is)
    (case l29 => k_is)
    (case c29 => k_is)
    (case k29 => k_is)
    (case a30 => k_is)
    (case l30 => k_is)
    (case c30 => k_is)
    (case k30 => k_is)
    (case a31 => k_is)
    (case l31 => k_is)
    (case c31 => k_is)
    (case k31 => k_is)
    (case a32 => k_is)
    (case l32 => k_is)
    (case c32 => k_is)
    (case k32 => k_is)
    (case a33 => k_is)
    (case l33 => k_is)
    (case c33 => k_is)
    (case k33 => k_is)
    (case a34 => k_is)
    (case l34 => k_is)
    (case c34 => k_is)
    (case k34 => k_is)
    (case pgXBoard => k_is)
    (case hdXBoard => k_is)
    (case poXBoard => k_is)
    (case saXBoard => k_is)
    (case mkXBoard => k_is)
    (case kcXBoard => k_is)
    (case naBoardwide => k_is)
    (case naBoardhigh => k_is)
    (case naBoardholes => k_is)
    (case naBoardfirm => k_is)
    (case pgXGame => k_is)
    (case hdXGame => k_is)
    (case poXGame => k_is)
    (case saXGame => k_is)
    (case mkXGame => k_is)
    (case kcXGame => k_is)
    (case naGameboard => k_is)
    (case naGamekinds => k_is)
    (case naGamerules => k_is)
    (case naGameturns => k_is)
    (case naGameends => k_is)
    (case naGamestuck => k_is)
    (case z0 => k_is)
    (case z1 => k_is)
    (case z2 => k_is)
    (case z3 => k_is)
    (case z4 => k_is)
    (case z5 => k_is)
    (case z6 => k_is)
    (case z7 => k_is)
    (case z8 => k_is)
    (case z9 => k_is)
    (case z10 => k_is)
    (case z11 => k_is)
    (case z12 => k_is)
    (case z13 => k_is)
    (case z14 => k_is)
    (case kg0 => k_is)
    (case rv0 => exact ⟨_, rfl⟩)
    (case kg1 => k_is)
    (case rv1 => exact ⟨_, rfl⟩)
    (case kg2 => k_is)
    (case rv2 => exact ⟨_, rfl⟩)
    (case kg3 => k_is)
    (case rv3 => exact ⟨_, rfl⟩)
    (case kg4 => k_is)
    (case rv4 => exact ⟨_, rfl⟩)
    (case kg5 => k_is)
    (case rv5 => exact ⟨_, rfl⟩)
    (case kt0 => k_is)
    (case lt0 => k_is)
    (case ctp0 => rfl)
    (case zt0 => decide)
    (case vt0 => exact .cons ⟨_, rfl⟩ (.cons ⟨_, rfl⟩ (.cons ⟨_, rfl⟩ (.nil))))
    (case kt1 => k_is)
    (case lt1 => k_is)
    (case ctp1 => rfl)
    (case zt1 => decide)
    (case vt1 => exact .cons ⟨_, rfl⟩ (.cons ⟨_, rfl⟩ (.cons ⟨_, rfl⟩ (.nil))))
    (case kt2 => k_is)
    (case lt2 => k_is)
    (case ctp2 => rfl)
    (case zt2 => decide)
    (case vt2 => exact .cons ⟨_, rfl⟩ (.cons ⟨_, rfl⟩ (.nil)))
    (case kt3 => k_is)
    (case lt3 => k_is)
    (case ctp3 => rfl)
    (case zt3 => decide)
    (case vt3 => exact .cons ⟨_, rfl⟩ (.cons ⟨_, rfl⟩ (.cons ⟨_, rfl⟩ (.nil))))
