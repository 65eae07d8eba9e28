import PyProof.Rows.All
import Wide.All
import OpenK.AllK
import Wide.FinOn
import Lean
import PyProof.EqAt
import PyProof.EqKinds
import PyProof.TupleCall
import PySem.Challenge.RW_playboard_k23_whole_words_follow
set_option Elab.async false
set_option linter.all false
set_option maxRecDepth 100000
set_option maxHeartbeats 4000000
namespace L2
open PySem PySem.Spec PyProof.Rows
abbrev Key := Sum Int Str
def keyIs : Key → Value → Bool
  | .inl k, v => Value.isInt k v
  | .inr x, v => Value.isStrOf x v
def keyH (w : World) : Key → Int
  | .inl k => hashInt k
  | .inr x => hashStr w x
theorem keyIs_shape : ∀ {k : Key} {v : Value}, keyIs k v = true → (∃ i t, k = Sum.inl i ∧ v = Value.int i t) ∨ (∃ x t, k = Sum.inr x ∧ v = Value.str x t)
  | .inl i, v, h => by
    obtain ⟨t, e⟩ := Value.isInt_shape (k := i) (v := v) h
    exact .inl ⟨i, t, rfl, e⟩
  | .inr x, v, h => by
    obtain ⟨t, e⟩ := Value.isStrOf_shape (x := x) (v := v) h
    exact .inr ⟨x, t, rfl, e⟩
theorem keyIs_int (i : Int) (t : Tok) : keyIs (.inl i) (.int i t) = true := by simp [keyIs, Value.isInt]
theorem keyIs_str (x : Str) (t : Tok) : keyIs (.inr x) (.str x t) = true := by simp [keyIs, Value.isStrOf]
theorem key_ll (a b : Int) : decide ((Sum.inl a : Key) = Sum.inl b) = (a == b) := by
  by_cases e : a = b
  · subst e; simp
  · have h : ¬ (Sum.inl a : Key) = Sum.inl b := fun q => e (Sum.inl.inj q)
    rw [decide_eq_false h]
    exact (beq_eq_false_iff_ne.mpr e).symm
theorem key_rr (a b : Str) : decide ((Sum.inr a : Key) = Sum.inr b) = decide (a = b) := by
  by_cases e : a = b
  · subst e; simp
  · have h : ¬ (Sum.inr a : Key) = Sum.inr b := fun q => e (Sum.inr.inj q)
    rw [decide_eq_false h, decide_eq_false e]
theorem key_lr (a : Int) (b : Str) : decide ((Sum.inl a : Key) = Sum.inr b) = false := decide_eq_false (fun q => nomatch q)
theorem key_rl (a : Str) (b : Int) : decide ((Sum.inr a : Key) = Sum.inl b) = false := decide_eq_false (fun q => nomatch q)
def mixKind (prog : Program) (w : World) : PySem.KeyKind prog w Key where
  is := keyIs
  hash := keyH w
  inj := fun v a b ha hb => by
    rcases keyIs_shape ha with ⟨i, t, rfl, rfl⟩ | ⟨x, t, rfl, rfl⟩
    · rcases keyIs_shape hb with ⟨j, u, rfl, e⟩ | ⟨y, u, rfl, e⟩
      · injection e with e1 _; rw [e1]
      · exact nomatch e
    · rcases keyIs_shape hb with ⟨j, u, rfl, e⟩ | ⟨y, u, rfl, e⟩
      · exact nomatch e
      · injection e with e1 _; rw [e1]
  byValue := fun k v h => by
    rcases keyIs_shape h with ⟨i, t, rfl, rfl⟩ | ⟨x, t, rfl, rfl⟩ <;> rfl
  pyHash := fun hv h => by
    rcases keyIs_shape hv with ⟨i, t, rfl, rfl⟩ | ⟨x, t, rfl, rfl⟩
    · exact wpAny_pyHash_int h
    · exact wpAny_pyHash_str h
  eqBool := fun hu hv h => by
    rcases keyIs_shape hu with ⟨i, t, rfl, rfl⟩ | ⟨x, t, rfl, rfl⟩
    · rcases keyIs_shape hv with ⟨j, u, rfl, rfl⟩ | ⟨y, u, rfl, rfl⟩
      · rw [key_ll] at h; exact wpAny_eqBool_int h
      · rw [key_lr] at h; exact SeqAt.EqAt.int_str i t y u _ _ _ _ h
    · rcases keyIs_shape hv with ⟨j, u, rfl, rfl⟩ | ⟨y, u, rfl, rfl⟩
      · rw [key_rl] at h; exact SeqAt.EqAt.str_int x t j u _ _ _ _ h
      · rw [key_rr] at h; exact wpAny_eqBool_str h
  «strs» := fun k x t v h => by
    rcases keyIs_shape h with ⟨i, u, rfl, e⟩ | ⟨y, u, rfl, e⟩
    · exact nomatch e
    · injection e with e1 _
      subst e1
      cases v <;> rfl
theorem mixKind_int (prog : Program) (w : World) (i : Int) (t : Tok) : (mixKind prog w).is (.inl i) (.int i t) = true := keyIs_int i t
theorem mixKind_str (prog : Program) (w : World) (x : Str) (t : Tok) : (mixKind prog w).is (.inr x) (.str x t) = true := keyIs_str x t
end L2
namespace L2
open PySem PySem.Spec PyProof.Rows
inductive V where
  | non | bl (b : Bool) | int (i : Int) | str (x : Str) | byt (b : Array UInt8) | flt (b : UInt64) | ref (a : Addr) | ty (n : String)
  deriving DecidableEq
def RelV : V → Value → Prop
  | .non, u => u = Value.none
  | .bl b, u => u = Value.bool b
  | .int i, u => ∃ t, u = Value.int i t
  | .str x, u => ∃ t, u = Value.str x t
  | .byt b, u => ∃ t, u = Value.bytes b t
  | .flt b, u => ∃ t, u = Value.float b t
  | .ref a, u => u = Value.ref a
  | .ty n, u => u = Value.type n
abbrev Vals : List V → List Value → Prop := Paired RelV
theorem Vals.length {xs : List V} {us : List Value} (r : Vals xs us) : xs.length = us.length := Paired.length r
theorem Vals.get : ∀ {xs : List V} {us : List Value} {i : Nat} {x : V}, Vals xs us → xs[i]? = some x → ∃ u, us[i]? = some u ∧ RelV x u
  | _, _, _, _, .nil, e => by simp at e
  | _, _, 0, _, .cons r _, e => by simp at e; subst e; exact ⟨_, rfl, r⟩
  | _, _, i + 1, x, .cons _ t, e => by
    obtain ⟨u, h1, h2⟩ := Vals.get (i := i) (x := x) t (by simpa using e)
    exact ⟨u, by simpa using h1, h2⟩
theorem Vals.set {x : V} {u : Value} (r : RelV x u) : ∀ {xs : List V} {us : List Value} (i : Nat), Vals xs us → Vals (xs.set i x) (us.set i u)
  | _, _, _, .nil => .nil
  | _, _, 0, .cons _ t => .cons r t
  | _, _, i + 1, .cons q t => .cons q (Vals.set r i t)
theorem Vals.append : ∀ {xs ys : List V} {us ws : List Value}, Vals xs us → Vals ys ws → Vals (xs ++ ys) (us ++ ws)
  | _, _, _, _, .nil, s => s
  | _, _, _, _, .cons r t, s => .cons r (Vals.append t s)
theorem Vals.take : ∀ {xs : List V} {us : List Value} (n : Nat), Vals xs us → Vals (xs.take n) (us.take n)
  | _, _, 0, _ => .nil
  | _, _, _ + 1, .nil => .nil
  | _, _, n + 1, .cons r t => .cons r (Vals.take n t)
theorem Vals.drop : ∀ {xs : List V} {us : List Value} (n : Nat), Vals xs us → Vals (xs.drop n) (us.drop n)
  | _, _, 0, r => r
  | _, _, _ + 1, .nil => .nil
  | _, _, n + 1, .cons _ t => Vals.drop n t
theorem Vals.none_of : ∀ {xs : List V} {us : List Value} {i : Nat}, Vals xs us → xs[i]? = none → us[i]? = none := fun {xs us i} r e => by
  have h1 := r.length
  have h2 : xs.length ≤ i := List.getElem?_eq_none_iff.mp e
  exact List.getElem?_eq_none_iff.mpr (by omega)
def RelO : Option V → Option Value → Prop
  | some v, some u => RelV v u
  | none, none => True
  | _, _ => False
def KV {κ : Type} : List (κ × V) → List (κ × Value) → Prop := Paired fun (p : κ × V) (q : κ × Value) => p.1 = q.1 ∧ RelV p.2 q.2
def kV : Key → V
  | .inl i => .int i
  | .inr x => .str x
inductive HO where
  | lst (xs : List V)
  | tup (xs : List V)
  | dK (kvs : List (Key × V)) | dT (kvs : List (List Key × V))
  | set (S : Int → Bool) (n : Nat)
  | ins (C dx : Addr) (fs : List (Str × V))
  | own (x : Addr)
  | xd (fs : List (Str × V))
  | met (f x : Addr)
  | rng (lo hi : Int)
  | frz (o : Obj) (u : HO)
  | tbl (ps : Array Value)
  | ext (φ : Heap → Prop)
abbrev Hp := Addr → Option HO
def upd (H : Hp) (a : Addr) (o : HO) : Hp := fun b => if b = a then some o else H b
theorem upd_same {H : Hp} {a : Addr} {o : HO} : upd H a o a = some o := by unfold upd; rw [if_pos rfl]
theorem upd_ne {H : Hp} {a b : Addr} {o : HO} (h : b ≠ a) : upd H a o b = H b := by unfold upd; rw [if_neg h]
theorem upd_upd {H : Hp} {a : Addr} {o u : HO} : upd (upd H a o) a u = upd H a u := by
  funext b; unfold upd; split <;> rfl
theorem ne_of {H : Hp} {a b : Addr} {o u : HO} (h : H a = some o) (h' : H b = some u) (d : o ≠ u) : a ≠ b := by
  intro e; subst e; rw [h] at h'; exact d (Option.some.inj h')
theorem ne_of_none {H : Hp} {a b : Addr} {o : HO} (h : H a = some o) (h' : H b = none) : a ≠ b := by
  intro e; subst e; rw [h] at h'; cases h'
section
variable (P : Program) (w : World)
def ObjOk (H : Hp) (h : Heap) (a : Addr) : HO → Prop
  | .lst xs => xs.length ≤ sizeLine ∧ ∃ (its : List Value) (n : Nat), Vals xs its ∧ h.get? a = some { cls := .type "list", data := .seq its.toArray n }
  | .tup xs => xs.length ≤ sizeLine ∧ ∃ its : List Value, Vals xs its ∧ IsTup h a its.toArray
  | .dK kvs => kvs.length ≤ sizeLine ∧ (a == sysModules) = false ∧ ∃ vs, KV kvs vs ∧ h.DictOf (mixKind P w) a vs
  | .dT kvs => kvs.length ≤ sizeLine ∧ (a == sysModules) = false ∧ ∃ xs : List (List Key × Addr × Value),
      Paired (fun (p : List Key × V) (q : List Key × Addr × Value) => p.1 = q.1 ∧ H q.2.1 = some (.tup (p.1.map kV)) ∧ RelV p.2 q.2.2) kvs xs ∧
      ∃ o es ep, h.get? a = some o ∧ o.ExactDict ∧ o.data = .dict es ep ∧ es.toList = xs.map (entryOfKey (tupleKind (mixKind P w))) ∧ (xs.map (·.1)).Nodup
  | .set S n => h.SetOf (intKind P w) a S n
  | .ins C dx fs => H dx = some (.own a) ∧ fs.length ≤ 1000 ∧ dx ≠ a ∧ h.get? a = some (PySem.W.instObj C dx) ∧
      ∃ mA, h.Ns1 dx mA ∧ (∀ f, RelO (fs.lookup f) (mA f)) ∧ PySem.Within mA (fs.map (·.1))
  | .own _ => ∃ o, h.get? a = some o
  | .xd fs => ∃ mA, h.Ns1 a mA ∧ ∀ f, RelO (fs.lookup f) (mA f)
  | .rng lo hi => ∃ t u v, h.get? a = some { cls := .type "range", data := .fields #[.int lo t, .int hi u, .int 1 v] }
  | .frz o u => h.get? a = some o ∧ ObjOk H h a u
  | .tbl ps => h.get? a = some { cls := .none, data := .fields ps }
  | .met f x => h.get? a = some (PySem.W.methodObj (.ref f) (.ref x))
  | .ext φ => φ h ∧ (∃ o, h.get? a = some o) ∧ ∀ h1 h2 : Heap, φ h1 → (∀ o, h1.get? a = some o → h2.get? a = some o) → φ h2
def HOk (H : Hp) (h : Heap) : Prop := ∀ a o, H a = some o → ObjOk P w H h a o
end
section
variable {P : Program} {w : World} {H H' : Hp} {h h' : Heap} {a : Addr} {o : HO}
theorem ObjOk.lt (x : ObjOk P w H h a o) : a < h.objs.size := by
  cases o with
  | lst xs => obtain ⟨_, _, _, _, e⟩ := x; exact Heap.lt_size e
  | tup xs => obtain ⟨_, _, _, p⟩ := x; exact p.lt
  | dK kvs => obtain ⟨_, _, _, _, o, _, _, e, _⟩ := x; exact Heap.lt_size e
  | dT kvs => obtain ⟨_, _, _, _, o, _, _, e, _⟩ := x; exact Heap.lt_size e
  | set S n => obtain ⟨o, _, _, _, e, _⟩ := x; exact Heap.lt_size e
  | ins C dx fs => obtain ⟨_, _, _, e, _⟩ := x; exact Heap.lt_size e
  | own y => obtain ⟨_, e⟩ := x; exact Heap.lt_size e
  | xd fs => obtain ⟨_, ⟨_, _, _, e, _⟩, _⟩ := x; exact Heap.lt_size e
  | rng lo hi => obtain ⟨_, _, _, e⟩ := x; exact Heap.lt_size e
  | frz ob u => obtain ⟨e, _⟩ := x; exact Heap.lt_size e
  | tbl ps => exact Heap.lt_size (show h.get? a = some _ from x)
  | met f y => exact Heap.lt_size (show h.get? a = some _ from x)
  | ext φ => obtain ⟨_, ⟨_, e⟩, _⟩ := x; exact Heap.lt_size e
theorem Paired.mapP {α β : Type} {F G : α → β → Prop} : ∀ {l₁ : List α} {l₂ : List β}, Paired F l₁ l₂ → (∀ a b, F a b → G a b) → Paired G l₁ l₂
  | _, _, .nil, _ => .nil
  | _, _, .cons r t, f => .cons (f _ _ r) (Paired.mapP t f)
theorem ObjOk.stay (x : ObjOk P w H h a o) (k : ∀ b u, (b = a ∨ H b = some (.own a)) → h.get? b = some u → h'.get? b = some u)
    (ho : ∀ b, H b = some (.own a) → H' b = some (.own a)) (ht : ∀ b xs, H b = some (.tup xs) → H' b = some (.tup xs)) : ObjOk P w H' h' a o := by
  induction o with
  | lst xs => obtain ⟨z, its, n, r, e⟩ := x; exact ⟨z, its, n, r, k _ _ (.inl rfl) e⟩
  | tup xs => obtain ⟨z, its, r, ob, e, c⟩ := x; exact ⟨z, its, r, ob, k _ _ (.inl rfl) e, c⟩
  | dK kvs => obtain ⟨z, y, vs, r, ob, es, ep, e, c⟩ := x; exact ⟨z, y, vs, r, ob, es, ep, k _ _ (.inl rfl) e, c⟩
  | dT kvs =>
    obtain ⟨z, y, xs, r, ob, es, ep, e, c⟩ := x
    exact ⟨z, y, xs, Paired.mapP r fun p q z => ⟨z.1, ht _ _ z.2.1, z.2.2⟩, ob, es, ep, k _ _ (.inl rfl) e, c⟩
  | set S n => obtain ⟨ob, es, ep, t, e, c⟩ := x; exact ⟨ob, es, ep, t, k _ _ (.inl rfl) e, c⟩
  | ins C dx fs =>
    obtain ⟨d, z, ne, e, mA, ⟨od, es, ep, e2, c⟩, r⟩ := x
    exact ⟨ho _ d, z, ne, k _ _ (.inl rfl) e, mA, ⟨od, es, ep, k _ _ (.inr d) e2, c⟩, r⟩
  | own y => obtain ⟨ob, e⟩ := x; exact ⟨ob, k _ _ (.inl rfl) e⟩
  | xd fs => obtain ⟨mA, ⟨od, es, ep, e, c⟩, r⟩ := x; exact ⟨mA, ⟨od, es, ep, k _ _ (.inl rfl) e, c⟩, r⟩
  | rng lo hi => obtain ⟨t, u, v, e⟩ := x; exact ⟨t, u, v, k _ _ (.inl rfl) e⟩
  | frz ob u ih => obtain ⟨e, q⟩ := x; exact ⟨k _ _ (.inl rfl) e, ih q⟩
  | tbl ps =>
    have e : h.get? a = some { cls := .none, data := .fields ps } := x
    show h'.get? a = some { cls := .none, data := .fields ps }
    exact k a _ (.inl rfl) e
  | met f y =>
    have e : h.get? a = some (PySem.W.methodObj (.ref f) (.ref y)) := x
    show h'.get? a = some (PySem.W.methodObj (.ref f) (.ref y))
    exact k a _ (.inl rfl) e
  | ext φ => obtain ⟨p, ⟨o, e⟩, st⟩ := x; exact ⟨st _ _ p fun o q => k _ _ (.inl rfl) q, ⟨o, k _ _ (.inl rfl) e⟩, st⟩
theorem HOk.lt (x : HOk P w H h) (e : H a = some o) : a < h.objs.size := (x a o e).lt
theorem HOk.fresh (x : HOk P w H h) (e : h.objs.size ≤ a) : H a = none := by
  cases q : H a with
  | none => rfl
  | some u => exact absurd (Nat.lt_of_lt_of_le (x.lt q) e) (Nat.lt_irrefl _)
theorem HOk.kept (x : HOk P w H h) (k : ∀ b u, h.get? b = some u → h'.get? b = some u) : HOk P w H h' := fun a o e =>
  (x a o e).stay (fun b u _ q => k b u q) (fun _ q => q) fun _ _ q => q
theorem HOk.laid (x : HOk P w H h) (k : ∀ b u, h.get? b = some u → h'.get? b = some u) (hp : h.objs.size ≤ a) (new : ObjOk P w (upd H a o) h' a o) : HOk P w (upd H a o) h' := fun b u e => by
  have hn := x.fresh hp
  by_cases hb : b = a
  · subst hb; rw [upd_same] at e; cases e; exact new
  · rw [upd_ne hb] at e
    exact (x b u e).stay (fun c v _ q => k c v q) (fun c q => by rw [upd_ne (ne_of_none q hn)]; exact q) fun c xs q => by rw [upd_ne (ne_of_none q hn)]; exact q
end
def Rd (H : Hp) (a : Addr) (u : HO) : Prop := H a = some u ∨ ∃ o, H a = some (.frz o u)
theorem Rd.of {H : Hp} {a : Addr} {u : HO} (h : H a = some u) : Rd H a u := .inl h
theorem Rd.ok {P : Program} {w : World} {H : Hp} {h : Heap} {a : Addr} {u : HO} (r : Rd H a u) (x : HOk P w H h) : ObjOk P w H h a u := by
  rcases r with r | ⟨o, r⟩
  · exact x a u r
  · obtain ⟨_, q⟩ := x a _ r
    exact q
def Mut : Option HO → Prop
  | some (.lst _) => True
  | some (.dK _) => True
  | some (.dT _) => True
  | some (.set _ _) => True
  | some (.ins _ _ _) => True
  | some (.ext _) => True
  | _ => False
section
variable {P : Program} {w : World} {H : Hp} {h h' : Heap} {x e : Addr} {o' : HO}
theorem HOk.write (ok : HOk P w H h) (mu : Mut (H x)) (he : e = x ∨ H e = some (.own x)) (k : ∀ b u, b ≠ e → h.get? b = some u → h'.get? b = some u) (heo : ∃ u, h'.get? e = some u)
    (new : ObjOk P w (upd H x o') h' x o') : HOk P w (upd H x o') h' := fun b u q => by
  have nown : ∀ c y, H c = some (.own y) → c ≠ x := fun c y r z => by subst z; rw [r] at mu; exact mu
  have ntup : ∀ c xs, H c = some (.tup xs) → c ≠ x := fun c xs r z => by subst z; rw [r] at mu; exact mu
  by_cases hb : b = x
  · subst hb; rw [upd_same] at q; cases q; exact new
  · rw [upd_ne hb] at q
    by_cases hbe : b = e
    · have q' : H b = some (.own x) := by
        rcases he with z | z
        · exact absurd (hbe.trans z) hb
        · rw [hbe]; exact z
      rw [q] at q'; cases q'
      obtain ⟨v, hv⟩ := heo
      exact ⟨v, by rw [hbe]; exact hv⟩
    · refine (ok b u q).stay (fun c v hc r => k c v ?_ r) (fun c r => by rw [upd_ne (nown c b r)]; exact r) fun c xs r => by rw [upd_ne (ntup c xs r)]; exact r
      rcases hc with rfl | hc
      · exact hbe
      · rintro rfl
        rcases he with z | z
        · exact nown c b hc z
        · rw [hc] at z; cases z; exact hb rfl
end
structure Un (fs ex : List Addr) (H H' : Hp) (h h' : Heap) : Prop where
  keep : ∀ b o, h.get? b = some o → H b = none → b ∉ fs → b ∉ ex → h'.get? b = some o
  slot : ∀ b o, h.get? b = some o → H b = none → b ∈ fs → b ∉ ex → ∃ sl, h'.get? b = some { o with slots := sl }
  free : ∀ b o, h.get? b = some o → H b = none → b ∉ ex → H' b = none
  there : ∀ b o, h.get? b = some o → b ∉ ex → ∃ o', h'.get? b = some o'
  tups : ∀ b xs, H b = some (.tup xs) → H' b = some (.tup xs)
  frzs : ∀ b o u, H b = some (.frz o u) → H' b = some (.frz o u)
  tbls : ∀ b ps, H b = some (.tbl ps) → ∃ more, H' b = some (.tbl (ps ++ more))
section
variable {fs fs' ex ex' : List Addr} {H H1 H2 : Hp} {h h1 h2 h' : Heap} {a x e : Addr} {o : HO}
theorem Un.any (u : Un fs ex H H1 h h1) {b : Addr} {ob : Obj} (q : h.get? b = some ob) (n : H b = none) (hx : b ∉ ex) : ∃ sl, h1.get? b = some { ob with slots := sl } := by
  by_cases hb : b ∈ fs
  · exact u.slot b ob q n hb hx
  · exact ⟨ob.slots, u.keep b ob q n hb hx⟩
theorem Un.trans (a : Un fs ex H H1 h h1) (b : Un fs ex H1 H2 h1 h2) : Un fs ex H H2 h h2 where
  keep := fun c ob q n hc hx => b.keep c ob (a.keep c ob q n hc hx) (a.free c ob q n hx) hc hx
  slot := fun c ob q n hc hx => by
    obtain ⟨sl, e1⟩ := a.slot c ob q n hc hx
    obtain ⟨sl', e2⟩ := b.slot c _ e1 (a.free c ob q n hx) hc hx
    exact ⟨sl', e2⟩
  free := fun c ob q n hx => by
    obtain ⟨o', e1⟩ := a.there c ob q hx
    exact b.free c o' e1 (a.free c ob q n hx) hx
  there := fun c ob q hx => by
    obtain ⟨o', e1⟩ := a.there c ob q hx
    exact b.there c o' e1 hx
  tups := fun c xs q => b.tups c xs (a.tups c xs q)
  frzs := fun c ob xs q => b.frzs c ob xs (a.frzs c ob xs q)
  tbls := fun c ps q => by
    obtain ⟨m1, e1⟩ := a.tbls c ps q
    obtain ⟨m2, e2⟩ := b.tbls c _ e1
    exact ⟨m1 ++ m2, by rw [e2, Array.append_assoc]⟩
theorem Un.kept (k : ∀ b u, h.get? b = some u → h'.get? b = some u) : Un fs ex H H h h' :=
  ⟨fun b ob q _ _ _ => k b ob q, fun b ob q _ _ _ => ⟨ob.slots, k b ob q⟩, fun _ _ _ n _ => n, fun b ob q _ => ⟨ob, k b ob q⟩, fun _ _ q => q, fun _ _ _ q => q, fun _ ps q => ⟨#[], by rw [q]; simp⟩⟩
theorem Un.refl : Un fs ex H H h h := Un.kept fun _ _ q => q
theorem Un.laid (k : ∀ b u, h.get? b = some u → h'.get? b = some u) (hp : h.objs.size ≤ a) (hn : H a = none) : Un fs ex H (upd H a o) h h' where
  keep := fun b u q _ _ _ => k b u q
  slot := fun b u q _ _ _ => ⟨u.slots, k b u q⟩
  free := fun b u q n _ => by rw [upd_ne (Nat.ne_of_lt (Nat.lt_of_lt_of_le (Heap.lt_size q) hp))]; exact n
  there := fun b u q _ => ⟨u, k b u q⟩
  tups := fun b xs q => by rw [upd_ne (ne_of_none q hn)]; exact q
  frzs := fun b u xs q => by rw [upd_ne (ne_of_none q hn)]; exact q
  tbls := fun b ps q => ⟨#[], by rw [upd_ne (ne_of_none q hn), q]; simp⟩
theorem Un.write (mu : Mut (H x)) (he : e = x ∨ H e = some (.own x)) (k : ∀ b u, b ≠ e → h.get? b = some u → h'.get? b = some u) (heo : ∃ u, h'.get? e = some u) : Un fs ex H (upd H x o) h h' := by
  have hx : ∀ b, H b = none → b ≠ x := fun b n z => by subst z; rw [n] at mu; exact mu
  have hb : ∀ b, H b = none → b ≠ e := fun b n z => by
    subst z
    rcases he with r | r
    · exact hx b n r
    · rw [n] at r; cases r
  have hm : ∀ b u, H b = some u → ¬ Mut (some u) → b ≠ x := fun b u q nm z => by subst z; rw [q] at mu; exact nm mu
  refine ⟨fun b u q n _ _ => k b u (hb b n) q, fun b u q n _ _ => ⟨u.slots, k b u (hb b n) q⟩, fun b u q n _ => by rw [upd_ne (hx b n)]; exact n, fun b u q _ => ?_,
    fun b xs q => by rw [upd_ne (hm b _ q fun z => z)]; exact q, fun b u xs q => by rw [upd_ne (hm b _ q fun z => z)]; exact q, fun b ps q => ⟨#[], by rw [upd_ne (hm b _ q fun z => z), q]; simp⟩⟩
  by_cases hbe : b = e
  · subst hbe; exact heo
  · exact ⟨u, k b u hbe q⟩
theorem Un.mono (u : Un fs ex H H1 h h1) (hs : ∀ b ∈ fs, b ∈ fs') (hx : ∀ b ∈ ex, b ∈ ex') : Un fs' ex' H H1 h h1 :=
  ⟨fun b ob q n hb he => u.keep b ob q n (fun z => hb (hs b z)) fun z => he (hx b z), fun _ _ q n _ he => u.any q n fun z => he (hx _ z), fun b ob q n he => u.free b ob q n fun z => he (hx b z), fun b ob q he => u.there b ob q fun z => he (hx b z), u.tups, u.frzs, u.tbls⟩
end
def trk (h : Heap) (H : Hp) : List Addr := (List.range h.objs.size).filter fun a => (H a).isSome
def hidT (h : Heap) (H : Hp) : Heap := PySem.W.hideAll h (trk h H)
theorem hidT_size (h : Heap) (H : Hp) : (hidT h H).objs.size = h.objs.size := PySem.W.hideAll_size _ _
theorem hidT_get {h : Heap} {H : Hp} {b : Addr} {o : Obj} (e : h.get? b = some o) (n : H b = none) : (hidT h H).get? b = some o :=
  PySem.W.hideAll_get _ e fun hm => by
    have q : (H b).isSome = true := (List.mem_filter.mp hm).2
    rw [n] at q; simp at q
theorem of_hidT {h : Heap} {H : Hp} {b : Addr} {o : Obj} (e : (hidT h H).get? b = some o) : h.get? b = some o ∧ H b = none := by
  have e' : h.get? b = some o := PySem.W.of_hideAll (trk h H) e
  refine ⟨e', ?_⟩
  cases q : H b with
  | none => rfl
  | some x =>
    have hm : b ∈ trk h H := List.mem_filter.mpr ⟨List.mem_range.mpr (Heap.lt_size e'), by simp [q]⟩
    have z : (hidT h H).get? b = none := PySem.W.hideAll_none (trk h H) hm
    rw [z] at e; cases e
def allNews (g h : Heap) (L : Addr) : List (Addr × Obj) := (List.range h.objs.size).filterMap fun a => if a = L ∨ (g.get? a).isSome = true then none else (h.get? a).map fun o => (a, o)
theorem mem_allNews {g h : Heap} {L a : Addr} {o : Obj} (h1 : a ≠ L) (h2 : g.get? a = none) (h3 : h.get? a = some o) : (a, o) ∈ allNews g h L :=
  List.mem_filterMap.mpr ⟨a, List.mem_range.mpr (Heap.lt_size h3), by simp [h1, h2, h3]⟩
theorem of_mem_allNews {g h : Heap} {L : Addr} {p : Addr × Obj} (hp : p ∈ allNews g h L) : p.1 ≠ L ∧ g.get? p.1 = none ∧ h.get? p.1 = some p.2 := by
  obtain ⟨b, _, e⟩ := List.mem_filterMap.mp hp
  split at e
  · cases e
  · rename_i hn
    cases q : h.get? b with
    | none => rw [q] at e; simp at e
    | some u =>
      rw [q] at e
      simp only [Option.map_some, Option.some.injEq] at e
      subst e
      refine ⟨fun z => hn (.inl z), ?_, q⟩
      show g.get? b = none
      cases r : g.get? b with
      | none => rfl
      | some v => exact (hn (.inr (by simp [r]))).elim
def rest (g h : Heap) (L d : Addr) : List (Addr × Obj) := (allNews g h L).filter fun p => decide (p.1 ≠ d)
theorem news_all {g h : Heap} {L : Addr} : News g L h (allNews g h L) := fun p hp => let ⟨a, b, c⟩ := of_mem_allNews hp; ⟨c, a, b⟩
end L2
namespace L2
open PySem PySem.Spec PyProof.Rows
structure Mod (K : PySem.W.Frag) (mg : Str → Option Value) (base : Heap) : Prop where
  kin : K.In base
  glob : base.Ns mainGlobals mg
  blt : ∃ mb, base.Ns builtinsNs mb ∧ ∀ x : Str, x ≠ "__name__" → mb x = bootBuiltins x
  nolimit : base.NoLimit
structure Cx where
  prog : Program
  w : World
  K : PySem.W.Frag
  mg : Str → Option Value
  base : Heap
  A : Around
  N : List Str
  s₀ : Shared
  H₀ : Hp
  env : Env
  outer : List Env
  stack : List Env
  ex : List Addr
  fn : Str → Bool
  calm : Bool
  pn : List (Addr × Obj)
  xe : Value → Shared → Prop
def frs (l : List Env) : List Addr := l.filterMap (·.frame)
abbrev Cx.fs (X : Cx) : List Addr := frs X.outer
def Vis (sc : Scope) (x : Str) : Prop := sc.names.lookup x = some .local ∨ sc.names.lookup x = some .cell ∨ sc.names.lookup x = some .free
def Loc (sc : Scope) (x : Str) : Prop := sc.names.lookup x = some .local ∨ sc.names.lookup x = some .cell
def Look (env : Env) (h : Heap) (m : Str → Option Value) (x : Str) (u : Value) : Prop :=
  (env.kindOf x = some .local ∧ m x = some u) ∨ ((env.kindOf x = some .cell ∨ env.kindOf x = some .free) ∧ ∃ c, env.cells.lookup x = some c ∧ h.IsCell c (some u))
structure Cx.Ok (X : Cx) : Prop where
  mod : Mod X.K X.mg X.base
  kind : X.env.scope.kind = .function
  glob : X.env.globals = mainGlobals
  blt : X.env.builtins = builtinsNs
  above : X.s₀.heap.objs.size ≤ X.env.locals
  inj : ∀ x y c, X.env.cells.lookup x = some c → X.env.cells.lookup y = some c → x = y
  has : ∀ x, (X.env.kindOf x = some .cell ∨ X.env.kindOf x = some .free) → ∃ c, X.env.cells.lookup x = some c
  cab : ∀ x c, X.fn x = true → X.env.cells.lookup x = some c → X.s₀.heap.objs.size ≤ c
  hd : X.calm = true → X.A.handled = none
  frames : X.A.frames = some X.stack
  stk : X.stack = X.outer ∨ (X.stack = X.env :: X.outer ∧ X.env.frame = some X.env.locals)
  exf : ∀ b ∈ X.ex, b ≠ X.env.locals ∧ ∀ x c, X.env.cells.lookup x = some c → c ≠ b
  bs : ∀ b o, X.base.get? b = some o → X.s₀.heap.get? b = some o ∧ X.H₀ b = none
  bsz : X.base.objs.size ≤ X.s₀.heap.objs.size
  noex : ∀ b o, X.base.get? b = some o → b ∉ X.ex
  exfs : ∀ b ∈ X.ex, b ∉ X.fs
  funs : X.s₀.heap.FunFrames X.base X.outer
  frf : ∀ b ∈ X.fs, X.H₀ b = none
structure Inv (X : Cx) (pins : List (Addr × Obj)) (σ : List (Option V)) (H : Hp) (s : Shared) : Prop where
  ok : X.Ok
  os : s.os = X.s₀.os
  bare : AllBare s.gens
  base : Un X.fs X.ex X.H₀ H X.s₀.heap s.heap
  loc : ∃ m, s.heap.Ns X.env.locals m ∧ ∀ (i : Nat) (x : Str) (v : V), X.N[i]? = some x → σ[i]? = some (some v) → Vis X.env.scope x → ∃ u, RelV v u ∧ Look X.env s.heap m x u
  cell : ∀ x c, X.env.cells.lookup x = some c → ∃ v, s.heap.IsCell c v
  free : H X.env.locals = none
  freeC : ∀ x c, X.env.cells.lookup x = some c → H c = none
  pin : ∀ p ∈ X.pn ++ pins, s.heap.get? p.1 = some p.2 ∧ H p.1 = none ∧ p.1 ≠ X.env.locals ∧ p.1 ∉ X.fs ∧ ∀ v, p.2.data ≠ .cell v
  hok : HOk X.prog X.w H s.heap
  len : σ.length = X.N.length
section
variable {X : Cx} {pins : List (Addr × Obj)} {σ : List (Option V)} {H H' : Hp} {s : Shared} {h' : Heap}
theorem Cx.Ok.nofr (ok : X.Ok) {b : Addr} {o : Obj} (e : X.base.get? b = some o) : b ∉ X.fs := fun hb => by
  have := (ok.funs.mem hb).1
  rw [e] at this; cases this
theorem Inv.bs (I : Inv X pins σ H s) : ∀ b o, X.base.get? b = some o → s.heap.get? b = some o ∧ H b = none := fun b o e =>
  ⟨I.base.keep b o (I.ok.bs b o e).1 (I.ok.bs b o e).2 (I.ok.nofr e) (I.ok.noex b o e), I.base.free b o (I.ok.bs b o e).1 (I.ok.bs b o e).2 (I.ok.noex b o e)⟩
theorem Inv.bk (I : Inv X pins σ H s) : ∀ b o, X.base.get? b = some o → s.heap.get? b = some o := fun b o e => (I.bs b o e).1
theorem Inv.mod (I : Inv X pins σ H s) : Mod X.K X.mg X.base := I.ok.mod
theorem Inv.kIn (I : Inv X pins σ H s) : X.K.In s.heap := I.ok.mod.kin.keeps I.bk
theorem Inv.nolimit (I : Inv X pins σ H s) : s.heap.NoLimit := I.ok.mod.nolimit.keeps I.bk
theorem Inv.fr (I : Inv X pins σ H s) : ∃ m, Fr X.base X.env.locals s.heap m :=
  let ⟨m, hn, _⟩ := I.loc
  ⟨m, hn, I.bk, Nat.le_trans I.ok.bsz I.ok.above⟩
theorem Inv.lt (I : Inv X pins σ H s) : X.env.locals < s.heap.objs.size := let ⟨_, hn, _⟩ := I.loc; hn.lt
theorem Inv.sz (I : Inv X pins σ H s) : X.s₀.heap.objs.size ≤ s.heap.objs.size := Nat.le_trans I.ok.above (Nat.le_of_lt I.lt)
theorem Inv.nofs (I : Inv X pins σ H s) {a : Addr} (h : s.heap.objs.size ≤ a) : a ∉ X.fs := fun hb => by
  obtain ⟨_, o, ho, _⟩ := I.ok.funs.mem hb
  exact absurd (Nat.lt_of_lt_of_le (Heap.lt_size ho) (Nat.le_trans I.sz h)) (Nat.lt_irrefl _)
theorem Inv.cne (I : Inv X pins σ H s) : ∀ x c, X.env.cells.lookup x = some c → c ≠ X.env.locals := fun x c e z => by
  obtain ⟨v, o, ho, hd⟩ := I.cell x c e
  obtain ⟨m, ⟨o', es, ep, ho', hd', _⟩, _⟩ := I.loc
  rw [z, ho'] at ho; cases ho; rw [hd'] at hd; cases hd
theorem Inv.funs (I : Inv X pins σ H s) : s.heap.FunFrames X.base X.outer := by
  have all : ∀ (l : List Env), (∀ b ∈ frs l, b ∈ X.fs) → X.s₀.heap.FunFrames X.base l → s.heap.FunFrames X.base l := by
    intro l
    induction l with
    | nil => intro _ _; trivial
    | cons env r ih =>
      intro hs hl
      obtain ⟨hk, ⟨L, o, hf, hn, ho, hd⟩, hr⟩ := hl
      have hL : L ∈ X.fs := hs L (by unfold frs; rw [List.filterMap_cons, hf]; exact List.mem_cons_self)
      obtain ⟨sl, e⟩ := I.base.slot L o ho (I.ok.frf L hL) hL fun z => I.ok.exfs L z hL
      exact ⟨hk, ⟨L, _, hf, hn, e, hd⟩, ih (fun b hb => hs b (by unfold frs; rw [List.filterMap_cons, hf]; exact List.mem_cons_of_mem _ hb)) hr⟩
  exact all X.outer (fun _ hb => hb) I.ok.funs
theorem Inv.stack (I : Inv X pins σ H s) : s.heap.FunFrames X.base X.stack := by
  rcases I.ok.stk with e | ⟨e, hf⟩
  · rw [e]; exact I.funs
  · rw [e]
    obtain ⟨m, hn, _⟩ := I.loc
    refine .cons (by rw [I.ok.kind]; decide) hf hn ?_ I.funs
    exact Heap.get?_none_of_le (Nat.le_trans I.ok.bsz I.ok.above)
theorem Inv.stkSub (I : Inv X pins σ H s) : ∀ b ∈ frs X.stack, b ∈ X.env.locals :: X.fs := fun b hb => by
  rcases I.ok.stk with e | ⟨e, hf⟩
  · rw [e] at hb; exact List.mem_cons_of_mem _ hb
  · rw [e] at hb
    unfold frs at hb
    rw [List.filterMap_cons, hf] at hb
    exact hb
theorem Inv.stkFree (I : Inv X pins σ H s) : ∀ b ∈ frs X.stack, H b = none := fun b hb => by
  rcases List.mem_cons.mp (I.stkSub b hb) with e | hb
  · rw [e]; exact I.free
  · obtain ⟨_, o, ho, _⟩ := I.ok.funs.mem hb
    exact I.base.free b o ho (I.ok.frf b hb) fun z => I.ok.exfs b z hb
theorem Inv.step {g' : Array GenState} {t' : Nat} {d' : Drawn} {ch : List Addr} (I : Inv X pins σ H s)
    (hch : ∀ b ∈ ch, (b ∈ X.ex ∨ X.s₀.heap.objs.size ≤ b) ∧ b ≠ X.env.locals ∧ (∀ x c, X.env.cells.lookup x = some c → c ≠ b) ∧ ∀ p ∈ X.pn ++ pins, p.1 ≠ b)
    (keep : ∀ b o, b ≠ X.env.locals → b ∉ X.fs → b ∉ ch → s.heap.get? b = some o → H b = none → h'.get? b = some o)
    (slot : ∀ b o, b ≠ X.env.locals → b ∈ X.fs → b ∉ ch → s.heap.get? b = some o → H b = none → ∃ sl, h'.get? b = some { o with slots := sl }) (free : ∀ b o, b ∉ ch → s.heap.get? b = some o → H b = none → H' b = none)
    (there : ∀ b o, b ∉ ch → s.heap.get? b = some o → ∃ o', h'.get? b = some o')
    (tups : ∀ b xs, H b = some (.tup xs) → H' b = some (.tup xs)) (frzs : ∀ b o u, H b = some (.frz o u) → H' b = some (.frz o u)) (tbls : ∀ b ps, H b = some (.tbl ps) → ∃ more, H' b = some (.tbl (ps ++ more)))
    (ns : ∀ m, s.heap.Ns X.env.locals m → h'.Ns X.env.locals m) (hok : HOk X.prog X.w H' h') (hg : AllBare g') :
    Inv X pins σ H' { s with heap := h', gens := g', drawn := d', toks := t' } := by
  have neL : ∀ b o, X.s₀.heap.get? b = some o → b ≠ X.env.locals := fun b o e => Nat.ne_of_lt (Nat.lt_of_lt_of_le (Heap.lt_size e) I.ok.above)
  have neC : ∀ b o, X.s₀.heap.get? b = some o → b ∉ X.ex → b ∉ ch := fun b o e hx hb => by
    rcases (hch b hb).1 with z | z
    · exact hx z
    · exact absurd (Nat.lt_of_lt_of_le (Heap.lt_size e) z) (Nat.lt_irrefl _)
  have cellK : ∀ x c, X.env.cells.lookup x = some c → ∀ v, s.heap.IsCell c v → h'.IsCell c v := fun x c e v ⟨o, ho, hd⟩ => by
    have nch : c ∉ ch := fun z => (hch c z).2.2.1 x c e rfl
    by_cases hc : c ∈ X.fs
    · obtain ⟨sl, q⟩ := slot c o (I.cne x c e) hc nch ho (I.freeC x c e)
      exact ⟨_, q, hd⟩
    · exact ⟨o, keep c o (I.cne x c e) hc nch ho (I.freeC x c e), hd⟩
  refine ⟨I.ok, I.os, hg, ⟨fun b o e n hb hx => ?_, fun b o e n hb hx => ?_, fun b o e n hx => ?_, fun b o e hx => ?_, fun b xs e => tups b xs (I.base.tups b xs e), fun b o xs e => frzs b o xs (I.base.frzs b o xs e), fun b ps e => ?_⟩, ?_, fun x c e => ?_, ?_, fun x c e => ?_, fun p hp => ?_, hok, I.len⟩
  · exact keep b o (neL b o e) hb (neC b o e hx) (I.base.keep b o e n hb hx) (I.base.free b o e n hx)
  · obtain ⟨sl, e1⟩ := I.base.slot b o e n hb hx
    obtain ⟨sl', e2⟩ := slot b _ (neL b o e) hb (neC b o e hx) e1 (I.base.free b o e n hx)
    exact ⟨sl', e2⟩
  · obtain ⟨o', e1⟩ := I.base.there b o e hx
    exact free b o' (neC b o e hx) e1 (I.base.free b o e n hx)
  · obtain ⟨o', e1⟩ := I.base.there b o e hx
    exact there b o' (neC b o e hx) e1
  · obtain ⟨m1, e1⟩ := I.base.tbls b ps e
    obtain ⟨m2, e2⟩ := tbls b _ e1
    exact ⟨m1 ++ m2, by rw [e2, Array.append_assoc]⟩
  · obtain ⟨m, hn, hl⟩ := I.loc
    refine ⟨m, ns m hn, fun i x v e1 e2 e3 => ?_⟩
    obtain ⟨u, r, l⟩ := hl i x v e1 e2 e3
    refine ⟨u, r, ?_⟩
    rcases l with l | ⟨k, c, e, z⟩
    · exact .inl l
    · exact .inr ⟨k, c, e, cellK x c e _ z⟩
  · obtain ⟨v, z⟩ := I.cell x c e
    exact ⟨v, cellK x c e v z⟩
  · obtain ⟨m, ⟨o, _, _, ho, _⟩, _⟩ := I.loc
    exact free _ o (fun z => (hch _ z).2.1 rfl) ho I.free
  · obtain ⟨v, o, ho, hd⟩ := I.cell x c e
    exact free c o (fun z => (hch c z).2.2.1 x c e rfl) ho (I.freeC x c e)
  · obtain ⟨e, n, ne, nf, d⟩ := I.pin p hp
    have nch : p.1 ∉ ch := fun z => (hch p.1 z).2.2.2 p hp rfl
    exact ⟨keep p.1 p.2 ne nf nch e n, free p.1 p.2 nch e n, ne, nf, d⟩
theorem Inv.un {t' : Nat} (I : Inv X pins σ H s) (u : Un X.fs [] H H' s.heap h') (hok : HOk X.prog X.w H' h') : Inv X pins σ H' { s with heap := h', toks := t' } := by
  obtain ⟨m, ⟨o, es, ep, ho, r⟩, _⟩ := id I.loc
  obtain ⟨sl, hL⟩ := u.any ho I.free (by simp)
  exact I.step (g' := s.gens) (d' := s.drawn) (ch := []) (fun _ z => nomatch z) (fun b o _ hb _ e n => u.keep b o e n hb (by simp)) (fun b o _ hb _ e n => u.slot b o e n hb (by simp)) (fun b o _ e n => u.free b o e n (by simp)) (fun b o _ e => u.there b o e (by simp)) u.tups u.frzs u.tbls (fun m' hm => by
    obtain ⟨o', es', ep', ho', r'⟩ := hm
    rw [ho] at ho'; cases ho'
    exact ⟨_, es', ep', hL, r'⟩) hok I.bare
theorem Inv.call {g' : Array GenState} {t' : Nat} {d' : Drawn} {ch : List Addr} (I : Inv X pins σ H s) (u : Un (frs X.stack) ch H H' s.heap h') (hok : HOk X.prog X.w H' h') (hg : AllBare g')
    (hch : ∀ b ∈ ch, (b ∈ X.ex ∨ X.s₀.heap.objs.size ≤ b) ∧ b ≠ X.env.locals ∧ (∀ x c, X.env.cells.lookup x = some c → c ≠ b) ∧ ∀ p ∈ X.pn ++ pins, p.1 ≠ b) :
    Inv X pins σ H' { s with heap := h', gens := g', drawn := d', toks := t' } := by
  obtain ⟨m, ⟨o, es, ep, ho, r⟩, _⟩ := id I.loc
  obtain ⟨sl, hL⟩ := u.any ho I.free fun z => (hch _ z).2.1 rfl
  exact I.step (ch := ch) hch (fun b o hL hb hc e n => u.keep b o e n (fun z => (List.mem_cons.mp (I.stkSub b z)).elim hL hb) hc) (fun b o _ _ hc e n => u.any e n hc) (fun b o hc e n => u.free b o e n hc) (fun b o hc e => u.there b o e hc) u.tups u.frzs u.tbls (fun m' hm => by
    obtain ⟨o', es', ep', ho', r'⟩ := hm
    rw [ho] at ho'; cases ho'
    exact ⟨_, es', ep', hL, r'⟩) hok hg
theorem Inv.turned {t' : Nat} {it : Addr} (I : Inv X pins σ H s) (k : ∀ b o, b ≠ it → s.heap.get? b = some o → h'.get? b = some o) (hn : H it = none) (hL : it ≠ X.env.locals)
    (h1 : it ∈ X.ex ∨ X.s₀.heap.objs.size ≤ it) (h2 : ∀ x c, X.env.cells.lookup x = some c → c ≠ it) (h3 : ∀ p ∈ X.pn ++ pins, p.1 ≠ it) : Inv X pins σ H { s with heap := h', toks := t' } := by
  have nit : ∀ b u, H b = some u → b ≠ it := fun b u e z => by rw [z, hn] at e; cases e
  refine I.step (g' := s.gens) (d' := s.drawn) (ch := [it]) (fun b hb => ?_) (fun b o _ _ hc e _ => k b o (fun z => hc (by simp [z])) e) (fun b o _ _ hc e _ => ⟨o.slots, k b o (fun z => hc (by simp [z])) e⟩) (fun _ _ _ _ n => n)
    (fun b o hc e => ⟨o, k b o (fun z => hc (by simp [z])) e⟩) (fun _ _ e => e) (fun _ _ _ e => e) (fun b ps e => ⟨#[], by rw [e]; simp⟩) (fun m hm => ?_) (fun b u e => ?_) I.bare
  · have e : b = it := by simpa using hb
    subst e
    exact ⟨h1, hL, h2, h3⟩
  · obtain ⟨o, es, ep, ho, r⟩ := hm
    exact ⟨o, es, ep, k _ o (Ne.symm hL) ho, r⟩
  · refine (I.hok b u e).stay (fun c v hc q => k c v ?_ q) (fun _ q => q) fun _ _ q => q
    rcases hc with z | z
    · rw [z]; exact nit b u e
    · exact nit c _ z
theorem Inv.tok (I : Inv X pins σ H s) (t : Nat) : Inv X pins σ H { s with toks := t } := I.un (h' := s.heap) (t' := t) Un.refl I.hok
theorem Inv.kept {t' : Nat} (I : Inv X pins σ H s) (k : ∀ b u, s.heap.get? b = some u → h'.get? b = some u) : Inv X pins σ H { s with heap := h', toks := t' } := I.un (Un.kept k) (I.hok.kept k)
theorem Inv.laid {a : Addr} {o : HO} {t' : Nat} (I : Inv X pins σ H s) (k : ∀ b u, s.heap.get? b = some u → h'.get? b = some u) (hp : s.heap.objs.size ≤ a) (new : ObjOk X.prog X.w (upd H a o) h' a o) :
    Inv X pins σ (upd H a o) { s with heap := h', toks := t' } := I.un (Un.laid k hp (I.hok.fresh hp)) (I.hok.laid k hp new)
theorem Inv.write {x e : Addr} {o : HO} {t' : Nat} (I : Inv X pins σ H s) (mu : Mut (H x)) (he : e = x ∨ H e = some (.own x)) (k : ∀ b u, b ≠ e → s.heap.get? b = some u → h'.get? b = some u) (heo : ∃ u, h'.get? e = some u)
    (new : ObjOk X.prog X.w (upd H x o) h' x o) : Inv X pins σ (upd H x o) { s with heap := h', toks := t' } := I.un (Un.write mu he k heo) (I.hok.write mu he k heo new)
theorem Inv.pins_of {pins' : List (Addr × Obj)} (I : Inv X pins σ H s) (h : ∀ p ∈ pins', s.heap.get? p.1 = some p.2 ∧ H p.1 = none ∧ p.1 ≠ X.env.locals ∧ p.1 ∉ X.fs ∧ ∀ v, p.2.data ≠ .cell v) : Inv X pins' σ H s :=
  ⟨I.ok, I.os, I.bare, I.base, I.loc, I.cell, I.free, I.freeC, fun p hp => (List.mem_append.mp hp).elim (fun z => I.pin p (List.mem_append_left _ z)) (h p), I.hok, I.len⟩
theorem nodup_ix {N : List Str} (hN : N.Nodup) {i j : Nat} {x : Str} (a : N[i]? = some x) (b : N[j]? = some x) : i = j := by
  obtain ⟨h1, e1⟩ := List.getElem?_eq_some_iff.mp a
  obtain ⟨h2, e2⟩ := List.getElem?_eq_some_iff.mp b
  exact (List.getElem_inj hN).mp (e1.trans e2.symm)
theorem store_ok2 {M : Model} {A : Around} {E : Value → Shared → Prop} {i : Nat} {x : Str} {v : V} {u : Value} {Q : Unit → Shared → Prop} (I : Inv X pins σ H s) (hN : X.N.Nodup) (hi : X.N[i]? = some x) (hx : Loc X.env.scope x) (r : RelV v u)
    (h : ∀ s', Inv X pins (σ.set i (some v)) H s' → (∃ a, Heap.SameBut a s.heap s'.heap ∧ (a = X.env.locals ∨ X.env.cells.lookup x = some a)) → Q () s') (hf : X.fn x = true ∨ X.env.scope.names.lookup x = some .local := by first | exact .inl rfl | exact .inr rfl | assumption) : wpAny M A (storeName X.env x u) Q E s := by
  obtain ⟨m, hn, hl⟩ := id I.loc
  have hcls : (X.env.scope.kind == .class || (X.env.scope.kind == .module && X.env.locals != X.env.globals)) = false := by rw [I.ok.kind]; rfl
  have hiσ : i < σ.length := by rw [I.len]; exact (List.getElem?_eq_some_iff.mp hi).1
  have cne := I.cne
  have tracked : ∀ {a : Addr} {h' : Heap}, (∃ o, s.heap.get? a = some o ∧ H a = none) → Heap.SameBut a s.heap h' → HOk X.prog X.w H h' := fun {a h'} ha hs b ob e => by
    obtain ⟨_, _, hfree⟩ := ha
    refine (I.hok b ob e).stay (fun c w' hc q => (hs.2 c ?_).trans q) (fun _ q => q) fun _ _ q => q
    rintro rfl
    rcases hc with rfl | hc
    · rw [hfree] at e; cases e
    · rw [hfree] at hc; cases hc
  rcases hx with hk | hk
  · refine wpAny_storeName_local hk hn (fun h' hn' hs => ?_) hcls
    obtain ⟨oL, _, _, hoL, _⟩ := id hn
    refine h _ ⟨I.ok, I.os, I.bare, ⟨fun b o e n hb hx => ?_, fun b o e n hb hx => ?_, I.base.free, fun b o e hx => ?_, I.base.tups, I.base.frzs, I.base.tbls⟩, ⟨_, hn', fun j y v' e1 e2 e3 => ?_⟩, fun y c e => ?_, I.free, I.freeC, fun p hp => ?_, tracked ⟨oL, hoL, I.free⟩ hs, by simpa using I.len⟩ ⟨_, hs, .inl rfl⟩
    · exact (hs.2 b (Nat.ne_of_lt (Nat.lt_of_lt_of_le (Heap.lt_size e) I.ok.above))).trans (I.base.keep b o e n hb hx)
    · obtain ⟨sl, e1⟩ := I.base.slot b o e n hb hx
      exact ⟨sl, (hs.2 b (Nat.ne_of_lt (Nat.lt_of_lt_of_le (Heap.lt_size e) I.ok.above))).trans e1⟩
    · obtain ⟨o', e1⟩ := I.base.there b o e hx
      exact ⟨o', (hs.2 b (Nat.ne_of_lt (Nat.lt_of_lt_of_le (Heap.lt_size e) I.ok.above))).trans e1⟩
    · by_cases hj : j = i
      · subst hj
        rw [hi] at e1; cases e1
        rw [List.getElem?_set_self hiσ] at e2
        cases e2
        exact ⟨u, r, .inl ⟨hk, by simp⟩⟩
      · rw [List.getElem?_set_ne (Ne.symm hj)] at e2
        obtain ⟨u', r', q⟩ := hl j y v' e1 e2 e3
        refine ⟨u', r', ?_⟩
        rcases q with ⟨k, e⟩ | ⟨k, c, e, z⟩
        · refine .inl ⟨k, ?_⟩
          have : y ≠ x := fun e => hj (nodup_ix hN e1 (e ▸ hi))
          simp [this, e]
        · exact .inr ⟨k, c, e, z.sameBut hs (cne y c e)⟩
    · obtain ⟨w', z⟩ := I.cell y c e
      exact ⟨w', z.sameBut hs (cne y c e)⟩
    · obtain ⟨e, n, ne, nf, d⟩ := I.pin p hp
      exact ⟨(hs.2 p.1 ne).trans e, n, ne, nf, d⟩
  · have hfn : X.fn x = true := by
      rcases hf with z | z
      · exact z
      · rw [z] at hk; cases hk
    obtain ⟨c, hc⟩ := I.ok.has x (.inl hk)
    obtain ⟨w', z⟩ := I.cell x c hc
    refine wpAny_storeName_cell I.ok.kind hk hc z (fun h' hc' hs => ?_)
    obtain ⟨oc, hoc, hocd⟩ := id z
    refine h { s with heap := h' } ⟨I.ok, I.os, I.bare, ⟨fun b o e n hb hx => ?_, fun b o e n hb hx => ?_, I.base.free, fun b o e hx => ?_, I.base.tups, I.base.frzs, I.base.tbls⟩, ⟨m, hn.sameBut hs (Ne.symm (cne x c hc)), fun j y v' e1 e2 e3 => ?_⟩, fun y c' e => ?_, I.free, I.freeC, fun p hp => ?_, tracked ⟨oc, hoc, I.freeC x c hc⟩ hs, by simpa using I.len⟩ ⟨c, hs, .inr hc⟩
    · exact (hs.2 b (Nat.ne_of_lt (Nat.lt_of_lt_of_le (Heap.lt_size e) (I.ok.cab x c hfn hc)))).trans (I.base.keep b o e n hb hx)
    · obtain ⟨sl, e1⟩ := I.base.slot b o e n hb hx
      exact ⟨sl, (hs.2 b (Nat.ne_of_lt (Nat.lt_of_lt_of_le (Heap.lt_size e) (I.ok.cab x c hfn hc)))).trans e1⟩
    · obtain ⟨o', e1⟩ := I.base.there b o e hx
      exact ⟨o', (hs.2 b (Nat.ne_of_lt (Nat.lt_of_lt_of_le (Heap.lt_size e) (I.ok.cab x c hfn hc)))).trans e1⟩
    · by_cases hj : j = i
      · subst hj
        rw [hi] at e1; cases e1
        rw [List.getElem?_set_self hiσ] at e2
        cases e2
        exact ⟨u, r, .inr ⟨.inl hk, c, hc, hc'⟩⟩
      · rw [List.getElem?_set_ne (Ne.symm hj)] at e2
        obtain ⟨u', r', q⟩ := hl j y v' e1 e2 e3
        refine ⟨u', r', ?_⟩
        rcases q with q | ⟨k, c', e, z'⟩
        · exact .inl q
        · refine .inr ⟨k, c', e, z'.sameBut hs ?_⟩
          rintro rfl
          exact hj (nodup_ix hN e1 (I.ok.inj _ _ _ e hc ▸ hi))
    · by_cases hcc : c' = c
      · subst hcc; exact ⟨_, hc'⟩
      · obtain ⟨w2, z2⟩ := I.cell y c' e
        exact ⟨w2, z2.sameBut hs hcc⟩
    · obtain ⟨e, n, ne, nf, d⟩ := I.pin p hp
      refine ⟨(hs.2 p.1 ?_).trans e, n, ne, nf, d⟩
      intro q
      rw [q, hoc] at e
      have q' : oc = p.2 := Option.some.inj e
      exact d w' (by rw [← q']; exact hocd)
theorem store_ok {M : Model} {A : Around} {E : Value → Shared → Prop} {i : Nat} {x : Str} {v : V} {u : Value} {Q : Unit → Shared → Prop} (I : Inv X pins σ H s) (hN : X.N.Nodup) (hi : X.N[i]? = some x) (hx : Loc X.env.scope x) (r : RelV v u)
    (h : ∀ s', Inv X pins (σ.set i (some v)) H s' → Q () s') (hf : X.fn x = true ∨ X.env.scope.names.lookup x = some .local := by first | exact .inl rfl | exact .inr rfl | assumption) : wpAny M A (storeName X.env x u) Q E s :=
  store_ok2 I hN hi hx r (fun s' I' _ => h s' I') hf
theorem Inv.call' {s' : Shared} {ch : List Addr} (I : Inv X pins σ H s) (ho : s'.os = s.os) (u : Un (frs X.stack) ch H H' s.heap s'.heap) (hok : HOk X.prog X.w H' s'.heap) (hg : AllBare s'.gens)
    (hch : ∀ b ∈ ch, (b ∈ X.ex ∨ X.s₀.heap.objs.size ≤ b) ∧ b ≠ X.env.locals ∧ (∀ x c, X.env.cells.lookup x = some c → c ≠ b) ∧ ∀ p ∈ X.pn ++ pins, p.1 ≠ b) : Inv X pins σ H' s' := by
  obtain ⟨h', g', d', t', o'⟩ := s'
  have e : o' = s.os := ho
  subst e
  exact I.call (g' := g') (t' := t') (d' := d') u hok hg hch
end
abbrev XK := Value → Option Addr → Hp → Prop
abbrev St := List (Option V)
abbrev VK := V → Hp → Prop
abbrev TE := St → Hp → VK → Prop
abbrev TT := St → Hp → (Bool → Hp → Prop) → Prop
abbrev TA := St → Hp → (List V → Hp → Prop) → Prop
structure Ends where
  nx : St → Hp → Prop
  rt : VK
  bk : St → Hp → Prop := fun _ _ => False
  ct : St → Hp → Prop := fun _ _ => False
abbrev TS := Ends → St → Hp → Prop
def EP (X : Cx) (pins : List (Addr × Obj)) (σ : St) (Q : VK) (u : Value) (s' : Shared) : Prop := ∃ v H', Inv X pins σ H' s' ∧ RelV v u ∧ Q v H'
def TP (X : Cx) (pins : List (Addr × Obj)) (σ : St) (Q : Bool → Hp → Prop) (b : Bool) (s' : Shared) : Prop := ∃ H', Inv X pins σ H' s' ∧ Q b H'
def AP (X : Cx) (pins : List (Addr × Obj)) (σ : St) (Q : List V → Hp → Prop) (us : List Value) (s' : Shared) : Prop := ∃ vs H', Inv X pins σ H' s' ∧ Vals vs us ∧ Q vs H'
def SP (X : Cx) (pins : List (Addr × Obj)) (D : Ends) (f : Flow) (s' : Shared) : Prop :=
  match f with
  | .next => ∃ σ' H', Inv X pins σ' H' s' ∧ D.nx σ' H'
  | .brk => ∃ σ' H', Inv X pins σ' H' s' ∧ D.bk σ' H'
  | .cont => ∃ σ' H', Inv X pins σ' H' s' ∧ D.ct σ' H'
  | .ret u => ∃ v σ' H', Inv X pins σ' H' s' ∧ RelV v u ∧ D.rt v H'
def PE (X : Cx) (e : Expr) (t : TE) : Prop :=
  ∀ (pins : List (Addr × Obj)) (s : Shared) (σ : St) (H : Hp) (Q : VK), Inv X pins σ H s → t σ H Q → wpAny (model X.prog X.w) X.A (eval e X.env) (EP X pins σ Q) X.xe s
def PT (X : Cx) (e : Expr) (t : TT) : Prop :=
  ∀ (pins : List (Addr × Obj)) (s : Shared) (σ : St) (H : Hp) (Q : Bool → Hp → Prop), Inv X pins σ H s → t σ H Q → wpAny (model X.prog X.w) X.A (isTrue e X.env (eval e X.env)) (TP X pins σ Q) X.xe s
def PW (X : Cx) (e : Expr) (t : TT) : Prop :=
  ∀ (whole : Sem Value) (pins : List (Addr × Obj)) (s : Shared) (σ : St) (H : Hp) (Q : Bool → Hp → Prop), Inv X pins σ H s → t σ H Q → wpAny (model X.prog X.w) X.A (isTrue e X.env whole) (TP X pins σ Q) X.xe s
theorem PW.pt {X : Cx} {e : Expr} {t : TT} (h : PW X e t) : PT X e t := h _
def PA (X : Cx) (es : List Expr) (t : TA) : Prop :=
  ∀ (pos : Pos) (pins : List (Addr × Obj)) (s : Shared) (σ : St) (H : Hp) (Q : List V → Hp → Prop), Inv X pins σ H s → t σ H Q → wpAny (model X.prog X.w) X.A (spliced (backTo pos (starEach es X.env))) (AP X pins σ Q) X.xe s
def PS (X : Cx) (st : Stmt) (t : TS) : Prop :=
  ∀ (pins : List (Addr × Obj)) (s : Shared) (σ : St) (H : Hp) (D : Ends), Inv X pins σ H s → t D σ H → wpAny (model X.prog X.w) X.A (exec st X.env) (SP X pins D) X.xe s
def PSs (X : Cx) (st : List Stmt) (t : TS) : Prop :=
  ∀ (pins : List (Addr × Obj)) (s : Shared) (σ : St) (H : Hp) (D : Ends), Inv X pins σ H s → t D σ H → wpAny (model X.prog X.w) X.A (execs st X.env) (SP X pins D) X.xe s
theorem thn {α : Type} {t : Sem α} {Q Q' : α → Shared → Prop} {M : Model} {A : Around} {E : Value → Shared → Prop} {s : Shared} (h : wpAny M A t Q E s) (hQ : ∀ a s, Q a s → Q' a s) : wpAny M A t Q' E s := wpAny_mono h hQ fun _ _ x => x
end L2
namespace L2
open PySem PySem.Spec PyProof.Rows
section
variable {X : Cx}
def tVar (i : Nat) : TE := fun σ H Q => ∃ v, σ[i]? = some (some v) ∧ Q v H
def tC (v : V) : TE := fun _ H Q => Q v H
theorem pe_var {i : Nat} {x : Str} {pos : Pos} (hN : X.N[i]? = some x) (hv : Vis X.env.scope x) (hd : (x == ("__debug__" : Str)) = false := by decide) (hcd : (x == ("__classdict__" : Str)) = false := by decide) : PE X (.Name x pos) (tVar i) := by
  intro pins s σ H Q I h
  obtain ⟨v, e, h⟩ := h
  obtain ⟨m, hn, hl⟩ := I.loc
  obtain ⟨u, r, l⟩ := hl i x v hN e hv
  have fin : EP X pins σ Q u s := ⟨v, H, I, r, h⟩
  rcases l with ⟨hk, hm⟩ | ⟨hk, c, hc, hcell⟩
  · exact wpAny_Name (wpAny_loadName_local I.ok.kind hk hn hm fin) hd
  · rcases hk with hk | hk
    · exact wpAny_Name (wpAny_loadName_cell I.ok.kind hk hc hcell fin) hd
    · exact wpAny_Name (wpAny_loadName_free I.ok.kind hk hc hcell fin hcd) hd
theorem pe_int {i j pos} : PE X (.Constant (.int i) j pos) (tC (.int i)) := fun _ _ _ H _ I h => wpAny_Constant_int ⟨.int i, H, I.tok _, ⟨_, rfl⟩, h⟩
theorem pe_bl {b j pos} : PE X (.Constant (.bool b) j pos) (tC (.bl b)) := fun _ _ _ H _ I h => Constant_bool ⟨.bl b, H, I, rfl, h⟩
theorem pe_non {j pos} : PE X (.Constant .none j pos) (tC .non) := fun _ _ _ H _ I h => Constant_none ⟨.non, H, I, rfl, h⟩
theorem pe_str {x j pos} : PE X (.Constant (.str x) j pos) (tC (.str x)) := fun _ _ _ H _ I h => Calls.Constant_str ⟨.str x, H, I.tok _, ⟨_, rfl⟩, h⟩
def Gl (X : Cx) (x : Str) : Prop := X.env.kindOf x = some .globalImplicit
theorem ld_glob {E : Value → Shared → Prop} {pins : List (Addr × Obj)} {s : Shared} {σ : St} {H : Hp} {x : Str} {u : Value} {pos : Pos} {Q : Value → Shared → Prop} (I : Inv X pins σ H s) (hg : Gl X x) (hm : X.mg x = some u) (h : Q u s)
    (hd : (x == ("__debug__" : Str)) = false := by decide) : wpAny (model X.prog X.w) X.A (eval (.Name x pos) X.env) Q E s :=
  Calls.Name_function_global I.ok.kind hg (Calls.loadGlobal_global (by rw [I.ok.glob]; exact I.mod.glob.keeps I.bk) hm h) hd
theorem ld_blt {E : Value → Shared → Prop} {pins : List (Addr × Obj)} {s : Shared} {σ : St} {H : Hp} {x : Str} {u : Value} {pos : Pos} {Q : Value → Shared → Prop} (I : Inv X pins σ H s) (hg : Gl X x) (hm : X.mg x = none) (hv : bootBuiltins x = some u) (h : Q u s)
    (hn : x ≠ "__name__" := by decide) (hd : (x == ("__debug__" : Str)) = false := by decide) : wpAny (model X.prog X.w) X.A (eval (.Name x pos) X.env) Q E s := by
  obtain ⟨mb, h1, h2⟩ := I.mod.blt
  exact Calls.Name_function_global I.ok.kind hg (Calls.loadGlobal_builtin (by rw [I.ok.glob]; exact I.mod.glob.keeps I.bk) hm (by rw [I.ok.blt]; exact h1.keeps I.bk) ((h2 x hn).trans hv) h) hd
theorem pe_glob {x : Str} {v : V} {u : Value} {pos : Pos} (hg : Gl X x) (hm : X.mg x = some u) (r : RelV v u) (hd : (x == ("__debug__" : Str)) = false := by decide) : PE X (.Name x pos) (tC v) :=
  fun _ _ _ H _ I h => ld_glob I hg hm ⟨v, H, I, r, h⟩ hd
theorem pe_bltn {x : Str} {v : V} {u : Value} {pos : Pos} (hg : Gl X x) (hm : X.mg x = none) (hv : bootBuiltins x = some u) (r : RelV v u) (hn : x ≠ "__name__" := by decide) (hd : (x == ("__debug__" : Str)) = false := by decide) : PE X (.Name x pos) (tC v) :=
  fun _ _ _ H _ I h => ld_blt I hg hm hv ⟨v, H, I, r, h⟩ hn hd
def t2I (ta tb : TE) (k : Int → Int → Hp → Prop) : St → Hp → Prop := fun σ H => ta σ H fun x H1 => tb σ H1 fun y H2 => ∃ i j, x = .int i ∧ y = .int j ∧ k i j H2
def tAdd (ta tb : TE) : TE := fun σ H Q => t2I ta tb (fun i j H2 => Q (.int (i + j)) H2) σ H
def tSub (ta tb : TE) : TE := fun σ H Q => t2I ta tb (fun i j H2 => Q (.int (i - j)) H2) σ H
def tMul (ta tb : TE) : TE := fun σ H Q => t2I ta tb (fun i j H2 => (-(2 ^ 64) < i ∧ i < 2 ^ 64) ∧ Q (.int (i * j)) H2) σ H
variable {a b : Expr} {ta tb : TE} {pos : Pos}
def PC (X : Cx) (op : CmpOp) (a b : Expr) (t : TE) : Prop :=
  ∀ (pins : List (Addr × Obj)) (s : Shared) (σ : St) (H : Hp) (Q : VK), Inv X pins σ H s → t σ H Q →
    wpAny (model X.prog X.w) X.A (eval a X.env) (fun v s₁ => wpAny (model X.prog X.w) X.A (eval b X.env) (fun u s₂ => wpAny (model X.prog X.w) X.A (compareOp op v u) (EP X pins σ Q) X.xe s₂) X.xe s₁) X.xe s
def tCmp (p : Int → Int → Bool) (ta tb : TE) : TE := fun σ H Q => t2I ta tb (fun i j H2 => Q (.bl (p i j)) H2) σ H
abbrev tLt : TE → TE → TE := tCmp fun i j => decide (i < j)
abbrev tLe : TE → TE → TE := tCmp fun i j => decide (i ≤ j)
abbrev tGt : TE → TE → TE := tCmp fun i j => decide (j < i)
abbrev tGe : TE → TE → TE := tCmp fun i j => decide (j ≤ i)
abbrev tEqI : TE → TE → TE := tCmp fun i j => decide (i = j)
abbrev tNeI : TE → TE → TE := tCmp fun i j => !decide (i = j)
def tIsN (ta : TE) : TE := fun σ H Q => ta σ H fun x H1 => Q (.bl (decide (x = .non))) H1
def tNotN (ta : TE) : TE := fun σ H Q => ta σ H fun x H1 => Q (.bl (!decide (x = .non))) H1
def tB (t : TE) : TT := fun σ H Q => t σ H fun x H1 => ∃ c, x = .bl c ∧ Q c H1
variable {tA tB' : TT} {rest : List Expr}
def tAnd (t u : TT) : TT := fun σ H Q => t σ H fun c H1 => if c = true then u σ H1 Q else Q false H1
def tOr (t u : TT) : TT := fun σ H Q => t σ H fun c H1 => if c = true then Q true H1 else u σ H1 Q
def tNot (t : TT) : TT := fun σ H Q => t σ H fun c H1 => Q (!c) H1
theorem pw_and1 (ha : PT X a tA) : PW X (.BoolOp .And [a] pos) tA := by
  intro wh pins s σ H Q I h
  refine isTrue_and (thn (ha pins s σ H Q I h) fun c s1 e => ?_)
  cases c with
  | true => exact isTrue_and_nil e
  | false => exact e
theorem pw_or1 (ha : PT X a tA) : PW X (.BoolOp .Or [a] pos) tA := by
  intro wh pins s σ H Q I h
  refine isTrue_or (thn (ha pins s σ H Q I h) fun c s1 e => ?_)
  cases c with
  | false => exact isTrue_or_nil e
  | true => exact e
theorem pw_and (ha : PT X a tA) (hb : PW X (.BoolOp .And (b :: rest) pos) tB') : PW X (.BoolOp .And (a :: b :: rest) pos) (tAnd tA tB') := by
  intro wh pins s σ H Q I h
  refine isTrue_and (thn (ha pins s σ H _ I h) fun c s1 ⟨H1, I1, q1⟩ => ?_)
  cases c with
  | true => exact hb wh pins s1 σ H1 Q I1 q1
  | false => exact ⟨H1, I1, q1⟩
theorem pw_or (ha : PT X a tA) (hb : PW X (.BoolOp .Or (b :: rest) pos) tB') : PW X (.BoolOp .Or (a :: b :: rest) pos) (tOr tA tB') := by
  intro wh pins s σ H Q I h
  refine isTrue_or (thn (ha pins s σ H _ I h) fun c s1 ⟨H1, I1, q1⟩ => ?_)
  cases c with
  | true => exact ⟨H1, I1, q1⟩
  | false => exact hb wh pins s1 σ H1 Q I1 q1
theorem pt_not (ha : PT X a tA) : PT X (.UnaryOp .Not a pos) (tNot tA) := by
  intro pins s σ H Q I h
  exact isTrue_not (ha pins s σ H (fun c H1 => Q (!c) H1) I h)
def tAndV (ta tb : TE) : TE := fun σ H Q => ta σ H fun x H1 => ∃ c, x = .bl c ∧ if c = true then tb σ H1 Q else Q (.bl false) H1
def tOrV (ta tb : TE) : TE := fun σ H Q => ta σ H fun x H1 => ∃ c, x = .bl c ∧ if c = true then Q (.bl true) H1 else tb σ H1 Q
def tNotV (ta : TE) : TE := fun σ H Q => ta σ H fun x H1 => ∃ c, x = .bl c ∧ Q (.bl (!c)) H1
theorem pe_one {op} {t : TE} (h : PE X a t) : PE X (.BoolOp op [a] pos) t := fun pins s σ H Q I hw => BoolOp_one (h pins s σ H Q I hw)
def tIf (t : TT) (ta tb : TE) : TE := fun σ H Q => t σ H fun c H1 => if c = true then ta σ H1 Q else tb σ H1 Q
theorem pe_ifExp {c : Expr} (hc : PT X c tA) (ha : PE X a ta) (hb : PE X b tb) : PE X (.IfExp c a b pos) (tIf tA ta tb) := by
  intro pins s σ H Q I h
  refine wpAny_IfExp (thn (hc pins s σ H _ I h) fun d s1 ⟨H1, I1, q1⟩ => ?_)
  cases d with
  | true => exact ha pins s1 σ H1 Q I1 q1
  | false => exact hb pins s1 σ H1 Q I1 q1
end
end L2
namespace L2
open PySem PySem.Spec PyProof.Rows
def SqL (K : PySem.W.Frag) (H : Hp) (a : Addr) (xs : List V) : Prop :=
  Rd H a (.lst xs) ∨
    ∃ (o : Obj) (its : Array Value) (n : Nat), K.lookup a = some o ∧ o.cls = .type "list" ∧ o.dict = none ∧ o.data = .seq its n ∧ its.size ≤ sizeLine ∧ Vals xs its.toList
def SqT (K : PySem.W.Frag) (H : Hp) (a : Addr) (xs : List V) : Prop :=
  Rd H a (.tup xs) ∨
    ∃ (o : Obj) (its : Array Value) (n : Nat), K.lookup a = some o ∧ o.cls = .type "tuple" ∧ o.data = .seq its n ∧ its.size ≤ sizeLine ∧ Vals xs its.toList
def absV : Value → Option V
  | .none => some .non
  | .bool b => some (.bl b)
  | .int i _ => some (.int i)
  | .str x _ => some (.str x)
  | .bytes b _ => some (.byt b)
  | .float b _ => some (.flt b)
  | .ref a => some (.ref a)
  | .type n => some (.ty n)
  | _ => none
theorem RelV.abs {x : V} {u : Value} (r : RelV x u) : absV u = some x := by
  cases x with
  | non => cases r; rfl
  | bl _ => cases r; rfl
  | int _ => obtain ⟨t, rfl⟩ := r; rfl
  | str _ => obtain ⟨t, rfl⟩ := r; rfl
  | byt _ => obtain ⟨t, rfl⟩ := r; rfl
  | flt _ => obtain ⟨t, rfl⟩ := r; rfl
  | ref _ => cases r; rfl
  | ty _ => cases r; rfl
theorem RelV.inj {x y : V} {u : Value} (r : RelV x u) (q : RelV y u) : x = y := Option.some.inj (r.abs.symm.trans q.abs)
theorem Vals.inj : ∀ {xs ys : List V} {us : List Value}, Vals xs us → Vals ys us → xs = ys
  | _, _, _, .nil, .nil => rfl
  | _, _, _, .cons r t, .cons r' t' => by rw [r.inj r', Vals.inj t t']
section
variable {X : Cx} {pins : List (Addr × Obj)} {σ : St} {H : Hp} {s : Shared} {a : Addr} {xs ys : List V}
theorem SqL.of {K : PySem.W.Frag} (h : H a = some (.lst xs)) : SqL K H a xs := .inl (.inl h)
theorem SqT.of {K : PySem.W.Frag} (h : H a = some (.tup xs)) : SqT K H a xs := .inl (.inl h)
theorem Inv.list (I : Inv X pins σ H s) (h : SqL X.K H a xs) : ∃ its : List Value, Vals xs its ∧ PlainL s.heap a its.toArray ∧ xs.length ≤ sizeLine := by
  rcases h with h | ⟨o, its, n, hk, hc, hd, hs, hz, r⟩
  · obtain ⟨z, its, n, r, e⟩ := h.ok I.hok
    exact ⟨its, r, ⟨_, n, e, rfl, rfl, rfl⟩, z⟩
  · refine ⟨its.toList, r, ⟨o, n, I.kIn a o hk, hc, hd, by simpa using hs⟩, ?_⟩
    have e := r.length
    simp only [Array.length_toList] at e
    omega
theorem Inv.tuple (I : Inv X pins σ H s) (h : SqT X.K H a xs) : ∃ its : List Value, Vals xs its ∧ IsTup s.heap a its.toArray ∧ xs.length ≤ sizeLine := by
  rcases h with h | ⟨o, its, n, hk, hc, hs, hz, r⟩
  · obtain ⟨z, its, r, p⟩ := h.ok I.hok
    exact ⟨its, r, p, z⟩
  · refine ⟨its.toList, r, ⟨o, I.kIn a o hk, hc, n, by simpa using hs⟩, ?_⟩
    have e := r.length
    simp only [Array.length_toList] at e
    omega
theorem Inv.list_inj (I : Inv X pins σ H s) (h : SqL X.K H a xs) (h' : SqL X.K H a ys) : xs = ys := by
  obtain ⟨its, r, ⟨o, n, e, _, _, d⟩, _⟩ := I.list h
  obtain ⟨its', r', ⟨o', n', e', _, _, d'⟩, _⟩ := I.list h'
  rw [e] at e'; cases e'
  rw [d] at d'
  injection d' with d1 _
  have : its = its' := by simpa using congrArg Array.toList d1
  subst this
  exact r.inj r'
end
abbrev Cx.wish (X : Cx) (E : Value → Shared → Prop) : Cx := { X with xe := E }
abbrev Cx.nox (X : Cx) : Cx := X.wish fun _ _ => False
theorem Cx.Ok.wish {X : Cx} (ok : X.Ok) (E : Value → Shared → Prop) : (X.wish E).Ok :=
  ⟨ok.mod, ok.kind, ok.glob, ok.blt, ok.above, ok.inj, ok.has, ok.cab, ok.hd, ok.frames, ok.stk, ok.exf, ok.bs, ok.bsz, ok.noex, ok.exfs, ok.funs, ok.frf⟩
theorem Cx.Ok.unwish {X : Cx} {E : Value → Shared → Prop} (ok : (X.wish E).Ok) : X.Ok :=
  ⟨ok.mod, ok.kind, ok.glob, ok.blt, ok.above, ok.inj, ok.has, ok.cab, ok.hd, ok.frames, ok.stk, ok.exf, ok.bs, ok.bsz, ok.noex, ok.exfs, ok.funs, ok.frf⟩
section
variable {X : Cx} {pins : List (Addr × Obj)} {σ : St} {H : Hp} {s : Shared} {E : Value → Shared → Prop}
theorem Inv.wish (I : Inv X pins σ H s) (E : Value → Shared → Prop) : Inv (X.wish E) pins σ H s := ⟨I.ok.wish E, I.os, I.bare, I.base, I.loc, I.cell, I.free, I.freeC, I.pin, I.hok, I.len⟩
theorem Inv.unwish (I : Inv (X.wish E) pins σ H s) : Inv X pins σ H s := ⟨I.ok.unwish, I.os, I.bare, I.base, I.loc, I.cell, I.free, I.freeC, I.pin, I.hok, I.len⟩
theorem SP.unwish {D : Ends} {f : Flow} {s' : Shared} (h : SP (X.wish E) pins D f s') : SP X pins D f s' := by
  cases f with
  | next => obtain ⟨σ', H', I, q⟩ := h; exact ⟨σ', H', I.unwish, q⟩
  | brk => obtain ⟨σ', H', I, q⟩ := h; exact ⟨σ', H', I.unwish, q⟩
  | cont => obtain ⟨σ', H', I, q⟩ := h; exact ⟨σ', H', I.unwish, q⟩
  | ret u => obtain ⟨v, σ', H', I, r, q⟩ := h; exact ⟨v, σ', H', I.unwish, r, q⟩
theorem PE.nox {e : Expr} {t : TE} (h : PE X.nox e t) : PE X e t := fun pins s σ H Q I hw =>
  wpAny_mono (h pins s σ H Q (I.wish _) hw) (fun _ _ ⟨v, H', I', r, q⟩ => ⟨v, H', I'.unwish, r, q⟩) fun _ _ z => False.elim z
theorem PT.nox {e : Expr} {t : TT} (h : PT X.nox e t) : PT X e t := fun pins s σ H Q I hw =>
  wpAny_mono (h pins s σ H Q (I.wish _) hw) (fun _ _ ⟨H', I', q⟩ => ⟨H', I'.unwish, q⟩) fun _ _ z => False.elim z
theorem PSs.nox {st : List Stmt} {t : TS} (h : PSs X.nox st t) : PSs X st t := fun pins s σ H D I hw =>
  wpAny_mono (h pins s σ H D (I.wish _) hw) (fun _ _ q => q.unwish) fun _ _ z => False.elim z
end
section
variable {X : Cx} {st : Stmt} {rest : List Stmt} {t u : TS} {e : Expr} {te : TE} {pos : Pos}
def tNext : TS := fun D σ H => D.nx σ H
def tSeq (t u : TS) : TS := fun D σ H => t { D with nx := u D } σ H
theorem pss_nil : PSs X [] tNext := fun _ _ σ H _ I h => wpAny_execs_nil ⟨σ, H, I, h⟩
theorem pss_cons (h1 : PS X st t) (h2 : PSs X rest u) : PSs X (st :: rest) (tSeq t u) := by
  intro pins s σ H D I h
  refine wpAny_execs_cons (thn (h1 pins s σ H { D with nx := u D } I h) fun f s1 q => ?_)
  cases f with
  | next =>
    obtain ⟨σ', H', I', q⟩ := q
    exact h2 pins s1 σ' H' D I' q
  | ret v => exact q
  | brk => exact q
  | cont => exact q
theorem pss_one (h1 : PS X st t) : PSs X [st] t := by
  intro pins s σ H D I h
  refine wpAny_execs_cons (thn (h1 pins s σ H D I h) fun f s1 q => ?_)
  cases f with
  | next => exact wpAny_execs_nil q
  | ret v => exact q
  | brk => exact q
  | cont => exact q
def tBreak : TS := fun D σ H => D.bk σ H
def tCont : TS := fun D σ H => D.ct σ H
theorem ps_continue : PS X (.Continue pos) tCont := fun _ _ σ H _ I h => wpAny_Continue ⟨σ, H, I, h⟩
theorem Inv.quiet {pins : List (Addr × Obj)} {σ : St} {H : Hp} {s : Shared} (I : Inv X pins σ H s) : interactive X.env = false := by simp [interactive, I.ok.kind]
def tDrop (te : TE) : TS := fun D σ H => te σ H fun _ H1 => D.nx σ H1
theorem ps_expr (he : PE X e te) (hs : swapsWith e none pos.line X.env = pure false := by rfl) : PS X (.Expr e pos) (tDrop te) := by
  intro pins s σ H D I h
  exact wpAny_Expr_any (thn (he pins s σ H _ I h) fun v s1 ⟨x, H1, I1, r1, q1⟩ => ⟨σ, H1, I1, q1⟩) I.quiet hs
def tRet (te : TE) : TS := fun D σ H => te σ H D.rt
theorem ps_ret (he : PE X e te) : PS X (.Return (some e) pos) (tRet te) := by
  intro pins s σ H D I h
  exact wpAny_Return_some (thn (he pins s σ H _ I h) fun v s1 ⟨x, H1, I1, r1, q1⟩ => ⟨x, σ, H1, I1, r1, q1⟩)
def tRetN : TS := fun D _ H => D.rt .non H
def tIfS (c : TT) (t u : TS) : TS := fun D σ H => c σ H fun b H1 => if b = true then t D σ H1 else u D σ H1
theorem ps_if {c : Expr} {a b : List Stmt} {tc : TT} (hc : PT X c tc) (ha : PSs X a t) (hb : PSs X b u) : PS X (.If c a b pos) (tIfS tc t u) := by
  intro pins s σ H D I h
  refine wpAny_If (thn (hc pins s σ H _ I h) fun d s1 ⟨H1, I1, q1⟩ => ?_)
  cases d with
  | true => exact ha pins s1 σ H1 D I1 q1
  | false => exact hb pins s1 σ H1 D I1 q1
def tNever : TS := fun _ _ _ => False
end
abbrev TG := V → St → Hp → (St → Hp → Prop) → Prop
abbrev TGs := List V → St → Hp → (St → Hp → Prop) → Prop
def PG (X : Cx) (target : Expr) (t : TG) : Prop :=
  ∀ (pins : List (Addr × Obj)) (s : Shared) (σ : St) (H : Hp) (v : V) (u : Value) (Q : St → Hp → Prop), Inv X pins σ H s → RelV v u → t v σ H Q →
    wpAny (model X.prog X.w) X.A (assign target X.env u) (fun _ s' => ∃ σ' H', Inv X pins σ' H' s' ∧ Q σ' H') X.xe s
def PGs (X : Cx) (ts : List Expr) (t : TGs) : Prop :=
  ∀ (pins : List (Addr × Obj)) (s : Shared) (σ : St) (H : Hp) (vs : List V) (us : List Value) (Q : St → Hp → Prop), Inv X pins σ H s → Vals vs us → t vs σ H Q →
    wpAny (model X.prog X.w) X.A (assignInOrder ((assignEach ts X.env).map (·.2)) us) (fun _ s' => ∃ σ' H', Inv X pins σ' H' s' ∧ Q σ' H') X.xe s
abbrev TSet := V → V → V → Hp → (Hp → Prop) → Prop
def PSet (X : Cx) (t : TSet) : Prop :=
  ∀ (pins : List (Addr × Obj)) (s : Shared) (σ : St) (H : Hp) (o i v : V) (ov iv u : Value) (Q : Hp → Prop), Inv X pins σ H s → RelV o ov → RelV i iv → RelV v u → t o i v H Q →
    wpAny (model X.prog X.w) X.A (setItem ov iv u) (fun _ s' => ∃ H', Inv X pins σ H' s' ∧ Q H') X.xe s
abbrev TIp := V → V → Hp → VK → Prop
def PIp (X : Cx) (op : Operator) (t : TIp) : Prop :=
  ∀ (pins : List (Addr × Obj)) (s : Shared) (σ : St) (H : Hp) (x y : V) (v u : Value) (Q : VK), Inv X pins σ H s → RelV x v → RelV y u → t x y H Q →
    wpAny (model X.prog X.w) X.A (inplaceOp op v u) (EP X pins σ Q) X.xe s
section
variable {X : Cx} {pos : Pos}
def gName (i : Nat) : TG := fun v σ H Q => Q (σ.set i (some v)) H
theorem pg_name {i : Nat} {x : Str} (hN : X.N.Nodup) (hi : X.N[i]? = some x) (hx : Loc X.env.scope x) (hf : X.fn x = true ∨ X.env.scope.names.lookup x = some .local := by first | exact .inl rfl | exact .inr rfl | assumption) : PG X (.Name x pos) (gName i) := by
  intro pins s σ H v u Q I r h
  exact wpAny_assign_Name (store_ok I hN hi hx r (fun s' I' => ⟨_, H, I', h⟩) hf)
def gNil : TGs := fun vs σ H Q => vs = [] ∧ Q σ H
def gCons (t : TG) (u : TGs) : TGs := fun vs σ H Q => ∃ v r, vs = v :: r ∧ t v σ H fun σ' H' => u r σ' H' Q
theorem pgs_nil : PGs X [] gNil := by
  intro pins s σ H vs us Q I r h
  obtain ⟨e, h⟩ := h
  subst e
  cases r
  exact assignInOrder_nil ⟨σ, H, I, h⟩
theorem pgs_cons {e : Expr} {es : List Expr} {t : TG} {u : TGs} (h1 : PG X e t) (h2 : PGs X es u)
    (hs : (assignEach (e :: es) X.env).map (·.2) = assign e X.env :: (assignEach es X.env).map (·.2) := by rfl) : PGs X (e :: es) (gCons t u) := by
  intro pins s σ H vs us Q I r h
  obtain ⟨v, vr, e1, h⟩ := h
  subst e1
  cases r with
  | cons r rr =>
    rw [hs]
    refine assignInOrder_cons (thn (h1 pins s σ H _ _ _ I r h) fun _ s1 ⟨σ1, H1, I1, q1⟩ => ?_)
    exact h2 pins s1 σ1 H1 _ _ Q I1 rr q1
def gTup (K : PySem.W.Frag) (n : Nat) (t : TGs) : TG := fun v σ H Q => ∃ a xs, v = .ref a ∧ SqT K H a xs ∧ xs.length = n ∧ t xs σ H Q
theorem pg_tup {es : List Expr} {k : Nat} {t : TGs} {n : Nat} (hc : X.calm = true) (h : PGs X es t)
    (hn : (assignEach es X.env).length = n := by rfl) (hst : (assignEach es X.env).findIdx? (·.1) = none := by rfl) : PG X (.Tuple es k pos) (gTup X.K n t) := by
  intro pins s σ H v u Q I r hw
  obtain ⟨a, xs, e1, hq, hl, hw⟩ := hw
  subst e1
  cases r
  obtain ⟨its, rv, ht, hz⟩ := I.tuple hq
  refine assign_Tuple_tuple (I.ok.hd hc) ht (by simp [hn, ← hl, rv.length]) hst fun h' hx => ?_
  have I1 : Inv X pins σ H { s with heap := h' } := I.kept (t' := s.toks) fun b o e => hx b o (Nat.ne_of_lt (Heap.lt_size e)) e
  exact h pins _ σ H xs _ Q I1 (by simpa using rv) hw
def gSub (to ti : TE) (t : TSet) : TG := fun v σ H Q => to σ H fun o H1 => ti σ H1 fun i H2 => t o i v H2 fun H3 => Q σ H3
theorem pg_sub {o i : Expr} {to ti : TE} {t : TSet} (ho : PE X o to) (hi : PE X i ti) (hs : PSet X t)
    (ha : ∀ v, assign (.Subscript o i pos) X.env v = (do
      let ov ← holding [v] (eval o X.env)
      let iv ← holding [v, ov] (eval i X.env)
      standAt pos
      holding [v, ov, iv] (setItem ov iv v)
      release [v, ov, iv] []) := by intro _; rfl) : PG X (.Subscript o i pos) (gSub to ti t) := by
  intro pins s σ H v u Q I r h
  rw [ha]
  refine wpAny_bind (wpAny_holding (thn (ho pins s σ H _ I h) fun ov s1 ⟨x, H1, I1, r1, q1⟩ => ?_))
  refine wpAny_bind (wpAny_holding (thn (hi pins s1 σ H1 _ I1 q1) fun iv s2 ⟨y, H2, I2, r2, q2⟩ => ?_))
  refine wpAny_bind (wpAny_standAt (wpAny_bind (wpAny_holding (thn (hs pins s2 σ H2 x y v ov iv u _ I2 r1 r2 r q2) fun _ s3 ⟨H3, I3, q3⟩ => ?_))))
  exact wpAny_release ⟨σ, H3, I3, q3⟩
def tAsg (te : TE) (g : TG) : TS := fun D σ H => te σ H fun x H1 => g x σ H1 D.nx
theorem ps_asg {tg e : Expr} {te : TE} {g : TG} (he : PE X e te) (hg : PG X tg g) (hs : swapsWithSole [tg] e pos.line X.env = pure false := by rfl) (hw : swappedStores [tg] e X.env = pure none := by rfl)
    (h1 : (assignEach [tg] X.env).map (·.2) = [assign tg X.env] := by rfl) : PS X (.Assign [tg] e pos) (tAsg te g) := by
  intro pins s σ H D I h
  refine wpAny_Assign_stores (thn (he pins s σ H _ I h) fun v s1 ⟨x, H1, I1, r1, q1⟩ => ?_) hs hw
  rw [h1]
  exact thn (hg pins s1 σ H1 x v _ I1 r1 q1) fun _ s2 q => q
theorem ps_set {i : Nat} {x : Str} {e : Expr} {te : TE} {pos' : Pos} (hN : X.N.Nodup) (hi : X.N[i]? = some x) (hx : Loc X.env.scope x) (he : PE X e te) (hs : swapsWith e (some (.Name x pos')) pos.line X.env = pure false := by rfl) (hf : X.fn x = true ∨ X.env.scope.names.lookup x = some .local := by first | exact .inl rfl | exact .inr rfl | assumption) :
    PS X (.Assign [.Name x pos'] e pos) (tAsg te (gName i)) := by
  intro pins s σ H D I h
  refine wpAny_Assign_Name (thn (he pins s σ H _ I h) fun v s1 ⟨y, H1, I1, r1, q1⟩ => ?_) hs
  exact store_ok I1 hN hi hx r1 (fun s2 I2 => ⟨_, H1, I2, q1⟩) hf
def tPar (i j : Nat) (ta : TA) : TS := fun D σ H => ta σ H fun vs H1 => ∃ v w, vs = [v, w] ∧ D.nx ((σ.set i (some v)).set j (some w)) H1
def tAug (i : Nat) (te : TE) (ti : TIp) : TS := fun D σ H => ∃ x, σ[i]? = some (some x) ∧ te σ H fun y H1 => ti x y H1 fun z H2 => D.nx (σ.set i (some z)) H2
def tAugS (to ti te : TE) (tget : V → V → Hp → VK → Prop) (tip : TIp) (tset : TSet) : TS := fun D σ H => to σ H fun o H1 => ti σ H1 fun i H2 => tget o i H2 fun x H3 => te σ H3 fun y H4 => tip x y H4 fun z H5 => tset o i z H5 fun H6 => D.nx σ H6
def PGet (X : Cx) (t : V → V → Hp → VK → Prop) : Prop :=
  ∀ (pins : List (Addr × Obj)) (s : Shared) (σ : St) (H : Hp) (o i : V) (ov iv : Value) (Q : VK), Inv X pins σ H s → RelV o ov → RelV i iv → t o i H Q →
    wpAny (model X.prog X.w) X.A (getItem ov iv) (EP X pins σ Q) X.xe s
theorem ps_augS {o i e : Expr} {to ti te : TE} {tget : V → V → Hp → VK → Prop} {tip : TIp} {tset : TSet} {op : Operator} {tpos : Pos} (ho : PE X o to) (hi : PE X i ti) (hg : PGet X tget) (he : PE X e te) (hp : PIp X op tip) (hs : PSet X tset)
    (ha : ∀ ov iv new, augStore i ov iv new = (do holding [new, ov, iv] (setItem ov iv new); release [new, ov, iv] []; pure .next) := by intros; rfl) : PS X (.AugAssign (.Subscript o i tpos) op e pos) (tAugS to ti te tget tip tset) := by
  intro pins s σ H D I h
  refine wpAny_AugAssign_SubscriptAny (thn (ho pins s σ H _ I h) fun ov s1 ⟨x1, H1, I1, r1, q1⟩ => ?_) ha
  refine thn (hi pins s1 σ H1 _ I1 q1) fun iv s2 ⟨x2, H2, I2, r2, q2⟩ => ?_
  refine thn (hg pins s2 σ H2 x1 x2 ov iv _ I2 r1 r2 q2) fun old s3 ⟨x3, H3, I3, r3, q3⟩ => ?_
  refine thn (he pins s3 σ H3 _ I3 q3) fun v s4 ⟨x4, H4, I4, r4, q4⟩ => ?_
  refine thn (hp pins s4 σ H4 x3 x4 old v _ I4 r3 r4 q4) fun new s5 ⟨x5, H5, I5, r5, q5⟩ => ?_
  exact thn (hs pins s5 σ H5 x1 x2 x5 ov iv new _ I5 r1 r2 r5 q5) fun _ s6 ⟨H6, I6, q6⟩ => ⟨σ, H6, I6, q6⟩
def ipI (f : Int → Int → Int) : TIp := fun x y H Q => ∃ i j, x = .int i ∧ y = .int j ∧ Q (.int (f i j)) H
theorem ip_sub : PIp X .Sub (ipI fun i j => i - j) := by
  intro pins s σ H x y v u Q I r1 r2 h
  obtain ⟨i, j, e1, e2, q⟩ := h
  subst e1; subst e2
  obtain ⟨t, rfl⟩ := r1
  obtain ⟨t', rfl⟩ := r2
  exact isub_int ⟨.int _, H, I.tok _, ⟨_, rfl⟩, q⟩
end
section
variable {X : Cx} {pos : Pos}
def tWhile (c : TT) (tb : TS) : TS := fun D σ H => ∃ W : Nat → St → Hp → Prop, (∃ m, W m σ H) ∧ ∀ m σ H, W m σ H →
  c σ H fun b H1 => if b = true then ∃ N : St → Hp → Prop, (∀ σ' H', N σ' H' → ∃ m', m' < m ∧ W m' σ' H') ∧ tb { D with nx := N, ct := N, bk := D.nx } σ H1 else D.nx σ H1
theorem ps_while {c : Expr} {body : List Stmt} {tc : TT} {tb : TS} (hp : PassesOwn (model X.prog X.w) X.A X.env X.xe) (hc : PT X c tc) (hb : PSs X body tb) : PS X (.While c body [] pos) (tWhile tc tb) := by
  intro pins s σ H D I h
  obtain ⟨W, ⟨m0, w0⟩, turn⟩ := h
  refine wpAny_While (codeAny_whileLoop (fun n s' => ∃ σ' H', Inv X pins σ' H' s' ∧ W n σ' H') ?_ m0 ⟨σ, H, I, w0⟩)
  rintro n s1 ⟨σ1, H1, I1, w1⟩
  refine wpAny_passesOwn hp (thn (hc pins s1 σ1 H1 _ I1 (turn n σ1 H1 w1)) fun b s2 ⟨H2, I2, q2⟩ => ?_)
  cases b with
  | true =>
    obtain ⟨N, hN, q2⟩ := q2
    rw [if_pos rfl]
    refine wpAny_passesOwn hp (thn (hb pins s2 σ1 H2 _ I2 q2) fun f s3 q3 => ?_)
    cases f with
    | next =>
      obtain ⟨σ3, H3, I3, n3⟩ := q3
      obtain ⟨m', hm, w3⟩ := hN σ3 H3 n3
      exact ⟨m', hm, σ3, H3, I3, w3⟩
    | cont =>
      obtain ⟨σ3, H3, I3, n3⟩ := q3
      obtain ⟨m', hm, w3⟩ := hN σ3 H3 n3
      exact ⟨m', hm, σ3, H3, I3, w3⟩
    | brk => exact q3
    | ret v => exact q3
  | false =>
    rw [if_neg Bool.false_ne_true]
    exact wpAny_execs_nil ⟨σ1, H2, I2, q2⟩
end
structure It where
  go : Nat → Hp → Prop
  yld : Nat → Hp → V → Hp → Prop
  stop : Nat → Hp → Prop
def FpOk (X : Cx) (pins : List (Addr × Obj)) (H : Hp) (b : Addr) : Prop :=
  H b = none ∧ b ≠ X.env.locals ∧ b ∉ X.fs ∧ (b ∈ X.ex ∨ X.s₀.heap.objs.size ≤ b) ∧ (∀ x c, X.env.cells.lookup x = some c → c ≠ b) ∧ ∀ p ∈ X.pn ++ pins, p.1 ≠ b
theorem Inv.fpOk {X : Cx} {pins : List (Addr × Obj)} {σ : St} {H H' : Hp} {s : Shared} {b : Addr} (I : Inv X pins σ H s) (hb : s.heap.objs.size ≤ b) (hn : H' b = none) : FpOk X pins H' b := by
  refine ⟨hn, Nat.ne_of_gt (Nat.lt_of_lt_of_le I.lt hb), I.nofs hb, .inr (Nat.le_trans I.sz hb), fun x c e z => ?_, fun p hp z => ?_⟩
  · obtain ⟨v, q⟩ := I.cell x c e
    exact absurd (Nat.lt_of_lt_of_le q.lt (by rw [z]; exact hb)) (Nat.lt_irrefl _)
  · exact absurd (Nat.lt_of_lt_of_le (Heap.lt_size (I.pin p hp).1) (by rw [z]; exact hb)) (Nat.lt_irrefl _)
structure Turn (P : Program) (w : World) (K : PySem.W.Frag) (tg : Expr) (J : It) (fp : List Addr) (it : Addr) (tn : Nat → Heap → Prop) : Prop where
  mem : it ∈ fp
  obj : ∀ i h, tn i h → ∀ b ∈ fp, ∃ o, h.get? b = some o ∧ ∀ v, o.data ≠ .cell v
  keep : ∀ i h h', tn i h → (∀ b ∈ fp, ∀ o, h.get? b = some o → h'.get? b = some o) → tn i h'
  item : ∀ (X : Cx), X.prog = P → X.w = w → X.K = K → X.calm = true → ∀ (i : Nat) (pins : List (Addr × Obj)) (s : Shared) (σ : St) (H : Hp) (E : Value → Shared → Prop), Inv X pins σ H s → (∀ b ∈ fp, FpOk X pins H b) → tn i s.heap → J.go i H →
    wpAny (model P w) X.A (pyNext (.ref it)) (fun r s1 => ∃ u, r = some u ∧
      wpAny (model P w) X.A (letOwnedTupleGo tg (.ref it) u) (fun _ s2 => ∃ x H', Inv X pins σ H' s2 ∧ RelV x u ∧ J.yld i H x H' ∧ tn (i + 1) s2.heap ∧ ∀ b ∈ fp, H' b = none) E s1) E s
  done : ∀ (X : Cx), X.prog = P → X.w = w → X.K = K → X.calm = true → ∀ (i : Nat) (pins : List (Addr × Obj)) (s : Shared) (σ : St) (H : Hp) (E : Value → Shared → Prop), Inv X pins σ H s → (∀ b ∈ fp, FpOk X pins H b) → tn i s.heap → J.stop i H →
    wpAny (model P w) X.A (pyNext (.ref it)) (fun r s1 => r = none ∧ Inv X pins σ H s1) E s
  self : ∀ (A : Around) (i : Nat) (s : Shared) (Q : Value → Shared → Prop) (E : Value → Shared → Prop), tn i s.heap → Q (.ref it) s → wpAny (model P w) A (pyIter (.ref it)) Q E s
abbrev TI := St → Hp → (It → Hp → Prop) → Prop
def PIE (X : Cx) (pins : List (Addr × Obj)) (σ : St) (tg : Expr) (R : It → Hp → Prop) (itv : Value) (s2 : Shared) : Prop :=
  ∃ (it : Addr) (fp : List Addr) (tn : Nat → Heap → Prop) (J : It) (H' : Hp), itv = .ref it ∧ Inv X pins σ H' s2 ∧ Turn X.prog X.w X.K tg J fp it tn ∧ tn 0 s2.heap ∧ (∀ b ∈ fp, FpOk X pins H' b) ∧ R J H'
def PI (X : Cx) (tg iter : Expr) (wi : TI) : Prop :=
  ∀ (pins : List (Addr × Obj)) (s : Shared) (σ : St) (H : Hp) (R : It → Hp → Prop), Inv X pins σ H s → wi σ H R →
    wpAny (model X.prog X.w) X.A (eval iter X.env) (fun v s1 => wpAny (model X.prog X.w) X.A (pyIter v) (PIE X pins σ tg R) X.xe s1) X.xe s
theorem go_of {M : Model} {A : Around} {E : Value → Shared → Prop} {s : Shared} {tg : Expr} {it : Addr} {u : Value} {o : Obj} {n : String} {vs : Array Value} {Q : Unit → Shared → Prop} (ho : s.heap.get? it = some o) (hc : o.cls = .type n) (hd : o.data = .fields vs)
    (hn : ["enumerate", "zip", "dict_itemiterator", "dict_reverseitemiterator", "odict_iterator", "itertools.zip_longest", "itertools.pairwise"].contains n = false) (hQ : Q () s) : wpAny M A (letOwnedTupleGo tg (.ref it) u) Q E s := by
  unfold letOwnedTupleGo
  cases tg <;> first
    | exact wpAny_pure hQ
    | (cases u <;> first
        | exact wpAny_pure hQ
        | (refine wpAny_bind (wpAny_load ho ?_)
           rw [hc, hd]
           show wpAny M A (if (["enumerate", "zip", "dict_itemiterator", "dict_reverseitemiterator", "odict_iterator", "itertools.zip_longest", "itertools.pairwise"].contains n && vs[0]? == some (rawInt _)) = true then _ else _) Q E s
           rw [if_neg (by intro h; rw [hn, Bool.false_and] at h; cases h)]
           exact wpAny_pure hQ))
def Itl (K : PySem.W.Frag) (a : Addr) : It :=
  ⟨fun i H => ∃ xs x, SqL K H a xs ∧ xs[i]? = some x, fun i H x H' => H' = H ∧ ∀ xs, SqL K H a xs → xs[i]? = some x, fun i H => ∃ xs, SqL K H a xs ∧ xs.length ≤ i⟩
def Itt (K : PySem.W.Frag) (a : Addr) : It :=
  ⟨fun i H => ∃ xs x, SqT K H a xs ∧ xs[i]? = some x, fun i H x H' => H' = H ∧ ∀ xs, SqT K H a xs → xs[i]? = some x, fun i H => ∃ xs, SqT K H a xs ∧ xs.length ≤ i⟩
def Itr (lo : Int) (n : Nat) : It := ⟨fun i _ => i < n, fun i H x H' => H' = H ∧ x = .int (lo + i), fun i _ => n ≤ i⟩
theorem turn_list {P : Program} {w : World} {K : PySem.W.Frag} {tg : Expr} (a it : Addr) : Turn P w K tg (Itl K a) [it] it (fun i h => h.IsListIter it a i) where
  mem := by simp
  obj := fun i h st b hb => by
    have e : b = it := by simpa using hb
    subst e
    obtain ⟨o, e, c, d⟩ := st
    exact ⟨o, e, fun v z => by rw [d] at z; cases z⟩
  keep := fun i h h' st k => st.at fun o e => k it (by simp) o e
  item := by
    intro X hP hw hK hc i pins s σ H E I hf st hg
    subst hP hw hK
    obtain ⟨xs, x, hq, hx⟩ := hg
    obtain ⟨its, rv, p, hz⟩ := I.list hq
    obtain ⟨u, hu, ru⟩ := rv.get hx
    obtain ⟨f0, f1, f2, f3, f4, f5⟩ := hf it (by simp)
    refine wpAny_pyNext_list_item st p.isList (x := u) (by simpa using hu) fun h' st' sb => ?_
    have I1 : Inv X pins σ H { s with heap := h' } := I.turned (t' := s.toks) (fun b o hb e => (sb.2 b hb).trans e) f0 f1 f3 f4 f5
    obtain ⟨o, e, c, d⟩ := id st'
    exact ⟨u, rfl, go_of (s := { s with heap := h' }) e c d (by decide) ⟨x, H, I1, ru, ⟨rfl, fun ys hy => by rw [I.list_inj hy hq]; exact hx⟩, st', fun b hb => (hf b hb).1⟩⟩
  done := by
    intro X hP hw hK hc i pins s σ H E I hf st hg
    subst hP hw hK
    obtain ⟨xs, hq, hx⟩ := hg
    obtain ⟨its, rv, p, hz⟩ := I.list hq
    obtain ⟨f0, f1, f2, f3, f4, f5⟩ := hf it (by simp)
    have hl := rv.length
    exact wpAny_pyNext_list_end (I.ok.hd hc) st p.isList (by simp; omega) fun h' eb => ⟨rfl, I.turned (t' := s.toks) (fun b o hb e => eb b o hb e) f0 f1 f3 f4 f5⟩
  self := fun _ _ _ _ _ st h => wpAny_pyIter_listiter st h
theorem turn_range {P : Program} {w : World} {K : PySem.W.Frag} {tg : Expr} (it : Addr) (lo : Int) (n : Nat) : Turn P w K tg (Itr lo n) [it] it (fun i h => IsRangeIter h it (lo + (i : Nat) * 1) ((n : Int) - (i : Nat)) 1) where
  mem := by simp
  obj := fun i h st b hb => by
    have e : b = it := by simpa using hb
    subst e
    exact ⟨_, st, fun v z => by
      have z' : Data.fields _ = Data.cell v := z
      cases z'⟩
  keep := fun i h h' st k => k it (by simp) _ st
  item := by
    intro X hP hw hK hc i pins s σ H E I hf st hg
    subst hP hw hK
    obtain ⟨f0, f1, f2, f3, f4, f5⟩ := hf it (by simp)
    have W := Walks.range (prog := X.prog) (w := X.w) (I.ok.hd hc) it lo 1 n
    refine W.item i s _ _ hg st fun v h' tk hv st' kk => ?_
    obtain ⟨t, rfl⟩ := hv
    have I1 : Inv X pins σ H { s with heap := h', toks := tk } := I.turned (fun b o hb e => kk b o (by simpa using hb) e) f0 f1 f3 f4 f5
    refine ⟨_, rfl, go_of (s := { s with heap := h', toks := tk }) (n := "range_iterator") st' rfl rfl (by decide) ⟨.int (lo + i), H, I1, ⟨t, ?_⟩, ⟨rfl, rfl⟩, st', fun b hb => (hf b hb).1⟩⟩
    rw [Int.mul_one]
  done := by
    intro X hP hw hK hc i pins s σ H E I hf st hg
    subst hP hw hK
    obtain ⟨f0, f1, f2, f3, f4, f5⟩ := hf it (by simp)
    exact wpAny_pyNext_range_end (I.ok.hd hc) st (by have : n ≤ i := hg; omega) fun h' eb => ⟨rfl, I.turned (t' := s.toks) (fun b o hb e => eb b o hb e) f0 f1 f3 f4 f5⟩
  self := fun _ _ _ _ _ st h => wpAny_pyIter_rangeiter st h
end L2
namespace L2
open PySem PySem.Spec PyProof.Rows
section
variable {X : Cx} {tg : Expr}
def iList (K : PySem.W.Frag) (tl : TE) : TI := fun σ H R => tl σ H fun x H1 => ∃ a, x = .ref a ∧ (∃ xs, SqL K H1 a xs) ∧ R (Itl K a) H1
def iTup (K : PySem.W.Frag) (tl : TE) : TI := fun σ H R => tl σ H fun x H1 => ∃ a, x = .ref a ∧ (∃ xs, SqT K H1 a xs) ∧ R (Itt K a) H1
theorem pi_list {l : Expr} {tl : TE} (hl : PE X l tl) : PI X tg l (iList X.K tl) := by
  intro pins s σ H R I h
  refine thn (hl pins s σ H _ I h) fun v s1 ⟨x, H1, I1, r1, q1⟩ => ?_
  obtain ⟨a, e, ⟨xs, hq⟩, q⟩ := q1
  subst e
  cases r1
  obtain ⟨its, rv, p, hz⟩ := I1.list hq
  refine wpAny_pyIter_list p.isList ?_
  refine ⟨s1.heap.objs.size, [s1.heap.objs.size], _, _, H1, rfl, I1.kept (t' := s1.toks) fun b o e => Heap.get?_push_of_some _ e, turn_list a _, ⟨_, Heap.get?_push_size _ rfl, rfl, rfl⟩, fun b hb => ?_, q⟩
  have e : b = s1.heap.objs.size := by simpa using hb
  subst e
  exact I1.fpOk (Nat.le_refl _) (I1.hok.fresh (Nat.le_refl _))
theorem range_it {pins : List (Addr × Obj)} {σ : St} {H : Hp} {s : Shared} {R : It → Hp → Prop} {E : Value → Shared → Prop} {lo hi : Int} {t u v : Tok} {tk : Nat} (I : Inv X pins σ H s) (h1 : -(2 ^ 62) ≤ lo) (h2 : lo < 2 ^ 62) (h3 : -(2 ^ 62) ≤ hi) (h4 : hi < 2 ^ 62)
    (q : R (Itr lo (hi - lo).toNat) H) : wpAny (model X.prog X.w) X.A (pyIter (.ref s.heap.objs.size)) (PIE X pins σ tg R) E { s with heap := s.heap.push { cls := .type "range", data := .fields #[.int lo t, .int hi u, .int 1 v] }, toks := tk } := by
  refine wpAny_pyIter_range (IsRange.new ..) (small_one h1 h2 h3 h4) ?_
  have I1 : Inv X pins σ H { s with heap := s.heap.push { cls := .type "range", data := .fields #[.int lo t, .int hi u, .int 1 v] }, toks := tk } := I.kept fun b o e => Heap.get?_push_of_some _ e
  refine ⟨(s.heap.push { cls := .type "range", data := .fields #[.int lo t, .int hi u, .int 1 v] }).objs.size, [(s.heap.push { cls := .type "range", data := .fields #[.int lo t, .int hi u, .int 1 v] }).objs.size], _, _, H, rfl,
    I1.kept (t' := tk) fun b o e => Heap.get?_push_of_some _ e, turn_range _ lo (hi - lo).toNat, ?_, fun b hb => ?_, q⟩
  · have e1 : lo + ((0 : Nat) : Int) * 1 = lo := by simp
    have e2 : (((hi - lo).toNat : Nat) : Int) - ((0 : Nat) : Int) = Builtin.Range.rangeSize lo hi 1 := by rw [rangeSize_one]; split <;> omega
    show IsRangeIter _ _ (lo + ((0 : Nat) : Int) * 1) ((((hi - lo).toNat : Nat) : Int) - ((0 : Nat) : Int)) 1
    rw [e1, e2]
    exact Heap.get?_push_size _ rfl
  · have e : b = (s.heap.push { cls := .type "range", data := .fields #[.int lo t, .int hi u, .int 1 v] }).objs.size := by simpa using hb
    subst e
    exact I1.fpOk (Nat.le_refl _) (I1.hok.fresh (Nat.le_refl _))
def iRng1 (ta : TA) : TI := fun σ H R => ta σ H fun vs H1 => ∃ j : Int, vs = [.int j] ∧ -(2 ^ 62) ≤ j ∧ j < 2 ^ 62 ∧ R (Itr 0 j.toNat) H1
def iRng2 (ta : TA) : TI := fun σ H R => ta σ H fun vs H1 => ∃ i j : Int, vs = [.int i, .int j] ∧ (-(2 ^ 62) ≤ i ∧ i < 2 ^ 62 ∧ -(2 ^ 62) ≤ j ∧ j < 2 ^ 62) ∧ R (Itr i (j - i).toNat) H1
theorem pi_range1 {a : Expr} {ta : TA} {p pos : Pos} (hg : Gl X "range") (hm : X.mg "range" = none) (ha : PA X [a] ta) (hs : starEach [a] X.env = [(false, eval a X.env)] := by rfl) : PI X tg (.Call (.Name "range" p) [a] [] pos) (iRng1 ta) := by
  intro pins s σ H R I h
  refine Call_ (ld_blt I hg hm boot_range (PyProof.Rows.callWith_type1 (thn (ha pos pins s σ H _ I h) fun us s1 ⟨vs, H1, I1, r1, q1⟩ => ?_) hs rfl))
  obtain ⟨j, e, q1, q2, q⟩ := q1
  subst e
  cases r1 with
  | cons r rr =>
    cases rr
    obtain ⟨t, rfl⟩ := r
    exact call_range_1 (range_it I1 (by omega) (by omega) q1 q2 (by simpa using q))
def tFor (wi : TI) (g : TG) (tb : TS) : TS := fun D σ H => wi σ H fun J H1 => ∃ W : Nat → Nat → St → Hp → Prop, (∃ m, W 0 m σ H1) ∧ ∀ i m σ H, W i m σ H →
  (J.stop i H ∧ D.nx σ H) ∨ (J.go i H ∧ ∃ N : St → Hp → Prop, (∀ σ' H', N σ' H' → ∃ m', m' < m ∧ W (i + 1) m' σ' H') ∧ ∀ x H', J.yld i H x H' → g x σ H' fun σ2 H2 => tb { D with nx := N, ct := N, bk := D.nx } σ2 H2)
def pinsAt (fp : List Addr) (h : Heap) : List (Addr × Obj) := fp.filterMap fun b => (h.get? b).map fun o => (b, o)
theorem mem_pinsAt {fp : List Addr} {h : Heap} {b : Addr} {o : Obj} (hb : b ∈ fp) (e : h.get? b = some o) : (b, o) ∈ pinsAt fp h := List.mem_filterMap.mpr ⟨b, hb, by rw [e]; rfl⟩
theorem of_pinsAt {fp : List Addr} {h : Heap} {p : Addr × Obj} (hp : p ∈ pinsAt fp h) : p.1 ∈ fp ∧ h.get? p.1 = some p.2 := by
  obtain ⟨b, hb, e⟩ := List.mem_filterMap.mp hp
  cases q : h.get? b with
  | none => rw [q] at e; cases e
  | some o =>
    rw [q] at e
    have e' : (b, o) = p := Option.some.inj e
    subst e'
    exact ⟨hb, q⟩
theorem Inv.pinned {pins : List (Addr × Obj)} {σ : St} {H : Hp} {s : Shared} {fp : List Addr} (I : Inv X pins σ H s) (hf : ∀ b ∈ fp, FpOk X pins H b) (ho : ∀ b ∈ fp, ∃ o, s.heap.get? b = some o ∧ ∀ v, o.data ≠ .cell v) : Inv X (pins ++ pinsAt fp s.heap) σ H s :=
  I.pins_of fun p hp => (List.mem_append.mp hp).elim (fun z => I.pin p (List.mem_append_right _ z)) fun z => by
    obtain ⟨hb, e⟩ := of_pinsAt z
    obtain ⟨f0, f1, f2, _⟩ := hf p.1 hb
    obtain ⟨o, e', d⟩ := ho p.1 hb
    rw [e] at e'; cases e'
    exact ⟨e, f0, f1, f2, d⟩
theorem Inv.unpinned {pins pl : List (Addr × Obj)} {σ : St} {H : Hp} {s : Shared} (I : Inv X (pins ++ pl) σ H s) : Inv X pins σ H s := I.pins_of fun p hp => I.pin p (List.mem_append_right _ (List.mem_append_left _ hp))
theorem ps_for {iter : Expr} {body : List Stmt} {wi : TI} {g : TG} {tb : TS} {pos : Pos} (hp : PassesOwn (model X.prog X.w) X.A X.env X.xe) (hc : X.calm = true) (hi : PI X tg iter wi) (hg : PG X tg g) (hb : PSs X body tb)
    (hs : ∀ x, foldedSetIterable iter X.env x = pure x := by intro _; rfl) : PS X (.For tg iter body [] pos) (tFor wi g tb) := by
  intro pins s σ H D I h
  refine wpAny_For (thn (hi pins s σ H _ I h) fun v s1 h1 => thn h1 fun itv s2 h2 => ?_) hs
  obtain ⟨it, fp, tn, J, H2, e, I2, T, st2, f2, W, ⟨m0, w0⟩, turn⟩ := h2
  subst e
  have stat : ∀ {H' : Hp}, (∀ b ∈ fp, H' b = none) → ∀ b ∈ fp, FpOk X pins H' b := fun hn b hb => ⟨hn b hb, (f2 b hb).2⟩
  refine codeAny_forLoop_any (fun n s' => ∃ i σ' H', Inv X pins σ' H' s' ∧ tn i s'.heap ∧ (∀ b ∈ fp, H' b = none) ∧ W i n σ' H') ?_ m0 ⟨0, σ, H2, I2, st2, fun b hb => (f2 b hb).1, w0⟩
  rintro n s3 ⟨i, σ3, H3, I3, st3, fr3, w3⟩
  rcases turn i n σ3 H3 w3 with ⟨stop, qn⟩ | ⟨go, N, hN, step⟩
  · refine wpAny_passesOwn hp (thn (T.done X rfl rfl rfl hc i pins s3 σ3 H3 X.xe I3 (stat fr3) st3 stop) fun r s4 ⟨hr, I4⟩ => ?_)
    subst hr
    exact wpAny_execs_nil ⟨σ3, H3, I4, qn⟩
  · refine wpAny_passesOwn hp (thn (T.item X rfl rfl rfl hc i pins s3 σ3 H3 X.xe I3 (stat fr3) st3 go) fun r s4 ⟨u, hr, h4⟩ => ?_)
    subst hr
    refine wpAny_passesOwn hp (thn h4 fun _ s5 ⟨x, H5, I5, r5, y5, st5, fr5⟩ => ?_)
    have I5' := I5.pinned (stat fr5) (T.obj _ _ st5)
    refine wpAny_passesOwn hp (thn (hg _ s5 σ3 H5 x u _ I5' r5 (step x H5 y5)) fun _ s6 ⟨σ6, H6, I6, q6⟩ => ?_)
    refine wpAny_passesOwn hp (thn (hb _ s6 σ6 H6 _ I6 q6) fun f s7 q7 => ?_)
    have again : ∀ {σ7 : St} {H7 : Hp}, Inv X (pins ++ pinsAt fp s5.heap) σ7 H7 s7 → N σ7 H7 → ∃ m, m < n ∧ ∃ i σ' H', Inv X pins σ' H' s7 ∧ tn i s7.heap ∧ (∀ b ∈ fp, H' b = none) ∧ W i m σ' H' := fun {σ7 H7} I7 n7 => by
      obtain ⟨m', hm, w7⟩ := hN σ7 H7 n7
      refine ⟨m', hm, i + 1, σ7, H7, I7.unpinned, T.keep _ _ _ st5 fun b hb o e => (I7.pin (b, o) (List.mem_append_right _ (List.mem_append_right _ (mem_pinsAt hb e)))).1, fun b hb => ?_, w7⟩
      obtain ⟨o, e, d⟩ := T.obj _ _ st5 b hb
      exact (I7.pin (b, o) (List.mem_append_right _ (List.mem_append_right _ (mem_pinsAt hb e)))).2.1
    cases f with
    | next => obtain ⟨σ7, H7, I7, n7⟩ := q7; exact again I7 n7
    | cont => obtain ⟨σ7, H7, I7, n7⟩ := q7; exact again I7 n7
    | brk => obtain ⟨σ7, H7, I7, q7⟩ := q7; exact ⟨σ7, H7, I7.unpinned, q7⟩
    | ret v => obtain ⟨x7, σ7, H7, I7, r7, q7⟩ := q7; exact ⟨x7, σ7, H7, I7.unpinned, r7, q7⟩
end
theorem for_list {K : PySem.W.Frag} {a : Addr} {xs : List V} {g : TG} {tb : TS} {D : Ends} {σ : St} {H : Hp} (Pv : Nat → St → Hp → Prop) (h0 : Pv 0 σ H) (hl : ∀ i σ H, i ≤ xs.length → Pv i σ H → SqL K H a xs)
    (hs : ∀ i x σ H, xs[i]? = some x → Pv i σ H → g x σ H fun σ2 H2 => tb { D with nx := Pv (i + 1), ct := Pv (i + 1), bk := D.nx } σ2 H2) (hd : ∀ σ H, Pv xs.length σ H → D.nx σ H) :
    ∃ W : Nat → Nat → St → Hp → Prop, (∃ m, W 0 m σ H) ∧ ∀ i m σ H, W i m σ H →
      ((Itl K a).stop i H ∧ D.nx σ H) ∨ ((Itl K a).go i H ∧ ∃ N : St → Hp → Prop, (∀ σ' H', N σ' H' → ∃ m', m' < m ∧ W (i + 1) m' σ' H') ∧ ∀ x H', (Itl K a).yld i H x H' → g x σ H' fun σ2 H2 => tb { D with nx := N, ct := N, bk := D.nx } σ2 H2) := by
  refine ⟨fun i m σ H => m = xs.length - i ∧ i ≤ xs.length ∧ Pv i σ H, ⟨xs.length, by simp, Nat.zero_le _, h0⟩, ?_⟩
  rintro i m σ H ⟨rfl, hi, p⟩
  have q := hl i σ H hi p
  by_cases hlt : i < xs.length
  · refine .inr ⟨⟨xs, xs[i], q, by simp [hlt]⟩, Pv (i + 1), fun σ' H' p' => ⟨xs.length - (i + 1), by omega, rfl, hlt, p'⟩, fun x H' y => ?_⟩
    obtain ⟨e, y⟩ := y
    subst e
    exact hs i x σ _ (y xs q) p
  · have e : i = xs.length := by omega
    subst e
    exact .inl ⟨⟨xs, q, Nat.le_refl _⟩, hd σ H p⟩
theorem for_range {lo : Int} {n : Nat} {g : TG} {tb : TS} {D : Ends} {σ : St} {H : Hp} (Pv : Nat → St → Hp → Prop) (h0 : Pv 0 σ H)
    (hs : ∀ i σ H, i < n → Pv i σ H → g (.int (lo + i)) σ H fun σ2 H2 => tb { D with nx := Pv (i + 1), ct := Pv (i + 1), bk := D.nx } σ2 H2) (hd : ∀ σ H, Pv n σ H → D.nx σ H) :
    ∃ W : Nat → Nat → St → Hp → Prop, (∃ m, W 0 m σ H) ∧ ∀ i m σ H, W i m σ H →
      ((Itr lo n).stop i H ∧ D.nx σ H) ∨ ((Itr lo n).go i H ∧ ∃ N : St → Hp → Prop, (∀ σ' H', N σ' H' → ∃ m', m' < m ∧ W (i + 1) m' σ' H') ∧ ∀ x H', (Itr lo n).yld i H x H' → g x σ H' fun σ2 H2 => tb { D with nx := N, ct := N, bk := D.nx } σ2 H2) := by
  refine ⟨fun i m σ H => m = n - i ∧ i ≤ n ∧ Pv i σ H, ⟨n, by simp, Nat.zero_le _, h0⟩, ?_⟩
  rintro i m σ H ⟨rfl, hi, p⟩
  by_cases hlt : i < n
  · refine .inr ⟨hlt, Pv (i + 1), fun σ' H' p' => ⟨n - (i + 1), by omega, rfl, hlt, p'⟩, fun x H' y => ?_⟩
    obtain ⟨e, y⟩ := y
    subst e y
    exact hs i σ _ hlt p
  · have e : i = n := by omega
    subst e
    exact .inl ⟨Nat.le_refl _, hd σ H p⟩
end L2
namespace L2
open PySem PySem.Spec PyProof.Rows
abbrev R2 := V → V → Hp → VK → Prop
def OpR (X : Cx) (f : Value → Value → Sem Value) (r : R2) : Prop :=
  ∀ (pins : List (Addr × Obj)) (s : Shared) (σ : St) (H : Hp) (x y : V) (v u : Value) (Q : VK), Inv X pins σ H s → RelV x v → RelV y u → r x y H Q →
    wpAny (model X.prog X.w) X.A (f v u) (EP X pins σ Q) X.xe s
def UnR (X : Cx) (f : Value → Sem Value) (r : V → Hp → VK → Prop) : Prop :=
  ∀ (pins : List (Addr × Obj)) (s : Shared) (σ : St) (H : Hp) (x : V) (v : Value) (Q : VK), Inv X pins σ H s → RelV x v → r x H Q →
    wpAny (model X.prog X.w) X.A (f v) (EP X pins σ Q) X.xe s
def CallR (X : Cx) (f : Value) (r : List V → Hp → VK → Prop) : Prop :=
  ∀ (pins : List (Addr × Obj)) (s : Shared) (σ : St) (H : Hp) (xs : List V) (us : List Value) (Q : VK), Inv X pins σ H s → Vals xs us → r xs H Q →
    wpAny (model X.prog X.w) X.A (call f us) (EP X pins σ Q) X.xe s
def TruR (X : Cx) (r : V → Hp → (Bool → Hp → Prop) → Prop) : Prop :=
  ∀ (pins : List (Addr × Obj)) (s : Shared) (σ : St) (H : Hp) (x : V) (v : Value) (Q : Bool → Hp → Prop), Inv X pins σ H s → RelV x v → r x H Q →
    wpAny (model X.prog X.w) X.A (truthy v) (TP X pins σ Q) X.xe s
def tOp (r : R2) (ta tb : TE) : TE := fun σ H Q => ta σ H fun x H1 => tb σ H1 fun y H2 => r x y H2 Q
def tUn (r : V → Hp → VK → Prop) (ta : TE) : TE := fun σ H Q => ta σ H fun x H1 => r x H1 Q
def rI (C : Int → Int → Prop) (g : Int → Int → V) : R2 := fun x y H Q => ∃ i j, x = .int i ∧ y = .int j ∧ C i j ∧ Q (g i j) H
def rI0 (g : Int → Int → V) : R2 := fun x y H Q => ∃ i j, x = .int i ∧ y = .int j ∧ Q (g i j) H
def rU (g : Int → V) : V → Hp → VK → Prop := fun x H Q => ∃ i, x = .int i ∧ Q (g i) H
section
variable {X : Cx} {a b c : Expr} {ta tb tc : TE} {pos : Pos}
theorem binT (ha : PE X a ta) (hb : PE X b tb) {pins : List (Addr × Obj)} {s : Shared} {σ : St} {H : Hp} {R : V → V → Hp → Prop} (I : Inv X pins σ H s)
    (h : ta σ H fun x H1 => tb σ H1 fun y H2 => R x y H2) {Q : Value → Shared → Prop} {f : Value → Value → Sem Value}
    (hf : ∀ v u s2 x y H2, Inv X pins σ H2 s2 → RelV x v → RelV y u → R x y H2 → wpAny (model X.prog X.w) X.A (f v u) Q X.xe s2) :
    wpAny (model X.prog X.w) X.A (eval a X.env) (fun v s₁ => wpAny (model X.prog X.w) X.A (eval b X.env) (fun u s₂ => wpAny (model X.prog X.w) X.A (f v u) Q X.xe s₂) X.xe s₁) X.xe s := by
  refine thn (ha pins s σ H _ I h) fun v s1 ⟨x, H1, I1, r1, q1⟩ => ?_
  refine thn (hb pins s1 σ H1 _ I1 q1) fun u s2 ⟨y, H2, I2, r2, q2⟩ => ?_
  exact hf v u s2 x y H2 I2 r1 r2 q2
theorem pe_op {op : Operator} {r : R2} (ho : OpR X (binaryOp op) r) (ha : PE X a ta) (hb : PE X b tb) : PE X (.BinOp a op b pos) (tOp r ta tb) := by
  intro pins s σ H Q I h
  exact wpAny_BinOp (binT ha hb I h fun v u s2 x y H2 I2 rx ry q => ho pins s2 σ H2 x y v u Q I2 rx ry q)
theorem opI {f : Value → Value → Sem Value} {C : Int → Int → Prop} {g : Int → Int → Int}
    (rule : ∀ (i j : Int) (t u : Tok) (s : Shared) (Q : Value → Shared → Prop) (E : Value → Shared → Prop), C i j → Q (.int (g i j) s.toks) { s with toks := s.toks + 1 } → wpAny (model X.prog X.w) X.A (f (.int i t) (.int j u)) Q E s) :
    OpR X f (rI C fun i j => .int (g i j)) := by
  intro pins s σ H x y v u Q I rx ry h
  obtain ⟨i, j, rfl, rfl, hc, q⟩ := h
  obtain ⟨t, rfl⟩ := rx
  obtain ⟨t', rfl⟩ := ry
  exact rule i j t t' s _ _ hc ⟨.int (g i j), H, I.tok _, ⟨_, rfl⟩, q⟩
theorem opI0 {f : Value → Value → Sem Value} {g : Int → Int → Int}
    (rule : ∀ (i j : Int) (t u : Tok) (s : Shared) (Q : Value → Shared → Prop) (E : Value → Shared → Prop), Q (.int (g i j) s.toks) { s with toks := s.toks + 1 } → wpAny (model X.prog X.w) X.A (f (.int i t) (.int j u)) Q E s) :
    OpR X f (rI0 fun i j => .int (g i j)) := by
  intro pins s σ H x y v u Q I rx ry h
  obtain ⟨i, j, rfl, rfl, q⟩ := h
  obtain ⟨t, rfl⟩ := rx
  obtain ⟨t', rfl⟩ := ry
  exact rule i j t t' s _ _ ⟨.int (g i j), H, I.tok _, ⟨_, rfl⟩, q⟩
theorem opB0 {f : Value → Value → Sem Value} {g : Int → Int → Bool}
    (rule : ∀ (i j : Int) (t u : Tok) (s : Shared) (Q : Value → Shared → Prop) (E : Value → Shared → Prop), Q (.bool (g i j)) s → wpAny (model X.prog X.w) X.A (f (.int i t) (.int j u)) Q E s) :
    OpR X f (rI0 fun i j => .bl (g i j)) := by
  intro pins s σ H x y v u Q I rx ry h
  obtain ⟨i, j, rfl, rfl, q⟩ := h
  obtain ⟨t, rfl⟩ := rx
  obtain ⟨t', rfl⟩ := ry
  exact rule i j t t' s _ _ ⟨.bl (g i j), H, I, rfl, q⟩
def CDiv (i j : Int) : Prop := 0 < j ∧ j < 1073741824
def CDivN (i j : Int) : Prop := j ≠ 0 ∧ j.natAbs < 1073741824
def CPow (i j : Int) : Prop := 0 ≤ j ∧ j ≤ 1000000 ∧ i.natAbs < 2 ^ 64
def CMul (i j : Int) : Prop := (-(2 ^ 64) < i ∧ i < 2 ^ 64) ∨ (-(2 ^ 64) < j ∧ j < 2 ^ 64)
theorem CMul.ok {i j : Int} (h : CMul i j) : IntMulOk i j := by
  rcases h with ⟨h1, h2⟩ | ⟨h1, h2⟩
  · exact .of_left (intBits_le_64 h1 h2)
  · exact .of_right (intBits_le_64 h1 h2)
theorem op_add : OpR X (binaryOp .Add) (rI0 fun i j => .int (i + j)) := opI0 fun _ _ _ _ _ _ _ q => add_int q
theorem op_sub : OpR X (binaryOp .Sub) (rI0 fun i j => .int (i - j)) := opI0 fun _ _ _ _ _ _ _ q => sub_int q
theorem op_mul : OpR X (binaryOp .Mult) (rI CMul fun i j => .int (i * j)) := opI fun _ _ _ _ _ _ _ hc q => mul_int q hc.ok
theorem op_fdiv : OpR X (binaryOp .FloorDiv) (rI CDiv fun i j => .int (i / j)) := opI fun i j _ _ _ _ _ hc q => by
  have h1 : (0 : Int) < j := hc.1
  have h2 : j < 1073741824 := hc.2
  exact floordiv_int (by omega) (by rw [Int.fdiv_eq_ediv_of_nonneg i (by omega)]; exact q) (.inl (PyProof.noPylong_small (by omega)))
theorem op_mod : OpR X (binaryOp .Mod) (rI (fun _ j => 0 < j) fun i j => .int (i % j)) := opI fun i j _ _ _ _ _ hc q => by
  have h1 : (0 : Int) < j := hc
  exact mod_int' (by omega) (by rw [Int.fmod_eq_emod_of_nonneg i (by omega)]; exact q)
theorem op_pow : OpR X (binaryOp .Pow) (rI CPow fun i j => .int (i ^ j.toNat)) := opI fun _ _ _ _ _ _ _ hc q => pow_int_small hc.1 hc.2.1 hc.2.2 q
theorem unI {f : Value → Sem Value} {g : Int → Int}
    (rule : ∀ (i : Int) (t : Tok) (s : Shared) (Q : Value → Shared → Prop) (E : Value → Shared → Prop), Q (.int (g i) s.toks) { s with toks := s.toks + 1 } → wpAny (model X.prog X.w) X.A (f (.int i t)) Q E s) :
    UnR X f (rU fun i => .int (g i)) := by
  intro pins s σ H x v Q I rx h
  obtain ⟨i, rfl, q⟩ := h
  obtain ⟨t, rfl⟩ := rx
  exact rule i t s _ _ ⟨.int (g i), H, I.tok _, ⟨_, rfl⟩, q⟩
theorem un_neg : UnR X (unaryOp .USub) (rU fun i => .int (-i)) := unI fun _ _ _ _ _ q => neg_int q
end
def scal : V → V → Bool
  | .non, .non => true | .non, .int _ => true | .int _, .non => true | .non, .bl _ => true | .bl _, .non => true | .non, .str _ => true | .str _, .non => true
  | .int _, .int _ => true | .bl _, .bl _ => true | .str _, .str _ => true | .byt _, .byt _ => true
  | .int _, .str _ => true | .str _, .int _ => true | .bl _, .str _ => true | .str _, .bl _ => true
  | _, _ => false
def rEq : R2 := fun x y H Q => scal x y = true ∧ Q (.bl (decide (x = y))) H
def rNe : R2 := fun x y H Q => scal x y = true ∧ Q (.bl (!decide (x = y))) H
theorem dec_int {i j : Int} : decide (V.int i = V.int j) = (i == j) := by
  rw [Bool.eq_iff_iff]
  simp
theorem dec_bl {i j : Bool} : decide (V.bl i = V.bl j) = (i == j) := by
  rw [Bool.eq_iff_iff]
  simp
theorem dec_str {i j : Str} : decide (V.str i = V.str j) = (i == j) := by
  rw [Bool.eq_iff_iff]
  simp
theorem dec_byt {i j : Array UInt8} : decide (V.byt i = V.byt j) = (i.toList == j.toList) := by
  rw [Bool.eq_iff_iff]
  cases i
  cases j
  simp
section
variable {X : Cx} {a b c : Expr} {ta tb tc : TE} {pos : Pos}
theorem fin_bl {pins : List (Addr × Obj)} {σ : St} {H : Hp} {s : Shared} {Q : VK} {k k' : Bool} (I : Inv X pins σ H s) (q : Q (.bl k) H) (e : k = k') : EP X pins σ Q (.bool k') s := by
  subst e
  exact ⟨.bl k, H, I, rfl, q⟩
theorem op_eq : OpR X (compareOp .Eq) rEq := by
  intro pins s σ H x y v u Q I rx ry h
  obtain ⟨hs, q⟩ := h
  cases x with
  | non =>
    cases rx
    cases y with
    | non => cases ry; exact PySem.EqNone.eq_none_none (fin_bl I q (by simp))
    | bl j => cases ry; exact PySem.EqNone.eq_none_bool (fin_bl I q (by simp))
    | int j => obtain ⟨t', rfl⟩ := ry; exact PySem.EqNone.eq_none_int (fin_bl I q (by simp))
    | str j => obtain ⟨t', rfl⟩ := ry; exact PySem.EqNone.eq_none_str (fin_bl I q (by simp))
    | _ => exact absurd (show false = true from hs) Bool.false_ne_true
  | bl i =>
    cases rx
    cases y with
    | non => cases ry; exact PySem.EqNone.eq_bool_none (fin_bl I q (by simp))
    | bl j => cases ry; exact eq_bool (fin_bl I q dec_bl)
    | str j => obtain ⟨t', rfl⟩ := ry; exact PySem.EqMixed.eq_bool_str (fin_bl I q (by simp))
    | _ => exact absurd (show false = true from hs) Bool.false_ne_true
  | int i =>
    obtain ⟨t, rfl⟩ := rx
    cases y with
    | non => cases ry; exact PySem.EqNone.eq_int_none (fin_bl I q (by simp))
    | int j => obtain ⟨t', rfl⟩ := ry; exact eq_int (fin_bl I q dec_int)
    | str j => obtain ⟨t', rfl⟩ := ry; exact PySem.EqMixed.eq_int_str (fin_bl I q (by simp))
    | _ => exact absurd (show false = true from hs) Bool.false_ne_true
  | str i =>
    obtain ⟨t, rfl⟩ := rx
    cases y with
    | non => cases ry; exact PySem.EqNone.eq_str_none (fin_bl I q (by simp))
    | bl j => cases ry; exact PySem.EqMixed.eq_str_bool (fin_bl I q (by simp))
    | int j => obtain ⟨t', rfl⟩ := ry; exact PySem.EqMixed.eq_str_int (fin_bl I q (by simp))
    | str j => obtain ⟨t', rfl⟩ := ry; exact eq_str (fin_bl I q dec_str)
    | _ => exact absurd (show false = true from hs) Bool.false_ne_true
  | byt i =>
    obtain ⟨t, rfl⟩ := rx
    cases y with
    | byt j => obtain ⟨t', rfl⟩ := ry; exact PySem.W.eq_bytes (fin_bl I q dec_byt)
    | _ => exact absurd (show false = true from hs) Bool.false_ne_true
  | _ => cases y <;> exact absurd (show false = true from hs) Bool.false_ne_true
theorem op_ne : OpR X (compareOp .NotEq) rNe := by
  intro pins s σ H x y v u Q I rx ry h
  obtain ⟨hs, q⟩ := h
  cases x with
  | non =>
    cases rx
    cases y with
    | non => cases ry; exact PySem.EqNone.ne_none_none (fin_bl I q (by simp))
    | bl j => cases ry; exact PySem.EqNone.ne_none_bool (fin_bl I q (by simp))
    | int j => obtain ⟨t', rfl⟩ := ry; exact PySem.EqNone.ne_none_int (fin_bl I q (by simp))
    | str j => obtain ⟨t', rfl⟩ := ry; exact PySem.EqNone.ne_none_str (fin_bl I q (by simp))
    | _ => exact absurd (show false = true from hs) Bool.false_ne_true
  | bl i =>
    cases rx
    cases y with
    | non => cases ry; exact PySem.EqNone.ne_bool_none (fin_bl I q (by simp))
    | bl j => cases ry; exact ne_bool (fin_bl I q (congrArg not dec_bl))
    | str j => obtain ⟨t', rfl⟩ := ry; exact PySem.EqMixed.ne_bool_str (fin_bl I q (by simp))
    | _ => exact absurd (show false = true from hs) Bool.false_ne_true
  | int i =>
    obtain ⟨t, rfl⟩ := rx
    cases y with
    | non => cases ry; exact PySem.EqNone.ne_int_none (fin_bl I q (by simp))
    | int j => obtain ⟨t', rfl⟩ := ry; exact ne_int (fin_bl I q (congrArg not dec_int))
    | str j => obtain ⟨t', rfl⟩ := ry; exact PySem.EqMixed.ne_int_str (fin_bl I q (by simp))
    | _ => exact absurd (show false = true from hs) Bool.false_ne_true
  | str i =>
    obtain ⟨t, rfl⟩ := rx
    cases y with
    | non => cases ry; exact PySem.EqNone.ne_str_none (fin_bl I q (by simp))
    | bl j => cases ry; exact PySem.EqMixed.ne_str_bool (fin_bl I q (by simp))
    | int j => obtain ⟨t', rfl⟩ := ry; exact PySem.EqMixed.ne_str_int (fin_bl I q (by simp))
    | str j => obtain ⟨t', rfl⟩ := ry; exact ne_str (fin_bl I q (congrArg not dec_str))
    | _ => exact absurd (show false = true from hs) Bool.false_ne_true
  | byt i =>
    obtain ⟨t, rfl⟩ := rx
    cases y with
    | byt j => obtain ⟨t', rfl⟩ := ry; exact PySem.W.ne_bytes (fin_bl I q (congrArg not dec_byt))
    | _ => exact absurd (show false = true from hs) Bool.false_ne_true
  | _ => cases y <;> exact absurd (show false = true from hs) Bool.false_ne_true
theorem op_lt : OpR X (compareOp .Lt) (rI0 fun i j => .bl (decide (i < j))) := opB0 fun _ _ _ _ _ _ _ q => lt_int q
theorem op_le : OpR X (compareOp .LtE) (rI0 fun i j => .bl (decide (i ≤ j))) := opB0 fun _ _ _ _ _ _ _ q => le_int q
theorem op_gt : OpR X (compareOp .Gt) (rI0 fun i j => .bl (decide (j < i))) := opB0 fun _ _ _ _ _ _ _ q => gt_int q
theorem op_ge : OpR X (compareOp .GtE) (rI0 fun i j => .bl (decide (j ≤ i))) := opB0 fun _ _ _ _ _ _ _ q => ge_int q
theorem op_lt_str : OpR X (compareOp .Lt) (fun x y H Q => ∃ i j, x = .str i ∧ y = .str j ∧ Q (.bl (decide (i.cps.toList < j.cps.toList))) H) := by
  intro pins s σ H x y v u Q I rx ry h
  obtain ⟨i, j, rfl, rfl, q⟩ := h
  obtain ⟨t, rfl⟩ := rx
  obtain ⟨t', rfl⟩ := ry
  exact lt_str (fin_bl I q rfl)
theorem op_in_str : OpR X (compareOp .In) (fun x y H Q => ∃ i j, x = .str i ∧ y = .str j ∧ Q (.bl (!(Builtin.Str.occurrences j i 0 j.length 1).isEmpty)) H) := by
  intro pins s σ H x y v u Q I rx ry h
  obtain ⟨i, j, rfl, rfl, q⟩ := h
  obtain ⟨t, rfl⟩ := rx
  obtain ⟨t', rfl⟩ := ry
  exact in_str (fin_bl I q rfl)
theorem op_isN : OpR X (compareOp .Is) (fun x y H Q => y = .non ∧ Q (.bl (decide (x = .non))) H) := by
  intro pins s σ H x y v u Q I rx ry h
  obtain ⟨rfl, q⟩ := h
  cases ry
  refine is_none_gen (fin_bl I q ?_)
  cases x <;> first
    | (cases rx; rfl)
    | (obtain ⟨t, rfl⟩ := rx; rfl)
theorem op_notN : OpR X (compareOp .IsNot) (fun x y H Q => y = .non ∧ Q (.bl (!decide (x = .non))) H) := by
  intro pins s σ H x y v u Q I rx ry h
  obtain ⟨rfl, q⟩ := h
  cases ry
  refine isnot_none_gen (fin_bl I q ?_)
  cases x <;> first
    | (cases rx; rfl)
    | (obtain ⟨t, rfl⟩ := rx; rfl)
theorem op_notin_str : OpR X (compareOp .NotIn) (fun x y H Q => ∃ i j, x = .str i ∧ y = .str j ∧ Q (.bl (!(!(Builtin.Str.occurrences j i 0 j.length 1).isEmpty))) H) := by
  intro pins s σ H x y v u Q I rx ry h
  obtain ⟨i, j, rfl, rfl, q⟩ := h
  obtain ⟨t, rfl⟩ := rx
  obtain ⟨t', rfl⟩ := ry
  exact notIn_str (fin_bl I q rfl)
def isObj : HO → Bool
  | .lst _ => true
  | .ins _ _ _ => true
  | _ => false
theorem OpR.or {f : Value → Value → Sem Value} {r r' : R2} (h : OpR X f r) (h' : OpR X f r') : OpR X f (fun x y H Q => r x y H Q ∨ r' x y H Q) := by
  intro pins s σ H x y v u Q I rx ry q
  rcases q with q | q
  · exact h pins s σ H x y v u Q I rx ry q
  · exact h' pins s σ H x y v u Q I rx ry q
theorem nomark (b : Expr) {op : CmpOp} (h : op ≠ .In := by decide) (h2 : op ≠ .NotIn := by decide) : behindInMarks op b = false := by
  have e1 : (op == CmpOp.In) = false := by cases op <;> first | rfl | exact absurd rfl h
  have e2 : (op == CmpOp.NotIn) = false := by cases op <;> first | rfl | exact absurd rfl h2
  cases b <;> simp [behindInMarks, e1, e2]
theorem pe_cmpR {op : CmpOp} {r : R2} (ho : OpR X (compareOp op) r) (ha : PE X a ta) (hb : PE X b tb) (hm : behindInMarks op b = false) : PE X (.Compare a [op] [b] pos) (tOp r ta tb) := by
  intro pins s σ H Q I h
  exact wpAny_Compare1 (binT ha hb I h fun v u s2 x y H2 I2 rx ry q => ho pins s2 σ H2 x y v u Q I2 rx ry q) hm
def tTest (t : TE) : TT := fun σ H Q => t σ H fun x H' => ∃ k, x = .bl k ∧ Q k H'
def tChain (r r' : R2) (ta tb tc : TE) : TE := fun σ H Q => ta σ H fun x H1 => tb σ H1 fun y H2 => r x y H2 fun z H3 => ∃ k, z = .bl k ∧
  (if k = true then tc σ H3 fun w' H4 => r' y w' H4 Q else Q (.bl false) H3)
def TruV (K : PySem.W.Frag) (x : V) (H : Hp) (k : Bool) : Prop :=
  match x with
  | .non => k = false
  | .bl b => k = b
  | .int i => k = (i != 0)
  | .str y => y.length ≤ sizeLine ∧ k = ((y.length : Int) != 0)
  | .byt y => y.size ≤ sizeLine ∧ k = ((y.size : Int) != 0)
  | .ref p => (∃ xs, SqL K H p xs ∧ k = !xs.isEmpty) ∨ (∃ xs, SqT K H p xs ∧ k = !xs.isEmpty) ∨ ∃ kvs, H p = some (.dK kvs) ∧ k = !kvs.isEmpty
  | _ => False
theorem isEmpty_kv {κ : Type} {kvs : List (κ × V)} {vs : List (κ × Value)} (r : KV kvs vs) : (!vs.isEmpty) = !kvs.isEmpty := by
  cases r <;> rfl
theorem isEmpty_of {xs : List V} {its : List Value} (r : Vals xs its) : (!its.toArray.isEmpty) = !xs.isEmpty := by
  cases r <;> simp
theorem line63 : (sizeLine : Nat) < 2 ^ 63 := by rw [sizeLine_eq]; decide
theorem tru_ok : TruR X (fun x H Q => ∃ k, TruV X.K x H k ∧ Q k H) := by
  intro pins s σ H x v Q I rx h
  obtain ⟨k, e, q⟩ := h
  have hl := line63
  have hs : sizeLine = 16777216 := sizeLine_eq
  cases x with
  | non =>
    cases rx
    have e' : k = false := e
    subst e'
    exact truthy_none ⟨H, I, q⟩
  | bl b =>
    cases rx
    have e' : k = b := e
    subst e'
    exact wpAny_truthy_bool ⟨H, I, q⟩
  | int i =>
    obtain ⟨t, rfl⟩ := rx
    have e' : k = (i != 0) := e
    subst e'
    exact PySem.P.truthy_int ⟨H, I, q⟩
  | str y =>
    obtain ⟨t, rfl⟩ := rx
    obtain ⟨hy, e'⟩ : y.length ≤ sizeLine ∧ k = ((y.length : Int) != 0) := e
    subst e'
    exact PySem.P.truthy_str (by omega) ⟨H, I.tok _, q⟩
  | byt y =>
    obtain ⟨t, rfl⟩ := rx
    obtain ⟨hy, e'⟩ : y.size ≤ sizeLine ∧ k = ((y.size : Int) != 0) := e
    subst e'
    exact PySem.W.truthy_bytes (by omega) ⟨H, I.tok _, q⟩
  | ref p =>
    cases rx
    have e' : (∃ xs, SqL X.K H p xs ∧ k = !xs.isEmpty) ∨ (∃ xs, SqT X.K H p xs ∧ k = !xs.isEmpty) ∨ ∃ kvs, H p = some (.dK kvs) ∧ k = !kvs.isEmpty := e
    rcases e' with ⟨xs, hx, e'⟩ | ⟨xs, hx, e'⟩ | ⟨kvs, hx, e'⟩
    · subst e'
      obtain ⟨its, r, pl, hz⟩ := I.list hx
      have hlen := r.length
      exact wpAny_truthy_list pl.isList (by simp only [List.size_toArray]; omega) ⟨H, I.tok _, by rw [isEmpty_of r]; exact q⟩
    · subst e'
      obtain ⟨its, r, pl, hz⟩ := I.tuple hx
      have hlen := r.length
      exact truthy_tuple pl (by simp only [List.size_toArray]; omega) ⟨H, I.tok _, by rw [isEmpty_of r]; exact q⟩
    · subst e'
      obtain ⟨hz, hS, vs, r, m⟩ : kvs.length ≤ sizeLine ∧ (p == sysModules) = false ∧ ∃ vs, KV kvs vs ∧ s.heap.DictOf (mixKind X.prog X.w) p vs := I.hok p _ hx
      have hlen : kvs.length = vs.length := Paired.length r
      exact wpAny_truthy_dict hS m (by omega) ⟨H, I.tok _, by rw [isEmpty_kv r]; exact q⟩
  | _ => exact (show False from e).elim
theorem pt_truth (ha : PE X a ta) (he : ∀ whole, isTrue a X.env whole = (do let v ← whole; standAt a.pos; holding [v] (truthy v))) :
    PT X a (fun σ H Q => ta σ H fun x H' => ∃ k, TruV X.K x H' k ∧ Q k H') := by
  intro pins s σ H Q I h
  exact isTrue_plain (thn (ha pins s σ H _ I h) fun v s1 ⟨x, H1, I1, r1, q1⟩ => tru_ok pins s1 σ H1 x v Q I1 r1 q1) (he _)
theorem op_add_str : OpR X (binaryOp .Add) (fun x y H Q => ∃ i j, x = .str i ∧ y = .str j ∧ i.length + j.length ≤ sizeLine ∧ Q (.str (i ++ j)) H) := by
  intro pins s σ H x y v u Q I rx ry h
  obtain ⟨i, j, rfl, rfl, hz, q⟩ := h
  obtain ⟨t, rfl⟩ := rx
  obtain ⟨t', rfl⟩ := ry
  exact add_str (fun t' tk => ⟨.str (i ++ j), H, I.tok _, ⟨_, rfl⟩, q⟩) hz
def PlainIxT (b : Expr) : Prop := ∀ o i, subscripted b false o i = operate [o, i] (getItem o i)
theorem vals1 {x : V} {us : List Value} (r : Vals [x] us) : ∃ u, us = [u] ∧ RelV x u := by
  cases r with
  | cons r1 r2 => cases r2; exact ⟨_, rfl, r1⟩
theorem vals2 {x y : V} {us : List Value} (r : Vals [x, y] us) : ∃ u w', us = [u, w'] ∧ RelV x u ∧ RelV y w' := by
  cases r with
  | cons r1 r2 =>
    cases r2 with
    | cons r3 r4 => cases r4; exact ⟨_, _, rfl, r1, r3⟩
theorem call_max2 (hc : X.calm = true) : CallR X (.builtin "max") (fun xs H Q => ∃ i j, xs = [.int i, .int j] ∧ Q (.int (if j > i then j else i)) H) := by
  intro pins s σ H xs us Q I r h
  obtain ⟨i, j, rfl, q⟩ := h
  obtain ⟨u, w', rfl, ⟨t, rfl⟩, ⟨t', rfl⟩⟩ := vals2 r
  refine max_two_ints (I.ok.hd hc) fun h' tk k => ⟨_, H, I.kept k, ?_, q⟩
  by_cases hj : j > i
  · rw [if_pos hj, if_pos hj]; exact ⟨_, rfl⟩
  · rw [if_neg hj, if_neg hj]; exact ⟨_, rfl⟩
def LenV (K : PySem.W.Frag) (x : V) (H : Hp) (n : Nat) : Prop :=
  match x with
  | .str y => y.length ≤ sizeLine ∧ n = y.length
  | .byt y => y.size ≤ sizeLine ∧ n = y.size
  | .ref p => (∃ xs, SqL K H p xs ∧ n = xs.length) ∨ ∃ xs, SqT K H p xs ∧ n = xs.length
  | _ => False
end
end L2
namespace L2
open PySem PySem.Spec PyProof.Rows
structure ObjM (h : Heap) (x dx C : Addr) (mA : Str → Option Value) : Prop where
  obj : h.get? x = some (PySem.W.instObj C dx)
  ns : h.Ns1 dx mA
  ne : dx ≠ x
theorem lookIn_ns {h : Heap} {dx : Addr} {mA : Str → Option Value} (n : h.Ns1 dx mA) : ∃ od, h.get? dx = some od ∧ ∀ name, PySem.W.lookIn name od = some (mA name) := by
  obtain ⟨o, es, ep, ho, hd, hk, _, hm⟩ := n
  refine ⟨o, ho, fun name => ?_⟩
  have e := hm name
  unfold nsFind findBy at e
  rw [← Array.find?_toList] at e
  unfold PySem.W.lookIn
  rw [hd]
  dsimp only
  split
  · rename_i y q
    rw [q] at e
    exact congrArg some e
  · rename_i q
    rw [q] at e
    have a : es.toList.any (·.refKey) = false := by
      rw [List.any_eq_false]
      intro y hy
      obtain ⟨z, t, hkey⟩ := hk y (Array.mem_toList_iff.mp hy)
      simp [DictEntry.refKey, hkey]
    have a' : ¬ es.toList.any (·.refKey) = true := by rw [a]; exact Bool.false_ne_true
    rw [if_neg a']
    exact congrArg some e
theorem ObjM.look {h : Heap} {x dx C : Addr} {mA : Str → Option Value} (I : ObjM h x dx C mA) : ∃ od, PySem.W.InstAt h x (PySem.W.instObj C dx) C (some od) ∧ ∀ name, PySem.W.lookIn name od = some (mA name) :=
  let ⟨od, ho, hl⟩ := lookIn_ns I.ns
  ⟨od, ⟨I.obj, rfl, rfl, ho⟩, hl⟩
section
variable {prog : Program} {w : World} {A : Around} {E : Value → Shared → Prop} {s : Shared} {K : PySem.W.Frag} {x dx C f : Addr} {mA : Str → Option Value} {name : Str} {v : Value}
end
def putF (f : Str) (v : V) : List (Str × V) → List (Str × V)
  | [] => [(f, v)]
  | (g, x) :: r => if g = f then (g, v) :: r else (g, x) :: putF f v r
theorem lookup_putF (f g : Str) (v : V) : ∀ fs : List (Str × V), (putF f v fs).lookup g = if g = f then some v else fs.lookup g
  | [] => by
    show List.lookup g [(f, v)] = _
    by_cases h : g = f
    · have hb : (g == f) = true := beq_iff_eq.mpr h
      simp only [List.lookup, hb, if_pos h]
    · have hb : (g == f) = false := beq_eq_false_iff_ne.mpr h
      simp only [List.lookup, hb, if_neg h]
  | (k, x) :: r => by
    have ih := lookup_putF f g v r
    rw [show putF f v ((k, x) :: r) = (if k = f then (k, v) :: r else (k, x) :: putF f v r) from rfl]
    by_cases hk : k = f
    · rw [if_pos hk]
      by_cases h : g = k
      · have hb : (g == k) = true := beq_iff_eq.mpr h
        simp only [List.lookup, hb, if_pos (h.trans hk)]
      · have hb : (g == k) = false := beq_eq_false_iff_ne.mpr h
        simp only [List.lookup, hb, if_neg (fun e : g = f => h (e.trans hk.symm))]
    · rw [if_neg hk]
      by_cases h : g = k
      · have hb : (g == k) = true := beq_iff_eq.mpr h
        simp only [List.lookup, hb, if_neg (fun e : g = f => hk (h.symm.trans e))]
      · have hb : (g == k) = false := beq_eq_false_iff_ne.mpr h
        simp only [List.lookup, hb]
        exact ih
theorem keys_putF (f : Str) (v : V) : ∀ fs : List (Str × V), f ∈ (putF f v fs).map (·.1) ∧ ∀ g, g ∈ fs.map (·.1) → g ∈ (putF f v fs).map (·.1)
  | [] => ⟨by simp [putF], fun g h => by simp at h⟩
  | (k, x) :: r => by
    obtain ⟨i1, i2⟩ := keys_putF f v r
    rw [show putF f v ((k, x) :: r) = (if k = f then (k, v) :: r else (k, x) :: putF f v r) from rfl]
    by_cases hk : k = f
    · rw [if_pos hk]
      subst hk
      exact ⟨by simp, fun g h => by simpa using h⟩
    · rw [if_neg hk]
      refine ⟨?_, fun g h => ?_⟩
      · rw [List.map_cons]
        exact List.mem_cons_of_mem _ i1
      · rw [List.map_cons] at h ⊢
        rcases List.mem_cons.mp h with e | e
        · exact List.mem_cons.mpr (.inl e)
        · exact List.mem_cons_of_mem _ (i2 g e)
theorem length_putF (f : Str) (v : V) : ∀ fs : List (Str × V), (putF f v fs).length ≤ fs.length + 1
  | [] => by simp [putF]
  | (k, x) :: r => by
    have ih := length_putF f v r
    rw [show putF f v ((k, x) :: r) = (if k = f then (k, v) :: r else (k, x) :: putF f v r) from rfl]
    by_cases hk : k = f
    · rw [if_pos hk, List.length_cons, List.length_cons]; omega
    · rw [if_neg hk, List.length_cons, List.length_cons]; omega
theorem RelO.none_of {o : Option Value} (r : RelO none o) : o = none := by
  cases o with
  | none => rfl
  | some u => exact (show False from r).elim
section
variable {P : Program} {w : World} {H H' : Hp} {h h' : Heap} {a C dx : Addr} {fs fs' : List (Str × V)}
theorem ins_get (hok : HOk P w H h) (e : H a = some (.ins C dx fs)) : ∃ mA, ObjM h a dx C mA ∧ (∀ f, RelO (fs.lookup f) (mA f)) ∧ PySem.Within mA (fs.map (·.1)) ∧ fs.length ≤ 1000 ∧ H dx = some (.own a) := by
  obtain ⟨d, z, ne, ob, mA, n, r, q⟩ := (show ObjOk P w H h a (.ins C dx fs) from hok a _ e)
  exact ⟨mA, ⟨ob, n, ne⟩, r, q, z, d⟩
end
structure Cls (K : PySem.W.Frag) (C : Addr) : Prop where
  pg : PySem.W.plainGet K C Str.empty = true
  hd : PySem.W.hasDictIn K C = true
  po : PySem.W.plainOver K C = true
  sa : PySem.W.findIn K (.ref C) "__setattr__" = some (some (.builtin "object.__setattr__"))
theorem Cls.get {K : PySem.W.Frag} {C : Addr} (c : Cls K C) (f : Str) : PySem.W.plainGet K C f = true := c.pg
def NoAttr (K : PySem.W.Frag) (C : Addr) (f : Str) : Prop := PySem.W.findIn K (.ref C) f = some none
structure Con (K : PySem.W.Frag) (C : Addr) (f : Str) (v : V) (u : Value) : Prop where
  at_ : PySem.W.findIn K (.ref C) f = some (some u)
  rel : RelV v u
  get : PySem.W.specialIn K u "__get__" = some none
  cp : PySem.W.copiedNames.contains f = false
structure Meth (K : PySem.W.Frag) (C : Addr) (m : Str) (f : Addr) : Prop where
  at_ : PySem.W.findIn K (.ref C) m = some (some (.ref f))
  fn : PySem.W.isFn K (.ref f) = true
  kp : PySem.W.keepIn K (.ref f) = true
section
variable {X : Cx} {pins : List (Addr × Obj)} {σ : St} {H : Hp} {s : Shared} {a C dx : Addr} {fs : List (Str × V)} {f : Str} {v : V} {A : Around} {E : Value → Shared → Prop}
end
def tFld (K : PySem.W.Frag) (ta : TE) (f : Str) : TE := fun σ H Q => ta σ H fun x H1 => ∃ a C dx fs v, x = .ref a ∧ H1 a = some (.ins C dx fs) ∧ Cls K C ∧ NoAttr K C f ∧ fs.lookup f = some v ∧ Q v H1
def tCon (K : PySem.W.Frag) (ta : TE) (f : Str) : TE := fun σ H Q => ta σ H fun x H1 => ∃ a C dx fs v u, x = .ref a ∧ H1 a = some (.ins C dx fs) ∧ Cls K C ∧ Con K C f v u ∧ fs.lookup f = none ∧ Q v H1
def sFld (K : PySem.W.Frag) (ta tv : TE) (f : Str) : TS := fun D σ H => tv σ H fun y H1 => ta σ H1 fun x H2 => ∃ a C dx fs, x = .ref a ∧ H2 a = some (.ins C dx fs) ∧ Cls K C ∧ NoAttr K C f ∧ fs.length < 1000 ∧
  D.nx σ (upd H2 a (.ins C dx (putF f y fs)))
def InOp (X : Cx) (op : Operator) (rd : V → V → Hp → VK → Prop) : Prop :=
  ∀ (pins : List (Addr × Obj)) (s : Shared) (σ : St) (H : Hp) (x y : V) (u v : Value) (Q : VK), Inv X pins σ H s → RelV x u → RelV y v → rd x y H Q → wpAny (model X.prog X.w) X.A (inplaceOp op u v) (EP X pins σ Q) X.xe s
def sFldAug (K : PySem.W.Frag) (ta tv : TE) (rd : V → V → Hp → VK → Prop) (f : Str) : TS := fun D σ H => ta σ H fun x H1 => ∃ a C dx fs v, x = .ref a ∧ H1 a = some (.ins C dx fs) ∧ Cls K C ∧ NoAttr K C f ∧ fs.lookup f = some v ∧
  tv σ H1 fun y H2 => rd v y H2 fun z H3 => ∃ dx' fs', H3 a = some (.ins C dx' fs') ∧ fs'.length < 1000 ∧ D.nx σ (upd H3 a (.ins C dx' (putF f z fs')))
section
variable {X : Cx} {o e value : Expr} {f : Str} {pos pos' tpos : Pos} {ta tv : TE}
def rAdd : V → V → Hp → VK → Prop := fun x y H Q => ∃ i j, x = .int i ∧ y = .int j ∧ Q (.int (i + j)) H
def rSub : V → V → Hp → VK → Prop := fun x y H Q => ∃ i j, x = .int i ∧ y = .int j ∧ Q (.int (i - j)) H
end
section
variable {X : Cx} {pins : List (Addr × Obj)} {σ : St} {H : Hp} {s : Shared} {A : Around} {E : Value → Shared → Prop} {Q : Value → Shared → Prop} {c : Value} {b : Bool}
inductive TyOf (K : PySem.W.Frag) (H : Hp) : V → Value → Prop where
  | non : TyOf K H .non (.type "NoneType")
  | bl (x : Bool) : TyOf K H (.bl x) (.type "bool")
  | int (i : Int) : TyOf K H (.int i) (.type "int")
  | str (x : Str) : TyOf K H (.str x) (.type "str")
  | flt (x : UInt64) : TyOf K H (.flt x) (.type "float")
  | lst {a : Addr} {xs : List V} (e : H a = some (.lst xs)) : TyOf K H (.ref a) (.type "list")
  | frz {a : Addr} {o : Obj} {xs : List V} (e : H a = some (.frz o (.lst xs))) : TyOf K H (.ref a) (.type "list")
  | tup {a : Addr} {xs : List V} (e : H a = some (.tup xs)) : TyOf K H (.ref a) (.type "tuple")
  | dK {a : Addr} {kvs : List (Key × V)} (e : H a = some (.dK kvs)) : TyOf K H (.ref a) (.type "dict")
  | dT {a : Addr} {kvs : List (List Key × V)} (e : H a = some (.dT kvs)) : TyOf K H (.ref a) (.type "dict")
  | ins {a C dx : Addr} {fs : List (Str × V)} (e : H a = some (.ins C dx fs)) (cl : Cls K C) (ha : PySem.W.findIn K (.ref C) "__class__" = some (some (.builtin "object.__class__")))
      (hn : PySem.W.specialIn K (.builtin "object.__class__") "__get__" = some (some (.builtin "getset_descriptor.__get__"))) (htk : PySem.W.takesIn K (.builtin "object.__class__") = some true)
      (hm : PySem.W.mroIn K C (.type "object") = some true) : TyOf K H (.ref a) (.ref C)
theorem isinst_ok {x : V} {u t : Value} (I : Inv X pins σ H s) (rx : RelV x u) (ty : TyOf X.K H x t) (e : PySem.W.kitOne X.K t c = some b) (h : ∀ tk, Q (.bool b) { s with toks := tk }) :
    wpAny (model X.prog X.w) A (call (.builtin "isinstance") [u, c]) Q E s := by
  cases ty with
  | non => cases (show u = Value.none from rx); exact PySem.W.kia_one PySem.W.kitx_none I.kIn True.intro e (fun z => nomatch z) h
  | bl y => cases (show u = Value.bool y from rx); exact PySem.W.kia_one PySem.W.kitx_bool I.kIn True.intro e (fun z => nomatch z) h
  | int i => obtain ⟨t, q⟩ := (show ∃ t, u = Value.int i t from rx); cases q; exact PySem.W.kia_one PySem.W.kitx_int I.kIn True.intro e (fun z => nomatch z) h
  | str y => obtain ⟨t, q⟩ := (show ∃ t, u = Value.str y t from rx); cases q; exact PySem.W.kia_one PySem.W.kitx_str I.kIn True.intro e (fun z => nomatch z) h
  | flt y => obtain ⟨t, q⟩ := (show ∃ t, u = Value.float y t from rx); cases q; exact PySem.W.kia_one PySem.W.kitx_float I.kIn True.intro e (fun z => nomatch z) h
  | @lst a xs ea =>
    cases (show u = Value.ref a from rx)
    obtain ⟨_, _, n, _, h1⟩ := (show ObjOk X.prog X.w H s.heap a (.lst xs) from I.hok a _ ea)
    exact PySem.W.kia_one PySem.W.kitx_list I.kIn ⟨_, h1, rfl⟩ e (fun z => nomatch z) h
  | @frz a ob xs ea =>
    cases (show u = Value.ref a from rx)
    obtain ⟨_, _, _, n, _, h1⟩ := (show ObjOk X.prog X.w H s.heap a (.frz ob (.lst xs)) from I.hok a _ ea)
    exact PySem.W.kia_one PySem.W.kitx_list I.kIn ⟨_, h1, rfl⟩ e (fun z => nomatch z) h
  | @tup a xs ea =>
    cases (show u = Value.ref a from rx)
    obtain ⟨_, _, _, p⟩ := (show ObjOk X.prog X.w H s.heap a (.tup xs) from I.hok a _ ea)
    obtain ⟨o, h1, h2, _⟩ := p
    exact PySem.W.kia_one PySem.W.kitx_tuple I.kIn ⟨o, h1, h2⟩ e (fun z => nomatch z) h
  | @dK a kvs ea =>
    cases (show u = Value.ref a from rx)
    obtain ⟨_, _, vs, _, p⟩ := (show ObjOk X.prog X.w H s.heap a (.dK kvs) from I.hok a _ ea)
    obtain ⟨o, es, ep, h1, h2, _⟩ := p
    exact PySem.W.kia_one PySem.W.kitx_dict I.kIn ⟨o, h1, h2.1⟩ e (fun z => nomatch z) h
  | @dT a kvs ea =>
    cases (show u = Value.ref a from rx)
    obtain ⟨_, _, xs, _, o, es, ep, h1, h2, _⟩ := (show ObjOk X.prog X.w H s.heap a (.dT kvs) from I.hok a _ ea)
    exact PySem.W.kia_one PySem.W.kitx_dict I.kIn ⟨o, h1, h2.1⟩ e (fun z => nomatch z) h
  | @ins a C dx fs ea cl ha hn htk hm =>
    cases (show u = Value.ref a from rx)
    obtain ⟨mA, O, _⟩ := ins_get I.hok ea
    obtain ⟨od, J, _⟩ := O.look
    exact PySem.W.kia_one (PySem.W.kitx_own (cl.get _) cl.hd ha hn htk hm) I.kIn J e (fun z => nomatch z) h
end
end L2
namespace L2
open PySem PySem.Spec PyProof.Rows
structure Room (k : Nat) (A : Around) : Prop where
  hd : A.handled = none
  dp : A.depth + 3 * k + 5 < recursionLimit
  un : A.units + 16 * k + 200 < cLine
theorem Room.mono {j k : Nat} {A : Around} (r : Room k A) (h : j ≤ k) : Room j A := ⟨r.hd, by have := r.dp; omega, by have := r.un; omega⟩
theorem Room.deeper {k : Nat} {A : Around} (r : Room (k + 1) A) (env : Env) : Room k (A.deeper env) :=
  ⟨r.hd, by have := r.dp; show A.depth + 1 + 3 * k + 5 < _; omega, by have := r.un; show A.units + 3 + 16 * k + 200 < _; omega⟩
theorem Room.in1 {k : Nat} {A : Around} (r : Room (k + 1) A) : Room k A.in1 :=
  ⟨r.hd, by have := r.dp; show A.depth + 3 * k + 5 < _; omega, by have := r.un; show A.units + 1 + 16 * k + 200 < _; omega⟩
theorem make_depth {A : Around} {C : Addr} {us : List Value} {kw : List (Str × Value)} : (A.under (.builtin "type.__call__" ⟨.ref C :: us, kw⟩)).depth = A.depth + 1 := by
  first | rfl | simp [Around.under, Code.weight, Code.isCreation, Code.isGuard, Code.isCaller, Code.frames, Code.isFrame, guardIds]
theorem make_units {A : Around} {C : Addr} {us : List Value} {kw : List (Str × Value)} : (A.under (.builtin "type.__call__" ⟨.ref C :: us, kw⟩)).units = A.units + 1 := by
  first | rfl | simp [Around.under, Code.cUnits, Code.frames, Code.isFrame]
theorem Room.make {k : Nat} {A : Around} (r : Room (k + 1) A) (C : Addr) (us : List Value) (kw : List (Str × Value)) : Room k (A.under (.builtin "type.__call__" ⟨.ref C :: us, kw⟩)) :=
  ⟨r.hd, by have := r.dp; rw [make_depth]; omega, by have := r.un; rw [make_units]; omega⟩
theorem Room.depth {k : Nat} {A : Around} (r : Room k A) : A.depth < recursionLimit := by have := r.dp; omega
theorem Room.units {k : Nat} {A : Around} (r : Room k A) : A.units + 64 < cLine := by have := r.un; omega
def tNil : TA := fun _ H Q => Q [] H
def tCons (ta : TE) (tr : TA) : TA := fun σ H Q => ta σ H fun x H1 => tr σ H1 fun xs H2 => Q (x :: xs) H2
section
variable {X : Cx} {e : Expr} {es : List Expr} {te : TE} {t : TA} {pos : Pos}
theorem pa_nil : PA X [] tNil := fun _ _ _ _ H Q I h => Calls.spliced_nil ⟨[], H, I, .nil, h⟩
theorem pa_cons (ha : PE X e te) (hr : PA X es t) (hs : starEach (e :: es) X.env = (false, eval e X.env) :: starEach es X.env := by rfl) : PA X (e :: es) (tCons te t) := by
  intro pos pins s σ H Q I h
  rw [hs]
  show wpAny _ _ (spliced ((false, eval e X.env) :: backTo pos (starEach es X.env))) _ _ s
  refine Calls.spliced_cons (thn (ha pins s σ H _ I h) fun u s1 ⟨x, H1, I1, r1, q1⟩ => ?_)
  exact thn (hr pos pins s1 σ H1 _ I1 q1) fun us s2 ⟨xs, H2, I2, r2, q2⟩ => ⟨x :: xs, H2, I2, .cons r1 r2, q2⟩
def tTup (t : TA) : TE := fun σ H Q => t σ H fun xs H1 => xs.length ≤ sizeLine ∧ ∀ p, H1 p = none → Q (.ref p) (upd H1 p (.tup xs))
def tLst (t : TA) : TE := fun σ H Q => t σ H fun xs H1 => xs.length ≤ sizeLine ∧ ∀ p, H1 p = none → Q (.ref p) (upd H1 p (.lst xs))
theorem pe_tup {x1} (h : PA X es t) : PE X (.Tuple es x1 pos) (tTup t) := by
  intro pins s σ H Q I hq
  refine wpAny_Tuple_spliced (thn (h pos pins s σ H _ I hq) fun us s1 ⟨xs, H1, I1, r, z, q⟩ => ⟨by rw [← r.length]; exact z, ?_⟩)
  have hf : H1 s1.heap.objs.size = none := I1.hok.fresh (Nat.le_refl _)
  refine ⟨.ref s1.heap.objs.size, upd H1 s1.heap.objs.size (.tup xs), I1.laid (t' := s1.toks) (fun b u e => Heap.get?_push_of_some _ e) (Nat.le_refl _) ?_, rfl, q _ hf⟩
  exact ⟨z, us, r, ⟨_, Heap.get?_push_size _ rfl, rfl, _, rfl⟩⟩
theorem pe_lst (h : PA X es t) : PE X (.List es pos) (tLst t) := by
  intro pins s σ H Q I hq
  refine wpAny_List_spliced (thn (h pos pins s σ H _ I hq) fun us s1 ⟨xs, H1, I1, r, z, q⟩ => ⟨by rw [← r.length]; exact z, ?_⟩)
  have hf : H1 s1.heap.objs.size = none := I1.hok.fresh (Nat.le_refl _)
  refine ⟨.ref s1.heap.objs.size, upd H1 s1.heap.objs.size (.lst xs), I1.laid (t' := s1.toks) (fun b u e => Heap.get?_push_of_some _ e) (Nat.le_refl _) ?_, rfl, q _ hf⟩
  exact ⟨z, us, 0, r, Heap.get?_push_size _ rfl⟩
end
abbrev Sp := List V → Hp → VK → XK → Prop
abbrev CXT := List Env → Hp → Shared → XK → Value → Shared → Prop
structure Env0 (P : Program) (w : World) (K : PySem.W.Frag) (mg : Str → Option Value) (base : Heap) (A : Around) (outer : List Env) (s : Shared) (H : Hp) : Prop where
  frames : A.frames = some outer
  mod : Mod K mg base
  bs : ∀ b o, base.get? b = some o → s.heap.get? b = some o ∧ H b = none
  bsz : base.objs.size ≤ s.heap.objs.size
  funs : s.heap.FunFrames base outer
  frf : ∀ b ∈ frs outer, H b = none
  hok : HOk P w H s.heap
  bare : AllBare s.gens
def CE (outer : List Env) (P : Program) (w : World) (H : Hp) (s : Shared) (Q : VK) (u : Value) (s' : Shared) : Prop :=
  ∃ v H', s'.os = s.os ∧ AllBare s'.gens ∧ Un (frs outer) [] H H' s.heap s'.heap ∧ HOk P w H' s'.heap ∧ RelV v u ∧ Q v H'
def CR (CX : CXT) (outer : List Env) (P : Program) (w : World) (H : Hp) (s : Shared) (Q : VK) (E : XK) (r : Result) (s' : Shared) : Prop :=
  match r with
  | .ok (.ret u) => CE outer P w H s Q u s'
  | .ok _ => False
  | .error e => CX outer H s E e s'
structure FnOk (P : Program) (w : World) (K : PySem.W.Frag) (mg : Str → Option Value) (base : Heap) (CX : CXT) (k : Nat) (f : Addr) (fd : FuncData) (ps : List Str) (sp : Sp) : Prop where
  len : ∀ vs H Q E, sp vs H Q E → vs.length = ps.length
  run : ∀ (A : Around) (outer : List Env) (s : Shared) (H : Hp) (args : Args) (us : List Value) (vs : List V) (Q : VK) (E : XK), Room k A → Env0 P w K mg base A outer s H → BindsTo s fd args (ps.zip us) → Vals vs us → sp vs H Q E →
    codeAny (model P w) A (.call (.ref f) args) (CR CX outer P w H s Q E) s
theorem FnOk.mono {P : Program} {w : World} {K : PySem.W.Frag} {mg : Str → Option Value} {base : Heap} {CX : CXT} {j k : Nat} {f : Addr} {fd : FuncData} {ps : List Str} {sp : Sp} (F : FnOk P w K mg base CX j f fd ps sp) (h : j ≤ k) :
    FnOk P w K mg base CX k f fd ps sp := ⟨F.len, fun A outer s H args us vs Q E hr => F.run A outer s H args us vs Q E (hr.mono h)⟩
theorem FnOk.imp {P : Program} {w : World} {K : PySem.W.Frag} {mg : Str → Option Value} {base : Heap} {CX : CXT} {k : Nat} {f : Addr} {fd : FuncData} {ps : List Str} {sp sp' : Sp} (F : FnOk P w K mg base CX k f fd ps sp)
    (h : ∀ vs H Q E, sp' vs H Q E → sp vs H Q E) : FnOk P w K mg base CX k f fd ps sp' :=
  ⟨fun vs H Q E q => F.len vs H Q E (h _ _ _ _ q), fun A outer s H args us vs Q E hr he hb hv hs => F.run A outer s H args us vs Q E hr he hb hv (h _ _ _ _ hs)⟩
theorem Env0.make {P : Program} {w : World} {K : PySem.W.Frag} {mg : Str → Option Value} {base : Heap} {A : Around} {outer : List Env} {s : Shared} {H : Hp} (e : Env0 P w K mg base A outer s H) (C : Addr) (us : List Value) (kw : List (Str × Value)) :
    Env0 P w K mg base (A.under (.builtin "type.__call__" ⟨.ref C :: us, kw⟩)) outer s H := ⟨by first | exact e.frames | (simpa [Around.under, Code.envs, Code.isFrame, pushEnvs] using e.frames), e.mod, e.bs, e.bsz, e.funs, e.frf, e.hok, e.bare⟩
theorem Env0.in1 {P : Program} {w : World} {K : PySem.W.Frag} {mg : Str → Option Value} {base : Heap} {A : Around} {outer : List Env} {s : Shared} {H : Hp} (e : Env0 P w K mg base A outer s H) :
    Env0 P w K mg base A.in1 outer s H := ⟨e.frames, e.mod, e.bs, e.bsz, e.funs, e.frf, e.hok, e.bare⟩
section
variable {X : Cx} {pins : List (Addr × Obj)} {σ : St} {H : Hp} {s s' : Shared}
theorem Inv.env0 (I : Inv X pins σ H s) : Env0 X.prog X.w X.K X.mg X.base X.A X.stack s H :=
  ⟨I.ok.frames, I.ok.mod, I.bs, Nat.le_trans I.ok.bsz I.sz, I.stack, I.stkFree, I.hok, I.bare⟩
theorem Inv.after {Q : VK} {u : Value} (I : Inv X pins σ H s) (h : CE X.stack X.prog X.w H s Q u s') : EP X pins σ Q u s' := by
  obtain ⟨v, H', os, bare, un, hok, r, q⟩ := h
  obtain ⟨hh, g, d, t, os'⟩ := s'
  obtain rfl : os' = s.os := os
  exact ⟨v, H', I.call (h' := hh) (g' := g) (d' := d) (t' := t) (ch := []) un hok bare (fun b z => absurd z (by simp)), r, q⟩
end
def tCall (sp : Sp) (dvs : List V) (E : XK) (t : TA) : TE := fun σ H Q => t σ H fun vs H1 => sp (vs ++ dvs) H1 Q E
def tMeth (C : Addr) (m : Str) (sp : Sp) (dvs : List V) (E : XK) (ta : TE) (t : TA) : TE := fun σ H Q => ta σ H fun x H1 => ∃ a dx fs, x = .ref a ∧ H1 a = some (.ins C dx fs) ∧ fs.lookup m = none ∧
  t σ H1 fun vs H2 => sp (x :: (vs ++ dvs)) H2 Q E
def tMake (C : Addr) (sp : Sp) (dvs : List V) (E : XK) (t : TA) : TE := fun σ H Q => t σ H fun vs H1 => ∀ x dx, H1 x = none → H1 dx = none → dx ≠ x →
  sp (.ref x :: (vs ++ dvs)) (upd (upd H1 dx (.own x)) x (.ins C dx [])) (fun v H2 => v = .non ∧ Q (.ref x) H2) E
def Binds (K : PySem.W.Frag) (fd : FuncData) (ps : List Str) (ds : List Value) : Prop :=
  ∀ (s : Shared) (us : List Value), K.In s.heap → (us ++ ds).length = ps.length → BindsTo s fd ⟨us, []⟩ (ps.zip (us ++ ds))
theorem Binds.all {K : PySem.W.Frag} {fd : FuncData} {ps : List Str} (h : ∀ us : List Value, us.length = ps.length → bindArgs fd ⟨us, []⟩ = pure (ps.zip us)) : Binds K fd ps [] := fun s us _ hl => by
  rw [List.append_nil] at hl ⊢
  exact .of_eq (h us hl)
def Passes (CX : CXT) (X : Cx) (E : XK) : Prop := ∀ (pins : List (Addr × Obj)) (σ : St) (H : Hp) (s : Shared) (e : Value) (s' : Shared), Inv X pins σ H s → CX X.stack H s E e s' → X.xe e s'
section
variable {X : Cx} {CX : CXT} {k : Nat} {f C : Addr} {fd : FuncData} {ps : List Str} {sp : Sp} {dvs : List V} {ds : List Value} {E : XK} {x m : Str} {p pos apos : Pos} {e o : Expr} {es : List Expr} {ta : TE} {t : TA}
theorem run_fn {pins : List (Addr × Obj)} {σ : St} {H : Hp} {s : Shared} {Q : VK} {us : List Value} {vs : List V} (F : FnOk X.prog X.w X.K X.mg X.base CX k f fd ps sp) (hr : Room k X.A) (hb : Binds X.K fd ps ds) (hd : Vals dvs ds) (hx : Passes CX X E)
    (I : Inv X pins σ H s) (r : Vals vs us) (h : sp (vs ++ dvs) H Q E) : wpAny (model X.prog X.w) X.A (call (.ref f) us) (EP X pins σ Q) X.xe s := by
  have r2 : Vals (vs ++ dvs) (us ++ ds) := r.append hd
  have hl : (us ++ ds).length = ps.length := by rw [← r2.length]; exact F.len _ _ _ _ h
  refine wpAny_call (codeAny_mono (F.run X.A X.stack s H ⟨us, []⟩ (us ++ ds) (vs ++ dvs) Q E hr I.env0 (hb s us I.kIn hl) r2 h) fun r s' hq => ?_)
  cases r with
  | error e => exact hx pins σ H s e s' I hq
  | ok fl =>
    cases fl with
    | ret u => exact I.after hq
    | next => exact False.elim hq
    | brk => exact False.elim hq
    | cont => exact False.elim hq
theorem pe_call (F : FnOk X.prog X.w X.K X.mg X.base CX k f fd ps sp) (hr : Room k X.A) (hg : Gl X x) (hm : X.mg x = some (.ref f)) (hk : PySem.W.keepIn X.K (.ref f) = true) (hb : Binds X.K fd ps ds) (hd : Vals dvs ds) (hx : Passes CX X E)
    (ha : PA X (e :: es) t) (hdb : (x == ("__debug__" : Str)) = false := by decide) (he : starEach (e :: es) X.env = (false, eval e X.env) :: starEach es X.env := by rfl) (hpl : (backTo pos (starEach es X.env)).any (·.1) = false := by rfl) :
    PE X (.Call (.Name x p) (e :: es) [] pos) (tCall sp dvs E t) := by
  intro pins s σ H Q I h
  refine wpAny_Call_Name_kw (ld_glob I hg hm ?_ hdb)
  refine PySem.W.callWith_K (h₀ := X.base) I.ok.mod.kin hk (thn (ha pos pins s σ H _ I h) fun us s1 ⟨vs, H1, I1, r, q⟩ => ⟨I1.kIn, ?_⟩) he hpl
  exact run_fn F hr hb hd hx I1 r q
structure Mk (K : PySem.W.Frag) (C f : Addr) : Prop where
  makes : PySem.W.makesIn K C = true
  init : PySem.W.findIn K (.ref C) "__init__" = some (some (.ref f))
  fn : PySem.W.isFn K (.ref f) = true
  kp : PySem.W.keepIn K (.ref C) = true
end
def PK (X : Cx) (kws : List Keyword) (t : TA) : Prop :=
  ∀ (pos : Pos) (pins : List (Addr × Obj)) (s : Shared) (σ : St) (H : Hp) (Q : List V → Hp → Prop), Inv X pins σ H s → t σ H Q → wpAny (model X.prog X.w) X.A (evalAll ((backToKw pos (keywordEach kws X.env)).map (·.2))) (AP X pins σ Q) X.xe s
section
variable {X : Cx} {CX : CXT} {k : Nat} {f C : Addr} {fd : FuncData} {ps ks : List Str} {sp : Sp} {E : XK} {x m : Str} {p pos apos kpos : Pos} {e o : Expr} {es : List Expr} {kws : List Keyword} {te ta : TE} {t tk : TA} {nm : Option Str}
structure KBinds (K : PySem.W.Frag) (fd : FuncData) (ps ks : List Str) (g : List Value → List Value → List Value) (gV : List V → List V → List V) : Prop where
  to : ∀ (s : Shared) (us ws : List Value), K.In s.heap → (g us ws).length = ps.length → BindsTo s fd ⟨us, ks.zip ws⟩ (ps.zip (g us ws))
  rel : ∀ {vs : List V} {us : List Value} {zs : List V} {ws : List Value}, Vals vs us → Vals zs ws → Vals (gV vs zs) (g us ws)
def tCallK (sp : Sp) (gV : List V → List V → List V) (E : XK) (t tk : TA) : TE := fun σ H Q => t σ H fun vs H1 => tk σ H1 fun zs H2 => sp (gV vs zs) H2 Q E
variable {g : List Value → List Value → List Value} {gV : List V → List V → List V}
end
structure FnScope (N P : List Str) (sc : Scope) : Prop where
  kind : sc.kind = .function
  co : sc.isCoroutine = false
  gen : sc.isGenerator = false
  nd : N.Nodup
  pre : N.take P.length = P
  par : ∀ x ∈ P, sc.names.lookup x = some .local ∨ sc.names.lookup x = some .cell
  nofree : ∀ y ∈ sc.names, y.2 ≠ .free
theorem bindL_out {kindOf : Str → Option NameKind} {x : Str} : ∀ {binds : List (Str × Value)} {m : Str → Option Value}, (∀ v, (x, v) ∉ binds) → bindL kindOf binds m x = m x
  | [], _, _ => rfl
  | (n, v) :: r, m, h => by
    unfold bindL
    rw [bindL_out fun w hw => h w (List.mem_cons_of_mem _ hw)]
    split
    · have : x ≠ n := by rintro rfl; exact h v List.mem_cons_self
      simp [this]
    · rfl
theorem bindC_out {kindOf : Str → Option NameKind} {x : Str} : ∀ {binds : List (Str × Value)} {m : Str → Option Value}, (∀ v, (x, v) ∉ binds) → bindC kindOf binds m x = m x
  | [], _, _ => rfl
  | (n, v) :: r, m, h => by
    unfold bindC
    rw [bindC_out fun w hw => h w (List.mem_cons_of_mem _ hw)]
    split
    · rfl
    · have : x ≠ n := by rintro rfl; exact h v List.mem_cons_self
      simp [this]
theorem bindL_get {kindOf : Str → Option NameKind} {x : Str} {v : Value} : ∀ {P : List Str} {vs : List Value} {i : Nat} {m : Str → Option Value}, P.Nodup → P[i]? = some x → vs[i]? = some v → kindOf x = some .local →
    bindL kindOf (P.zip vs) m x = some v
  | [], _, _, _, _, h, _, _ => by simp at h
  | _ :: _, [], _, _, _, _, h, _ => by simp at h
  | p :: P, w :: vs, 0, m, nd, h1, h2, hk => by
    simp at h1 h2; subst h1; subst h2
    show bindL kindOf ((p, w) :: P.zip vs) m p = _
    unfold bindL
    rw [bindL_out fun v hv => (List.nodup_cons.mp nd).1 (List.of_mem_zip hv).1, if_pos hk]
    simp
  | p :: P, w :: vs, i + 1, m, nd, h1, h2, hk => by
    show bindL kindOf ((p, w) :: P.zip vs) m x = _
    unfold bindL
    exact bindL_get (i := i) (List.nodup_cons.mp nd).2 (by simpa using h1) (by simpa using h2) hk
theorem bindC_get {kindOf : Str → Option NameKind} {x : Str} {v : Value} : ∀ {P : List Str} {vs : List Value} {i : Nat} {m : Str → Option Value}, P.Nodup → P[i]? = some x → vs[i]? = some v → kindOf x ≠ some .local →
    bindC kindOf (P.zip vs) m x = some v
  | [], _, _, _, _, h, _, _ => by simp at h
  | _ :: _, [], _, _, _, _, h, _ => by simp at h
  | p :: P, w :: vs, 0, m, nd, h1, h2, hk => by
    simp at h1 h2; subst h1; subst h2
    show bindC kindOf ((p, w) :: P.zip vs) m p = _
    unfold bindC
    rw [bindC_out fun v hv => (List.nodup_cons.mp nd).1 (List.of_mem_zip hv).1, if_neg hk]
    simp
  | p :: P, w :: vs, i + 1, m, nd, h1, h2, hk => by
    show bindC kindOf ((p, w) :: P.zip vs) m x = _
    unfold bindC
    exact bindC_get (i := i) (List.nodup_cons.mp nd).2 (by simpa using h1) (by simpa using h2) hk
def start (N : List Str) (vs : List V) : St := vs.map some ++ List.replicate (N.length - vs.length) none
def cxOf (CX : CXT) (P : Program) (w : World) (K : PySem.W.Frag) (mg : Str → Option Value) (base : Heap) (N : List Str) (qual : Str) (scope : Scope) (f : Addr) (cd : Value) (A : Around) (outer : List Env) (s : Shared) (H : Hp) (E : XK) : Cx where
  prog := P
  w := w
  K := K
  mg := mg
  base := base
  A := A.deeper (envOfC qual scope s.heap.objs.size f cd)
  N := N
  s₀ := s
  H₀ := H
  env := envOfC qual scope s.heap.objs.size f cd
  outer := outer
  stack := envOfC qual scope s.heap.objs.size f cd :: outer
  ex := []
  calm := true
  fn := fun _ => true
  pn := []
  xe := fun e s' => wpAny (model P w) (A.deeper (envOfC qual scope s.heap.objs.size f cd)) (leaving (envOfC qual scope s.heap.objs.size f cd) e) (fun _ s'' => CX outer H s E e s'') (fun e' s'' => CX outer H s E e' s'') s'
theorem cell_has {sc : Scope} {n : Nat} {x : Str} (h : sc.names.lookup x = some .cell) : ∃ c, (cellsFrom n sc.names []).lookup x = some c := by
  have q := PySem.W.cellsFrom_some sc.names n [] (.inl h)
  exact Option.isSome_iff_exists.mp q
theorem inv_start {CX : CXT} {P : Program} {w : World} {K : PySem.W.Frag} {mg : Str → Option Value} {base : Heap} {N ps : List Str} {qual : Str} {scope : Scope} {f : Addr} {cd : Value} {A : Around} {outer : List Env} {s s1 : Shared} {H : Hp} {E : XK} {us : List Value} {vs : List V}
    (S : FnScope N ps scope) (hd : A.handled = none) (e0 : Env0 P w K mg base A outer s H) (hl : vs.length = ps.length) (r : Vals vs us)
    (x : InCallC s s.heap.objs.size (bindL (envOfC qual scope s.heap.objs.size f cd).kindOf (ps.zip us) fun _ => none) (cellsFrom (s.heap.objs.size + 1) scope.names []) (bindC (envOfC qual scope s.heap.objs.size f cd).kindOf (ps.zip us) fun _ => none) s1) :
    Inv (cxOf CX P w K mg base N qual scope f cd A outer s H E) [] (start N vs) H s1 := by
  have hpl : ps.length ≤ N.length := by have := congrArg List.length S.pre; rw [List.length_take] at this; omega
  obtain ⟨h1, tk, rfl, hk⟩ := x.done
  have noA : ∀ b : Addr, b ∉ (cxOf CX P w K mg base N qual scope f cd A outer s H E).ex := fun b z => absurd (show b ∈ ([] : List Addr) from z) (by simp)
  refine ⟨⟨e0.mod, S.kind, rfl, rfl, Nat.le_refl _, fun y z c h1 h2 => ?_, fun y hy => ?_, fun y c _ h => ?_, fun _ => hd, Around.frames_deeper e0.frames, .inr ⟨rfl, rfl⟩, fun b z => absurd z (noA b), e0.bs, e0.bsz, fun b _ _ => noA b, fun b z => absurd z (noA b), e0.funs, e0.frf⟩,
    rfl, e0.bare, Un.kept hk, ⟨_, x.toInCall.ns, fun i y v h1 h2 h3 => ?_⟩, fun y c h => ⟨_, x.cell y c h⟩, e0.hok.fresh (Nat.le_refl _), fun y c h => ?_, fun p hp => absurd (show p ∈ ([] : List (Addr × Obj)) from hp) (by simp), e0.hok.kept hk, ?_⟩
  · exact name_of_addr x.apart (PySem.mem_of_lookup h1) (PySem.mem_of_lookup h2)
  · have hy : scope.names.lookup y = some .cell ∨ scope.names.lookup y = some .free := hy
    rcases hy with hy | hy
    · exact cell_has hy
    · exact absurd rfl (S.nofree _ (PySem.mem_of_lookup hy))
  · exact Nat.le_of_lt (x.above y c (PySem.mem_of_lookup h))
  · have hi : i < vs.length := by
      unfold start at h2
      by_cases hi : i < vs.length
      · exact hi
      · rw [List.getElem?_append_right (by simpa using hi)] at h2
        rw [List.getElem?_replicate] at h2
        split at h2 <;> cases h2
    have ha : vs[i]? = some v := by
      unfold start at h2
      rw [List.getElem?_append_left (by simpa using hi), List.getElem?_map] at h2
      cases e : vs[i]? with
      | none => rw [e] at h2; cases h2
      | some a => rw [e] at h2; cases h2; rfl
    obtain ⟨u, hu, rv⟩ := r.get ha
    have hp : ps[i]? = some y := by
      rw [← S.pre, List.getElem?_take_of_lt (by omega)]; exact h1
    have ndP : ps.Nodup := by rw [← S.pre]; exact S.nd.sublist (List.take_sublist _ _)
    refine ⟨u, rv, ?_⟩
    rcases S.par y (List.mem_of_getElem? hp) with k | k
    · exact .inl ⟨k, bindL_get ndP hp hu k⟩
    · obtain ⟨c, e⟩ := cell_has (n := s.heap.objs.size + 1) k
      refine .inr ⟨.inl k, c, e, ?_⟩
      have q := x.cell y c e
      rw [bindC_get ndP hp hu (by show scope.names.lookup y ≠ _; rw [k]; decide)] at q
      exact q
  · exact e0.hok.fresh (Nat.le_of_lt (x.above y c (PySem.mem_of_lookup h)))
  · unfold start
    show _ = N.length
    rw [List.length_append, List.length_map, List.length_replicate]
    omega
theorem fn_of {CX : CXT} {P : Program} {w : World} {K : PySem.W.Frag} {mg : Str → Option Value} {base : Heap} {k : Nat} {f : Addr} {name qual : Str} {params : Arguments} {body : List Stmt} {scope : Scope} {dV kV doc pm cdv ct oc : Value} {an od : Option Addr}
    {osl : Array (Option Value)} {N ps : List Str} {sp : Sp} (lk : K.lookup f = some ⟨oc, od, .func (PySem.W.fnOf name qual params body scope dV kV doc pm an cdv ct), osl⟩) (hcd : PySem.W.codeIn K cdv qual = true) (S : FnScope N ps scope)
    (len : ∀ vs H Q E, sp vs H Q E → vs.length = ps.length)
    (hbody : ∀ (A : Around) (outer : List Env) (s : Shared) (H : Hp) (vs : List V) (Q : VK) (E : XK), Room k (A.deeper (envOfC qual scope s.heap.objs.size f cdv)) → sp vs H Q E →
      ∃ t, PSs (cxOf CX P w K mg base N qual scope f cdv A outer s H E) body t ∧ t { nx := fun _ H' => Q .non H', rt := Q } (start N vs) H) :
    FnOk P w K mg base CX (k + 1) f (PySem.W.fnOf name qual params body scope dV kV doc pm an cdv ct) ps sp := by
  refine ⟨len, fun A outer s H args us vs Q E hr e0 hb r hsp => ?_⟩
  have hl := len _ _ _ _ hsp
  have KX : K.In s.heap := e0.mod.kin.keeps fun b o e => (e0.bs b o e).1
  have lim : s.heap.NoLimit := e0.mod.nolimit.keeps fun b o e => (e0.bs b o e).1
  have hkind : ∀ y ∈ ps.zip us, scope.names.lookup y.1 = some .local ∨ (scope.names.lookup y.1 = some .cell ∧ ((cellsFrom (s.heap.objs.size + 1) scope.names []).lookup y.1).isSome = true) := fun ⟨n, v⟩ hy => by
    rcases S.par n (List.of_mem_zip hy).1 with q | q
    · exact .inl q
    · exact .inr ⟨q, PySem.W.cellsFrom_some _ _ _ (.inl q)⟩
  refine codeAny_call_function hr.depth (KX _ _ lk) rfl S.co S.gen rfl (PySem.W.codeRec_of KX hcd) (hb _ _ _ _ ?_)
  refine wpAny_newFunctionEnv_cells S.kind hkind fun env he s1 x => ?_
  subst he
  refine ⟨lim.keeps x.toInCall.keep, codeAny_func ?_⟩
  obtain ⟨t, ht, hq⟩ := hbody A outer s H vs Q E (hr.deeper _) hsp
  have I : Inv (cxOf CX P w K mg base N qual scope f cdv A outer s H E) [] (start N vs) H s1 := inv_start S hr.hd e0 hl r x
  refine wpAny_mono (ht [] s1 (start N vs) H _ I hq) (fun fl s' hs => ?_) fun e s' hs => hs
  have fin : ∀ {σ' : St} {H' : Hp} {v : V} {u : Value}, Inv (cxOf CX P w K mg base N qual scope f cdv A outer s H E) [] σ' H' s' → RelV v u → Q v H' → CE outer P w H s Q u s' :=
    fun {σ' H' v u} J rv q => ⟨v, H', J.os, J.bare, J.base, J.hok, rv, q⟩
  cases fl with
  | ret u =>
    obtain ⟨v, σ', H', J, rv, q⟩ := hs
    exact fin J rv q
  | next =>
    obtain ⟨σ', H', J, q⟩ := hs
    exact fin (v := V.non) (u := Value.none) J rfl q
  | brk =>
    obtain ⟨_, _, _, q⟩ := hs
    exact False.elim q
  | cont =>
    obtain ⟨_, _, _, q⟩ := hs
    exact False.elim q
end L2
namespace L2
open PySem PySem.Spec PyProof.Rows
section
variable {X : Cx} {x : Str} {p pos : Pos} {e : Expr} {es : List Expr} {t : TA} {id T : String} {r : List V → Hp → VK → Prop}
def tCB (r : List V → Hp → VK → Prop) (t : TA) : TE := fun σ H Q => t σ H fun vs H1 => r vs H1 Q
theorem pe_callB (hc : CallR X (.builtin id) r) (hg : Gl X x) (hm : X.mg x = none) (hv : bootBuiltins x = some (.builtin id)) (ha : PA X (e :: es) t) (hn : x ≠ "__name__" := by decide) (hdb : (x == ("__debug__" : Str)) = false := by decide)
    (he : starEach (e :: es) X.env = (false, eval e X.env) :: starEach es X.env := by rfl) (hpl : (backTo pos (starEach es X.env)).any (·.1) = false := by rfl) : PE X (.Call (.Name x p) (e :: es) [] pos) (tCB r t) := by
  intro pins s σ H Q I h
  refine wpAny_Call_Name_kw (ld_blt I hg hm hv ?_ hn hdb)
  exact PyProof.Rows.callWith_builtin1 (thn (ha pos pins s σ H _ I h) fun us s1 ⟨vs, H1, I1, r1, q1⟩ => hc pins s1 σ H1 vs us Q I1 r1 q1) he hpl
theorem pe_callTy (hc : CallR X (.type T) r) (hg : Gl X x) (hm : X.mg x = none) (hv : bootBuiltins x = some (.type T)) (ha : PA X (e :: es) t) (hn : x ≠ "__name__" := by decide) (hdb : (x == ("__debug__" : Str)) = false := by decide)
    (he : starEach (e :: es) X.env = (false, eval e X.env) :: starEach es X.env := by rfl) (hpl : (backTo pos (starEach es X.env)).any (·.1) = false := by rfl) : PE X (.Call (.Name x p) (e :: es) [] pos) (tCB r t) := by
  intro pins s σ H Q I h
  refine wpAny_Call_Name_kw (ld_blt I hg hm hv ?_ hn hdb)
  exact PyProof.Rows.callWith_type1 (thn (ha pos pins s σ H _ I h) fun us s1 ⟨vs, H1, I1, r1, q1⟩ => hc pins s1 σ H1 vs us Q I1 r1 q1) he hpl
end
end L2
namespace HT
open PySem PyProof.Rows
def lexLt : List Int → List Int → Bool
  | [], [] => false
  | [], _ :: _ => true
  | _ :: _, [] => false
  | x :: xs, y :: ys => if x = y then lexLt xs ys else decide (x < y)
section
open PySem.SeqAt
open PySem.AutoSeq1 (wpAny_loadPart')
open PySem.MeetsSeq PySem.MeetsSeq2 PySem.MeetsSeq3
end
section
variable {prog : Program} {w : World} {A : Around} {E : Value → Shared → Prop} {s : Shared}
def sIx (n d : Nat) : Option Int → Nat
  | none => d
  | some v => if v < 0 then (v + (n : Int)).toNat else min v.toNat n
end
end HT
namespace L2
open PySem PySem.Spec PyProof.Rows
abbrev TO := St → Hp → (Option Int → Hp → Prop) → Prop
def PO (X : Cx) (e : Option Expr) (t : TO) : Prop :=
  ∀ (pins : List (Addr × Obj)) (s : Shared) (σ : St) (H : Hp) (Q : Option Int → Hp → Prop), Inv X pins σ H s → t σ H Q →
    wpAny (model X.prog X.w) X.A (evalPart e X.env) (fun u s' => ∃ o H', Inv X pins σ H' s' ∧ IsPart u o ∧ Q o H') X.xe s
def tNoPart : TO := fun _ H Q => Q none H
def tPart (t : TE) : TO := fun σ H Q => t σ H fun x H1 => ∃ i, x = .int i ∧ Q (some i) H1
section
variable {X : Cx} {e : Expr} {te : TE} {lo hi : Option Expr} {tl th : TO} {pos p2 : Pos}
def SlR (X : Cx) (r : V → Option Int → Option Int → Hp → VK → Prop) : Prop :=
  ∀ (pins : List (Addr × Obj)) (s : Shared) (σ : St) (H : Hp) (x : V) (v vl vu : Value) (lo hi : Option Int) (sl : Addr) (Q : VK), Inv X pins σ H s → RelV x v → s.heap.IsSliceOf sl vl vu .none → IsPart vl lo → IsPart vu hi → r x lo hi H Q →
    ∃ T id, typeLookup (.type T) "__getitem__" = pure (some (.builtin id)) ∧ s.TypeIs v T ∧ wpAny (model X.prog X.w) X.A (getItem v (.ref sl)) (EP X pins σ Q) X.xe s
theorem SlR.or {r r' : V → Option Int → Option Int → Hp → VK → Prop} (h : SlR X r) (h' : SlR X r') : SlR X (fun x lo hi H Q => r x lo hi H Q ∨ r' x lo hi H Q) := by
  intro pins s σ H x v vl vu lo hi sl Q I rx hs pl pu q
  rcases q with q | q
  · exact h pins s σ H x v vl vu lo hi sl Q I rx hs pl pu q
  · exact h' pins s σ H x v vl vu lo hi sl Q I rx hs pl pu q
def tSl (r : V → Option Int → Option Int → Hp → VK → Prop) (te : TE) (tl th : TO) : TE := fun σ H Q => te σ H fun x H1 => tl σ H1 fun l H2 => th σ H2 fun u H3 => r x l u H3 Q
def cutV (xs : List V) (lo hi : Option Int) : List V := (xs.drop (HT.sIx xs.length 0 lo)).take (HT.sIx xs.length xs.length hi - HT.sIx xs.length 0 lo)
def rSlT (K : PySem.W.Frag) : V → Option Int → Option Int → Hp → VK → Prop := fun x lo hi H Q => ∃ a xs, x = .ref a ∧ SqT K H a xs ∧
  ¬ (HT.sIx xs.length 0 lo = 0 ∧ HT.sIx xs.length xs.length hi = xs.length) ∧ ∀ p, H p = none → Q (.ref p) (upd H p (.tup (cutV xs lo hi)))
def rLtT (K : PySem.W.Frag) : R2 := fun x y H Q => ∃ a b ns ms, x = .ref a ∧ y = .ref b ∧ SqT K H a (ns.map V.int) ∧ SqT K H b (ms.map V.int) ∧ Q (.bl (HT.lexLt ns ms)) H
def rCatT (K : PySem.W.Frag) : R2 := fun x y H Q => ∃ a b xs ys, x = .ref a ∧ y = .ref b ∧ SqT K H a xs ∧ SqT K H b ys ∧ xs ≠ [] ∧ xs.length + ys.length ≤ sizeLine ∧
  (ys = [] → Q (.ref a) H) ∧ (ys ≠ [] → ∀ p, H p = none → Q (.ref p) (upd H p (.tup (xs ++ ys))))
end
end L2
namespace L2
open PySem PySem.Spec PyProof.Rows
def ixN (n : Nat) (i : Int) : Option Nat := if 0 ≤ i then (if i < n then some i.toNat else none) else if -(n : Int) ≤ i then some (i + n).toNat else none
def atI {α : Type} (xs : List α) (i : Int) : Option α := (ixN xs.length i).bind fun j => xs[j]?
theorem ixN_seq {n : Nat} {i : Int} {j : Nat} (h : ixN n i = some j) : seqIndex? i n = some j ∧ j < n ∧ -(n : Int) ≤ i ∧ i < n := by
  unfold ixN at h
  by_cases h0 : 0 ≤ i
  · rw [if_pos h0] at h
    by_cases h1 : i < n
    · rw [if_pos h1] at h
      have e : i.toNat = j := Option.some.inj h
      exact ⟨by rw [seqIndex_of h0 h1, e], by omega, by omega, h1⟩
    · rw [if_neg h1] at h; cases h
  · rw [if_neg h0] at h
    by_cases h1 : -(n : Int) ≤ i
    · rw [if_pos h1] at h
      have e : (i + n).toNat = j := Option.some.inj h
      exact ⟨by rw [seqIndex_neg (by omega) h1, e], by omega, h1, by omega⟩
    · rw [if_neg h1] at h; cases h
theorem atI_get {α : Type} {xs : List α} {i : Int} {v : α} (h : atI xs i = some v) : ∃ j, seqIndex? i xs.length = some j ∧ xs[j]? = some v ∧ j < xs.length ∧ -(xs.length : Int) ≤ i ∧ i < xs.length := by
  unfold atI at h
  cases e : ixN xs.length i with
  | none => rw [e] at h; cases h
  | some j =>
    rw [e] at h
    obtain ⟨h1, h2, h3, h4⟩ := ixN_seq e
    exact ⟨j, h1, h, h2, h3, h4⟩
theorem atI_nat {α : Type} {xs : List α} {j : Nat} {v : α} (h : xs[j]? = some v) : atI xs (j : Int) = some v := by
  have hj : j < xs.length := (List.getElem?_eq_some_iff.mp h).1
  have e : ixN xs.length (j : Int) = some j := by
    unfold ixN
    rw [if_pos (by omega), if_pos (by omega)]; simp
  unfold atI; rw [e]; exact h
theorem atI_last {α : Type} (xs : List α) (v : α) : atI (xs ++ [v]) (-1) = some v := by
  have hl : (xs ++ [v]).length = xs.length + 1 := by simp
  have e : ixN (xs ++ [v]).length (-1) = some xs.length := by
    unfold ixN
    rw [hl, if_neg (by decide), if_pos (by omega)]
    congr 1
    omega
  unfold atI
  rw [e]
  show (xs ++ [v])[xs.length]? = some v
  simp
def PlainIx (b : Expr) : Prop := ∀ o i, subscripted b false o i = operate [o, i] (getItem o i)
def IxR (X : Cx) (r : R2) : Prop :=
  ∀ (value slice : Expr) (pins : List (Addr × Obj)) (s : Shared) (σ : St) (H : Hp) (x y : V) (v u : Value) (Q : VK), Inv X pins σ H s → RelV x v → RelV y u → r x y H Q →
    subscripted slice false v u = operate [v, u] (getItem v u) → wpAny (model X.prog X.w) X.A (subscriptTail value slice v u) (EP X pins σ Q) X.xe s
def MtR (X : Cx) (id : String) (r : V → List V → Hp → VK → Prop) : Prop :=
  ∀ (pins : List (Addr × Obj)) (s : Shared) (σ : St) (H : Hp) (x : V) (xs : List V) (v : Value) (us : List Value) (Q : VK), Inv X pins σ H s → RelV x v → Vals xs us → r x xs H Q →
    wpAny (model X.prog X.w) X.A (call (.builtin id) (v :: us)) (EP X pins σ Q) X.xe s
section
variable {X : Cx} {a b : Expr} {ta tb : TE} {pos : Pos}
theorem IxR.or {r r' : R2} (h : IxR X r) (h' : IxR X r') : IxR X (fun x y H Q => r x y H Q ∨ r' x y H Q) := by
  intro value slice pins s σ H x y v u Q I rx ry q hs
  rcases q with q | q
  · exact h value slice pins s σ H x y v u Q I rx ry q hs
  · exact h' value slice pins s σ H x y v u Q I rx ry q hs
theorem MtR.or {id : String} {r r' : V → List V → Hp → VK → Prop} (h : MtR X id r) (h' : MtR X id r') : MtR X id (fun x xs H Q => r x xs H Q ∨ r' x xs H Q) := by
  intro pins s σ H x xs v us Q I rx rs q
  rcases q with q | q
  · exact h pins s σ H x xs v us Q I rx rs q
  · exact h' pins s σ H x xs v us Q I rx rs q
theorem pe_ix {r : R2} (hr : IxR X r) (ha : PE X a ta) (hb : PE X b tb) (hs : PlainIx b) : PE X (.Subscript a b pos) (tOp r ta tb) := by
  intro pins s σ H Q I h
  exact Subscript_ (binT ha hb I h fun v u s2 x y H2 I2 rx ry q => hr a b pins s2 σ H2 x y v u Q I2 rx ry q (hs _ _))
def rIxL (K : PySem.W.Frag) : R2 := fun x y H Q => ∃ p xs i v, x = .ref p ∧ y = .int i ∧ SqL K H p xs ∧ atI xs i = some v ∧ Q v H
def rIxT (K : PySem.W.Frag) : R2 := fun x y H Q => ∃ p xs i v, x = .ref p ∧ y = .int i ∧ SqT K H p xs ∧ atI xs i = some v ∧ Q v H
def rIxS : R2 := fun x y H Q => ∃ z i c, x = .str z ∧ y = .int i ∧ z.length ≤ sizeLine ∧ atI z.cps.toList i = some c ∧ Q (.str ⟨#[c]⟩) H
theorem ix_list : IxR X (rIxL X.K) := by
  intro value slice pins s σ H x y v u Q I rx ry h hs
  obtain ⟨p, xs, i, z, rfl, rfl, hq, he, q⟩ := h
  cases rx
  obtain ⟨t, rfl⟩ := ry
  obtain ⟨its, r, pl, hz⟩ := I.list hq
  obtain ⟨j, h1, h2, h3, h4, h5⟩ := atI_get he
  obtain ⟨w, ew, rw'⟩ := r.get h2
  have hl := r.length
  have hn := line63
  have fin : EP X pins σ Q w s := ⟨z, H, I, rw', q⟩
  by_cases h0 : 0 ≤ i
  · have hj : i.toNat = j := by
      rw [seqIndex_of h0 h5] at h1
      exact Option.some.inj h1
    exact item_listR pl.isList h0 (by omega) (by rw [hj]; simpa using ew) fin hs
  · have hj : (i + (its.toArray.size : Int)).toNat = j := by
      rw [seqIndex_neg (by omega) h4] at h1
      rw [List.size_toArray, ← hl]
      exact Option.some.inj h1
    exact subscriptTail_builtinR (x := w) pl.isList.typeIs slot_list_getitem.lookup
      (wpAny_getItem_list_neg (Q := fun r s' => r = w ∧ EP X pins σ Q r s') pl.isList (by omega) (by rw [List.size_toArray] <;> omega) (by omega) (by rw [hj]; simpa using ew) ⟨rfl, fin⟩) hs
theorem ix_tup : IxR X (rIxT X.K) := by
  intro value slice pins s σ H x y v u Q I rx ry h hs
  obtain ⟨p, xs, i, z, rfl, rfl, hq, he, q⟩ := h
  cases rx
  obtain ⟨t, rfl⟩ := ry
  obtain ⟨its, r, pl, hz⟩ := I.tuple hq
  obtain ⟨j, h1, h2, h3, h4, h5⟩ := atI_get he
  obtain ⟨w, ew, rw'⟩ := r.get h2
  have hl := r.length
  have hn := line63
  have fin : EP X pins σ Q w s := ⟨z, H, I, rw', q⟩
  exact subscriptTail_builtinR (x := w) pl.typeIs slot_tuple_getitem.lookup
    (getItem_tuple (j := j) (Q := fun r s' => r = w ∧ EP X pins σ Q r s') pl (by omega) (by omega) (by rw [List.size_toArray, ← hl]; exact h1) (by simpa using ew) ⟨rfl, fin⟩) hs
theorem ix_str : IxR X rIxS := by
  intro value slice pins s σ H x y v u Q I rx ry h hs
  obtain ⟨z, i, c, rfl, rfl, hz, he, q⟩ := h
  obtain ⟨t, rfl⟩ := rx
  obtain ⟨t', rfl⟩ := ry
  obtain ⟨j, h1, h2, h3, h4, h5⟩ := atI_get he
  have hl : z.cps.toList.length = z.length := by simp [Str.length]
  rw [hl] at h1 h4 h5
  have hn := line63
  exact tail_any (typeIs_str s z t) slot_str_getitem.lookup (getItem_str (c := c) (by
    have e1 : decide (i < -(2 ^ 63 : Int)) = false := decide_eq_false (by omega)
    have e2 : decide (i ≥ 2 ^ 63) = false := decide_eq_false (by omega)
    rw [e1, e2, Bool.or_false]) (by rw [h1]; simpa using h2) ⟨.str ⟨#[c]⟩, H, I.tok _, ⟨_, rfl⟩, q⟩) hs
def rIx (K : PySem.W.Frag) : R2 := fun x y H Q => rIxL K x y H Q ∨ rIxT K x y H Q ∨ rIxS x y H Q
theorem ix_seq : IxR X (rIx X.K) := ix_list.or (ix_tup.or ix_str)
theorem mapSeq_set (its : List Value) (n j : Nat) (u : Value) : Obj.mapSeq (·.setIfInBounds j u) { cls := .type "list", data := .seq its.toArray n } = { cls := .type "list", data := .seq (its.set j u).toArray n } := by
  simp [Obj.mapSeq]
theorem Inv.lst {pins : List (Addr × Obj)} {σ : St} {H : Hp} {s : Shared} {p : Addr} {xs : List V} (I : Inv X pins σ H s) (h : H p = some (.lst xs)) :
    ∃ (its : List Value) (n : Nat), Vals xs its ∧ s.heap.get? p = some { cls := .type "list", data := .seq its.toArray n } ∧ xs.length ≤ sizeLine := by
  obtain ⟨z, its, n, r, e⟩ := I.hok p _ h
  exact ⟨its, n, r, e, z⟩
theorem Inv.lstUpd {pins : List (Addr × Obj)} {σ : St} {H : Hp} {s : Shared} {p : Addr} {xs ys : List V} {its its' : List Value} {n n' : Nat} {f : Obj → Obj} (I : Inv X pins σ H s) (h : H p = some (.lst xs))
    (ho : s.heap.get? p = some { cls := .type "list", data := .seq its.toArray n }) (hf : f { cls := .type "list", data := .seq its.toArray n } = { cls := .type "list", data := .seq its'.toArray n' }) (r : Vals ys its') (hz : ys.length ≤ sizeLine) (t : Nat) :
    Inv X pins σ (upd H p (.lst ys)) { s with heap := s.heap.update p f, toks := t } := by
  have e : (s.heap.update p f).get? p = some { cls := .type "list", data := .seq its'.toArray n' } := by
    rw [Heap.get?_update_self f ho (by rw [hf] <;> rfl), hf]
  refine I.write (x := p) (e := p) (by rw [h]; trivial) (.inl rfl) (fun b u hb q => (Heap.get?_update_other _ _ (Ne.symm hb)).trans q) ⟨_, e⟩ ?_
  exact ⟨hz, its', n', r, e⟩
def rSetL : V → V → V → Hp → (Hp → Prop) → Prop := fun o i v H Q => ∃ p xs k j, o = .ref p ∧ i = .int k ∧ H p = some (.lst xs) ∧ ixN xs.length k = some j ∧ Q (upd H p (.lst (xs.set j v)))
theorem set_list : PSet X rSetL := by
  intro pins s σ H o i v ov iv u Q I ro ri rv h
  obtain ⟨p, xs, k, j, rfl, rfl, hp, hj, q⟩ := h
  cases ro
  obtain ⟨t, rfl⟩ := ri
  obtain ⟨its, n, r, ho, hz⟩ := I.lst hp
  obtain ⟨h1, h2, h3, h4⟩ := ixN_seq hj
  have hl := r.length
  have hn := line63
  have I' : Inv X pins σ (upd H p (.lst (xs.set j v))) { s with heap := s.heap.update p (Obj.mapSeq (·.setIfInBounds j u)) } :=
    I.lstUpd hp ho (mapSeq_set its n j u) (r.set rv j) (by rw [List.length_set]; exact hz) s.toks
  by_cases h0 : 0 ≤ k
  · have hk : k.toNat = j := by
      rw [seqIndex_of h0 h4] at h1
      exact Option.some.inj h1
    exact PySem.W.ki_setAt ho h0 (by omega) (by rw [List.size_toArray, ← hl]; exact h4) (by rw [hk]; exact ⟨_, I', q⟩)
  · have hk : (k + (its.toArray.size : Int)).toNat = j := by
      rw [seqIndex_neg (by omega) h3] at h1
      rw [List.size_toArray, ← hl]
      exact Option.some.inj h1
    exact PySem.W.ki_setBack ho (by omega) (by rw [List.size_toArray, ← hl]; exact h3) (by omega) (by rw [hk]; exact ⟨_, I', q⟩)
def rSlL (K : PySem.W.Frag) : V → Option Int → Option Int → Hp → VK → Prop := fun x lo hi H Q => ∃ a xs, x = .ref a ∧ SqL K H a xs ∧ ∀ p, H p = none → Q (.ref p) (upd H p (.lst (cutV xs lo hi)))
def flatV : V → Bool
  | .non => true
  | .bl _ => true
  | .int _ => true
  | .str _ => true
  | _ => false
def eqV : V → V → Bool
  | .non, .non => true
  | .bl a, .bl b => a == b
  | .bl a, .int b => (if a then 1 else 0) == b
  | .int a, .bl b => a == (if b then 1 else 0)
  | .int a, .int b => a == b
  | .str a, .str b => a == b
  | _, _ => false
theorem eqAt_V {A : Around} {s : Shared} {y x : V} {u v : Value} (ry : RelV y u) (rx : RelV x v) (fy : flatV y = true) (fx : flatV x = true) : SeqAt.EqAt A s u v (eqV y x) := by
  cases y with
  | non =>
    cases ry
    cases x with
    | non => cases rx; exact SeqAt.EqAt.same _
    | bl b => cases rx; exact SeqAt.EqAt.none_bool b
    | int b => obtain ⟨t, rfl⟩ := rx; exact SeqAt.EqAt.none_int b t
    | str b => obtain ⟨t, rfl⟩ := rx; exact SeqAt.EqAt.none_str b t
    | _ => exact absurd (show false = true from fx) Bool.false_ne_true
  | bl a =>
    cases ry
    cases x with
    | non => cases rx; exact SeqAt.EqAt.bool_none a
    | bl b => cases rx; exact SeqAt.EqAt.bool_bool a b
    | int b => obtain ⟨t, rfl⟩ := rx; exact SeqAt.EqAt.bool_int a b t
    | str b => obtain ⟨t, rfl⟩ := rx; exact SeqAt.EqAt.bool_str a b t
    | _ => exact absurd (show false = true from fx) Bool.false_ne_true
  | int a =>
    obtain ⟨t', rfl⟩ := ry
    cases x with
    | non => cases rx; exact SeqAt.EqAt.int_none a t'
    | bl b => cases rx; exact SeqAt.EqAt.int_bool a t' b
    | int b => obtain ⟨t, rfl⟩ := rx; exact SeqAt.EqAt.int_int a t' b t
    | str b => obtain ⟨t, rfl⟩ := rx; exact SeqAt.EqAt.int_str a t' b t
    | _ => exact absurd (show false = true from fx) Bool.false_ne_true
  | str a =>
    obtain ⟨t', rfl⟩ := ry
    cases x with
    | non => cases rx; exact SeqAt.EqAt.str_none a t'
    | bl b => cases rx; exact SeqAt.EqAt.str_bool a t' b
    | int b => obtain ⟨t, rfl⟩ := rx; exact SeqAt.EqAt.str_int a t' b t
    | str b => obtain ⟨t, rfl⟩ := rx; exact SeqAt.EqAt.str_str a t' b t
    | _ => exact absurd (show false = true from fx) Bool.false_ne_true
  | _ => exact absurd (show false = true from fy) Bool.false_ne_true
def eqU (x : V) (u : Value) : Bool := match u with
  | .none => eqV .non x
  | .bool b => eqV (.bl b) x
  | .int i _ => eqV (.int i) x
  | .str z _ => eqV (.str z) x
  | _ => false
theorem eqU_of {x y : V} {u : Value} (r : RelV y u) (f : flatV y = true) : eqU x u = eqV y x := by
  cases y with
  | non => cases r; rfl
  | bl b => cases r; rfl
  | int i => obtain ⟨t, rfl⟩ := r; rfl
  | str z => obtain ⟨t, rfl⟩ := r; rfl
  | _ => exact absurd (show false = true from f) Bool.false_ne_true
theorem any_eqU {x : V} : ∀ {xs : List V} {us : List Value}, Vals xs us → xs.all flatV = true → us.any (eqU x) = xs.any fun y => eqV y x
  | _, _, .nil, _ => rfl
  | y :: xs, u :: us, .cons r t, f => by
    rw [List.all_cons, Bool.and_eq_true] at f
    rw [List.any_cons, List.any_cons, eqU_of r f.1, any_eqU t f.2]
theorem mem_eqAt {A : Around} {s : Shared} {x : V} {v : Value} (rx : RelV x v) (fx : flatV x = true) : ∀ {xs : List V} {us : List Value}, Vals xs us → xs.all flatV = true → ∀ u ∈ us, SeqAt.EqAt A s u v (eqU x u)
  | _, _, .nil, _ => fun u hu => by cases hu
  | y :: xs, u :: us, .cons r t, f => fun u' hu => by
    rw [List.all_cons, Bool.and_eq_true] at f
    rcases List.mem_cons.mp hu with rfl | hu
    · rw [eqU_of r f.1]; exact eqAt_V r rx f.1 fx
    · exact mem_eqAt rx fx t f.2 u' hu
def inV (x : V) (xs : List V) : Bool := xs.any fun y => eqV y x
def rIn (K : PySem.W.Frag) (neg : Bool) : R2 := fun x y H Q => ∃ p xs, y = .ref p ∧ (SqL K H p xs ∨ SqT K H p xs) ∧ flatV x = true ∧ xs.all flatV = true ∧ Q (.bl (if neg then !inV x xs else inV x xs)) H
theorem op_in_seq : OpR X (compareOp .In) (rIn X.K false) := by
  intro pins s σ H x y v u Q I rx ry h
  obtain ⟨p, xs, rfl, hq, fx, fs, q⟩ := h
  cases ry
  rcases hq with hq | hq
  · obtain ⟨its, r, pl, hz⟩ := I.list hq
    refine SeqAt.in_listAt (eqU x) pl.isList (fun w hw => mem_eqAt rx fx r fs w (by simpa using hw)) ⟨.bl _, H, I, rfl, ?_⟩
    rw [show its.toArray.any (eqU x) = its.any (eqU x) by simp, any_eqU r fs]
    exact q
  · obtain ⟨its, r, pl, hz⟩ := I.tuple hq
    refine SeqAt.in_tupleAt (eqU x) pl (fun w hw => mem_eqAt rx fx r fs w (by simpa using hw)) ⟨.bl _, H, I, rfl, ?_⟩
    rw [show its.toArray.any (eqU x) = its.any (eqU x) by simp, any_eqU r fs]
    exact q
theorem op_notIn_seq : OpR X (compareOp .NotIn) (rIn X.K true) := by
  intro pins s σ H x y v u Q I rx ry h
  obtain ⟨p, xs, rfl, hq, fx, fs, q⟩ := h
  cases ry
  rcases hq with hq | hq
  · obtain ⟨its, r, pl, hz⟩ := I.list hq
    refine SeqAt.notIn_listAt (eqU x) pl.isList (fun w hw => mem_eqAt rx fx r fs w (by simpa using hw)) ⟨.bl _, H, I, rfl, ?_⟩
    rw [show its.toArray.any (eqU x) = its.any (eqU x) by simp, any_eqU r fs]
    exact q
  · obtain ⟨its, r, pl, hz⟩ := I.tuple hq
    refine SeqAt.notIn_tupleAt (eqU x) pl (fun w hw => mem_eqAt rx fx r fs w (by simpa using hw)) ⟨.bl _, H, I, rfl, ?_⟩
    rw [show its.toArray.any (eqU x) = its.any (eqU x) by simp, any_eqU r fs]
    exact q
theorem call_len_seq : CallR X (.builtin "len") (fun xs H Q => ∃ p ys, xs = [.ref p] ∧ (SqL X.K H p ys ∨ SqT X.K H p ys) ∧ Q (.int ys.length) H) := by
  intro pins s σ H xs us Q I r h
  obtain ⟨p, ys, rfl, hq, q⟩ := h
  obtain ⟨u, rfl, rx⟩ := vals1 r
  cases rx
  have hn := line63
  rcases hq with hq | hq
  · obtain ⟨its, r', pl, hz⟩ := I.list hq
    have hlen := r'.length
    exact Calls.call_len_list pl.isList (by simp only [List.size_toArray] <;> omega) ⟨.int ys.length, H, I.tok _, ⟨s.toks + 1, by rw [List.size_toArray, hlen]⟩, q⟩
  · obtain ⟨its, r', pl, hz⟩ := I.tuple hq
    have hlen := r'.length
    exact len_tuple pl (by simp only [List.size_toArray] <;> omega) ⟨.int ys.length, H, I.tok _, ⟨s.toks + 1, by rw [List.size_toArray, hlen]⟩, q⟩
theorem call_len_str : CallR X (.builtin "len") (fun xs H Q => ∃ z, xs = [.str z] ∧ z.length ≤ sizeLine ∧ Q (.int z.length) H) := by
  intro pins s σ H xs us Q I r h
  obtain ⟨z, rfl, hz, q⟩ := h
  obtain ⟨u, rfl, t, rfl⟩ := vals1 r
  have hn := line63
  exact len_str (by omega) ⟨.int z.length, H, I.tok _, ⟨_, rfl⟩, q⟩
theorem CallR.or {f : Value} {r r' : List V → Hp → VK → Prop} (h : CallR X f r) (h' : CallR X f r') : CallR X f (fun xs H Q => r xs H Q ∨ r' xs H Q) := by
  intro pins s σ H xs us Q I rs q
  rcases q with q | q
  · exact h pins s σ H xs us Q I rs q
  · exact h' pins s σ H xs us Q I rs q
theorem call_list_of : CallR X (.type "list") (fun xs H Q => ∃ p ys, xs = [.ref p] ∧ (SqL X.K H p ys ∨ SqT X.K H p ys) ∧ ∀ l, H l = none → Q (.ref l) (upd H l (.lst ys))) := by
  intro pins s σ H xs us Q I r h
  obtain ⟨p, ys, rfl, hq, q⟩ := h
  obtain ⟨u, rfl, rx⟩ := vals1 r
  cases rx
  have fin : ∀ (its : List Value), Vals ys its → ys.length ≤ sizeLine → ∀ (h' : Heap) (c' : Nat), (∀ b o', s.heap.get? b = some o' → h'.get? b = some o') →
      h'.get? s.heap.objs.size = some { cls := .type "list", dict := none, data := .seq its.toArray c', slots := #[] } → EP X pins σ Q (.ref s.heap.objs.size) { s with heap := h' } := fun its r' hz h' c' kp e =>
    ⟨.ref s.heap.objs.size, _, I.laid (t' := s.toks) kp (Nat.le_refl _) (show ObjOk X.prog X.w _ h' _ (.lst ys) from ⟨hz, its, c', r', e⟩), rfl, q _ (I.hok.fresh (Nat.le_refl _))⟩
  rcases hq with hq | hq
  · obtain ⟨its, r', pl, hz⟩ := I.list hq
    have hlen := r'.length
    obtain ⟨o, ho, hc, n, hd⟩ := pl.isList
    exact call_list_seq p (.inl rfl) ho hc hd (fun h' c' kp e => fin its r' hz h' c' kp e) (by simp only [List.size_toArray] <;> omega)
  · obtain ⟨its, r', pl, hz⟩ := I.tuple hq
    have hlen := r'.length
    obtain ⟨o, ho, hc, n, hd⟩ := pl
    exact call_list_seq p (.inr rfl) ho hc hd (fun h' c' kp e => fin its r' hz h' c' kp e) (by simp only [List.size_toArray] <;> omega)
def tyV (K : PySem.W.Frag) (T : String) (x : V) (H : Hp) : Prop := match x with
  | .str _ => T = "str"
  | .int _ => T = "int"
  | .ref p => (T = "list" ∧ ∃ xs, SqL K H p xs) ∨ (T = "tuple" ∧ ∃ o, K.lookup p = some o ∧ o.cls = .type "tuple" ∧ o.dict = none) ∨
      (T = "dict" ∧ ((∃ kvs, H p = some (.dK kvs)) ∨ ∃ kvs, H p = some (.dT kvs))) ∨ (T = "set" ∧ ∃ S n, H p = some (.set S n))
  | _ => False
theorem tyV_is {pins : List (Addr × Obj)} {σ : St} {H : Hp} {s : Shared} {T : String} {x : V} {v : Value} (I : Inv X pins σ H s) (r : RelV x v) (ty : tyV X.K T x H) :
    s.TypeIs v T ∧ ∀ a, v = .ref a → ∃ ob, s.heap.get? a = some ob ∧ ob.dict = none := by
  cases x with
  | str z =>
    obtain ⟨t, rfl⟩ := r
    cases (show T = "str" from ty)
    exact ⟨typeIs_str s z t, fun _ e => nomatch e⟩
  | int i =>
    obtain ⟨t, rfl⟩ := r
    cases (show T = "int" from ty)
    exact ⟨typeIs_int s i t, fun _ e => nomatch e⟩
  | ref p =>
    cases r
    rcases ty with ⟨rfl, xs, hq⟩ | ⟨rfl, o, hk, hc, hd⟩ | ⟨rfl, hk⟩ | ⟨rfl, S, n, hk⟩
    · obtain ⟨its, _, pl, _⟩ := I.list hq
      refine ⟨pl.isList.typeIs, fun a e => ?_⟩
      cases e
      obtain ⟨o, n, e, c, hd, _⟩ := pl
      exact ⟨o, e, hd⟩
    · refine ⟨⟨o, I.kIn p o hk, hc⟩, fun a e => ?_⟩
      cases e
      exact ⟨o, I.kIn _ o hk, hd⟩
    · have z : ∃ o, s.heap.get? p = some o ∧ o.ExactDict := by
        rcases hk with ⟨kvs, hk⟩ | ⟨kvs, hk⟩
        · obtain ⟨_, _, _, _, o, _, _, e, ex, _⟩ := I.hok p _ hk
          exact ⟨o, e, ex⟩
        · obtain ⟨_, _, _, _, o, _, _, e, ex, _⟩ := I.hok p _ hk
          exact ⟨o, e, ex⟩
      obtain ⟨o, e, ex⟩ := z
      refine ⟨⟨o, e, ex.1⟩, fun a e2 => ?_⟩
      cases e2
      exact ⟨o, e, ex.2.1⟩
    · obtain ⟨o, _, _, _, e, ex, _⟩ := I.hok p _ hk
      refine ⟨⟨o, e, ex.1⟩, fun a e2 => ?_⟩
      cases e2
      exact ⟨o, e, ex.2.1⟩
  | _ => exact False.elim ty
def tBM0 (K : PySem.W.Frag) (T : String) (r : V → List V → Hp → VK → Prop) (to : TE) : TE := fun σ H Q => to σ H fun x H1 => tyV K T x H1 ∧ r x [] H1 Q
def tBM (K : PySem.W.Frag) (T : String) (r : V → List V → Hp → VK → Prop) (to : TE) (t : TA) : TE := fun σ H Q => to σ H fun x H1 => tyV K T x H1 ∧ t σ H1 fun xs H2 => r x xs H2 Q
variable {o e : Expr} {es : List Expr} {to : TE} {t : TA} {name : Str} {apos cpos : Pos} {T id : String} {r : V → List V → Hp → VK → Prop}
end
end L2
namespace L2
open PySem PySem.Spec PyProof.Rows
def MtM (X : Cx) (id : String) (r : V → List V → Hp → VK → Prop) : Prop :=
  ∀ (pins : List (Addr × Obj)) (s : Shared) (σ : St) (H : Hp) (x : V) (xs : List V) (v : Value) (us : List Value) (Q : VK), Inv X pins σ H s → RelV x v → Vals xs us → r x xs H Q →
    wpAny (model X.prog X.w) X.A (call (.builtin id) (v :: us)) (EP X pins σ Q) X.xe s
theorem Vals.one : ∀ {x : V} {us : List Value}, Vals [x] us → ∃ u, us = [u] ∧ RelV x u
  | _, _, .cons r .nil => ⟨_, rfl, r⟩
theorem Vals.zero : ∀ {us : List Value}, Vals [] us → us = []
  | _, .nil => rfl
theorem Vals.dropLast {xs : List V} {us : List Value} (h : Vals xs us) : Vals xs.dropLast us.dropLast := by
  induction h with
  | nil => exact .nil
  | cons r t ih =>
    cases t with
    | nil => exact .nil
    | cons q t' => exact .cons r ih
theorem Vals.eraseIdx : ∀ {xs : List V} {us : List Value} (i : Nat), Vals xs us → Vals (xs.eraseIdx i) (us.eraseIdx i)
  | _, _, _, .nil => .nil
  | _, _, 0, .cons _ t => t
  | _, _, i + 1, .cons r t => .cons r (Vals.eraseIdx i t)
theorem Vals.reverse {xs : List V} {us : List Value} (h : Vals xs us) : Vals xs.reverse us.reverse := by
  induction h with
  | nil => exact .nil
  | cons r t ih => rw [List.reverse_cons, List.reverse_cons]; exact Vals.append ih (.cons r .nil)
theorem Vals.rep {xs : List V} {us : List Value} (h : Vals xs us) : ∀ k : Nat, Vals (List.replicate k xs).flatten (List.replicate k us).flatten
  | 0 => .nil
  | k + 1 => by
    rw [List.replicate_succ, List.replicate_succ, List.flatten_cons, List.flatten_cons]
    exact Vals.append h (Vals.rep h k)
theorem erase_last {α : Type} (l : List α) : l.eraseIdx (l.length - 1) = l.dropLast := by
  induction l with
  | nil => rfl
  | cons a r ih =>
    cases r with
    | nil => rfl
    | cons b r =>
      have e : (a :: b :: r).length - 1 = ((b :: r).length - 1) + 1 := by
        have h1 : (a :: b :: r).length = r.length + 2 := rfl
        have h2 : (b :: r).length = r.length + 1 := rfl
        omega
      rw [e, List.eraseIdx_cons_succ, ih]
      all_goals rfl
theorem len_erase {α : Type} : ∀ (l : List α) (i : Nat), (l.eraseIdx i).length ≤ l.length
  | [], _ => Nat.le_refl _
  | _ :: _, 0 => Nat.le_succ _
  | _ :: r, i + 1 => Nat.succ_le_succ (len_erase r i)
theorem foldl_rep (its : List Value) : ∀ (k : Nat) (acc : List Value),
    List.foldl (fun x1 x2 => x1 ++ x2) acc.toArray (List.replicate k its.toArray) = (acc ++ (List.replicate k its).flatten).toArray
  | 0, acc => by simp
  | k + 1, acc => by
    have e : acc.toArray ++ its.toArray = (acc ++ its).toArray := by simp
    have e2 : (acc ++ its) ++ (List.replicate k its).flatten = acc ++ (List.replicate (k + 1) its).flatten := by
      rw [List.replicate_succ, List.flatten_cons, List.append_assoc]
    rw [← e2, ← foldl_rep its k (acc ++ its), ← e, List.replicate_succ, List.foldl_cons]
section
variable {X : Cx} {pins : List (Addr × Obj)} {σ : St} {H : Hp} {s : Shared} {l b : Addr} {xs ys zs : List V}
theorem Inv.lset {its its' : List Value} {n : Nat} {f : Array Value → Array Value} {t' : Nat} (I : Inv X pins σ H s) (hH : H l = some (.lst xs))
    (e : s.heap.get? l = some { cls := .type "list", data := .seq its.toArray n }) (hf : f its.toArray = its'.toArray) (hv : Vals ys its') (hz : ys.length ≤ sizeLine) :
    Inv X pins σ (upd H l (.lst ys)) { s with heap := s.heap.update l (Obj.mapSeq f), toks := t' } := by
  have q := PySem.IsL.update e f
  rw [hf] at q
  refine I.write (x := l) (e := l) (by rw [hH]; exact trivial) (.inl rfl) (fun b' u hb hu => (Heap.get?_update_other s.heap (Obj.mapSeq f) (Ne.symm hb)).trans hu) ⟨_, q⟩ ?_
  exact ⟨hz, its', _, hv, q⟩
theorem Inv.lnew {its : List Value} {t' : Nat} (I : Inv X pins σ H s) (hv : Vals ys its) (hz : ys.length ≤ sizeLine) :
    Inv X pins σ (upd H s.heap.objs.size (.lst ys)) { s with heap := s.heap.push { cls := .type "list", data := .seq its.toArray }, toks := t' } :=
  I.laid (fun _ _ q => Heap.get?_push_of_some _ q) (Nat.le_refl _) ⟨hz, its, 0, hv, Heap.get?_push_size _ rfl⟩
theorem Inv.fresh (I : Inv X pins σ H s) : H s.heap.objs.size = none := I.hok.fresh (Nat.le_refl _)
theorem Inv.lstM (I : Inv X pins σ H s) (hH : H l = some (.lst xs)) : xs.length ≤ sizeLine ∧ ∃ (its : List Value) (n : Nat), Vals xs its ∧ xs.length = its.length ∧ s.heap.get? l = some { cls := .type "list", data := .seq its.toArray n } := by
  obtain ⟨z, its, n, r, e⟩ := I.hok l _ hH
  exact ⟨z, its, n, r, r.length, e⟩
theorem notLongL {n : Nat} (h : n ≤ sizeLine) : Builtin.List.listTooLong n = false := by
  unfold Builtin.List.listTooLong
  exact decide_eq_false (by omega)
end
section
variable {X : Cx}
def rAppend : V → List V → Hp → VK → Prop := fun x vs H Q => ∃ l xs y, x = .ref l ∧ vs = [y] ∧ H l = some (.lst xs) ∧ xs.length < sizeLine ∧ Q .non (upd H l (.lst (xs ++ [y])))
theorem mt_append : MtM X "list.append" rAppend := by
  intro pins s σ H x vs v us Q I rx rv h
  obtain ⟨l, xs, y, rfl, rfl, hH, hz, q⟩ := h
  cases rx
  obtain ⟨u, rfl, ru⟩ := rv.one
  obtain ⟨z, its, n, r, hl, e⟩ := I.lstM hH
  refine call_meets F.slot_list_append ⟨_, e, rfl⟩ F.entry_list_append (F.args_list_append_2 _ _) (PySem.list_append l its.toArray n u (by rw [List.size_toArray]; omega)) ⟨e, ?_⟩
  refine ⟨.non, _, I.lset (its' := its ++ [u]) hH e (by simp) (r.append (.cons ru .nil)) ?_, rfl, q⟩
  rw [List.length_append, List.length_singleton]
  omega
def rExtend : V → List V → Hp → VK → Prop := fun x vs H Q => ∃ l b xs zs, x = .ref l ∧ vs = [.ref b] ∧ H l = some (.lst xs) ∧ H b = some (.lst zs) ∧ xs.length + zs.length ≤ sizeLine ∧ Q .non (upd H l (.lst (xs ++ zs)))
def rPop : V → List V → Hp → VK → Prop := fun x vs H Q => ∃ l xs y, x = .ref l ∧ vs = [] ∧ H l = some (.lst xs) ∧ xs[xs.length - 1]? = some y ∧ Q y (upd H l (.lst xs.dropLast))
theorem mt_pop : MtM X "list.pop" rPop := by
  intro pins s σ H x vs v us Q I rx rv h
  obtain ⟨l, xs, y, rfl, rfl, hH, hy, q⟩ := h
  cases rx
  have hus := rv.zero
  subst hus
  obtain ⟨z, its, n, r, hl, e⟩ := I.lstM hH
  obtain ⟨u, hu, ru⟩ := r.get hy
  have hy' : its.toArray[its.toArray.size - 1]? = some u := by
    show its.toArray[its.length - 1]? = some u
    rw [← Array.getElem?_toList, ← hl]
    exact hu
  refine call_meets F.slot_list_pop ⟨_, e, rfl⟩ F.entry_list_pop (F.args_list_pop_1 _) (MeetsSeq.list_pop_last l its.toArray n u hy' (by rw [List.size_toArray]; omega)) ⟨e, ?_⟩
  refine ⟨y, _, I.lset (its' := its.dropLast) hH e ?_ r.dropLast ?_, ru, q⟩
  · show its.toArray.eraseIdxIfInBounds (its.toArray.size - 1) = its.dropLast.toArray
    rw [List.size_toArray, List.eraseIdxIfInBounds_toArray, erase_last]
  · rw [List.length_dropLast]
    omega
def rPopAt : V → List V → Hp → VK → Prop := fun x vs H Q => ∃ l xs i k y, x = .ref l ∧ vs = [.int i] ∧ H l = some (.lst xs) ∧ -(2 ^ 63) ≤ i ∧ i < 2 ^ 63 ∧ seqIndex? i xs.length = some k ∧ xs[k]? = some y ∧ Q y (upd H l (.lst (xs.eraseIdx k)))
def rReverse : V → List V → Hp → VK → Prop := fun x vs H Q => ∃ l xs, x = .ref l ∧ vs = [] ∧ H l = some (.lst xs) ∧ Q .non (upd H l (.lst xs.reverse))
def rClear : V → List V → Hp → VK → Prop := fun x vs H Q => ∃ l xs, x = .ref l ∧ vs = [] ∧ H l = some (.lst xs) ∧ Q .non (upd H l (.lst []))
def rCat : R2 := fun x y H Q => ∃ l b xs zs, x = .ref l ∧ y = .ref b ∧ H l = some (.lst xs) ∧ H b = some (.lst zs) ∧ xs.length + zs.length ≤ sizeLine ∧ ∀ p, H p = none → Q (.ref p) (upd H p (.lst (xs ++ zs)))
theorem op_cat : OpR X (binaryOp .Add) rCat := by
  intro pins s σ H x y v u Q I rx ry h
  obtain ⟨l, b, xs, zs, rfl, rfl, hH, hB, hz, q⟩ := h
  cases rx
  cases ry
  obtain ⟨z, its, n, r, hl, e⟩ := I.lstM hH
  obtain ⟨z2, its2, n2, r2, hl2, e2⟩ := I.lstM hB
  refine PySem.P.add_list e e2 ?_ (by rw [List.size_toArray, List.size_toArray]; omega)
  have ea : its.toArray ++ its2.toArray = (its ++ its2).toArray := by simp
  rw [ea]
  exact ⟨.ref _, _, I.lnew (t' := s.toks) (r.append r2) (by rw [List.length_append]; omega), rfl, q _ I.fresh⟩
def rRep : R2 := fun x y H Q => ∃ l k xs, x = .ref l ∧ y = .int k ∧ H l = some (.lst xs) ∧ -(2 ^ 63) ≤ k ∧ k < 2 ^ 63 ∧ xs.length * k.toNat ≤ sizeLine ∧
  ∀ p, H p = none → Q (.ref p) (upd H p (.lst (List.replicate k.toNat xs).flatten))
end
section
variable {prog : Program} {w : World} {A : Around} {E : Value → Shared → Prop} {s : Shared}
theorem bounds_run {a c n : Nat} (hac : a ≤ c) (hc : c ≤ n) : sliceBounds (some (a : Int)) (some (c : Int)) none n = ((a : Int), (c : Int), 1) := by
  simp only [sliceBounds, Option.getD_none]
  have h1 : ¬ ((a : Int) < 0) := by omega
  have h2 : ¬ ((c : Int) < 0) := by omega
  simp only [h1, h2, if_false, show (1 : Int) > 0 by decide, if_true]
  congr 1
  · omega
  · congr 1; omega
set_option maxRecDepth 100000 in
theorem setItem_slice {l b sl : Addr} {items new : Array Value} {n n2 : Nat} {vl vu : Value} {a c : Nat} {Q : Unit → Shared → Prop}
    (e : s.heap.get? l = some { cls := .type "list", data := .seq items n }) (e2 : s.heap.get? b = some { cls := .type "list", data := .seq new n2 }) (hne : l ≠ b)
    (hs : s.heap.IsSliceOf sl vl vu .none) (pl : IsPart vl (some (a : Int))) (pu : IsPart vu (some (c : Int))) (hac : a ≤ c) (hc : c ≤ items.size)
    (hsz : items.size + new.size ≤ sizeLine) (h : Q () { s with heap := s.heap.update l (Obj.mapSeq fun xs => xs.extract 0 a ++ new ++ xs.extract c xs.size) }) :
    wpAny (model prog w) A (setItem (.ref l) (.ref sl) (.ref b)) Q E s := by
  have hl : s.heap.IsList l items := PySem.IsL.isList e
  have hb : s.heap.IsList b new := PySem.IsL.isList e2
  obtain ⟨os, hos, hcs, hds⟩ := id hs
  have hTs : s.TypeIs (.ref sl) "slice" := ⟨os, hos, hcs⟩
  have hstep : ¬ ((rawPart none == rawInt 0) = true) := Bool.false_ne_true
  have hsame : Builtin.List.listSameRef (.ref l) (.ref b) = false := by
    unfold Builtin.List.listSameRef
    exact beq_eq_false_iff_ne.mpr hne
  have hmax : (max (a : Int) (c : Int)).toNat = c := by omega
  have hz' : ((fun xs : Array Value => xs.extract 0 a ++ new ++ xs.extract c xs.size) items).size ≤ sizeLine + 1 := by
    simp only [Array.size_append, Array.size_extract]
    omega
  unfold setItem
  try with_reducible refine wpAny_holding ?_
  first | refine wpAny_bind (wpAny_pure ?_) | skip
  refine wpAny_bind (wpAny_sequenceKey hl.typeIs (by decide) ?_)
  refine wpAny_bind (wpAny_callSpecial?_slot (name := Str.ofString "__setitem__") hl.typeIs slot_list_setitem
    (wpAny_call_entry slot_list_setitem hl.typeIs entry_list_setitem ?_ (args_list_setitem _ _ _)))
  show wpAny _ _ (Builtin.List.listSubscript? (.ref sl) >>= _) _ _ s
  refine wpAny_bind ?_
  unfold Builtin.List.listSubscript?
  refine wpAny_bind (wpAny_specialOf hTs slice_no_index ?_)
  simp only [Option.isNone_none, if_true]
  refine wpAny_pure ?_
  show wpAny _ _ (typeOf (.ref sl) >>= _) _ _ s
  refine wpAny_bind (wpAny_typeOf hTs ?_)
  first
    | rw [if_neg (by decide)]
    | refine PySem.W.KFB.if_not (by decide) ?_
  rw [listSliceParts_eq]
  refine wpAny_bind (wpAny_bind (wpAny_field hos hds (x := .none) rfl (wpAny_bind (wpAny_listPart .none ?_))))
  rw [if_neg hstep]
  refine wpAny_bind (wpAny_field hos hds (x := vl) rfl (wpAny_bind (wpAny_listPart pl ?_)))
  refine wpAny_bind (wpAny_field hos hds (x := vu) rfl (wpAny_bind (wpAny_listPart pu (wpAny_pure ?_))))
  first
    | simp only [hsame, Bool.false_eq_true, if_false]
    | refine PySem.W.KFB.if_not hsame ?_
    | (dsimp only
       rw [if_neg (by rw [hsame]; exact Bool.false_ne_true)])
  refine wpAny_bind (m := Builtin.List.listAllItems (.ref b) "must assign iterable to extended slice") ?_
  unfold Builtin.List.listAllItems
  refine wpAny_bind (wpAny_typeOf hb.typeIs ?_)
  first
    | refine PySem.W.KFB.if_so (by decide) ?_
    | rw [if_pos (by decide)]
    | simp only [beq_self_eq_true, Bool.true_or, if_true]
  unfold Builtin.List.listItems
  refine wpAny_bind (wpAny_seqItems e2 rfl (wpAny_pure ?_))
  refine wpAny_bind (wpAny_bind (wpAny_seqItems e rfl (wpAny_pure ?_)))
  refine wpAny_bind (wpAny_of_eq ((sliceIndices_raw (some (a : Int)) (some (c : Int)) none items.size (by simp)).trans (congrArg (pure : Int × Int × Int → Sem (Int × Int × Int)) (bounds_run hac hc))) ?_)
  show wpAny _ _ (if ((1 : Int) == 1) = true then _ else _) _ _ s
  rw [if_pos (by decide)]
  refine wpAny_bind (wpAny_rule ?_)
  first
    | simp only [notLongL hsz, Bool.false_eq_true, if_false]
    | refine PySem.W.KFB.if_not (notLongL hsz) ?_
  first | refine wpAny_bind (wpAny_pure ?_) | skip
  show wpAny _ _ (updateSeq l (fun xs => xs.extract 0 ((a : Int)).toNat ++ new ++ xs.extract (max (a : Int) (c : Int)).toNat xs.size) >>= _) _ _ s
  rw [hmax, Int.toNat_natCast]
  refine wpAny_bind (wpAny_updateSeq (hz := Nat.le_trans (Nat.le_add_right _ _) hsz) (_hz' := hz') e rfl ?_)
  refine wpAny_bind (wpAny_letGo ?_)
  first
    | exact wpAny_bind (wpAny_pure (wpAny_pure ⟨.none, rfl, wpAny_pure h⟩))
    | exact wpAny_pure ⟨.none, rfl, wpAny_pure h⟩
end
section
variable {X : Cx}
end
end L2
namespace L2
open PySem PySem.Spec PyProof.Rows
section
variable {κ : Type} [DecidableEq κ]
def valV (kvs : List (κ × V)) (k : κ) : Option V := (kvs.find? fun kv => decide (kv.1 = k)).map (·.2)
def putK (kvs : List (κ × V)) (k : κ) (v : V) : List (κ × V) :=
  if (kvs.any fun kv => decide (kv.1 = k)) = true then kvs.map (fun kv => if kv.1 = k then (kv.1, v) else kv) else kvs ++ [(k, v)]
def dropK (kvs : List (κ × V)) (k : κ) : List (κ × V) := kvs.filter fun kv => decide (kv.1 ≠ k)
theorem valV_pos {p : κ × V} {r : List (κ × V)} {k : κ} (e : p.1 = k) : valV (p :: r) k = some p.2 := by simp [valV, List.find?_cons, e]
theorem valV_neg {p : κ × V} {r : List (κ × V)} {k : κ} (e : ¬ p.1 = k) : valV (p :: r) k = valV r k := by simp [valV, List.find?_cons, e]
theorem valV_any (k : κ) : ∀ kvs : List (κ × V), (kvs.any fun kv => decide (kv.1 = k)) = (valV kvs k).isSome
  | [] => rfl
  | p :: r => by
    rw [List.any_cons]
    by_cases e : p.1 = k
    · simp only [valV_pos e, decide_eq_true e, Bool.true_or, Option.isSome_some]
    · rw [valV_neg e, decide_eq_false e, Bool.false_or]; exact valV_any k r
theorem valV_map (k j : κ) (y : V) : ∀ kvs : List (κ × V), valV (kvs.map fun kv => if kv.1 = k then (kv.1, y) else kv) j = (valV kvs j).map fun x => if j = k then y else x
  | [] => rfl
  | p :: r => by
    have ih := valV_map k j y r
    rw [List.map_cons]
    by_cases h : p.1 = k
    · rw [if_pos h]
      by_cases e : p.1 = j
      · rw [valV_pos (p := (p.1, y)) e, valV_pos e, Option.map_some, if_pos (e.symm.trans h)]
      · rw [valV_neg (p := (p.1, y)) e, valV_neg e, ih]
    · rw [if_neg h]
      by_cases e : p.1 = j
      · rw [valV_pos (p := p) e, valV_pos e, Option.map_some, if_neg (fun z => h (e.trans z))]
      · rw [valV_neg (p := p) e, valV_neg e, ih]
theorem valV_snoc (k j : κ) (y : V) : ∀ kvs : List (κ × V), valV kvs k = none → valV (kvs ++ [(k, y)]) j = if j = k then some y else valV kvs j
  | [], _ => by
    by_cases e : k = j
    · rw [if_pos e.symm]; exact valV_pos (p := (k, y)) e
    · rw [if_neg (fun z => e z.symm)]; exact valV_neg (p := (k, y)) e
  | p :: r, hn => by
    rw [List.cons_append]
    have hk : ¬ p.1 = k := fun z => by rw [valV_pos z] at hn; cases hn
    rw [valV_neg hk] at hn
    have ih := valV_snoc k j y r hn
    by_cases e : p.1 = j
    · rw [valV_pos e, valV_pos e, if_neg (fun z => hk (e.trans z))]
    · rw [valV_neg e, valV_neg e, ih]
theorem length_putK (kvs : List (κ × V)) (k : κ) (v : V) : (putK kvs k v).length ≤ kvs.length + 1 := by
  unfold putK
  split
  · rw [List.length_map]; omega
  · rw [List.length_append, List.length_cons, List.length_nil]; omega
theorem RelO.isSome_eq {o : Option V} {u : Option Value} (r : RelO o u) : o.isSome = u.isSome := by
  cases o with
  | none => cases u with
    | none => rfl
    | some _ => exact (show False from r).elim
  | some _ => cases u with
    | none => exact (show False from r).elim
    | some _ => rfl
theorem RelO.getD {o : Option V} {u : Option Value} {d : V} {d' : Value} (r : RelO o u) (rd : RelV d d') : RelV (o.getD d) (u.getD d') := by
  cases o with
  | none => cases u with
    | none => exact rd
    | some _ => exact (show False from r).elim
  | some _ => cases u with
    | none => exact (show False from r).elim
    | some _ => exact r
theorem KV.val {kvs : List (κ × V)} {vs : List (κ × Value)} (r : KV kvs vs) (k : κ) : RelO (valV kvs k) (valueAt vs k) := by
  unfold KV at r
  induction r with
  | nil => exact True.intro
  | @cons p q ps qs h t ih =>
    obtain ⟨h1, h2⟩ := h
    by_cases e : p.1 = k
    · have e' : q.1 = k := h1.symm.trans e
      have b : valueAt (q :: qs) k = some q.2 := by simp [valueAt, List.find?_cons, e']
      rw [valV_pos e, b]; exact h2
    · have e' : ¬ q.1 = k := fun z => e (h1.trans z)
      have b : valueAt (q :: qs) k = valueAt qs k := by simp [valueAt, List.find?_cons, e']
      rw [valV_neg e, b]; exact ih
theorem KV.any {kvs : List (κ × V)} {vs : List (κ × Value)} (r : KV kvs vs) (k : κ) : (kvs.any fun kv => decide (kv.1 = k)) = vs.any fun kv => decide (kv.1 = k) := by
  unfold KV at r
  induction r with
  | nil => rfl
  | cons h t ih => rw [List.any_cons, List.any_cons, ih, h.1]
theorem KV.repl {kvs : List (κ × V)} {vs : List (κ × Value)} (r : KV kvs vs) (k : κ) {y : V} {u : Value} (ry : RelV y u) :
    KV (kvs.map fun kv => if kv.1 = k then (kv.1, y) else kv) (vs.map fun kv => if kv.1 = k then (kv.1, u) else kv) := by
  unfold KV at r ⊢
  induction r with
  | nil => exact .nil
  | @cons p q ps qs h t ih =>
    rw [List.map_cons, List.map_cons]
    refine .cons ?_ ih
    obtain ⟨h1, h2⟩ := h
    by_cases e : p.1 = k
    · rw [if_pos e, if_pos (h1.symm.trans e)]; exact ⟨h1, ry⟩
    · rw [if_neg e, if_neg (fun z => e (h1.trans z))]; exact ⟨h1, h2⟩
theorem KV.put {kvs : List (κ × V)} {vs : List (κ × Value)} (r : KV kvs vs) (k : κ) {y : V} {u : Value} (ry : RelV y u) : KV (putK kvs k y) (stored vs k u) := by
  unfold putK stored
  rw [r.any k]
  by_cases e : (vs.any fun kv => decide (kv.1 = k)) = true
  · rw [if_pos e, if_pos e]; exact r.repl k ry
  · rw [if_neg e, if_neg e]; exact Paired.snoc r ⟨rfl, ry⟩
theorem KV.drop {kvs : List (κ × V)} {vs : List (κ × Value)} (r : KV kvs vs) (k : κ) : KV (dropK kvs k) (without vs k) := by
  unfold KV at r ⊢
  unfold dropK without
  induction r with
  | nil => exact .nil
  | @cons p q ps qs h t ih =>
    obtain ⟨h1, h2⟩ := h
    rw [List.filter_cons, List.filter_cons]
    by_cases e : p.1 = k
    · have a : ¬ decide (p.1 ≠ k) = true := by simp [e]
      have b : ¬ decide (q.1 ≠ k) = true := by simp [h1.symm.trans e]
      rw [if_neg a, if_neg b]; exact ih
    · have e' : ¬ q.1 = k := fun z => e (h1.trans z)
      have a : decide (p.1 ≠ k) = true := by simp [e]
      have b : decide (q.1 ≠ k) = true := by simp [e']
      rw [if_pos a, if_pos b]; exact .cons ⟨h1, h2⟩ ih
theorem KV.keys {kvs : List (κ × V)} {vs : List (κ × Value)} (r : KV kvs vs) : kvs.map (·.1) = vs.map (·.1) := by
  unfold KV at r
  induction r with
  | nil => rfl
  | cons h t ih => rw [List.map_cons, List.map_cons, ih, h.1]
theorem KV.length {kvs : List (κ × V)} {vs : List (κ × Value)} (r : KV kvs vs) : kvs.length = vs.length := Paired.length r
end
theorem kV_is {P : Program} {w : World} {k : Key} {u : Value} (r : RelV (kV k) u) : (mixKind P w).is k u = true := by
  cases k with
  | inl i => obtain ⟨t, e⟩ := (show ∃ t, u = Value.int i t from r); subst e; exact mixKind_int P w i t
  | inr x => obtain ⟨t, e⟩ := (show ∃ t, u = Value.str x t from r); subst e; exact mixKind_str P w x t
theorem kV_inj {a b : Key} (e : kV a = kV b) : a = b := by
  cases a with
  | inl i => cases b with
    | inl j => have e' : V.int i = V.int j := e; injection e' with e'; rw [e']
    | inr y => exact nomatch (show V.int i = V.str y from e)
  | inr x => cases b with
    | inl j => exact nomatch (show V.str x = V.int j from e)
    | inr y => have e' : V.str x = V.str y := e; injection e' with e'; rw [e']
theorem kVs_inj : ∀ {a b : List Key}, a.map kV = b.map kV → a = b
  | [], [], _ => rfl
  | [], _ :: _, e => by simp at e
  | _ :: _, [], e => by simp at e
  | x :: xs, y :: ys, e => by
    rw [List.map_cons, List.map_cons] at e
    injection e with e1 e2
    rw [kV_inj e1, kVs_inj e2]
theorem items_are {P : Program} {w : World} : ∀ {ks : List Key} {us : List Value}, Vals (ks.map kV) us → ItemsAre (mixKind P w) ks us
  | [], _, r => by rw [List.map_nil] at r; cases r; exact .nil
  | k :: ks, _, r => by
    rw [List.map_cons] at r
    cases r with
    | cons h t => exact .cons (kV_is h) (items_are t)
abbrev KT (H : Hp) : List (List Key × V) → List (List Key × Addr × Value) → Prop := Paired fun p q => p.1 = q.1 ∧ H q.2.1 = some (.tup (p.1.map kV)) ∧ RelV p.2 q.2.2
theorem KT.val {H : Hp} {kvs : List (List Key × V)} {xs : List (List Key × Addr × Value)} (r : KT H kvs xs) (k : List Key) : RelO (valV kvs k) ((atKey xs k).map (·.2)) := by
  induction r with
  | nil => exact True.intro
  | @cons p q ps qs h t ih =>
    obtain ⟨h1, _, h2⟩ := h
    by_cases e : p.1 = k
    · have e' : q.1 = k := h1.symm.trans e
      have b : atKey (q :: qs) k = some q.2 := by simp [atKey, List.find?_cons, e']
      rw [valV_pos e, b]; exact h2
    · have e' : ¬ q.1 = k := fun z => e (h1.trans z)
      have b : atKey (q :: qs) k = atKey qs k := by simp [atKey, List.find?_cons, e']
      rw [valV_neg e, b]; exact ih
theorem KT.repl {H : Hp} {kvs : List (List Key × V)} {xs : List (List Key × Addr × Value)} (r : KT H kvs xs) (k : List Key) {y : V} {u : Value} (ry : RelV y u) :
    KT H (kvs.map fun kv => if kv.1 = k then (kv.1, y) else kv) (xs.map (putAt k u)) := by
  induction r with
  | nil => exact .nil
  | @cons p q ps qs h t ih =>
    rw [List.map_cons, List.map_cons]
    refine .cons ?_ ih
    obtain ⟨h1, h2, h3⟩ := h
    unfold putAt
    by_cases e : p.1 = k
    · rw [if_pos e, if_pos (h1.symm.trans e)]; exact ⟨h1, h2, ry⟩
    · rw [if_neg e, if_neg (fun z => e (h1.trans z))]; exact ⟨h1, h2, h3⟩
theorem KT.put {H : Hp} {kvs : List (List Key × V)} {xs : List (List Key × Addr × Value)} (r : KT H kvs xs) (k : List Key) {b : Addr} {y : V} {u : Value} (hb : H b = some (.tup (k.map kV))) (ry : RelV y u) :
    KT H (putK kvs k y) (storedH xs k b u) := by
  have e : (kvs.any fun kv => decide (kv.1 = k)) = (atKey xs k).isSome := by
    rw [valV_any, (r.val k).isSome_eq, Option.isSome_map]
  unfold putK storedH
  rw [e]
  by_cases q : (atKey xs k).isSome = true
  · rw [if_pos q, if_pos q]; exact r.repl k ry
  · rw [if_neg q, if_neg q]; exact Paired.snoc r ⟨rfl, hb, ry⟩
theorem KT.keeps {H H' : Hp} {kvs : List (List Key × V)} {xs : List (List Key × Addr × Value)} (r : KT H kvs xs) (ht : ∀ b ys, H b = some (.tup ys) → H' b = some (.tup ys)) : KT H' kvs xs :=
  Paired.mapP r fun _ _ z => ⟨z.1, ht _ _ z.2.1, z.2.2⟩
section
variable {P : Program} {w : World} {H : Hp} {h : Heap} {a : Addr}
end
def DGet (H : Hp) (a : Addr) (y : V) (r : Option V) : Prop :=
  (∃ kvs k, Rd H a (.dK kvs) ∧ y = kV k ∧ r = valV kvs k) ∨ ∃ kvs k b, Rd H a (.dT kvs) ∧ y = .ref b ∧ H b = some (.tup (k.map kV)) ∧ r = valV kvs k
def DPut (H : Hp) (a : Addr) (y v : V) (H' : Hp) : Prop :=
  (∃ kvs k, H a = some (.dK kvs) ∧ y = kV k ∧ kvs.length < sizeLine ∧ H' = upd H a (.dK (putK kvs k v))) ∨
  ∃ kvs k b, H a = some (.dT kvs) ∧ y = .ref b ∧ H b = some (.tup (k.map kV)) ∧ kvs.length < sizeLine ∧ H' = upd H a (.dT (putK kvs k v))
theorem DGet.k {H : Hp} {a : Addr} {kvs : List (Key × V)} {k : Key} (e : H a = some (.dK kvs)) : DGet H a (kV k) (valV kvs k) := .inl ⟨kvs, k, .inl e, rfl, rfl⟩
theorem DGet.t {H : Hp} {a b : Addr} {kvs : List (List Key × V)} {k : List Key} (e : H a = some (.dT kvs)) (eb : H b = some (.tup (k.map kV))) : DGet H a (.ref b) (valV kvs k) := .inr ⟨kvs, k, b, .inl e, rfl, eb, rfl⟩
theorem DPut.k {H : Hp} {a : Addr} {kvs : List (Key × V)} {k : Key} {v : V} (e : H a = some (.dK kvs)) (hl : kvs.length < sizeLine) : DPut H a (kV k) v (upd H a (.dK (putK kvs k v))) := .inl ⟨kvs, k, e, rfl, hl, rfl⟩
theorem DPut.t {H : Hp} {a b : Addr} {kvs : List (List Key × V)} {k : List Key} {v : V} (e : H a = some (.dT kvs)) (eb : H b = some (.tup (k.map kV))) (hl : kvs.length < sizeLine) :
    DPut H a (.ref b) v (upd H a (.dT (putK kvs k v))) := .inr ⟨kvs, k, b, e, rfl, eb, hl, rfl⟩
section
variable {X : Cx} {pins : List (Addr × Obj)} {σ : St} {H : Hp} {s : Shared} {a : Addr} {y v : V} {u r : Value} {o : Option V} {A : Around} {E : Value → Shared → Prop}
end
section
variable {X : Cx} {pins : List (Addr × Obj)} {σ : St} {H : Hp} {s : Shared} {a : Addr} {kvs : List (Key × V)} {k : Key} {u : Value} {A : Around} {E : Value → Shared → Prop}
end
def NoSl (i : Expr) : Prop := ∀ ov iv, subscripted i false ov iv = operate [ov, iv] (getItem ov iv)
def tDGet (td ty : TE) : TE := fun σ H Q => td σ H fun x H1 => ty σ H1 fun y H2 => ∃ a v, x = .ref a ∧ DGet H2 a y (some v) ∧ Q v H2
def tDIn (ty td : TE) : TE := fun σ H Q => ty σ H fun y H1 => td σ H1 fun x H2 => ∃ a o, x = .ref a ∧ DGet H2 a y o ∧ Q (.bl o.isSome) H2
def tDNotIn (ty td : TE) : TE := fun σ H Q => ty σ H fun y H1 => td σ H1 fun x H2 => ∃ a o, x = .ref a ∧ DGet H2 a y o ∧ Q (.bl (!o.isSome)) H2
def sDPut (td ty tv : TE) : TS := fun D σ H => tv σ H fun v H1 => td σ H1 fun x H2 => ty σ H2 fun y H3 => ∃ a H4, x = .ref a ∧ DPut H3 a y v H4 ∧ D.nx σ H4
def sDAug (td ty tv : TE) (rd : V → V → Hp → VK → Prop) : TS := fun D σ H => td σ H fun x H1 => ty σ H1 fun y H2 => ∃ a v, x = .ref a ∧ DGet H2 a y (some v) ∧
  tv σ H2 fun y2 H3 => rd v y2 H3 fun z H4 => ∃ H5, DPut H4 a y z H5 ∧ D.nx σ H5
def sDDel (td ty : TE) : TS := fun D σ H => td σ H fun x H1 => ty σ H1 fun y H2 => ∃ a kvs k, x = .ref a ∧ H2 a = some (.dK kvs) ∧ y = kV k ∧ (valV kvs k).isSome = true ∧ D.nx σ (upd H2 a (.dK (dropK kvs k)))
section
variable {X : Cx} {o i e value : Expr} {pos pos' tpos : Pos} {td ty tv : TE}
end
def tDNewK : TE := fun _ H Q => ∀ p, H p = none → Q (.ref p) (upd H p (.dK []))
def tDNewT : TE := fun _ H Q => ∀ p, H p = none → Q (.ref p) (upd H p (.dT []))
section
variable {X : Cx} {pos : Pos}
end
def tPairs : List (TE × TE) → St → Hp → (List (V × V) → Hp → Prop) → Prop
  | [], _, H, Q => Q [] H
  | (tk, tv) :: r, σ, H, Q => tk σ H fun x H1 => tv σ H1 fun y H2 => tPairs r σ H2 fun ps H3 => Q ((x, y) :: ps) H3
abbrev VV : List (V × V) → List (Value × Value) → Prop := Paired fun p q => RelV p.1 q.1 ∧ RelV p.2 q.2
def PPs (X : Cx) (pos : Pos) (keys : List (Option Expr)) (values : List Expr) (trs : List (TE × TE)) : Prop :=
  ∀ (pins : List (Addr × Obj)) (s : Shared) (σ : St) (H : Hp) (Q : List (V × V) → Hp → Prop), Inv X pins σ H s → tPairs trs σ H Q →
    wpAny (model X.prog X.w) X.A (evalPairs (pairTrees keys values X.env pos)) (fun vs s' => ∃ ps H', Inv X pins σ H' s' ∧ VV ps vs ∧ Q ps H') X.xe s
def mergeK (kvs more : List (Key × V)) : List (Key × V) := more.foldl (fun acc kv => putK acc kv.1 kv.2) kvs
theorem length_mergeK : ∀ (more kvs : List (Key × V)), (mergeK kvs more).length ≤ kvs.length + more.length
  | [], kvs => by show kvs.length ≤ kvs.length + 0; omega
  | p :: r, kvs => by
    have h1 := length_mergeK r (putK kvs p.1 p.2)
    have h2 := length_putK kvs p.1 p.2
    show (mergeK (putK kvs p.1 p.2) r).length ≤ _
    rw [List.length_cons]; omega
theorem carries_of {P : Program} {w : World} : ∀ {kvs : List (Key × V)} {ws : List (Value × Value)}, VV (kvs.map fun kv => (kV kv.1, kv.2)) ws → ∃ rs, Carries (mixKind P w) ws rs ∧ KV kvs rs
  | [], _, r => by rw [List.map_nil] at r; cases r; exact ⟨[], True.intro, .nil⟩
  | p :: kvs, _, r => by
    rw [List.map_cons] at r
    cases r with
    | @cons a b as bs h t =>
      obtain ⟨rs, c, q⟩ := carries_of (P := P) (w := w) t
      obtain ⟨b1, b2⟩ := b
      exact ⟨(p.1, b2) :: rs, ⟨kV_is h.1, rfl, c⟩, .cons ⟨rfl, h.2⟩ q⟩
def tDisp (trs : List (TE × TE)) : TE := fun σ H Q => ∀ p, H p = none → tPairs trs σ (upd H p (.dK [])) fun ps H2 => H2 p = some (.dK []) ∧ ∃ kvs : List (Key × V), ps = kvs.map (fun kv => (kV kv.1, kv.2)) ∧ kvs.length ≤ 15 ∧ Q (.ref p) (upd H2 p (.dK (mergeK [] kvs)))
structure M1 (X : Cx) (o : Expr) (m : Str) (apos : Pos) (e : Expr) (cpos : Pos) : Prop where
  base : attributeBase o m X.env (eval o X.env) = eval o X.env
  few : ((backTo cpos (starEach [e] X.env)).all (fun x => !x.1) && (backToKw cpos (keywordEach [] X.env)).all (fun x => x.1.isSome)
    && decide (([e] : List Expr).length + ([] : List Keyword).length + (if ([] : List Keyword).isEmpty then 0 else 1) < 30)) = true
  line : (apos.endLine == cpos.line) = true
  trees : backTo cpos (starEach [e] X.env) = [(false, eval e X.env)]
structure M2 (X : Cx) (o : Expr) (m : Str) (apos : Pos) (e f : Expr) (cpos : Pos) : Prop where
  base : attributeBase o m X.env (eval o X.env) = eval o X.env
  few : ((backTo cpos (starEach [e, f] X.env)).all (fun x => !x.1) && (backToKw cpos (keywordEach [] X.env)).all (fun x => x.1.isSome)
    && decide (([e, f] : List Expr).length + ([] : List Keyword).length + (if ([] : List Keyword).isEmpty then 0 else 1) < 30)) = true
  line : (apos.endLine == cpos.line) = true
  trees : backTo cpos (starEach [e, f] X.env) = [(false, eval e X.env), (false, eval f X.env)]
def IsD (H : Hp) (a : Addr) : Prop := (∃ kvs, Rd H a (.dK kvs)) ∨ ∃ kvs, Rd H a (.dT kvs)
section
variable {X : Cx} {pins : List (Addr × Obj)} {σ : St} {H : Hp} {s : Shared} {a : Addr} {y d : V} {u r : Value} {o : Option V} {A : Around} {E : Value → Shared → Prop}
end
def tDGet1 (td ty : TE) : TE := fun σ H Q => td σ H fun x H1 => ∃ a, x = .ref a ∧ IsD H1 a ∧ ty σ H1 fun y H2 => ∃ o, DGet H2 a y o ∧ Q (o.getD .non) H2
def tDGet2 (td ty tx : TE) : TE := fun σ H Q => td σ H fun x H1 => ∃ a, x = .ref a ∧ IsD H1 a ∧ ty σ H1 fun y H2 => tx σ H2 fun z H3 => ∃ o, DGet H3 a y o ∧ Q (o.getD z) H3
def tDPop1 (td ty : TE) : TE := fun σ H Q => td σ H fun x H1 => ∃ a, x = .ref a ∧ IsD H1 a ∧ ty σ H1 fun y H2 => ∃ kvs k v, H2 a = some (.dK kvs) ∧ y = kV k ∧ valV kvs k = some v ∧ Q v (upd H2 a (.dK (dropK kvs k)))
def tDPop2 (td ty tx : TE) : TE := fun σ H Q => td σ H fun x H1 => ∃ a, x = .ref a ∧ IsD H1 a ∧ ty σ H1 fun y H2 => tx σ H2 fun z H3 => ∃ kvs k, H3 a = some (.dK kvs) ∧ y = kV k ∧
  (∀ v, valV kvs k = some v → Q v (upd H3 a (.dK (dropK kvs k)))) ∧ (valV kvs k = none → Q z H3)
section
variable {X : Cx} {o e f : Expr} {apos cpos : Pos} {td ty tx : TE}
end
section
variable {X : Cx} {pins : List (Addr × Obj)} {σ : St} {H : Hp} {s : Shared} {a : Addr} {kvs : List (Key × V)} {A : Around} {E : Value → Shared → Prop}
end
section
variable {X : Cx} {pins : List (Addr × Obj)} {σ : St} {H : Hp} {s : Shared} {a : Addr} {y : V} {u : Value} {A : Around} {E : Value → Shared → Prop}
end
end L2
namespace Att
open PySem PySem.W PySem.Calls PyProof.Rows
theorem ints_of_wellAll {P : Params} {h : Heap} : ∀ (ns : List Int) (vs : List Value), WellAll P h vs (ns.map WData.int) → IntsAre vs ns := by
  intro ns
  induction ns with
  | nil =>
    intro vs w
    rw [List.map_nil] at w
    cases w
    exact .nil
  | cons n ns ih =>
    intro vs w
    rw [List.map_cons] at w
    cases w with
    | cons a b =>
      cases a
      exact .cons _ _ (ih _ b)
theorem script_of {l : OpenLaw} {n : Nat} (hn : l.most = some n) {P : Params} {h : Heap} {args : List WData} {vals : List Value}
    (hpre : l.row.toRowW.claim.pre args = true) (hwl : WellAll P h vals args) :
    ∃ a vs ns, vals = [Value.ref a] ∧ args = [WData.list (ns.map WData.int)] ∧ h.get? a = some { cls := .type "list", data := .seq vs.toArray } ∧ IntsAre vs ns ∧ ns.length ≤ n := by
  have hsh : WShape.hasAll [] args [.list .int] = true := (pre_splitW hpre).1
  have hc : l.pre.holds [] { args := args } = true := (pre_splitW hpre).2
  obtain ⟨d, r, rfl, h1, h2⟩ := hasAllW_cons hsh
  obtain rfl := hasAllW_nil h2
  obtain ⟨xs, rfl, h3⟩ := hasW_list h1
  obtain ⟨ns, rfl⟩ := items_int h3
  have hlen : ns.length ≤ n := by
    unfold OpenLaw.pre at hc
    have h4 : (WTm.not (.lt (.lit (.int (n : Int))) (.len (.arg 0)))).holds [] { args := [.list (ns.map .int)] } = true := by
      have h4 := (holds_andW hc).1
      rw [hn] at h4
      exact h4
    have h5 := condW_of h4 (w_not (w_lt w_lit (w_len_list (w_arg rfl))))
    rw [List.length_map] at h5
    refine Nat.le_of_not_lt fun q => ?_
    have q' : (n : Int) < ((ns.length : Nat) : Int) := by omega
    first
      | (rw [decide_eq_true q'] at h5; exact absurd h5 (by decide))
      | (simp at h5; omega)
  cases hwl with
  | cons w1 w2 =>
    cases w2
    cases w1 with
    | list ho hall => exact ⟨_, _, ns, rfl, rfl, ho, ints_of_wellAll ns _ hall, hlen⟩
theorem post_true (l : OpenLaw) (args : List WData) : l.row.toRowW.claim.post args (.bool true) args = true :=
  postW_of (r := l.row.toRowW) (X := (true == true))
    (show WShape.has [] (.bool true) .bool = true by first | rfl | decide | simp [WShape.has, WShape.arms, WShape.armsAll])
    (show (WTm.eq .res (.lit (.bool true))).value [] { args := args, res := some (.bool true), after := args } = some (.bool (true == true)) from w_eq_bool (w_res rfl) w_lit) rfl
theorem attach_call {l : OpenLaw} {n : Nat} {q : Program} {loose : List Str} {XP : (Str → Option Value) → Heap → Prop} {YP : World → Heap → Prop} {d : DefRec}
    (hn : l.most = some n) (hdf : d.params.defaults = [])
    (call : ∀ (w : World) (s₀ s₁ : Shared) (mg mb : Str → Option Value) (fa : Addr) (o : Obj) (pm cd doc : Value) (a : Addr) (vs : List Value) (ns : List Int),
      Ground q loose [] XP w s₀ mg mb s₁.heap → YP w s₁.heap →
      s₁.heap.get? fa = some o → o.data = .func (docDef d.name d.params d.body d.scope pm cd doc) → s₁.heap.CodeRec cd d.name → mg d.name = some (.ref fa) →
      s₁.heap.get? a = some { cls := .type "list", data := .seq vs.toArray } → IntsAre vs ns → ns.length ≤ n → s₁.gens = #[] →
      codeAny (model l.prog w) callerA (.call (.ref fa) ⟨[.ref a], []⟩) (fun r s' => r = .ok (.ret (.bool true)) ∧ OldK s₁.heap s'.heap ∧ s'.os = s₁.os ∧ AllBare s'.gens) s₁) :
    WalkO q loose XP YP l.row.toRowW d [] (fun f vs => PySem.call f vs) := by
  intro w s₀ s₁ mg mb G Y fa o pm cd doc dV kV ho hd hcd hD hmg hg args vals as hpre hlay hrd hwl hlo
  obtain rfl : dV = .none := Dflts.none hD hdf
  obtain rfl : kV = .none := Dflts.noKw hD
  obtain ⟨a, vs, ns, rfl, rfl, hobj, hints, hlen⟩ := script_of hn hpre hwl
  refine enter_call (codeAny_mono (call w s₀ s₁ mg mb fa o pm cd doc a vs ns G Y ho (fd_plain hd) hcd hmg hobj hints hlen hg) fun r s' hq => ?_)
  obtain ⟨rfl, h2, h3, h4⟩ := hq
  exact ⟨.inl ⟨.bool true, .bool true, [], rfl, fun _ => rfl, .bool true, post_true l _, fun _ => ⟨List.Pairwise.nil, fun _ hm => (nomatch hm)⟩⟩, h2, h3, h4⟩
section
variable {prog : Program} {w : World} {A : Around} {E : Value → Shared → Prop} {s : Shared} {K : Frag}
def noObjs (h : Heap) : Heap := { h with objs := #[] }
def ledger (h : Heap) (L d : Addr) : List (Addr × Obj) := (List.range h.objs.size).filterMap fun a => if a = L ∨ a = d then none else (h.get? a).map fun o => (a, o)
end
end Att
namespace L2
open PySem PySem.Spec PyProof.Rows
theorem vals_ints : ∀ {vs : List Value} {ns : List Int}, IntsAre vs ns → Vals (ns.map V.int) vs
  | _, _, .nil => .nil
  | _, _, .cons n t h => .cons ⟨t, rfl⟩ (vals_ints h)
def Only (H : Hp) : Prop := ∀ b, H b = none ∨ ∃ o xs, H b = some (.frz o (.lst xs))
end L2
namespace L2
open PySem PySem.Spec PyProof.Rows
abbrev KOf {K : PySem.W.Frag} {h : Heap} (_ : K.In h) : PySem.W.Frag := K
end L2
namespace L2
open PySem PySem.Spec PyProof.Rows
def inClass (s : Stmt) (j : Nat) : Stmt := match s with
  | .ClassDef _ _ _ body _ _ _ _ _ _ _ => body.getD j (.Pass ⟨0, 0, 0, 0⟩)
  | _ => .Pass ⟨0, 0, 0, 0⟩
def defArgs (s : Stmt) : Arguments := match s with
  | .FunctionDef _ a _ _ _ _ _ _ _ _ => a
  | _ => { posonlyargs := [], args := [], vararg := none, kwonlyargs := [], kw_defaults := [], kwarg := none, defaults := [] }
def defBody (s : Stmt) : List Stmt := match s with
  | .FunctionDef _ _ b _ _ _ _ _ _ _ => b
  | _ => []
def defScope (s : Stmt) : Scope := match s with
  | .FunctionDef _ _ _ _ _ _ sc _ _ _ => sc
  | _ => { kind := .function, names := [], isGenerator := false, isCoroutine := false }
abbrev CX0 : CXT := fun _ _ _ _ _ _ => False
abbrev E0 : XK := fun _ _ _ => False
theorem pass0 {X : Cx} : Passes CX0 X E0 := fun _ _ _ _ _ _ _ h => h.elim
structure Fun (K : PySem.W.Frag) (x qual : Str) (st : Stmt) (f : Addr) (fd : FuncData) : Prop where
  ex : ∃ (oc : Value) (od : Option Addr) (kV doc pm : Value) (an : Option Addr) (cdv ct : Value) (osl : Array (Option Value)),
    fd = PySem.W.fnOf x qual (defArgs st) (defBody st) (defScope st) .none kV doc pm an cdv ct ∧ K.lookup f = some ⟨oc, od, .func fd, osl⟩ ∧ PySem.W.codeIn K cdv qual = true
  kp : PySem.W.keepIn K (.ref f) = true
section
variable {P : Program} {w : World} {K : PySem.W.Frag} {mg : Str → Option Value} {base : Heap}
theorem Fun.ok {x qual : Str} {st : Stmt} {f : Addr} {fd : FuncData} {N ps : List Str} {k : Nat} {sp : Sp} (F : Fun K x qual st f fd) (S : FnScope N ps (defScope st)) (len : ∀ vs H Q E, sp vs H Q E → vs.length = ps.length)
    (hbody : ∀ (cdv : Value) (A : Around) (outer : List Env) (s : Shared) (H : Hp) (vs : List V) (Q : VK) (E : XK), Room k (A.deeper (envOfC qual (defScope st) s.heap.objs.size f cdv)) → sp vs H Q E →
      ∃ t, PSs (cxOf CX0 P w K mg base N qual (defScope st) f cdv A outer s H E).nox (defBody st) t ∧ t { nx := fun _ H' => Q .non H', rt := Q } (start N vs) H) : FnOk P w K mg base CX0 (k + 1) f fd ps sp := by
  obtain ⟨oc, od, kV, doc, pm, an, cdv, ct, osl, rfl, lk, hcd⟩ := F.ex
  refine fn_of lk hcd S len fun A outer s H vs Q E hr hsp => ?_
  obtain ⟨t, h, q⟩ := hbody cdv A outer s H vs Q E hr hsp
  exact ⟨t, h.nox, q⟩
theorem Fun.binds {x qual : Str} {st : Stmt} {f : Addr} {fd : FuncData} {ps : List Str} (F : Fun K x qual st f fd)
    (h : ∀ (kV doc pm : Value) (an : Option Addr) (cdv ct : Value) (us : List Value), us.length = ps.length → bindArgs (PySem.W.fnOf x qual (defArgs st) (defBody st) (defScope st) .none kV doc pm an cdv ct) ⟨us, []⟩ = pure (ps.zip us)) : Binds K fd ps [] := by
  obtain ⟨oc, od, kV, doc, pm, an, cdv, ct, osl, rfl, lk, hcd⟩ := F.ex
  exact .all (h kV doc pm an cdv ct)
theorem fun_mk {x qual : Str} {st : Stmt} {f : Addr} {oc : Value} {od an : Option Addr} {osl : Array (Option Value)} {kV doc pm cdv ct : Value} (l : K.lookup f = some ⟨oc, od, .func (PySem.W.fnOf x qual (defArgs st) (defBody st) (defScope st) .none kV doc pm an cdv ct), osl⟩)
    (c : PySem.W.codeIn K cdv qual = true) (k : PySem.W.keepIn K (.ref f) = true) : Fun K x qual st f (PySem.W.fnOf x qual (defArgs st) (defBody st) (defScope st) .none kV doc pm an cdv ct) := ⟨⟨oc, od, kV, doc, pm, an, cdv, ct, osl, rfl, l, c⟩, k⟩
end
section
variable {X : Cx}
theorem pv (i : Nat) {x : Str} {pos : Pos} (hN : X.N[i]? = some x := by rfl) (hv : Vis X.env.scope x := by first | exact Or.inl rfl | exact Or.inr (Or.inl rfl) | exact Or.inr (Or.inr rfl)) (hd : (x == ("__debug__" : Str)) = false := by decide)
    (hcd : (x == ("__classdict__" : Str)) = false := by decide) : PE X (.Name x pos) (tVar i) := pe_var hN hv hd hcd
end
theorem iteF {A B : Prop} (h : B) : if false = true then A else B := by
  rw [if_neg Bool.false_ne_true]
  exact h
theorem iteT {A B : Prop} (h : A) : if true = true then A else B := by
  rw [if_pos rfl]
  exact h
def Same (H H' : Hp) : Prop := ∀ b o, H b = some o → H' b = some o
theorem Same.refl (H : Hp) : Same H H := fun _ _ h => h
theorem Same.trans {H H1 H2 : Hp} (a : Same H H1) (b : Same H1 H2) : Same H H2 := fun c o h => b c o (a c o h)
theorem Same.free {H H' : Hp} (e : Same H H') {l : Addr} (h : H' l = Option.none) : H l = Option.none := by
  cases q : H l with
  | none => rfl
  | some o =>
    rw [e l o q] at h
    cases h
theorem Same.seq {K : PySem.W.Frag} {H H' : Hp} {a : Addr} {xs : List V} (e : Same H H') (h : SqL K H a xs) : SqL K H' a xs := by
  rcases h with (h | ⟨o, h⟩) | h
  · exact .inl (.inl (e _ _ h))
  · exact .inl (.inr ⟨o, e _ _ h⟩)
  · exact .inr h
section
variable {κ : Type} [DecidableEq κ]
theorem nd_snoc : ∀ {l : List κ} {k : κ}, l.Nodup → ¬ k ∈ l → (l ++ [k]).Nodup
  | [], k, _, _ => by simp
  | a :: r, k, h, hk => by
    obtain ⟨h1, h2⟩ := List.nodup_cons.mp h
    show (a :: (r ++ [k])).Nodup
    refine List.nodup_cons.mpr ⟨fun m => ?_, nd_snoc h2 fun m => hk (List.mem_cons.mpr (Or.inr m))⟩
    rcases List.mem_append.mp m with q | q
    · exact h1 q
    · exact hk (List.mem_cons.mpr (Or.inl (List.mem_singleton.mp q).symm))
theorem dropK_pos {p : κ × V} {r : List (κ × V)} {k : κ} (e : p.1 = k) : dropK (p :: r) k = dropK r k := by
  unfold dropK
  rw [List.filter_cons, if_neg (by simp [e])]
theorem dropK_neg {p : κ × V} {r : List (κ × V)} {k : κ} (e : ¬ p.1 = k) : dropK (p :: r) k = p :: dropK r k := by
  unfold dropK
  rw [List.filter_cons, if_pos (by simp [e])]
theorem dropK_no : ∀ {kvs : List (κ × V)} {k : κ}, ¬ k ∈ kvs.map (·.1) → dropK kvs k = kvs
  | [], _, _ => rfl
  | p :: r, k, h => by
    have h' : ¬ k ∈ r.map (·.1) := fun m => by
      obtain ⟨q, hq, e⟩ := List.mem_map.mp m
      exact h (List.mem_map.mpr ⟨q, List.mem_cons.mpr (Or.inr hq), e⟩)
    rw [dropK_neg fun e => h (List.mem_map.mpr ⟨p, List.mem_cons.mpr (Or.inl rfl), e⟩), dropK_no h']
theorem dropK_mem {kvs : List (κ × V)} {k : κ} {p : κ × V} (h : p ∈ dropK kvs k) : p ∈ kvs := (List.mem_filter.mp h).1
theorem nd_dropK : ∀ {kvs : List (κ × V)} {k : κ}, (kvs.map (·.1)).Nodup → ((dropK kvs k).map (·.1)).Nodup
  | [], _, _ => List.nodup_nil
  | p :: r, k, h => by
    have h : (p.1 :: r.map (·.1)).Nodup := h
    obtain ⟨h1, h2⟩ := List.nodup_cons.mp h
    by_cases e : p.1 = k
    · rw [dropK_pos e]
      exact nd_dropK h2
    · rw [dropK_neg e]
      show (p.1 :: (dropK r k).map (·.1)).Nodup
      refine List.nodup_cons.mpr ⟨fun m => h1 ?_, nd_dropK h2⟩
      obtain ⟨q, hq, eq⟩ := List.mem_map.mp m
      exact List.mem_map.mpr ⟨q, dropK_mem hq, eq⟩
theorem dropK_len : ∀ {kvs : List (κ × V)} {k : κ}, (kvs.map (·.1)).Nodup → k ∈ kvs.map (·.1) → (dropK kvs k).length + 1 = kvs.length
  | [], _, _, m => by simp at m
  | p :: r, k, h, m => by
    have h : (p.1 :: r.map (·.1)).Nodup := h
    have m : k = p.1 ∨ k ∈ r.map (·.1) := List.mem_cons.mp m
    obtain ⟨h1, h2⟩ := List.nodup_cons.mp h
    by_cases e : p.1 = k
    · subst e
      rw [dropK_pos rfl, dropK_no h1]
      all_goals rfl
    · have m' : k ∈ r.map (·.1) := m.resolve_left fun z => e z.symm
      have q := dropK_len h2 m'
      rw [dropK_neg e, List.length_cons, List.length_cons]
      omega
end
end L2
namespace L2
open PySem PySem.Spec PyProof.Rows
def clOf (env : Env) : List (Str × NameKind) → List (Str × Addr) → List (Str × Addr)
  | [], cs => cs
  | (n, k) :: r, cs => clOf env r (if k == .free then (match env.cells.lookup n with | some a => (n, a) :: cs | none => cs) else cs)
theorem closureFor_go (env : Env) : ∀ (l : List (Str × NameKind)) (cs : List (Str × Addr)), (∀ x ∈ l, x.2 = .free → ∃ c, env.cells.lookup x.1 = some c) →
    (forIn l cs fun (x : Str × NameKind) r => if (x.2 == NameKind.free) = true then do let a ← cellOf env x.1; pure (ForInStep.yield ((x.1, a) :: r)) else pure (ForInStep.yield r) : Sem (List (Str × Addr))) = pure (clOf env l cs)
  | [], cs, _ => rfl
  | (n, k) :: r, cs, h => by
    have hr : ∀ x ∈ r, x.2 = .free → ∃ c, env.cells.lookup x.1 = some c := fun x hx => h x (List.mem_cons_of_mem _ hx)
    rw [List.forIn_cons, clOf]
    by_cases hk : (k == NameKind.free) = true
    · obtain ⟨c, hc⟩ := h (n, k) List.mem_cons_self (by simpa using hk)
      have hc' : env.cells.lookup n = some c := hc
      have e : cellOf env n = pure c := by unfold cellOf; rw [hc']
      simp only [hk, if_true, e, pure_bind, hc']
      exact closureFor_go env r _ hr
    · simp only [hk, if_false, pure_bind]
      exact closureFor_go env r _ hr
theorem closureFor_eq {scope : Scope} {env : Env} (h : ∀ x ∈ scope.names, x.2 = .free → ∃ c, env.cells.lookup x.1 = some c) : closureFor scope env = pure (clOf env scope.names []) := by
  have e := closureFor_go env scope.names [] h
  unfold closureFor
  show (forIn scope.names ([] : List (Str × Addr)) _ >>= fun r => pure r : Sem (List (Str × Addr))) = _
  rw [bind_pure]
  exact e
theorem clOf_old (env : Env) : ∀ (l : List (Str × NameKind)) (cs : List (Str × Addr)) (x : Str) (c : Addr), cs.lookup x = some c → env.cells.lookup x = some c → (clOf env l cs).lookup x = some c
  | [], _, _, _, h, _ => h
  | (n, k) :: r, cs, x, c, h, e => by
    rw [clOf]
    refine clOf_old env r _ x c ?_ e
    split
    · cases q : env.cells.lookup n with
      | none => exact h
      | some a =>
        show List.lookup x ((n, a) :: cs) = some c
        rw [List.lookup_cons]
        cases hx : x == n with
        | false => exact h
        | true =>
          have : x = n := by simpa using hx
          subst this
          rw [q] at e
          exact e
    · exact h
theorem clOf_sub (env : Env) : ∀ (l : List (Str × NameKind)) (cs : List (Str × Addr)) (x : Str) (c : Addr), (∀ y d, cs.lookup y = some d → env.cells.lookup y = some d) → (clOf env l cs).lookup x = some c → env.cells.lookup x = some c
  | [], cs, x, c, h, e => h x c e
  | (n, k) :: r, cs, x, c, h, e => by
    rw [clOf] at e
    refine clOf_sub env r _ x c ?_ e
    intro y d q
    split at q
    · cases z : env.cells.lookup n with
      | none => rw [z] at q; exact h y d q
      | some a =>
        rw [z] at q
        have q2 : List.lookup y ((n, a) :: cs) = some d := q
        rw [List.lookup_cons] at q2
        cases hx : y == n with
        | false => rw [hx] at q2; exact h y d q2
        | true =>
          rw [hx] at q2
          have hyn : y = n := by simpa using hx
          rw [hyn, z]
          exact q2
    · exact h y d q
theorem clOf_has (env : Env) : ∀ (l : List (Str × NameKind)) (cs : List (Str × Addr)) (x : Str) (c : Addr), (x, NameKind.free) ∈ l → env.cells.lookup x = some c → (clOf env l cs).lookup x = some c
  | [], _, _, _, h, _ => by simp at h
  | (n, k) :: r, cs, x, c, h, e => by
    rw [clOf]
    rcases List.mem_cons.mp h with h | h
    · have h1 : n = x := (congrArg Prod.fst h).symm
      have h2 : k = NameKind.free := (congrArg Prod.snd h).symm
      subst h1 h2
      refine clOf_old env r _ n c ?_ e
      rw [e]
      show List.lookup n (if (NameKind.free == NameKind.free) = true then (n, c) :: cs else cs) = some c
      rw [if_pos (by decide), List.lookup_cons]
      simp
    · exact clOf_has env r _ x c h e
theorem relabel_look (scope : Scope) (env : Env) (x : Str) : (relabel scope env).names.lookup x =
    (scope.names.lookup x).map fun k => if (k == .free && env.scope.kind == .function && env.kindOf x == some .cell) = true then NameKind.cell else k := by
  show (scope.names.map fun (p : Str × NameKind) => if (p.2 == .free && env.scope.kind == .function && env.kindOf p.1 == some .cell) = true then (p.1, NameKind.cell) else (p.1, p.2)).lookup x = _
  induction scope.names with
  | nil => rfl
  | cons p r ih =>
    obtain ⟨n, k⟩ := p
    rw [List.map_cons]
    show List.lookup x ((if (k == .free && env.scope.kind == .function && env.kindOf n == some .cell) = true then (n, NameKind.cell) else (n, k)) :: _) = _
    cases hx : x == n with
    | false =>
      have e1 : List.lookup x ((n, k) :: r) = List.lookup x r := by rw [List.lookup_cons, hx]
      rw [e1]
      split <;> (rw [List.lookup_cons, hx]; exact ih)
    | true =>
      have : x = n := by simpa using hx
      subst this
      have e1 : List.lookup x ((x, k) :: r) = some k := by rw [List.lookup_cons, hx]
      rw [e1]
      show _ = some _
      split
      · rename_i hc
        rw [List.lookup_cons, hx]
        show some NameKind.cell = some (if _ then _ else _)
        rw [if_pos hc]
      · rename_i hc
        rw [List.lookup_cons, hx]
        show some k = some (if _ then _ else _)
        rw [if_neg hc]
structure CompScope (X : Cx) (N : List Str) (src : List (Option Nat)) (scope : Scope) : Prop where
  kind : scope.kind = .function
  nocell : ∀ y ∈ scope.names, y.2 ≠ .cell
  names : ∀ y ∈ scope.names, y.2 = .local → scope.names.lookup y.1 = some .local
  fre : ∀ y ∈ scope.names, y.2 = .free → X.env.kindOf y.1 = some .cell ∨ X.env.kindOf y.1 = some .free
  len : src.length = N.length
  nd : N.Nodup
  src : ∀ (j i : Nat) (x : Str), N[j]? = some x → src[j]? = some (some i) → X.N[i]? = some x ∧ scope.names.lookup x = some .free
def compOk (dsc : Scope) (XN N : List Str) (src : List (Option Nat)) (scope : Scope) : Bool :=
  decide (scope.kind = .function) && scope.names.all (fun y => decide (y.2 ≠ .cell)) && scope.names.all (fun y => !decide (y.2 = .local) || decide (scope.names.lookup y.1 = some .local)) &&
  scope.names.all (fun y => !decide (y.2 = .free) || decide (dsc.names.lookup y.1 = some .cell) || decide (dsc.names.lookup y.1 = some .free)) && decide (src.length = N.length) && decide N.Nodup &&
  (N.zip src).all fun p => match p.2 with
    | none => true
    | some i => decide (XN[i]? = some p.1) && decide (scope.names.lookup p.1 = some .free)
theorem CompScope.of {X : Cx} {dsc : Scope} {XN N : List Str} {src : List (Option Nat)} {scope : Scope} (he : X.env.scope = dsc) (hN : X.N = XN) (h : compOk dsc XN N src scope = true) : CompScope X N src scope := by
  subst he hN
  unfold compOk at h
  simp only [Bool.and_eq_true, decide_eq_true_eq, List.all_eq_true, Bool.or_eq_true, Bool.not_eq_true', decide_eq_false_iff_not] at h
  obtain ⟨⟨⟨⟨⟨⟨h1, h2⟩, h3⟩, h4⟩, h5⟩, h6⟩, h7⟩ := h
  refine ⟨h1, h2, fun y hy e => ?_, fun y hy e => ?_, h5, h6, fun j i x e1 e2 => ?_⟩
  · rcases h3 y hy with q | q
    · exact absurd e q
    · exact q
  · rcases h4 y hy with (q | q) | q
    · exact absurd e q
    · exact .inl q
    · exact .inr q
  · have hm : (x, some i) ∈ N.zip src := by
      have : (N.zip src)[j]? = some (x, some i) := by rw [List.getElem?_zip_eq_some]; exact ⟨e1, e2⟩
      exact List.mem_of_getElem? this
    have q := h7 _ hm
    simpa using q
def cxC (X : Cx) (scope : Scope) (N : List Str) (s : Shared) (H : Hp) (ex : List Addr) : Cx :=
  { X with
    N := N
    s₀ := s
    H₀ := H
    env := compEnvC scope (clOf X.env scope.names []) s.heap.objs.size X.env
    outer := X.stack
    ex := ex
    fn := fun _ => false
    pn := []
    xe := fun _ _ => False }
def subSt (src : List (Option Nat)) (σ : St) : St := src.map fun o => match o with | none => none | some i => (σ[i]?).join
section
variable {X : Cx} {pins : List (Addr × Obj)} {σ : St} {H : Hp} {s : Shared} {N : List Str} {src : List (Option Nat)} {scope : Scope} {ex : List Addr}
theorem CompScope.cells (S : CompScope X N src scope) (ok : X.Ok) : ∀ x ∈ scope.names, x.2 = .free → ∃ c, X.env.cells.lookup x.1 = some c := fun x hx e => ok.has _ (S.fre x hx e)
theorem Inv.enterC (I : Inv X pins σ H s) (S : CompScope X N src scope) (hf : ∀ b ∈ ex, FpOk X pins H b) (hlt : ∀ b ∈ ex, b < s.heap.objs.size) {h1 : Heap} {m : Str → Option Value} {tk : Nat}
    (hns : h1.Ns s.heap.objs.size m) (hk : ∀ b o, s.heap.get? b = some o → h1.get? b = some o) : Inv (cxC X scope N s H ex) [] (subSt src σ) H { s with heap := h1, toks := tk } := by
  have neC : ∀ b o, s.heap.get? b = some o → b ≠ s.heap.objs.size := fun b o e => Nat.ne_of_lt (Heap.lt_size e)
  have sub : ∀ x c, (clOf X.env scope.names []).lookup x = some c → X.env.cells.lookup x = some c := fun x c e => clOf_sub X.env _ _ x c (fun y d z => by simp at z) e
  refine ⟨⟨I.ok.mod, S.kind, I.ok.glob, I.ok.blt, Nat.le_refl _, fun x y c e1 e2 => I.ok.inj x y c (sub x c e1) (sub y c e2), fun x hx => ?_, fun x c z => absurd z (by simp [cxC]), I.ok.hd, I.ok.frames, .inl rfl, fun b hb => ?_, I.bs, Nat.le_trans I.ok.bsz I.sz, fun b o e hb => ?_, fun b hb hz => ?_, I.stack, I.stkFree⟩,
    rfl, I.bare, Un.kept hk, ⟨m, hns, fun j x v e1 e2 e3 => ?_⟩, fun x c e => ?_, I.hok.fresh (Nat.le_refl _), fun x c e => I.freeC x c (sub x c e), fun p hp => absurd (show p ∈ ([] : List (Addr × Obj)) from hp) (by simp), I.hok.kept hk, ?_⟩
  · have hx : (relabel scope X.env).names.lookup x = some .cell ∨ (relabel scope X.env).names.lookup x = some .free := hx
    have hm : (x, NameKind.free) ∈ scope.names := by
      rw [relabel_look] at hx
      cases q : scope.names.lookup x with
      | none => rw [q] at hx; simp at hx
      | some k =>
        have hm := PySem.mem_of_lookup q
        cases k with
        | free => exact hm
        | cell => exact absurd rfl (S.nocell _ hm)
        | _ => rw [q] at hx; simp at hx
    obtain ⟨c, hc⟩ := S.cells I.ok _ hm rfl
    exact ⟨c, clOf_has X.env _ _ x c hm hc⟩
  · obtain ⟨f0, f1, f2, f3, f4, f5⟩ := hf b hb
    exact ⟨Nat.ne_of_lt (hlt b hb), fun x c e => f4 x c (sub x c e)⟩
  · obtain ⟨f0, f1, f2, f3, f4, f5⟩ := hf b hb
    rcases f3 with z | z
    · exact I.ok.noex b o e z
    · exact absurd (Nat.lt_of_lt_of_le (Heap.lt_size (I.ok.bs b o e).1) z) (Nat.lt_irrefl _)
  · obtain ⟨f0, f1, f2, f3, f4, f5⟩ := hf b hb
    rcases List.mem_cons.mp (I.stkSub b hz) with z | z
    · exact f1 z
    · exact f2 z
  · have e2 : (subSt src σ)[j]? = some (some v) := e2
    unfold subSt at e2
    rw [List.getElem?_map] at e2
    cases q : src[j]? with
    | none => rw [q] at e2; simp at e2
    | some o =>
      rw [q] at e2
      cases o with
      | none => simp at e2
      | some i =>
        have e2 : (σ[i]?).join = some v := by simpa using e2
        have e2 : σ[i]? = some (some v) := by
          cases z : σ[i]? with
          | none => rw [z] at e2; simp at e2
          | some w => rw [z] at e2; simp at e2; rw [e2]
        obtain ⟨hX, hfr⟩ := S.src j i x e1 q
        have hm := PySem.mem_of_lookup hfr
        have hk2 := S.fre _ hm rfl
        obtain ⟨mX, hnX, hl⟩ := I.loc
        have hvis : Vis X.env.scope x := .inr hk2
        obtain ⟨u, r, l⟩ := hl i x v hX e2 hvis
        refine ⟨u, r, ?_⟩
        rcases l with ⟨l1, _⟩ | ⟨_, c, hc, hcell⟩
        · rcases hk2 with z | z
          · have : X.env.kindOf x = some .cell := z
            rw [l1] at this; cases this
          · have : X.env.kindOf x = some .free := z
            rw [l1] at this; cases this
        · refine .inr ⟨?_, c, clOf_has X.env _ _ x c hm hc, ?_⟩
          · show (relabel scope X.env).names.lookup x = some .cell ∨ (relabel scope X.env).names.lookup x = some .free
            rw [relabel_look, hfr]
            by_cases hcc : (NameKind.free == .free && X.env.scope.kind == .function && X.env.kindOf x == some .cell) = true
            · left
              show some (if _ then _ else _) = _
              rw [if_pos hcc]
            · right
              show some (if _ then _ else _) = _
              rw [if_neg hcc]
          · exact hcell.keeps hk
  · obtain ⟨v, z⟩ := I.cell x c (sub x c e)
    exact ⟨v, z.keeps hk⟩
  · show (subSt src σ).length = N.length
    unfold subSt
    rw [List.length_map]
    exact S.len
end
def PIfs (X : Cx) (ifs : List Expr) (t : TT) : Prop :=
  ∀ (pins : List (Addr × Obj)) (s : Shared) (σ : St) (H : Hp) (Q : Bool → Hp → Prop), Inv X pins σ H s → t σ H Q →
    wpAny (model X.prog X.w) X.A (forIn ifs true fun c r => if r = true then do let ok ← isTrue c X.env (eval c X.env); pure (ForInStep.yield ok) else pure (ForInStep.yield r)) (TP X pins σ Q) X.xe s
def tNoIf : TT := fun _ H Q => Q true H
theorem pifs_nil {X : Cx} : PIfs X [] tNoIf := fun _ _ _ H _ I h => wpAny_tests_nil ⟨H, I, h⟩
theorem pifs_one {X : Cx} {c : Expr} {t : TT} (h : PT X c t) : PIfs X [c] t := fun pins s σ H Q I hw => wpAny_tests_one (h pins s σ H Q I hw)
def compWant (g : TG) (tt : TT) (te : TE) (src : List (Option Nat)) (σ : St) (Q : VK) (J : It) (H1 : Hp) : Prop :=
  ∃ W : Nat → Nat → List V → St → Hp → Prop, (∃ m, W 0 m [] (subSt src σ) H1) ∧ ∀ i m ys σ' H', W i m ys σ' H' →
    (J.stop i H' ∧ ∀ p, H' p = none → Q (.ref p) (upd H' p (.lst ys))) ∨
    (J.go i H' ∧ ys.length < sizeLine ∧ ∀ x H2, J.yld i H' x H2 → g x σ' H2 fun σ3 H3 => tt σ3 H3 fun b H4 =>
      if b = true then te σ3 H4 fun v H5 => ∃ m', m' < m ∧ W (i + 1) m' (ys ++ [v]) σ3 H5 else ∃ m', m' < m ∧ W (i + 1) m' ys σ3 H4)
def tComp (wi : TI) (g : TG) (tt : TT) (te : TE) (src : List (Option Nat)) : TE := fun σ H Q => wi σ H (compWant g tt te src σ Q)
def CompEnd (X : Cx) (pins : List (Addr × Obj)) (σ : St) (Q : VK) (acc : Value) (C : Addr) (r : Result) (s' : Shared) : Prop :=
  (∃ f, r = .ok f) ∧ ∃ D H', acc = .ref D ∧ Inv X pins σ H' s' ∧ (∃ m, s'.heap.Ns C m) ∧ FpOk X pins H' C ∧ Q (.ref D) H'
theorem compLoop_any {prog : Program} {w : World} {A : Around} {R : Result → Shared → Prop} {s : Shared} {elt target iter : Expr} {ifs : List Expr} {scope : Scope} {pos : Pos} {it acc : Value} {env : Env} (I : Nat → Shared → Prop)
    (turn : ∀ n s, I n s → wpAny (model prog w) A (pyNext it) (fun r s₁ => match r with
      | none => R (.ok .next) s₁
      | some v => wpAny (model prog w) A (letOwnedTupleGo target it v) (fun _ s₂ => wpAny (model prog w) A (assign target env v) (fun _ s₃ =>
          wpAny (model prog w) A (forIn ifs true fun c r => if r = true then do let ok ← isTrue c env (eval c env); pure (ForInStep.yield ok) else pure (ForInStep.yield r)) (fun ok s₄ =>
            if ok = true then wpAny (model prog w) A (eval elt env) (fun x s₅ => wpAny (model prog w) A (call (.builtin "list.append") [acc, x]) (fun _ s₆ => ∃ m, m < n ∧ I m s₆) (fun _ _ => False) s₅) (fun _ _ => False) s₄
            else ∃ m, m < n ∧ I m s₄) (fun _ _ => False) s₃) (fun _ _ => False) s₂) (fun _ _ => False) s₁) (fun _ _ => False) s)
    (n : Nat) (h : I n s) : codeAny (model prog w) A (.compLoop (.ListComp elt [⟨target, iter, ifs, 0⟩] scope pos) 0 it acc env) R s := by
  refine codeAny_loop rfl I (fun n s hI => ?_) n h
  show wpAny _ A ((compTurn (.ListComp elt [⟨target, iter, ifs, 0⟩] scope pos) 0 it acc env).onRaise (fun x => do noteFrame x env; theTreesLotGoes x)) _ _ s
  refine wpAny_noted ?_
  rw [compTurn_list]
  refine wpAny_bind (wpAny_standAt (wpAny_bind (wpAny_mono (turn n s hI) (fun r s₁ h₁ => ?_) fun _ _ f => f.elim)))
  cases r with
  | none => exact wpAny_pure h₁
  | some v =>
    refine wpAny_bind (wpAny_mono h₁ (fun _ s₂ h₂ => ?_) fun _ _ f => f.elim)
    refine wpAny_bind (wpAny_mono h₂ (fun _ s₃ h₃ => wpAny_bind (wpAny_mono h₃ (fun ok s₄ h₄ => ?_) fun _ _ f => f.elim)) fun _ _ f => f.elim)
    cases ok with
    | false => exact wpAny_pure ⟨rfl, h₄⟩
    | true =>
      exact wpAny_bind (wpAny_bind (wpAny_mono h₄ (fun x s₅ h₅ => wpAny_bind (wpAny_mono h₅ (fun _ s₆ h₆ => wpAny_pure (wpAny_pure ⟨rfl, h₆⟩)) fun _ _ f => f.elim)) fun _ _ f => f.elim))
abbrev lobj (us : List Value) (k : Nat) : Obj := { cls := .type "list", data := .seq us.toArray k }
section
variable {X : Cx} {N : List Str} {src : List (Option Nat)} {scope : Scope} {elt tg iter : Expr} {ifs : List Expr} {pos : Pos} {wi : TI} {g : TG} {tt : TT} {te : TE}
theorem comp_run (hc : X.calm = true) (S : CompScope X N src scope) (hg : ∀ s H ex, PG (cxC X scope N s H ex) tg g) (ht : ∀ s H ex, PIfs (cxC X scope N s H ex) ifs tt) (he : ∀ s H ex, PE (cxC X scope N s H ex) elt te)
    {pins : List (Addr × Obj)} {σ : St} {Q : VK} {itv : Value} {s2 : Shared} {E : Value → Shared → Prop} (h : PIE X pins σ tg (compWant g tt te src σ Q) itv s2) :
    wpAny (model X.prog X.w) X.A (newList []) (fun acc s₃ => wpAny (model X.prog X.w) X.A (newFunctionEnv scope X.env.globals (clOf X.env scope.names []) [] X.env.qual none .none (some X.env)) (fun cenv s₄ =>
      codeAny (model X.prog X.w) X.A (.compStart (.ListComp elt [⟨tg, iter, ifs, 0⟩] scope pos) 0 itv acc { cenv with scope := relabel scope X.env }) (CompEnd X pins σ Q acc cenv.locals) s₄) E s₃) E s2 := by
  obtain ⟨it, fp, tn, J, H1, e, I2, T, st2, f2, W, ⟨m0, w0⟩, turn⟩ := h
  subst e
  refine wpAny_newObj_type (wpAny_newFunctionEnv S.nocell (by intro y hy; simp at hy) (fun h₁ hns₁ hsb₁ => ?_) S.kind)
  dsimp only at hns₁ hsb₁ ⊢
  generalize hH2 : s2.heap.push { cls := .type "list", dict := none, data := .seq ([] : List Value).toArray } = H2 at hns₁ hsb₁ ⊢
  have hC : H2.objs.size = s2.heap.objs.size + 1 := by rw [← hH2, Heap.size_push]
  have push : ∀ b o, s2.heap.get? b = some o → H2.get? b = some o := fun b o e => hH2 ▸ Heap.get?_push_of_some _ e
  have hD2 : H2.get? s2.heap.objs.size = some (lobj [] 0) := hH2 ▸ Heap.get?_push_size _ rfl
  have hk : ∀ b o, H2.get? b = some o → h₁.get? b = some o := fun b o e => hsb₁.extBut b o (Nat.ne_of_lt (Heap.lt_size e)) (Heap.get?_push_of_some _ e)
  generalize hD : s2.heap.objs.size = D at *
  have I3 : Inv X pins σ H1 { s2 with heap := H2 } := I2.kept (t' := s2.toks) push
  have fD : FpOk X pins H1 D := I2.fpOk (Nat.le_of_eq hD) (I2.hok.fresh (Nat.le_of_eq hD))
  have fpl : ∀ b ∈ fp, b < D := fun b hb => by
    obtain ⟨o, e, _⟩ := T.obj _ _ st2 b hb
    rw [← hD]; exact Heap.lt_size e
  have fex : ∀ b ∈ D :: fp, FpOk X pins H1 b := fun b hb => by
    rcases List.mem_cons.mp hb with z | z
    · rw [z]; exact fD
    · exact f2 b z
  have lex : ∀ b ∈ D :: fp, b < ({ s2 with heap := H2 } : Shared).heap.objs.size := fun b hb => by
    show b < H2.objs.size
    rcases List.mem_cons.mp hb with z | z
    · rw [z, hC]; exact Nat.lt_succ_self _
    · rw [hC]; exact Nat.lt_succ_of_lt (fpl b z)
  have I4 := I3.enterC (N := N) S fex lex (h1 := h₁) (tk := s2.toks + ([] : List (Str × Value)).length) hns₁ hk
  generalize hY : cxC X scope N { s2 with heap := H2 } H1 (D :: fp) = Y at *
  have yP : Y.prog = X.prog := by rw [← hY]; rfl
  have yw : Y.w = X.w := by rw [← hY]; rfl
  have yA : Y.A = X.A := by rw [← hY]; rfl
  have yC : Y.env.locals = H2.objs.size := by rw [← hY]; rfl
  have yK : Y.K = X.K := by rw [← hY]; rfl
  have yc : Y.calm = true := by rw [← hY]; exact hc
  have yfs : Y.fs = frs X.stack := by rw [← hY]; rfl
  have yex : Y.ex = D :: fp := by rw [← hY]; rfl
  have ypn : Y.pn = [] := by rw [← hY]; rfl
  have yxe : Y.xe = fun _ _ => False := by rw [← hY]; rfl
  have ycl : ∀ x c, Y.env.cells.lookup x = some c → X.env.cells.lookup x = some c := by
    rw [← hY]
    exact fun x c e => clOf_sub X.env _ _ x c (fun y d z => by simp at z) e
  have ye : Y.env = compEnvC scope (clOf X.env scope.names []) H2.objs.size X.env := by rw [← hY]; rfl
  have ys0 : Y.s₀ = { s2 with heap := H2 } := by rw [← hY]; rfl
  have yH0 : Y.H₀ = H1 := by rw [← hY]; rfl
  have hgY : PG Y tg g := by rw [← hY]; exact hg _ _ _
  have htY : PIfs Y ifs tt := by rw [← hY]; exact ht _ _ _
  have heY : PE Y elt te := by rw [← hY]; exact he _ _ _
  have nfs : ∀ b ∈ D :: fp, b ∉ Y.fs := fun b hb z => by
    rw [yfs] at z
    obtain ⟨f0, f1, f2', _⟩ := fex b hb
    rcases List.mem_cons.mp (I2.stkSub b z) with q | q
    · exact f1 q
    · exact f2' q
  have ncl : ∀ b ∈ D :: fp, ∀ x c, Y.env.cells.lookup x = some c → c ≠ b := fun b hb x c e => (fex b hb).2.2.2.2.1 x c (ycl x c e)
  have nC : ∀ b ∈ D :: fp, b ≠ Y.env.locals := fun b hb => by rw [yC]; exact Nat.ne_of_lt (lex b hb)
  have stat : ∀ {H' : Hp} {us : List Value} {k : Nat}, (∀ b ∈ fp, H' b = none) → ∀ b ∈ fp, FpOk Y [(D, lobj us k)] H' b := fun {H' us k} hn b hb =>
    ⟨hn b hb, nC b (List.mem_cons_of_mem _ hb), nfs b (List.mem_cons_of_mem _ hb), .inl (by rw [yex]; exact List.mem_cons_of_mem _ hb), ncl b (List.mem_cons_of_mem _ hb), fun p hp => by
      rw [ypn] at hp
      have hp1 : p = (D, lobj us k) := by simpa using hp
      rw [hp1]
      exact Nat.ne_of_gt (fpl b hb)⟩
  have pinD : ∀ {σ' : St} {H' : Hp} {s' : Shared} {pl : List (Addr × Obj)} {us : List Value} {k : Nat}, Inv Y pl σ' H' s' → s'.heap.get? D = some (lobj us k) → H' D = none → Inv Y [(D, lobj us k)] σ' H' s' := fun {σ' H' s' pl us k} I' e n =>
    I'.pins_of fun p hp => by
      have hp1 : p = (D, lobj us k) := by simpa using hp
      subst hp1
      exact ⟨e, n, nC D List.mem_cons_self, nfs D List.mem_cons_self, fun v z => by cases z⟩
  have I4' : Inv Y [(D, lobj [] 0)] (subSt src σ) H1 { s2 with heap := h₁, toks := s2.toks + ([] : List (Str × Value)).length } := pinD I4 (hk _ _ hD2) fD.1
  have loop : codeAny (model X.prog X.w) X.A (.compLoop (.ListComp elt [⟨tg, iter, ifs, 0⟩] scope pos) 0 (.ref it) (.ref D) Y.env) (CompEnd X pins σ Q (.ref D) H2.objs.size) { s2 with heap := h₁, toks := s2.toks + ([] : List (Str × Value)).length } := by
    refine compLoop_any (fun n s' => ∃ i ys us k σ' H', Inv Y [(D, lobj us k)] σ' H' s' ∧ tn i s'.heap ∧ (∀ b ∈ fp, H' b = none) ∧ Vals ys us ∧ ys.length ≤ sizeLine ∧ W i n ys σ' H') ?_ m0
      ⟨0, [], [], 0, _, H1, I4', T.keep _ _ _ st2 fun b hb o e => hk _ _ (push b o e), fun b hb => (f2 b hb).1, .nil, Nat.zero_le _, w0⟩
    rintro n s3 ⟨i, ys, us, k, σ3, H3, I3', st3, fr3, rv, hz, w3⟩
    rcases turn i n ys σ3 H3 w3 with ⟨stop, q⟩ | ⟨go, hlen, step⟩
    · have hd := T.done Y yP yw yK yc i _ s3 σ3 H3 (fun _ _ => False) I3' (stat fr3) st3 stop
      rw [yA] at hd
      refine thn hd fun r s4 ⟨hr, I4⟩ => ?_
      subst hr
      obtain ⟨eD, nD, _⟩ := I4.pin (D, lobj us k) (by simp)
      have eD : s4.heap.get? D = some (lobj us k) := eD
      have nD : H3 D = none := nD
      have base : Un (frs X.stack) (D :: fp) H1 H3 H2 s4.heap := by
        have b := I4.base
        rw [yex, yH0, ys0, yfs] at b
        exact b
      have hnD : ∀ b o, s2.heap.get? b = some o → b ≠ D := fun b o e => by rw [← hD]; exact Nat.ne_of_lt (Heap.lt_size e)
      have nx : ∀ b o, s2.heap.get? b = some o → b ∉ fp → b ∉ D :: fp := fun b o e hb z => (List.mem_cons.mp z).elim (hnD b o e) hb
      have un : Un (frs X.stack) fp H1 (upd H3 D (.lst ys)) s2.heap s4.heap :=
        ⟨fun b o e n hb hx => base.keep b o (push b o e) n hb (nx b o e hx), fun b o e n hb hx => base.slot b o (push b o e) n hb (nx b o e hx), fun b o e n hx => by rw [upd_ne (hnD b o e)]; exact base.free b o (push b o e) n (nx b o e hx),
          fun b o e hx => base.there b o (push b o e) (nx b o e hx), fun b xs e => by rw [upd_ne (ne_of_none e fD.1)]; exact base.tups b xs e, fun b o u e => by rw [upd_ne (ne_of_none e fD.1)]; exact base.frzs b o u e,
          fun b ps e => by rw [upd_ne (ne_of_none e fD.1)]; exact base.tbls b ps e⟩
      have hok : HOk X.prog X.w (upd H3 D (.lst ys)) s4.heap := fun b u e => by
        by_cases hb : b = D
        · subst hb
          rw [upd_same] at e
          cases e
          exact ⟨hz, us, k, rv, eD⟩
        · rw [upd_ne hb] at e
          have x := I4.hok b u e
          rw [yP, yw] at x
          exact x.stay (fun c v _ z => z) (fun c z => by rw [upd_ne (ne_of_none z nD)]; exact z) fun c xs z => by rw [upd_ne (ne_of_none z nD)]; exact z
      have ho : s4.os = s2.os := by rw [I4.os, ys0]
      have J' : Inv X pins σ (upd H3 D (.lst ys)) s4 := I2.call' (ch := fp) ho un hok I4.bare fun b hb => ⟨(f2 b hb).2.2.2.1, (f2 b hb).2.1, (f2 b hb).2.2.2.2.1, (f2 b hb).2.2.2.2.2⟩
      refine ⟨⟨_, rfl⟩, D, _, rfl, J', ?_, ?_, q D nD⟩
      · obtain ⟨m, hm, _⟩ := I4.loc
        rw [yC] at hm
        exact ⟨m, hm⟩
      · refine I2.fpOk (by rw [hC, hD]; exact Nat.le_succ _) ?_
        rw [upd_ne (by rw [hC]; exact Nat.succ_ne_self D)]
        have z := I4.free
        rw [yC] at z
        exact z
    · have hd := T.item Y yP yw yK yc i _ s3 σ3 H3 (fun _ _ => False) I3' (stat fr3) st3 go
      rw [yA] at hd
      refine thn hd fun r s4 ⟨u, hr, h4⟩ => ?_
      subst hr
      refine thn h4 fun _ s5 ⟨x, H5, I5, r5, y5, st5, fr5⟩ => ?_
      have I5' := I5.pinned (stat fr5) (T.obj _ _ st5)
      have hg' := hgY _ s5 σ3 H5 x u _ I5' r5 (step x H5 y5)
      rw [yP, yw, yA, yxe] at hg'
      refine thn hg' fun _ s6 ⟨σ6, H6, I6, q6⟩ => ?_
      have ht' := htY _ s6 σ6 H6 _ I6 q6
      rw [yP, yw, yA, yxe] at ht'
      refine thn ht' fun ok s7 ⟨H7, I7, q7⟩ => ?_
      have again : ∀ {σ8 : St} {H8 : Hp} {s8 : Shared} {ys' : List V} {us' : List Value} {k' m' : Nat}, Inv Y ([(D, lobj us' k')] ++ pinsAt fp s5.heap) σ8 H8 s8 → Vals ys' us' → ys'.length ≤ sizeLine → m' < n → W (i + 1) m' ys' σ8 H8 →
          ∃ m, m < n ∧ ∃ i ys us k σ' H', Inv Y [(D, lobj us k)] σ' H' s8 ∧ tn i s8.heap ∧ (∀ b ∈ fp, H' b = none) ∧ Vals ys us ∧ ys.length ≤ sizeLine ∧ W i m ys σ' H' := fun {σ8 H8 s8 ys' us' k' m'} I8 rv' hz' hm w8 => by
        refine ⟨m', hm, i + 1, ys', us', k', σ8, H8, I8.unpinned, T.keep _ _ _ st5 fun b hb o e => (I8.pin (b, o) (List.mem_append_right _ (List.mem_append_right _ (mem_pinsAt hb e)))).1, fun b hb => ?_, rv', hz', w8⟩
        obtain ⟨o, e, d⟩ := T.obj _ _ st5 b hb
        exact (I8.pin (b, o) (List.mem_append_right _ (List.mem_append_right _ (mem_pinsAt hb e)))).2.1
      cases ok with
      | false =>
        obtain ⟨m', hm, w8⟩ := q7
        exact again I7 rv hz hm w8
      | true =>
        rw [if_pos rfl]
        have he' := heY _ s7 σ6 H7 _ I7 q7
        rw [yP, yw, yA, yxe] at he'
        refine thn he' fun u8 s8 ⟨v, H8, I8, r8, m', hm, w8⟩ => ?_
        obtain ⟨eD, nD, _⟩ := I8.pin (D, lobj us k) (by simp)
        have eD : s8.heap.get? D = some (lobj us k) := eD
        have nD : H8 D = none := nD
        have hl := rv.length
        refine call_meets F.slot_list_append ⟨_, eD, rfl⟩ F.entry_list_append (F.args_list_append_2 _ _) (PySem.list_append D us.toArray k u8 (by rw [List.size_toArray]; omega)) ⟨eD, ?_⟩
        have q := PySem.IsL.update eD (fun a => a.push u8)
        have eu : us.toArray.push u8 = (us ++ [u8]).toArray := by simp
        rw [eu] at q
        obtain ⟨k', q⟩ : ∃ k', (s8.heap.update D (Obj.mapSeq fun a => a.push u8)).get? D = some (lobj (us ++ [u8]) k') := ⟨_, q⟩
        have I8' : Inv Y (pinsAt fp s5.heap) σ6 H8 s8 := I8.pins_of fun p hp => I8.pin p (List.mem_append_right _ (List.mem_append_right _ hp))
        have I9 : Inv Y (pinsAt fp s5.heap) σ6 H8 { s8 with heap := s8.heap.update D (Obj.mapSeq fun a => a.push u8) } := I8'.turned (it := D) (t' := s8.toks) (fun b o hb e => (Heap.get?_update_other s8.heap _ (Ne.symm hb)).trans e) nD (nC D List.mem_cons_self)
          (.inl (by rw [yex]; exact List.mem_cons_self)) (ncl D List.mem_cons_self) fun p hp => by
            rw [ypn] at hp
            have hp : p ∈ pinsAt fp s5.heap := by simpa using hp
            exact Nat.ne_of_lt (fpl _ (of_pinsAt hp).1)
        refine again (us' := us ++ [u8]) (ys' := ys ++ [v]) (m' := m') (k' := k') (I9.pins_of fun p hp => ?_) (rv.append (.cons r8 .nil)) (by rw [List.length_append, List.length_singleton]; omega) hm w8
        rcases List.mem_append.mp hp with z | z
        · have hp1 : p = (D, lobj (us ++ [u8]) k') := by simpa using z
          subst hp1
          exact ⟨q, nD, nC D List.mem_cons_self, nfs D List.mem_cons_self, fun v z => by cases z⟩
        · exact I9.pin p (List.mem_append_right _ z)
  rw [ye] at loop
  exact codeAny_compStart_list loop (T.self _ 0 _ _ _ (T.keep _ _ _ st2 fun b hb o e => hk _ _ (push b o e)) loop)
theorem pe_comp (hc : X.calm = true) (S : CompScope X N src scope) (hi : PI X tg iter wi) (hg : ∀ s H ex, PG (cxC X scope N s H ex) tg g) (ht : ∀ s H ex, PIfs (cxC X scope N s H ex) ifs tt) (he : ∀ s H ex, PE (cxC X scope N s H ex) elt te)
    (hs : ∀ x, foldedSetIterable iter X.env x = pure x := by intro _; rfl) : PE X (.ListComp elt [⟨tg, iter, ifs, 0⟩] scope pos) (tComp wi g tt te src) := by
  intro pins s σ H Q I h
  rw [eval_ListComp]
  refine wpAny_comprehension_free (use := none) rfl hs (closureFor_eq (S.cells I.ok)) S.kind S.names (thn (hi pins s σ H _ I h) fun v s1 h1 => thn h1 fun it s2 h2 => ?_)
  refine thn (comp_run hc S hg ht he h2) fun acc s3 h3 => thn h3 fun cenv s4 h4 => codeAny_mono h4 fun r s' hr => ?_
  obtain ⟨⟨f, rfl⟩, D, H', rfl, J, ⟨m, hm⟩, hf, q⟩ := hr
  refine ⟨m, hm, fun h' sb => ?_⟩
  exact ⟨.ref D, H', J.turned (t' := s'.toks) (fun b o hb e => (sb.2 b hb).trans e) hf.1 hf.2.1 hf.2.2.2.1 hf.2.2.2.2.1 hf.2.2.2.2.2, rfl, q⟩
theorem ps_setC {i : Nat} {y : Str} {py spos : Pos} (hc : X.calm = true) (S : CompScope X N src scope) (hi : PI X tg iter wi) (hg : ∀ s H ex, PG (cxC X scope N s H ex) tg g) (ht : ∀ s H ex, PIfs (cxC X scope N s H ex) ifs tt) (he : ∀ s H ex, PE (cxC X scope N s H ex) elt te)
    (hN : X.N.Nodup) (hy : X.N[i]? = some y) (hx : Loc X.env.scope y) (hsw : swapsWith (.ListComp elt [⟨tg, iter, ifs, 0⟩] scope pos) (some (.Name y py)) spos.line X.env = pure true) (hf : X.fn y = true ∨ X.env.scope.names.lookup y = some .local)
    (hs : ∀ x, foldedSetIterable iter X.env x = pure x := by intro _; rfl) : PS X (.Assign [.Name y py] (.ListComp elt [⟨tg, iter, ifs, 0⟩] scope pos) spos) (tAsg (tComp wi g tt te src) (gName i)) := by
  intro pins s σ H D I h
  rw [exec_Assign_Name_used _ _ _ _ hsw]
  refine wpAny_bind (wpAny_standAt (wpAny_bind ?_))
  show wpAny _ X.A (do let _ ← comprehension (.ListComp elt [⟨tg, iter, ifs, 0⟩] scope pos) scope X.env _ (newList []) false (eval iter X.env) (some (assign (.Name y py) X.env))) _ _ s
  refine wpAny_bind (wpAny_mono (wpAny_comprehension_free (use := some (assign (.Name y py) X.env)) (Q := fun _ s' => SP X pins D .next s') rfl hs (closureFor_eq (S.cells I.ok)) S.kind S.names (thn (hi pins s σ H _ I h) fun v s1 h1 => thn h1 fun it s2 h2 => ?_)) (fun _ s' hq => wpAny_pure (wpAny_pure hq)) fun _ _ e => e)
  refine thn (comp_run hc S hg ht he h2) fun acc s3 h3 => thn h3 fun cenv s4 h4 => codeAny_mono h4 fun r s' hr => ?_
  obtain ⟨⟨f, rfl⟩, D', H', rfl, J, ⟨m, hm⟩, hfp, q⟩ := hr
  show wpAny _ X.A (assign (.Name y py) X.env (.ref D')) _ _ _
  refine wpAny_assign_Name (store_ok2 J hN hy hx (v := .ref D') rfl (fun s5 I5 ⟨a, sb, ha⟩ => ?_) hf)
  have hne : cenv.locals ≠ a := by
    rcases ha with z | z
    · rw [z]; exact hfp.2.1
    · exact Ne.symm (hfp.2.2.2.2.1 y a z)
  refine ⟨m, hm.sameBut sb hne, fun h' sb' => ?_⟩
  exact ⟨_, H', I5.turned (t' := s5.toks) (fun b o hb e => (sb'.2 b hb).trans e) hfp.1 hfp.2.1 hfp.2.2.2.1 hfp.2.2.2.2.1 hfp.2.2.2.2.2, q⟩
end
end L2
namespace L2
open PySem PySem.Spec PyProof.Rows
section
variable {X : Cx}
theorem PE.imp {e : Expr} {t t' : TE} (h : PE X e t) (i : ∀ σ H Q, t' σ H Q → t σ H Q) : PE X e t' := fun pins s σ H Q I q => h pins s σ H Q I (i σ H Q q)
theorem PT.imp {e : Expr} {t t' : TT} (h : PT X e t) (i : ∀ σ H Q, t' σ H Q → t σ H Q) : PT X e t' := fun pins s σ H Q I q => h pins s σ H Q I (i σ H Q q)
theorem PS.imp {st : Stmt} {t t' : TS} (h : PS X st t) (i : ∀ D σ H, t' D σ H → t D σ H) : PS X st t' := fun pins s σ H D I q => h pins s σ H D I (i D σ H q)
theorem OpR.imp {f : Value → Value → Sem Value} {r r' : R2} (h : OpR X f r) (i : ∀ x y H Q, r' x y H Q → r x y H Q) : OpR X f r' := fun pins s σ H x y v u Q I rx ry q => h pins s σ H x y v u Q I rx ry (i x y H Q q)
theorem CallR.imp {f : Value} {r r' : List V → Hp → VK → Prop} (h : CallR X f r) (i : ∀ xs H Q, r' xs H Q → r xs H Q) : CallR X f r' := fun pins s σ H xs us Q I r q => h pins s σ H xs us Q I r (i xs H Q q)
theorem MtR.imp {id : String} {r r' : V → List V → Hp → VK → Prop} (h : MtR X id r) (i : ∀ x xs H Q, r' x xs H Q → r x xs H Q) : MtR X id r' := fun pins s σ H x xs v us Q I rx r q => h pins s σ H x xs v us Q I rx r (i x xs H Q q)
abbrev Str.tl (x : Str) : List Nat := x.cps.toList
theorem op_le_str : OpR X (compareOp .LtE) (fun x y H Q => ∃ i j, x = .str i ∧ y = .str j ∧ Q (.bl (!decide (j.cps.toList < i.cps.toList))) H) := by
  intro pins s σ H x y v u Q I rx ry h
  obtain ⟨i, j, rfl, rfl, q⟩ := h
  obtain ⟨t, rfl⟩ := rx
  obtain ⟨t', rfl⟩ := ry
  exact PySem.P.le_str (fin_bl I q rfl)
def cutS (x : Str) (lo hi : Option Int) : Str := ⟨((x.cps.toList.drop (HT.sIx x.length 0 lo)).take (HT.sIx x.length x.length hi - HT.sIx x.length 0 lo)).toArray⟩
theorem pick_go (l : List Nat) : ∀ (k i : Nat), i + k ≤ l.length → (List.range' i k).filterMap (fun m => l[m]?) = (l.drop i).take k
  | 0, i, _ => by simp
  | k + 1, i, h => by
    have ih := pick_go l k (i + 1) (by omega)
    rw [List.range'_succ, List.filterMap_cons, List.getElem?_eq_getElem (by omega), List.drop_eq_getElem_cons (by omega), List.take_succ_cons]
    show l[i] :: _ = _
    rw [ih]
def rSlS : V → Option Int → Option Int → Hp → VK → Prop := fun x lo hi H Q => ∃ z, x = .str z ∧ z.length ≤ sizeLine ∧ Q (.str (cutS z lo hi)) H
theorem strsAre_of : ∀ {ys : List Str} {us : List Value}, Vals (ys.map V.str) us → StrsAre us ys
  | [], us, r => by rw [List.map_nil] at r; cases r; exact .nil
  | y :: ys, us, r => by
    rw [List.map_cons] at r
    cases r with
    | cons r1 r2 =>
      obtain ⟨t, e⟩ := r1
      subst e
      exact .cons y t (strsAre_of r2)
end
end L2
namespace L2
open PySem PySem.Spec PyProof.Rows
inductive EqD (K : PySem.W.Frag) (H : Hp) : Nat → V → V → Bool → Prop
  | flat {n : Nat} {x y : V} (hx : flatV x = true) (hy : flatV y = true) : EqD K H n x y (eqV x y)
  | same {n : Nat} {a : Addr} : EqD K H n (.ref a) (.ref a) true
  | len {n : Nat} {a b : Addr} {xs ys : List V} (ha : SqL K H a xs) (hb : SqL K H b ys) (hab : a ≠ b) (hl : xs.length ≠ ys.length) : EqD K H (n + 1) (.ref a) (.ref b) false
  | lst {n : Nat} {a b : Addr} {xs ys : List V} {es : Nat → Bool} (ha : SqL K H a xs) (hb : SqL K H b ys) (hab : a ≠ b) (hl : xs.length = ys.length)
      (he : ∀ i x y, xs[i]? = some x → ys[i]? = some y → EqD K H n x y (es i)) : EqD K H (n + 1) (.ref a) (.ref b) ((List.range xs.length).all es)
  | tup {n : Nat} {a b : Addr} {xs ys : List V} {es : Nat → Bool} (ha : SqT K H a xs) (hb : SqT K H b ys) (hab : a ≠ b)
      (he : ∀ i x y, xs[i]? = some x → ys[i]? = some y → EqD K H n x y (es i)) : EqD K H (n + 1) (.ref a) (.ref b) ((List.range (min xs.length ys.length)).all es && xs.length == ys.length)
  | nref {n : Nat} {x : V} {a : Addr} {xs : List V} (hx : flatV x = true) (ha : SqL K H a xs ∨ SqT K H a xs) : EqD K H n x (.ref a) false
  | refn {n : Nat} {x : V} {a : Addr} {xs : List V} (hx : flatV x = true) (ha : SqL K H a xs ∨ SqT K H a xs) : EqD K H n (.ref a) x false
section
variable {X : Cx} {pins : List (Addr × Obj)} {σ : St} {H : Hp} {s : Shared}
theorem nth_of {xs : List V} {its : List Value} (r : Vals xs its) {j : Nat} (h : j < its.toArray.size) : ∃ x, xs[j]? = some x ∧ RelV x its.toArray[j] := by
  have hl := r.length
  have hj : j < its.length := by simpa using h
  have hx : xs[j]? = some (xs[j]'(by omega)) := List.getElem?_eq_getElem (by omega)
  obtain ⟨u, hu, ru⟩ := r.get hx
  refine ⟨_, hx, ?_⟩
  have e : its.toArray[j] = u := by
    rw [List.getElem?_eq_getElem hj] at hu
    simpa using Option.some.inj hu
  rw [e]
  exact ru
theorem eqAt_D (I : Inv X pins σ H s) : ∀ {n : Nat} {x y : V} {k : Bool}, EqD X.K H n x y k → ∀ (A : Around), A.units + n < cLine → ∀ {u v : Value}, RelV x u → RelV y v → SeqAt.EqAt A s u v k := by
  intro n x y k h
  induction h with
  | flat hx hy => exact fun A _ u v ru rv => eqAt_V ru rv hx hy
  | same =>
    intro A _ u v ru rv
    cases ru; cases rv
    exact SeqAt.EqAt.same _
  | len ha hb hab hl =>
    intro A hu u v ru rv
    cases ru; cases rv
    obtain ⟨its, r1, p1, _⟩ := I.list ha
    obtain ⟨its2, r2, p2, _⟩ := I.list hb
    have l1 := r1.length
    have l2 := r2.length
    refine .of_refs hab (.lists_lengths p1.isList p2.isList (by simp; omega) (by omega))
  | @lst n a b xs ys es ha hb hab hl he ih =>
    intro A hu u v ru rv
    cases ru; cases rv
    obtain ⟨its, r1, p1, _⟩ := I.list ha
    obtain ⟨its2, r2, p2, _⟩ := I.list hb
    have l1 := r1.length
    have l2 := r2.length
    have e : (List.range xs.length).all es = (List.range its.toArray.size).all es := by rw [List.size_toArray, l1]
    rw [e]
    refine .of_refs hab (.lists p1.isList p2.isList (by simp; omega) (by omega) fun j h1 h2 => ?_)
    obtain ⟨x, hx, rx⟩ := nth_of r1 h1
    obtain ⟨y, hy, ry⟩ := nth_of r2 h2
    exact ih j x y hx hy A.in1 (by show A.units + 1 + n < cLine; omega) rx ry
  | @tup n a b xs ys es ha hb hab he ih =>
    intro A hu u v ru rv
    cases ru; cases rv
    obtain ⟨its, r1, p1, _⟩ := I.tuple ha
    obtain ⟨its2, r2, p2, _⟩ := I.tuple hb
    have l1 := r1.length
    have l2 := r2.length
    have e : ((List.range (min xs.length ys.length)).all es && xs.length == ys.length) = ((List.range (min its.toArray.size its2.toArray.size)).all es && its.toArray.size == its2.toArray.size) := by rw [List.size_toArray, List.size_toArray, l1, l2]
    rw [e]
    refine .of_refs hab (.tuples (show s.heap.IsTuple a its.toArray from p1) (show s.heap.IsTuple b its2.toArray from p2) (by omega) fun j h1 h2 => ?_)
    obtain ⟨x, hx, rx⟩ := nth_of r1 h1
    obtain ⟨y, hy, ry⟩ := nth_of r2 h2
    exact ih j x y hx hy A.in1 (by show A.units + 1 + n < cLine; omega) rx ry
  | @nref n x a xs hx ha =>
    intro A hu u v ru rv
    cases rv
    rcases ha with ha | ha
    · obtain ⟨its, r1, p1, _⟩ := I.list ha
      have hl := p1.isList
      cases x with
      | non => cases ru; exact .none_list hl (by omega)
      | bl b => cases ru; exact .bool_list b hl (by omega)
      | int b => obtain ⟨t, rfl⟩ := ru; exact .int_list b t hl (by omega)
      | str b => obtain ⟨t, rfl⟩ := ru; exact .str_list b t hl (by omega)
      | _ => simp [flatV] at hx
    · obtain ⟨its, r1, p1, _⟩ := I.tuple ha
      have hl : s.heap.IsTuple a its.toArray := p1
      cases x with
      | non => cases ru; exact .none_tuple hl (by omega)
      | bl b => cases ru; exact .bool_tuple b hl (by omega)
      | int b => obtain ⟨t, rfl⟩ := ru; exact .int_tuple b t hl (by omega)
      | str b => obtain ⟨t, rfl⟩ := ru; exact .str_tuple b t hl (by omega)
      | _ => simp [flatV] at hx
  | @refn n x a xs hx ha =>
    intro A hu u v ru rv
    cases ru
    rcases ha with ha | ha
    · obtain ⟨its, r1, p1, _⟩ := I.list ha
      have hl := p1.isList
      cases x with
      | non => cases rv; exact .list_none hl (by omega)
      | bl b => cases rv; exact .list_bool b hl (by omega)
      | int b => obtain ⟨t, rfl⟩ := rv; exact .list_int b t hl (by omega)
      | str b => obtain ⟨t, rfl⟩ := rv; exact .list_str b t hl (by omega)
      | _ => simp [flatV] at hx
    · obtain ⟨its, r1, p1, _⟩ := I.tuple ha
      have hl : s.heap.IsTuple a its.toArray := p1
      cases x with
      | non => cases rv; exact .tuple_none hl (by omega)
      | bl b => cases rv; exact .tuple_bool b hl (by omega)
      | int b => obtain ⟨t, rfl⟩ := rv; exact .tuple_int b t hl (by omega)
      | str b => obtain ⟨t, rfl⟩ := rv; exact .tuple_str b t hl (by omega)
      | _ => simp [flatV] at hx
end
inductive EqT (K : PySem.W.Frag) (H : Hp) : Nat → V → V → Bool → Prop
  | len {n : Nat} {a b : Addr} {xs ys : List V} (ha : SqL K H a xs) (hb : SqL K H b ys) (hl : xs.length ≠ ys.length) : EqT K H (n + 1) (.ref a) (.ref b) false
  | lst {n : Nat} {a b : Addr} {xs ys : List V} {es : Nat → Bool} (ha : SqL K H a xs) (hb : SqL K H b ys) (hl : xs.length = ys.length)
      (he : ∀ i x y, xs[i]? = some x → ys[i]? = some y → EqD K H n x y (es i)) : EqT K H (n + 1) (.ref a) (.ref b) ((List.range xs.length).all es)
  | tup {n : Nat} {a b : Addr} {xs ys : List V} {es : Nat → Bool} (ha : SqT K H a xs) (hb : SqT K H b ys)
      (he : ∀ i x y, xs[i]? = some x → ys[i]? = some y → EqD K H n x y (es i)) : EqT K H (n + 1) (.ref a) (.ref b) ((List.range (min xs.length ys.length)).all es && xs.length == ys.length)
section
variable {X : Cx}
theorem op_eqT {n : Nat} (hu : X.A.units + n < cLine) : OpR X (compareOp .Eq) (fun x y H Q => ∃ k, EqT X.K H n x y k ∧ Q (.bl k) H) := by
  intro pins s σ H x y v u Q I rx ry h
  obtain ⟨k, h, q⟩ := h
  cases h with
  | @len n a b xs ys ha hb hl =>
    cases rx; cases ry
    obtain ⟨its, r1, p1, _⟩ := I.list ha
    obtain ⟨its2, r2, p2, _⟩ := I.list hb
    have l1 := r1.length
    have l2 := r2.length
    exact SeqAt.eq_list_lengthsAt p1.isList p2.isList (by simp; omega) (by omega) (fin_bl I q rfl)
  | @lst n a b xs ys es ha hb hl he =>
    cases rx; cases ry
    obtain ⟨its, r1, p1, _⟩ := I.list ha
    obtain ⟨its2, r2, p2, _⟩ := I.list hb
    have l1 := r1.length
    have l2 := r2.length
    refine SeqAt.eq_listAt (e := es) p1.isList p2.isList (by simp; omega) (by omega) (fun j h1 h2 => ?_) (fin_bl I q (by rw [List.size_toArray, l1]))
    obtain ⟨x, hx, rx⟩ := nth_of r1 h1
    obtain ⟨y, hy, ry⟩ := nth_of r2 h2
    exact eqAt_D I (he j x y hx hy) X.A.in1 (by show X.A.units + 1 + n < cLine; omega) rx ry
  | @tup n a b xs ys es ha hb he =>
    cases rx; cases ry
    obtain ⟨its, r1, p1, _⟩ := I.tuple ha
    obtain ⟨its2, r2, p2, _⟩ := I.tuple hb
    have l1 := r1.length
    have l2 := r2.length
    refine SeqAt.eq_tupleAt (e := es) (show s.heap.IsTuple a its.toArray from p1) (show s.heap.IsTuple b its2.toArray from p2) (by omega) (fun j h1 h2 => ?_) (fin_bl I q (by rw [List.size_toArray, List.size_toArray, l1, l2]))
    obtain ⟨x, hx, rx⟩ := nth_of r1 h1
    obtain ⟨y, hy, ry⟩ := nth_of r2 h2
    exact eqAt_D I (he j x y hx hy) X.A.in1 (by show X.A.units + 1 + n < cLine; omega) rx ry
theorem op_neT {n : Nat} (hu : X.A.units + n < cLine) : OpR X (compareOp .NotEq) (fun x y H Q => ∃ k, EqT X.K H n x y k ∧ Q (.bl (!k)) H) := by
  intro pins s σ H x y v u Q I rx ry h
  obtain ⟨k, h, q⟩ := h
  cases h with
  | @len n a b xs ys ha hb hl =>
    cases rx; cases ry
    obtain ⟨its, r1, p1, _⟩ := I.list ha
    obtain ⟨its2, r2, p2, _⟩ := I.list hb
    have l1 := r1.length
    have l2 := r2.length
    exact EqBoolInt.of_rcne (SeqAt.RcNeAt.lists_lengths p1.isList p2.isList (by simp; omega) (by omega)) (fin_bl I q rfl)
  | @lst n a b xs ys es ha hb hl he =>
    cases rx; cases ry
    obtain ⟨its, r1, p1, _⟩ := I.list ha
    obtain ⟨its2, r2, p2, _⟩ := I.list hb
    have l1 := r1.length
    have l2 := r2.length
    refine EqBoolInt.of_rcne (SeqAt.RcNeAt.lists (e := es) p1.isList p2.isList (by simp; omega) (by omega) (fun j h1 h2 => ?_)) (fin_bl I q (by rw [List.size_toArray, l1]))
    obtain ⟨x, hx, rx⟩ := nth_of r1 h1
    obtain ⟨y, hy, ry⟩ := nth_of r2 h2
    exact eqAt_D I (he j x y hx hy) X.A.in1 (by show X.A.units + 1 + n < cLine; omega) rx ry
  | @tup n a b xs ys es ha hb he =>
    cases rx; cases ry
    obtain ⟨its, r1, p1, _⟩ := I.tuple ha
    obtain ⟨its2, r2, p2, _⟩ := I.tuple hb
    have l1 := r1.length
    have l2 := r2.length
    refine EqBoolInt.of_rcne (SeqAt.RcNeAt.tuples (e := es) (show s.heap.IsTuple a its.toArray from p1) (show s.heap.IsTuple b its2.toArray from p2) (by omega) (fun j h1 h2 => ?_)) (fin_bl I q (by rw [List.size_toArray, List.size_toArray, l1, l2]))
    obtain ⟨x, hx, rx⟩ := nth_of r1 h1
    obtain ⟨y, hy, ry⟩ := nth_of r2 h2
    exact eqAt_D I (he j x y hx hy) X.A.in1 (by show X.A.units + 1 + n < cLine; omega) rx ry
end
def binA (op : Operator) (x y : V) (H : Hp) (Q : VK) : Prop := match op, x, y with
  | .Add, .int i, .int j => Q (.int (i + j)) H
  | .Add, .str i, .str j => i.length + j.length ≤ sizeLine ∧ Q (.str (i ++ j)) H
  | .Add, .ref a, .ref b => rCat (.ref a) (.ref b) H Q
  | .Sub, .int i, .int j => Q (.int (i - j)) H
  | .Mult, .int i, .int j => CMul i j ∧ Q (.int (i * j)) H
  | .FloorDiv, .int i, .int j => CDiv i j ∧ Q (.int (i / j)) H
  | .Mod, .int i, .int j => 0 < j ∧ Q (.int (i % j)) H
  | .Pow, .int i, .int j => CPow i j ∧ Q (.int (i ^ j.toNat)) H
  | _, _, _ => False
section
variable {X : Cx} {a b c : Expr} {ta tb tc : TE} {pos : Pos}
theorem op_bin (op : Operator) : OpR X (binaryOp op) (binA op) := by
  intro pins s σ H x y v u Q I rx ry h
  unfold binA at h
  split at h
  · exact op_add pins s σ H _ _ v u Q I rx ry ⟨_, _, rfl, rfl, h⟩
  · exact op_add_str pins s σ H _ _ v u Q I rx ry ⟨_, _, rfl, rfl, h.1, h.2⟩
  · exact op_cat pins s σ H _ _ v u Q I rx ry h
  · exact op_sub pins s σ H _ _ v u Q I rx ry ⟨_, _, rfl, rfl, h⟩
  · exact op_mul pins s σ H _ _ v u Q I rx ry ⟨_, _, rfl, rfl, h.1, h.2⟩
  · exact op_fdiv pins s σ H _ _ v u Q I rx ry ⟨_, _, rfl, rfl, h.1, h.2⟩
  · exact op_mod pins s σ H _ _ v u Q I rx ry ⟨_, _, rfl, rfl, h.1, h.2⟩
  · exact op_pow pins s σ H _ _ v u Q I rx ry ⟨_, _, rfl, rfl, h.1, h.2⟩
  · exact h.elim
def eqB : V → V → Option Bool
  | .non, .non => some true
  | .int i, .int j => some (decide (i = j))
  | .bl i, .bl j => some (decide (i = j))
  | .str i, .str j => some (decide (i = j))
  | .non, .int _ => some false | .int _, .non => some false | .non, .bl _ => some false | .bl _, .non => some false | .non, .str _ => some false | .str _, .non => some false
  | .int _, .str _ => some false | .str _, .int _ => some false | .bl _, .str _ => some false | .str _, .bl _ => some false
  | _, _ => none
theorem eqB_scal {x y : V} {k : Bool} (h : eqB x y = some k) : scal x y = true ∧ decide (x = y) = k := by
  cases x <;> cases y <;> simp [eqB, scal] at h ⊢ <;> first | exact h | (subst h; rfl)
def cmpA (K : PySem.W.Frag) (op : CmpOp) (x y : V) (H : Hp) (Q : VK) : Prop := match op, x, y with
  | .Eq, .ref a, .ref b => ∃ k, EqT K H 20 (.ref a) (.ref b) k ∧ Q (.bl k) H
  | .NotEq, .ref a, .ref b => ∃ k, EqT K H 20 (.ref a) (.ref b) k ∧ Q (.bl (!k)) H
  | .Eq, x, y => match eqB x y with | some k => Q (.bl k) H | none => False
  | .NotEq, x, y => match eqB x y with | some k => Q (.bl (!k)) H | none => False
  | .Lt, .int i, .int j => Q (.bl (decide (i < j))) H
  | .LtE, .int i, .int j => Q (.bl (decide (i ≤ j))) H
  | .Gt, .int i, .int j => Q (.bl (decide (j < i))) H
  | .GtE, .int i, .int j => Q (.bl (decide (j ≤ i))) H
  | .Lt, .str i, .str j => Q (.bl (decide (i.cps.toList < j.cps.toList))) H
  | .LtE, .str i, .str j => Q (.bl (!decide (j.cps.toList < i.cps.toList))) H
  | .In, .str i, .str j => Q (.bl (!(Builtin.Str.occurrences j i 0 j.length 1).isEmpty)) H
  | .NotIn, .str i, .str j => Q (.bl (!(!(Builtin.Str.occurrences j i 0 j.length 1).isEmpty))) H
  | .In, x, .ref p => rIn K false x (.ref p) H Q
  | .NotIn, x, .ref p => rIn K true x (.ref p) H Q
  | .Is, x, .non => Q (.bl (decide (x = .non))) H
  | .IsNot, x, .non => Q (.bl (!decide (x = .non))) H
  | _, _, _ => False
theorem op_cmp (op : CmpOp) (hu : X.A.units + 20 < cLine) : OpR X (compareOp op) (cmpA X.K op) := by
  intro pins s σ H x y v u Q I rx ry h
  unfold cmpA at h
  split at h
  · exact op_eqT hu pins s σ H _ _ v u Q I rx ry h
  · exact op_neT hu pins s σ H _ _ v u Q I rx ry h
  · split at h
    · rename_i k e
      obtain ⟨h1, h2⟩ := eqB_scal e
      exact op_eq pins s σ H _ _ v u Q I rx ry ⟨h1, by rw [h2]; exact h⟩
    · exact h.elim
  · split at h
    · rename_i k e
      obtain ⟨h1, h2⟩ := eqB_scal e
      exact op_ne pins s σ H _ _ v u Q I rx ry ⟨h1, by rw [h2]; exact h⟩
    · exact h.elim
  · exact op_lt pins s σ H _ _ v u Q I rx ry ⟨_, _, rfl, rfl, h⟩
  · exact op_le pins s σ H _ _ v u Q I rx ry ⟨_, _, rfl, rfl, h⟩
  · exact op_gt pins s σ H _ _ v u Q I rx ry ⟨_, _, rfl, rfl, h⟩
  · exact op_ge pins s σ H _ _ v u Q I rx ry ⟨_, _, rfl, rfl, h⟩
  · exact op_lt_str pins s σ H _ _ v u Q I rx ry ⟨_, _, rfl, rfl, h⟩
  · exact op_le_str pins s σ H _ _ v u Q I rx ry ⟨_, _, rfl, rfl, h⟩
  · exact op_in_str pins s σ H _ _ v u Q I rx ry ⟨_, _, rfl, rfl, h⟩
  · exact op_notin_str pins s σ H _ _ v u Q I rx ry ⟨_, _, rfl, rfl, h⟩
  · exact op_in_seq pins s σ H _ _ v u Q I rx ry h
  · exact op_notIn_seq pins s σ H _ _ v u Q I rx ry h
  · exact op_isN pins s σ H _ _ v u Q I rx ry ⟨rfl, h⟩
  · exact op_notN pins s σ H _ _ v u Q I rx ry ⟨rfl, h⟩
  · exact h.elim
def cVar (i : Nat) : TE := fun σ H Q => match σ[i]? with | some (some v) => Q v H | _ => False
theorem cv (i : Nat) {x : Str} {pos : Pos} (hN : X.N[i]? = some x := by rfl) (hv : Vis X.env.scope x := by first | exact Or.inl rfl | exact Or.inr (Or.inl rfl) | exact Or.inr (Or.inr rfl)) (hd : (x == ("__debug__" : Str)) = false := by decide)
    (hcd : (x == ("__classdict__" : Str)) = false := by decide) : PE X (.Name x pos) (cVar i) := (pe_var hN hv hd hcd).imp fun σ H Q h => by
  unfold cVar at h
  split at h
  · rename_i v e; exact ⟨v, e, h⟩
  · exact h.elim
def cBin (op : Operator) (ta tb : TE) : TE := fun σ H Q => ta σ H fun x H1 => tb σ H1 fun y H2 => binA op x y H2 Q
theorem ce_bin {op : Operator} (ha : PE X a ta) (hb : PE X b tb) : PE X (.BinOp a op b pos) (cBin op ta tb) := pe_op (op_bin op) ha hb
def cCmp (K : PySem.W.Frag) (op : CmpOp) (ta tb : TE) : TE := fun σ H Q => ta σ H fun x H1 => tb σ H1 fun y H2 => cmpA K op x y H2 Q
def bOnly (Q : Bool → Hp → Prop) : VK := fun x H => match x with | .bl k => Q k H | _ => False
theorem bOnly_ex {Q : Bool → Hp → Prop} {x : V} {H : Hp} (h : bOnly Q x H) : ∃ k, x = .bl k ∧ Q k H := by
  unfold bOnly at h
  split at h
  · exact ⟨_, rfl, h⟩
  · exact h.elim
theorem ce_cmp {op : CmpOp} (hu : X.A.units + 20 < cLine) (ha : PE X a ta) (hb : PE X b tb) (hm : behindInMarks op b = false := by first | exact nomark _ | with_unfolding_all rfl) : PE X (.Compare a [op] [b] pos) (cCmp X.K op ta tb) := pe_cmpR (op_cmp op hu) ha hb hm
def cTest (t : TE) : TT := fun σ H Q => t σ H (bOnly Q)
theorem ct_cmp {op : CmpOp} (hu : X.A.units + 20 < cLine) (ha : PE X a ta) (hb : PE X b tb) (hm : behindInMarks op b = false := by first | exact nomark _ | with_unfolding_all rfl) : PT X (.Compare a [op] [b] pos) (cTest (cCmp X.K op ta tb)) := by
  intro pins s σ H Q I h
  refine wpAny_isTrue_Compare1 (thn (ha pins s σ H _ I h) fun v s1 ⟨x, H1, I1, r1, q1⟩ => thn (hb pins s1 σ H1 _ I1 q1) fun u s2 ⟨y, H2, I2, r2, q2⟩ =>
    thn (op_cmp op hu pins s2 σ H2 x y v u _ I2 r1 r2 q2) fun c s3 ⟨z, H3, I3, r3, q3⟩ => ?_) hm
  obtain ⟨k, e, q3⟩ := bOnly_ex q3
  subst e
  cases r3
  exact wpAny_truthy_bool ⟨H3, I3, q3⟩
def cChain (K : PySem.W.Frag) (op op' : CmpOp) (ta tb tc : TE) : TE := fun σ H Q => ta σ H fun x H1 => tb σ H1 fun y H2 => cmpA K op x y H2 (bOnly fun k H3 => if k = true then tc σ H3 fun w' H4 => cmpA K op' y w' H4 Q else Q (.bl false) H3)
def cChainT (K : PySem.W.Frag) (op op' : CmpOp) (ta tb tc : TE) : TT := fun σ H Q => ta σ H fun x H1 => tb σ H1 fun y H2 => cmpA K op x y H2 (bOnly fun k H3 => if k = true then tc σ H3 fun w' H4 => cmpA K op' y w' H4 (bOnly Q) else Q false H3)
theorem ct_val {e : Expr} {t : TE} (h : PE X e t) (he : ∀ whole, isTrue e X.env whole = (do let v ← whole; standAt e.pos; holding [v] (truthy v)) := by intro _; rfl) : PT X e (cTest t) := by
  intro pins s σ H Q I hw
  refine isTrue_plain (thn (h pins s σ H _ I hw) fun v s1 ⟨x, H1, I1, r1, q1⟩ => ?_) (he _)
  obtain ⟨d, rfl, q⟩ := bOnly_ex q1
  cases r1
  exact wpAny_truthy_bool ⟨H1, I1, q⟩
variable {rest : List Expr}
def cAndV (ta tb : TE) : TE := fun σ H Q => ta σ H (bOnly fun c H1 => if c = true then tb σ H1 Q else Q (.bl false) H1)
def cOrV (ta tb : TE) : TE := fun σ H Q => ta σ H (bOnly fun c H1 => if c = true then Q (.bl true) H1 else tb σ H1 Q)
def cNotV (ta : TE) : TE := fun σ H Q => ta σ H (bOnly fun c H1 => Q (.bl (!c)) H1)
theorem ce_and (ha : PE X a ta) (hb : PE X (.BoolOp .And (b :: rest) pos) tb) : PE X (.BoolOp .And (a :: b :: rest) pos) (cAndV ta tb) := by
  intro pins s σ H Q I h
  refine BoolOp_and (thn (ha pins s σ H _ I h) fun v s1 ⟨x, H1, I1, r1, q1⟩ => ?_)
  obtain ⟨c, rfl, q1⟩ := bOnly_ex q1
  cases r1
  refine wpAny_truthy_bool ?_
  cases c with
  | true => exact hb pins s1 σ H1 Q I1 q1
  | false => exact ⟨.bl false, H1, I1, rfl, q1⟩
theorem ce_not (ha : PE X a ta) : PE X (.UnaryOp .Not a pos) (cNotV ta) := by
  intro pins s σ H Q I h
  refine UnaryOp_ (thn (ha pins s σ H _ I h) fun v s1 ⟨x, H1, I1, r1, q1⟩ => ?_)
  obtain ⟨c, rfl, q1⟩ := bOnly_ex q1
  cases r1
  exact not_of (wpAny_truthy_bool ⟨.bl (!c), H1, I1, rfl, q1⟩)
def cNeg (ta : TE) : TE := fun σ H Q => ta σ H fun x H1 => match x with | .int i => Q (.int (-i)) H1 | _ => False
theorem ce_neg (ha : PE X a ta) : PE X (.UnaryOp .USub a pos) (cNeg ta) := by
  intro pins s σ H Q I h
  refine UnaryOp_ (thn (ha pins s σ H _ I h) fun v s1 ⟨x, H1, I1, r1, q1⟩ => ?_)
  cases x with
  | int i => exact un_neg pins s1 σ H1 _ v Q I1 r1 ⟨i, rfl, q1⟩
  | _ => exact q1.elim
end
end L2
namespace L2
open PySem PySem.Spec PyProof.Rows
theorem bo_len : bootBuiltins "len" = some (.builtin "len") := by decide +kernel
theorem bo_max : bootBuiltins "max" = some (.builtin "max") := by decide +kernel
theorem bo_isinstance : bootBuiltins "isinstance" = some (.builtin "isinstance") := by decide +kernel
theorem bo_sorted : bootBuiltins "sorted" = some (.builtin "sorted") := by decide +kernel
theorem bo_int : bootBuiltins "int" = some (.type "int") := by decide +kernel
theorem bo_bool : bootBuiltins "bool" = some (.type "bool") := by decide +kernel
theorem bo_list : bootBuiltins "list" = some (.type "list") := by decide +kernel
theorem bo_tuple : bootBuiltins "tuple" = some (.type "tuple") := by decide +kernel
theorem bo_enumerate : bootBuiltins "enumerate" = some (.type "enumerate") := by decide +kernel
inductive BT | int | bool | str | list | tuple | dict
  deriving DecidableEq
def BT.s : BT → String
  | .int => "int" | .bool => "bool" | .str => "str" | .list => "list" | .tuple => "tuple" | .dict => "dict"
def isSub : BT → BT → Bool
  | .bool, .int => true
  | .int, .int => true | .bool, .bool => true | .str, .str => true | .list, .list => true | .tuple, .tuple => true | .dict, .dict => true
  | _, _ => false
theorem kit_bt (K : PySem.W.Frag) (a T : BT) : PySem.W.kitOne K (.type a.s) (.type T.s) = some (isSub a T) := by
  cases a <;> cases T <;> kernel_rfl
theorem kit_non (K : PySem.W.Frag) (T : BT) : PySem.W.kitOne K (.type "NoneType") (.type T.s) = some false := by
  cases T <;> kernel_rfl
def isA (T : BT) (x : V) (H : Hp) (Q : VK) : Prop := match x with
  | .non => Q (.bl false) H
  | .bl _ => Q (.bl (isSub .bool T)) H
  | .int _ => Q (.bl (isSub .int T)) H
  | .str _ => Q (.bl (isSub .str T)) H
  | .ref a => match H a with
    | some (.lst _) => Q (.bl (isSub .list T)) H
    | some (.frz _ (.lst _)) => Q (.bl (isSub .list T)) H
    | some (.tup _) => Q (.bl (isSub .tuple T)) H
    | some (.dK _) => Q (.bl (isSub .dict T)) H
    | _ => False
  | _ => False
section
variable {X : Cx} {a b c e o : Expr} {ta tb tc te to : TE} {p p2 pos : Pos} {es : List Expr} {t : TA}
theorem is_ok (T : BT) {pins : List (Addr × Obj)} {s : Shared} {σ : St} {H : Hp} {x : V} {u : Value} {Q : VK} (I : Inv X pins σ H s) (rx : RelV x u) (h : isA T x H Q) : wpAny (model X.prog X.w) X.A (call (.builtin "isinstance") [u, .type T.s]) (EP X pins σ Q) X.xe s := by
  have fin : ∀ {k : Bool} {tv : Value}, TyOf X.K H x tv → PySem.W.kitOne X.K tv (.type T.s) = some k → Q (.bl k) H → wpAny (model X.prog X.w) X.A (call (.builtin "isinstance") [u, .type T.s]) (EP X pins σ Q) X.xe s := fun ty e q =>
    isinst_ok I rx ty e fun tk => ⟨.bl _, H, I.tok tk, rfl, q⟩
  unfold isA at h
  cases x with
  | non => exact fin .non (kit_non _ T) h
  | bl y => exact fin (.bl y) (kit_bt _ .bool T) h
  | int y => exact fin (.int y) (kit_bt _ .int T) h
  | str y => exact fin (.str y) (kit_bt _ .str T) h
  | ref d =>
    dsimp only at h
    split at h
    · rename_i e; exact fin (.lst e) (kit_bt _ .list T) h
    · rename_i e; exact fin (.frz e) (kit_bt _ .list T) h
    · rename_i e; exact fin (.tup e) (kit_bt _ .tuple T) h
    · rename_i e; exact fin (.dK e) (kit_bt _ .dict T) h
    · exact h.elim
  | _ => exact h.elim
def cIs (T : BT) (ta : TE) : TE := fun σ H Q => ta σ H fun x H1 => isA T x H1 Q
theorem ce_is (T : BT) {n : Str} (ha : PE X a ta) (hg : Gl X "isinstance") (hm : X.mg "isinstance" = none) (hgT : Gl X n) (hmT : X.mg n = none) (hv : bootBuiltins n = some (.type T.s)) (hn : n ≠ "__name__" := by decide) (hdb : (n == ("__debug__" : Str)) = false := by decide)
    (he : starEach [a, .Name n p2] X.env = (false, eval a X.env) :: starEach [.Name n p2] X.env := by rfl) (he2 : starEach [.Name n p2] X.env = (false, eval (.Name n p2) X.env) :: starEach [] X.env := by rfl) (hpl : (backTo pos (starEach [.Name n p2] X.env)).any (·.1) = false := by rfl) :
    PE X (.Call (.Name "isinstance" p) [a, .Name n p2] [] pos) (cIs T ta) := by
  intro pins s σ H Q I h
  refine wpAny_Call_Name_kw (ld_blt I hg hm bo_isinstance ?_ (by decide) (by decide))
  have hA : PA X [a, .Name n p2] (tCons ta (tCons (tC (.ty T.s)) tNil)) := pa_cons ha (pa_cons (pe_bltn hgT hmT hv rfl hn hdb) pa_nil he2) he
  refine PyProof.Rows.callWith_builtin1 (thn (hA pos pins s σ H (fun vs H1 => ∃ x, vs = [x, .ty T.s] ∧ isA T x H1 Q) I ?_) fun us s1 ⟨vs, H1, I1, r1, x, e, q1⟩ => ?_) he hpl
  · have mono : (fun (x : V) H1 => isA T x H1 Q) = fun x H1 => (tCons (tC (.ty T.s)) tNil) σ H1 fun xs H2 => ∃ y, x :: xs = [y, .ty T.s] ∧ isA T y H2 Q := by
      funext x H1
      apply propext
      constructor
      · intro q; exact ⟨x, rfl, q⟩
      · rintro ⟨y, e, q⟩
        have : x = y := by injection e
        subst this
        exact q
    show ta σ H _
    rw [← mono]
    exact h
  · subst e
    obtain ⟨u, w', rfl, ru, rt⟩ := vals2 r1
    cases rt
    exact is_ok T I1 ru q1
theorem IxR.imp {r r' : R2} (h : IxR X r) (i : ∀ x y H Q, r' x y H Q → r x y H Q) : IxR X r' := fun va sl pins s σ H x y v u Q I rx ry q hs => h va sl pins s σ H x y v u Q I rx ry (i x y H Q q) hs
def ixA (K : PySem.W.Frag) (x y : V) (H : Hp) (Q : VK) : Prop := match x, y with
  | .str z, .int i => z.length ≤ sizeLine ∧ ∃ c, atI z.cps.toList i = some c ∧ Q (.str ⟨#[c]⟩) H
  | .ref q, .int i => ∃ xs v, (SqL K H q xs ∨ SqT K H q xs) ∧ atI xs i = some v ∧ Q v H
  | _, _ => False
theorem ix_A : IxR X (ixA X.K) := (ix_seq (X := X)).imp fun x y H Q h => by
  unfold ixA at h
  split at h
  · obtain ⟨h1, c, h2, q⟩ := h
    exact .inr (.inr ⟨_, _, c, rfl, rfl, h1, h2, q⟩)
  · obtain ⟨xs, v, h1, h2, q⟩ := h
    rcases h1 with h1 | h1
    · exact .inl ⟨_, xs, _, v, rfl, rfl, h1, h2, q⟩
    · exact .inr (.inl ⟨_, xs, _, v, rfl, rfl, h1, h2, q⟩)
  · exact h.elim
def cIx (K : PySem.W.Frag) (ta tb : TE) : TE := fun σ H Q => ta σ H fun x H1 => tb σ H1 fun y H2 => ixA K x y H2 Q
theorem ce_ix (ha : PE X a ta) (hb : PE X b tb) (hs : PlainIx b := by exact fun _ _ => rfl) : PE X (.Subscript a b pos) (cIx X.K ta tb) := pe_ix ix_A ha hb hs
def cPart (t : TE) : TO := fun σ H Q => t σ H fun x H1 => match x with | .int i => Q (some i) H1 | _ => False
theorem SlR.imp {r r' : V → Option Int → Option Int → Hp → VK → Prop} (h : SlR X r) (i : ∀ x lo hi H Q, r' x lo hi H Q → r x lo hi H Q) : SlR X r' := fun pins s σ H x v vl vu lo hi sl Q I rx hs pl pu q => h pins s σ H x v vl vu lo hi sl Q I rx hs pl pu (i x lo hi H Q q)
def slA (K : PySem.W.Frag) (x : V) (lo hi : Option Int) (H : Hp) (Q : VK) : Prop := match x with
  | .str z => z.length ≤ sizeLine ∧ Q (.str (cutS z lo hi)) H
  | .ref d => ∃ xs, SqL K H d xs ∧ ∀ q, H q = none → Q (.ref q) (upd H q (.lst (cutV xs lo hi)))
  | _ => False
def cSl (K : PySem.W.Frag) (te : TE) (tl th : TO) : TE := fun σ H Q => te σ H fun x H1 => tl σ H1 fun l H2 => th σ H2 fun u H3 => slA K x l u H3 Q
def cB (r : List V → Hp → VK → Prop) (t : TA) : TE := fun σ H Q => t σ H fun vs H1 => r vs H1 Q
def lenA (K : PySem.W.Frag) (xs : List V) (H : Hp) (Q : VK) : Prop := match xs with
  | [.str z] => z.length ≤ sizeLine ∧ Q (.int z.length) H
  | [.ref d] => ∃ ys, (SqL K H d ys ∨ SqT K H d ys) ∧ Q (.int ys.length) H
  | _ => False
theorem call_lenA : CallR X (.builtin "len") (lenA X.K) := ((call_len_seq (X := X)).or call_len_str).imp fun xs H Q h => by
  unfold lenA at h
  split at h
  · exact .inr ⟨_, rfl, h.1, h.2⟩
  · obtain ⟨ys, h1, h2⟩ := h
    exact .inl ⟨_, ys, rfl, h1, h2⟩
  · exact h.elim
def minA (xs : List V) (H : Hp) (Q : VK) : Prop := match xs with
  | [.int i, .int j] => Q (.int (if j < i then j else i)) H
  | _ => False
def strA (xs : List V) (H : Hp) (Q : VK) : Prop := match xs with
  | [.int i] => i.natAbs.log2 < 1920 ∧ Q (.str (toString i)) H
  | _ => False
def intA (xs : List V) (H : Hp) (Q : VK) : Prop := match xs with
  | [.str x] => ∃ n, PySem.intText? x = some n ∧ x.length ≤ 640 ∧ Q (.int n) H
  | [.bl k] => Q (.int (if k then 1 else 0)) H
  | _ => False
def allA (K : PySem.W.Frag) (xs : List V) (H : Hp) (Q : VK) : Prop := match xs with
  | [.ref d] => ∃ ks : List Bool, SqL K H d (ks.map V.bl) ∧ Q (.bl (ks.all id)) H
  | _ => False
theorem ce_B {id : String} {x : Str} {r : List V → Hp → VK → Prop} (hc : CallR X (.builtin id) r) (hv : bootBuiltins x = some (.builtin id)) (hm : X.mg x = none) (ha : PA X (e :: es) t) (hg : Gl X x := by rfl) (hn : x ≠ "__name__" := by decide) (hdb : (x == ("__debug__" : Str)) = false := by decide)
    (he : starEach (e :: es) X.env = (false, eval e X.env) :: starEach es X.env := by rfl) (hpl : (backTo pos (starEach es X.env)).any (·.1) = false := by rfl) : PE X (.Call (.Name x p) (e :: es) [] pos) (cB r t) := pe_callB hc hg hm hv ha hn hdb he hpl
theorem ce_Ty {T : String} {x : Str} {r : List V → Hp → VK → Prop} (hc : CallR X (.type T) r) (hv : bootBuiltins x = some (.type T)) (hm : X.mg x = none) (ha : PA X (e :: es) t) (hg : Gl X x := by rfl) (hn : x ≠ "__name__" := by decide) (hdb : (x == ("__debug__" : Str)) = false := by decide)
    (he : starEach (e :: es) X.env = (false, eval e X.env) :: starEach es X.env := by rfl) (hpl : (backTo pos (starEach es X.env)).any (·.1) = false := by rfl) : PE X (.Call (.Name x p) (e :: es) [] pos) (cB r t) := pe_callTy hc hg hm hv ha hn hdb he hpl
def cSM (r : V → List V → Hp → VK → Prop) (to : TE) (t : TA) : TE := fun σ H Q => to σ H fun x H1 => match x with | .str z => t σ H1 fun xs H2 => r (.str z) xs H2 Q | _ => False
def cSM0 (r : V → List V → Hp → VK → Prop) (to : TE) : TE := fun σ H Q => to σ H fun x H1 => match x with | .str z => r (.str z) [] H1 Q | _ => False
def swA (x : V) (vs : List V) (H : Hp) (Q : VK) : Prop := match x, vs with
  | .str a, [.str b] => Q (.bl (b.cps.toList.isPrefixOf a.cps.toList)) H
  | _, _ => False
def joinA (K : PySem.W.Frag) (x : V) (vs : List V) (H : Hp) (Q : VK) : Prop := match x, vs with
  | .str sep, [.ref d] => ∃ ys : List Str, SqL K H d (ys.map V.str) ∧ (ys.map (·.length)).sum + ys.length * sep.length ≤ 16777216 ∧ Q (.str (Txt.join sep ys)) H
  | _, _ => False
def upA (x : V) (vs : List V) (H : Hp) (Q : VK) : Prop := match x, vs with
  | .str a, [] => a.length ≤ sizeLine ∧ (∀ c ∈ a.cps.toList, c < 128) ∧ Q (.str ⟨a.cps.map up1⟩) H
  | _, _ => False
def cApp (to te : TE) : TE := fun σ H Q => to σ H fun x H1 => match x with
  | .ref l => (∃ xs, H1 l = some (.lst xs)) ∧ te σ H1 fun y H2 => ∃ xs, H2 l = some (.lst xs) ∧ xs.length < sizeLine ∧ Q .non (upd H2 l (.lst (xs ++ [y])))
  | _ => False
theorem ce_app {apos cpos : Pos} (ho : PE X o to) (he : PE X e te) (hbase : attributeBase o "append" X.env (eval o X.env) = eval o X.env := by rfl)
    (hfew : ((backTo cpos (starEach [e] X.env)).all (fun x => !x.1) && (backToKw cpos (keywordEach [] X.env)).all (fun x => x.1.isSome)
      && decide ([e].length + ([] : List Keyword).length + (if ([] : List Keyword).isEmpty then 0 else 1) < 30)) = true := by rfl)
    (hline : (apos.endLine == cpos.line) = true := by rfl) (hs : starEach [e] X.env = (false, eval e X.env) :: starEach [] X.env := by rfl) (hplain : (backTo cpos (starEach [] X.env)).any (·.1) = false := by rfl) :
    PE X (.Call (.Attribute o "append" apos) [e] [] cpos) (cApp to te) := by
  intro pins s σ H Q I h
  refine wpAny_Call_method_late hbase hfew hline rfl (thn (ho pins s σ H _ I h) fun v s1 ⟨x, H1, I1, r1, q1⟩ => ?_)
  cases x with
  | ref l =>
    obtain ⟨⟨xs0, e0⟩, q1⟩ := q1
    have ty : tyV X.K "list" (.ref l) H1 := .inl ⟨rfl, xs0, SqL.of e0⟩
    obtain ⟨h1, h2⟩ := tyV_is I1 r1 ty
    refine ⟨"list", "list.append", PySem.F.plainAttrs_list, PySem.F.slot_list_append, PySem.F.type_list_append, h1, h2, ?_⟩
    have hA := (pa_cons he pa_nil hs : PA X [e] (tCons te tNil)) cpos pins s1 σ H1 (fun vs H2 => ∃ y, vs = [y] ∧ ∃ xs, H2 l = some (.lst xs) ∧ xs.length < sizeLine ∧ Q .non (upd H2 l (.lst (xs ++ [y])))) I1 (by
      show te σ H1 fun y H2 => ∃ y', [y] = [y'] ∧ _
      have : (fun (y : V) (H2 : Hp) => ∃ xs, H2 l = some (.lst xs) ∧ xs.length < sizeLine ∧ Q .non (upd H2 l (.lst (xs ++ [y])))) = fun y H2 => ∃ y', [y] = [y'] ∧ ∃ xs, H2 l = some (.lst xs) ∧ xs.length < sizeLine ∧ Q .non (upd H2 l (.lst (xs ++ [y']))) := by
        funext y H2
        apply propext
        constructor
        · intro z; exact ⟨y, rfl, z⟩
        · rintro ⟨y', e, z⟩
          have : y = y' := by injection e
          subst this; exact z
      rw [← this]
      exact q1)
    rw [hs] at hA ⊢
    refine Calls.callWith_builtin (by show (false || (backTo cpos (starEach [] X.env)).any (·.1)) = false; rw [hplain] <;> rfl) (Calls.evalArgs_plain ?_)
    exact thn hA fun us s2 ⟨vs, H2, I2, r2, y, e, xs, q3, q4, q5⟩ => mt_append pins s2 σ H2 _ vs v us Q I2 r1 r2 ⟨l, xs, y, rfl, e, q3, q4, q5⟩
  | _ => exact q1.elim
structure Cal (P : Program) (w : World) (K : PySem.W.Frag) (mg : Str → Option Value) (base : Heap) (name : Str) (ps : List Str) (k : Nat) (sp : Sp) : Prop where
  ex : ∃ f fd, FnOk P w K mg base CX0 k f fd ps sp ∧ mg name = some (.ref f) ∧ PySem.W.keepIn K (.ref f) = true ∧ Binds K fd ps []
theorem Cal.mono {P : Program} {w : World} {K : PySem.W.Frag} {mg : Str → Option Value} {base : Heap} {name : Str} {ps : List Str} {j k : Nat} {sp : Sp} (C : Cal P w K mg base name ps j sp) (h : j ≤ k) : Cal P w K mg base name ps k sp := by
  obtain ⟨f, fd, F, a, b, c⟩ := C.ex
  exact ⟨f, fd, F.mono h, a, b, c⟩
def cCall (sp : Sp) (t : TA) : TE := fun σ H Q => t σ H fun vs H1 => sp vs H1 Q E0
theorem ce_call {name : Str} {ps : List Str} {k j : Nat} {sp : Sp} (C : Cal X.prog X.w X.K X.mg X.base name ps k sp) (hr : Room j X.A) (hkj : k ≤ j) (ha : PA X (e :: es) t) (hg : Gl X name := by rfl) (hdb : (name == ("__debug__" : Str)) = false := by decide)
    (he : starEach (e :: es) X.env = (false, eval e X.env) :: starEach es X.env := by rfl) (hpl : (backTo pos (starEach es X.env)).any (·.1) = false := by rfl) : PE X (.Call (.Name name p) (e :: es) [] pos) (cCall sp t) := by
  obtain ⟨f, fd, F, hm, hk, hb⟩ := C.ex
  refine (pe_call F (hr.mono hkj) hg hm hk hb .nil pass0 ha hdb he hpl : PE X _ (tCall sp [] E0 t)).imp fun σ H Q h => ?_
  unfold tCall
  simp only [List.append_nil]
  exact h
end
end L2
namespace PySem
namespace F
end F
end PySem
namespace L2
open PySem PySem.Spec PyProof.Rows
section
variable {prog : Program} {w : World} {A : Around} {E : Value → Shared → Prop} {s : Shared}
end
section
variable {X : Cx} {o e : Expr} {to te : TE}
def cJR (K : PySem.W.Frag) (to te : TE) : TE := fun σ H Q => to σ H fun x H1 => match x with
  | .str sep => te σ H1 fun y H2 => match y with
    | .ref d => ∃ ys : List Str, SqL K H2 d (ys.map V.str) ∧ (ys.map (·.length)).sum + ys.length * sep.length ≤ 16777216 ∧ Q (.str (Txt.join sep ys.reverse)) H2
    | _ => False
  | _ => False
end
end L2
namespace L2
open PySem PySem.Spec PyProof.Rows
def Its (x : Str) : It := ⟨fun i _ => i < x.length, fun i H v H' => H' = H ∧ ∃ c, x.cps.toList[i]? = some c ∧ v = .str ⟨#[c]⟩, fun i _ => x.length ≤ i⟩
def strIt (ty : String) : Prop := ty = "str_ascii_iterator" ∨ ty = "str_iterator"
section
variable {X : Cx} {tg : Expr}
def iStr (tl : TE) : TI := fun σ H R => tl σ H fun v H1 => match v with | .str x => R (Its x) H1 | _ => False
end
end L2
namespace L2
open PySem PySem.Spec PyProof.Rows
section
variable {X : Cx}
theorem pe_globE {x : Str} {v : V} {pos : Pos} (hg : Gl X x) (h : ∃ u, X.mg x = some u ∧ RelV v u) (hd : (x == ("__debug__" : Str)) = false := by decide) : PE X (.Name x pos) (tC v) := by
  obtain ⟨u, hm, r⟩ := h
  exact pe_glob hg hm r hd
end
theorem hu20 {A : Around} {k : Nat} (hr : Room k A) : A.units + 20 < cLine := by
  have := hr.units
  omega
theorem Same.upd {H H' : Hp} {d : Addr} {o : HO} (h : Same H H') (hd : H' d = none) : Same H (upd H' d o) := fun b ob e => by
  have e' := h b ob e
  rw [upd_ne (ne_of_none e' hd)]
  exact e'
theorem Same.get {H H' : Hp} (h : Same H H') {b : Addr} {o : HO} (e : H b = some o) : H' b = some o := h b o e
end L2
namespace L2
open PySem PySem.Spec PyProof.Rows
section
variable {X : Cx} {a b c e o : Expr} {ta tb tc te to : TE} {p p2 pos : Pos} {es : List Expr} {t : TA}
theorem kcmp (K : PySem.W.Frag) {op : CmpOp} (hu : X.A.units + 20 < cLine) (ha : PE X a ta) (hb : PE X b tb) (hm : behindInMarks op b = false := by first | exact nomark _ | with_unfolding_all rfl) (hK : X.K = K := by rfl) : PE X (.Compare a [op] [b] pos) (cCmp K op ta tb) := by
  subst hK; exact ce_cmp hu ha hb hm
theorem ktcmp (K : PySem.W.Frag) {op : CmpOp} (hu : X.A.units + 20 < cLine) (ha : PE X a ta) (hb : PE X b tb) (hm : behindInMarks op b = false := by first | exact nomark _ | with_unfolding_all rfl) (hK : X.K = K := by rfl) : PT X (.Compare a [op] [b] pos) (cTest (cCmp K op ta tb)) := by
  subst hK; exact ct_cmp hu ha hb hm
theorem kix (K : PySem.W.Frag) (ha : PE X a ta) (hb : PE X b tb) (hs : PlainIx b := by exact fun _ _ => rfl) (hK : X.K = K := by rfl) : PE X (.Subscript a b pos) (cIx K ta tb) := by
  subst hK; exact ce_ix ha hb hs
theorem klen (K : PySem.W.Frag) (hK : X.K = K := by rfl) : CallR X (.builtin "len") (lenA K) := by
  subst hK; exact call_lenA
theorem kpl (K : PySem.W.Frag) {tg l : Expr} {tl : TE} (hl : PE X l tl) (hK : X.K = K := by rfl) : PI X tg l (iList K tl) := by
  subst hK; exact pi_list hl
theorem kgt (K : PySem.W.Frag) {n : Nat} {k : Nat} {t : TGs} (h : PGs X es t) (hc : X.calm = true := by rfl) (hn : (assignEach es X.env).length = n := by rfl) (hst : List.findIdx? (fun x => x.1) (assignEach es X.env) = none := by rfl) (hK : X.K = K := by rfl) : PG X (.Tuple es k pos) (gTup K n t) := by
  subst hK; exact pg_tup hc h hn hst
theorem kg {x : Str} {v : V} (h : ∃ u, X.mg x = some u ∧ RelV v u) (hg : Gl X x := by rfl) (hd : (x == ("__debug__" : Str)) = false := by decide) : PE X (.Name x pos) (tC v) := pe_globE hg h hd
theorem kis (T : BT) {n : Str} (hm : X.mg "isinstance" = none) (hmT : X.mg n = none) (hv : bootBuiltins n = some (.type T.s)) (ha : PE X a ta) (hg : Gl X "isinstance" := by rfl) (hgT : Gl X n := by rfl) (hn : n ≠ "__name__" := by decide) (hdb : (n == ("__debug__" : Str)) = false := by decide)
    (he : starEach [a, .Name n p2] X.env = (false, eval a X.env) :: starEach [.Name n p2] X.env := by rfl) (he2 : starEach [.Name n p2] X.env = (false, eval (.Name n p2) X.env) :: starEach [] X.env := by rfl) (hpl : (backTo pos (starEach [.Name n p2] X.env)).any (·.1) = false := by rfl) :
    PE X (.Call (.Name "isinstance" p) [a, .Name n p2] [] pos) (cIs T ta) := ce_is T ha hg hm hgT hmT hv hn hdb he he2 hpl
theorem kr1 {tg : Expr} {ta : TA} (hm : X.mg "range" = none) (ha : PA X [a] ta) (hg : Gl X "range" := by rfl) (hs : starEach [a] X.env = [(false, eval a X.env)] := by rfl) : PI X tg (.Call (.Name "range" p) [a] [] pos) (iRng1 ta) := pi_range1 hg hm ha hs
theorem cscope {N : List Str} {src : List (Option Nat)} {scope : Scope} (dsc : Scope) (XN : List Str) (h : compOk dsc XN N src scope = true := by decide +kernel) (he : X.env.scope = dsc := by rfl) (hN : X.N = XN := by rfl) : CompScope X N src scope := CompScope.of he hN h
theorem pg_name' {i : Nat} {x : Str} (N : List Str) (hN : N.Nodup := by decide +kernel) (hi : X.N[i]? = some x := by rfl) (hx : Loc X.env.scope x := by first | exact Or.inl rfl | exact Or.inr rfl) (hf : X.fn x = true ∨ X.env.scope.names.lookup x = some .local := by first | exact .inl rfl | exact .inr rfl) (hNX : X.N = N := by rfl) : PG X (.Name x pos) (gName i) :=
  pg_name (hNX ▸ hN) hi hx hf
theorem kcomp {N : List Str} {src : List (Option Nat)} {scope : Scope} {tg iter : Expr} {ifs : List Expr} {wi : TI} {g : TG} {tt : TT} (S : CompScope X N src scope) (hi : PI X tg iter wi) (hg : ∀ s H ex, PG (cxC X scope N s H ex) tg g) (ht : ∀ s H ex, PIfs (cxC X scope N s H ex) ifs tt) (he : ∀ s H ex, PE (cxC X scope N s H ex) e te)
    (hc : X.calm = true := by rfl) (hs : ∀ x, foldedSetIterable iter X.env x = pure x := by intro _; rfl) : PE X (.ListComp e [⟨tg, iter, ifs, 0⟩] scope pos) (tComp wi g tt te src) := pe_comp hc S hi hg ht he hs
end
end L2
namespace L2
open PySem PySem.Spec PyProof.Rows
theorem r_eq_int {K : PySem.W.Frag} {i j : Int} {H : Hp} {Q : VK} : (cmpA K .Eq (.int i) (.int j) H Q) = (Q (.bl (decide (i = j))) H) := rfl
theorem r_ne_int {K : PySem.W.Frag} {i j : Int} {H : Hp} {Q : VK} : (cmpA K .NotEq (.int i) (.int j) H Q) = (Q (.bl (!decide (i = j))) H) := rfl
theorem r_eq_str {K : PySem.W.Frag} {i j : Str} {H : Hp} {Q : VK} : (cmpA K .Eq (.str i) (.str j) H Q) = (Q (.bl (decide (i = j))) H) := rfl
theorem r_ne_str {K : PySem.W.Frag} {i j : Str} {H : Hp} {Q : VK} : (cmpA K .NotEq (.str i) (.str j) H Q) = (Q (.bl (!decide (i = j))) H) := rfl
theorem r_eq_bl {K : PySem.W.Frag} {i j : Bool} {H : Hp} {Q : VK} : (cmpA K .Eq (.bl i) (.bl j) H Q) = (Q (.bl (decide (i = j))) H) := rfl
theorem r_ne_bl {K : PySem.W.Frag} {i j : Bool} {H : Hp} {Q : VK} : (cmpA K .NotEq (.bl i) (.bl j) H Q) = (Q (.bl (!decide (i = j))) H) := rfl
theorem r_eq_nn {K : PySem.W.Frag}  {H : Hp} {Q : VK} : (cmpA K .Eq .non .non H Q) = (Q (.bl true) H) := rfl
theorem r_ne_nn {K : PySem.W.Frag}  {H : Hp} {Q : VK} : (cmpA K .NotEq .non .non H Q) = (Q (.bl (!true)) H) := rfl
theorem r_eq_int_str {K : PySem.W.Frag} {i : Int} {j : Str} {H : Hp} {Q : VK} : (cmpA K .Eq (.int i) (.str j) H Q) = (Q (.bl false) H) := rfl
theorem r_ne_int_str {K : PySem.W.Frag} {i : Int} {j : Str} {H : Hp} {Q : VK} : (cmpA K .NotEq (.int i) (.str j) H Q) = (Q (.bl (!false)) H) := rfl
theorem r_eq_int_non {K : PySem.W.Frag} {i : Int}  {H : Hp} {Q : VK} : (cmpA K .Eq (.int i) .non H Q) = (Q (.bl false) H) := rfl
theorem r_ne_int_non {K : PySem.W.Frag} {i : Int}  {H : Hp} {Q : VK} : (cmpA K .NotEq (.int i) .non H Q) = (Q (.bl (!false)) H) := rfl
theorem r_eq_str_int {K : PySem.W.Frag} {i : Str} {j : Int} {H : Hp} {Q : VK} : (cmpA K .Eq (.str i) (.int j) H Q) = (Q (.bl false) H) := rfl
theorem r_ne_str_int {K : PySem.W.Frag} {i : Str} {j : Int} {H : Hp} {Q : VK} : (cmpA K .NotEq (.str i) (.int j) H Q) = (Q (.bl (!false)) H) := rfl
theorem r_eq_str_bl {K : PySem.W.Frag} {i : Str} {j : Bool} {H : Hp} {Q : VK} : (cmpA K .Eq (.str i) (.bl j) H Q) = (Q (.bl false) H) := rfl
theorem r_ne_str_bl {K : PySem.W.Frag} {i : Str} {j : Bool} {H : Hp} {Q : VK} : (cmpA K .NotEq (.str i) (.bl j) H Q) = (Q (.bl (!false)) H) := rfl
theorem r_eq_str_non {K : PySem.W.Frag} {i : Str}  {H : Hp} {Q : VK} : (cmpA K .Eq (.str i) .non H Q) = (Q (.bl false) H) := rfl
theorem r_ne_str_non {K : PySem.W.Frag} {i : Str}  {H : Hp} {Q : VK} : (cmpA K .NotEq (.str i) .non H Q) = (Q (.bl (!false)) H) := rfl
theorem r_eq_bl_str {K : PySem.W.Frag} {i : Bool} {j : Str} {H : Hp} {Q : VK} : (cmpA K .Eq (.bl i) (.str j) H Q) = (Q (.bl false) H) := rfl
theorem r_ne_bl_str {K : PySem.W.Frag} {i : Bool} {j : Str} {H : Hp} {Q : VK} : (cmpA K .NotEq (.bl i) (.str j) H Q) = (Q (.bl (!false)) H) := rfl
theorem r_eq_bl_non {K : PySem.W.Frag} {i : Bool}  {H : Hp} {Q : VK} : (cmpA K .Eq (.bl i) .non H Q) = (Q (.bl false) H) := rfl
theorem r_ne_bl_non {K : PySem.W.Frag} {i : Bool}  {H : Hp} {Q : VK} : (cmpA K .NotEq (.bl i) .non H Q) = (Q (.bl (!false)) H) := rfl
theorem r_eq_non_int {K : PySem.W.Frag}  {j : Int} {H : Hp} {Q : VK} : (cmpA K .Eq .non (.int j) H Q) = (Q (.bl false) H) := rfl
theorem r_ne_non_int {K : PySem.W.Frag}  {j : Int} {H : Hp} {Q : VK} : (cmpA K .NotEq .non (.int j) H Q) = (Q (.bl (!false)) H) := rfl
theorem r_eq_non_str {K : PySem.W.Frag}  {j : Str} {H : Hp} {Q : VK} : (cmpA K .Eq .non (.str j) H Q) = (Q (.bl false) H) := rfl
theorem r_ne_non_str {K : PySem.W.Frag}  {j : Str} {H : Hp} {Q : VK} : (cmpA K .NotEq .non (.str j) H Q) = (Q (.bl (!false)) H) := rfl
theorem r_eq_non_bl {K : PySem.W.Frag}  {j : Bool} {H : Hp} {Q : VK} : (cmpA K .Eq .non (.bl j) H Q) = (Q (.bl false) H) := rfl
theorem r_ne_non_bl {K : PySem.W.Frag}  {j : Bool} {H : Hp} {Q : VK} : (cmpA K .NotEq .non (.bl j) H Q) = (Q (.bl (!false)) H) := rfl
theorem r_eq_rr {K : PySem.W.Frag} {a b : Addr} {H : Hp} {Q : VK} : (cmpA K .Eq (.ref a) (.ref b) H Q) = (∃ k, EqT K H 20 (.ref a) (.ref b) k ∧ Q (.bl k) H) := rfl
theorem r_ne_rr {K : PySem.W.Frag} {a b : Addr} {H : Hp} {Q : VK} : (cmpA K .NotEq (.ref a) (.ref b) H Q) = (∃ k, EqT K H 20 (.ref a) (.ref b) k ∧ Q (.bl (!k)) H) := rfl
theorem r_lt_int {K : PySem.W.Frag} {i j : Int} {H : Hp} {Q : VK} : (cmpA K .Lt (.int i) (.int j) H Q) = (Q (.bl (decide (i < j))) H) := rfl
theorem r_lte_int {K : PySem.W.Frag} {i j : Int} {H : Hp} {Q : VK} : (cmpA K .LtE (.int i) (.int j) H Q) = (Q (.bl (decide (i ≤ j))) H) := rfl
theorem r_gt_int {K : PySem.W.Frag} {i j : Int} {H : Hp} {Q : VK} : (cmpA K .Gt (.int i) (.int j) H Q) = (Q (.bl (decide (j < i))) H) := rfl
theorem r_gte_int {K : PySem.W.Frag} {i j : Int} {H : Hp} {Q : VK} : (cmpA K .GtE (.int i) (.int j) H Q) = (Q (.bl (decide (j ≤ i))) H) := rfl
theorem r_lt_str {K : PySem.W.Frag} {i j : Str} {H : Hp} {Q : VK} : (cmpA K .Lt (.str i) (.str j) H Q) = (Q (.bl (decide (i.cps.toList < j.cps.toList))) H) := rfl
theorem r_lte_str {K : PySem.W.Frag} {i j : Str} {H : Hp} {Q : VK} : (cmpA K .LtE (.str i) (.str j) H Q) = (Q (.bl (!decide (j.cps.toList < i.cps.toList))) H) := rfl
theorem r_in_str {K : PySem.W.Frag} {i j : Str} {H : Hp} {Q : VK} : (cmpA K .In (.str i) (.str j) H Q) = (Q (.bl (!(Builtin.Str.occurrences j i 0 j.length 1).isEmpty)) H) := rfl
theorem r_notin_str {K : PySem.W.Frag} {i j : Str} {H : Hp} {Q : VK} : (cmpA K .NotIn (.str i) (.str j) H Q) = (Q (.bl (!(!(Builtin.Str.occurrences j i 0 j.length 1).isEmpty))) H) := rfl
theorem r_in_int_ref {K : PySem.W.Frag} {i : Int} {d : Addr} {H : Hp} {Q : VK} : (cmpA K .In (.int i) (.ref d) H Q) = (rIn K false (.int i) (.ref d) H Q) := rfl
theorem r_notin_int_ref {K : PySem.W.Frag} {i : Int} {d : Addr} {H : Hp} {Q : VK} : (cmpA K .NotIn (.int i) (.ref d) H Q) = (rIn K true (.int i) (.ref d) H Q) := rfl
theorem r_is_int {K : PySem.W.Frag} {i : Int} {H : Hp} {Q : VK} : (cmpA K .Is (.int i) .non H Q) = (Q (.bl false) H) := rfl
theorem r_isnot_int {K : PySem.W.Frag} {i : Int} {H : Hp} {Q : VK} : (cmpA K .IsNot (.int i) .non H Q) = (Q (.bl true) H) := rfl
theorem r_in_str_ref {K : PySem.W.Frag} {i : Str} {d : Addr} {H : Hp} {Q : VK} : (cmpA K .In (.str i) (.ref d) H Q) = (rIn K false (.str i) (.ref d) H Q) := rfl
theorem r_notin_str_ref {K : PySem.W.Frag} {i : Str} {d : Addr} {H : Hp} {Q : VK} : (cmpA K .NotIn (.str i) (.ref d) H Q) = (rIn K true (.str i) (.ref d) H Q) := rfl
theorem r_is_str {K : PySem.W.Frag} {i : Str} {H : Hp} {Q : VK} : (cmpA K .Is (.str i) .non H Q) = (Q (.bl false) H) := rfl
theorem r_isnot_str {K : PySem.W.Frag} {i : Str} {H : Hp} {Q : VK} : (cmpA K .IsNot (.str i) .non H Q) = (Q (.bl true) H) := rfl
theorem r_in_bl_ref {K : PySem.W.Frag} {i : Bool} {d : Addr} {H : Hp} {Q : VK} : (cmpA K .In (.bl i) (.ref d) H Q) = (rIn K false (.bl i) (.ref d) H Q) := rfl
theorem r_notin_bl_ref {K : PySem.W.Frag} {i : Bool} {d : Addr} {H : Hp} {Q : VK} : (cmpA K .NotIn (.bl i) (.ref d) H Q) = (rIn K true (.bl i) (.ref d) H Q) := rfl
theorem r_is_bl {K : PySem.W.Frag} {i : Bool} {H : Hp} {Q : VK} : (cmpA K .Is (.bl i) .non H Q) = (Q (.bl false) H) := rfl
theorem r_isnot_bl {K : PySem.W.Frag} {i : Bool} {H : Hp} {Q : VK} : (cmpA K .IsNot (.bl i) .non H Q) = (Q (.bl true) H) := rfl
theorem r_in_non_ref {K : PySem.W.Frag}  {d : Addr} {H : Hp} {Q : VK} : (cmpA K .In .non (.ref d) H Q) = (rIn K false .non (.ref d) H Q) := rfl
theorem r_notin_non_ref {K : PySem.W.Frag}  {d : Addr} {H : Hp} {Q : VK} : (cmpA K .NotIn .non (.ref d) H Q) = (rIn K true .non (.ref d) H Q) := rfl
theorem r_is_non {K : PySem.W.Frag}  {H : Hp} {Q : VK} : (cmpA K .Is .non .non H Q) = (Q (.bl true) H) := rfl
theorem r_isnot_non {K : PySem.W.Frag}  {H : Hp} {Q : VK} : (cmpA K .IsNot .non .non H Q) = (Q (.bl false) H) := rfl
theorem r_in_ref_ref {K : PySem.W.Frag} {i : Addr} {d : Addr} {H : Hp} {Q : VK} : (cmpA K .In (.ref i) (.ref d) H Q) = (rIn K false (.ref i) (.ref d) H Q) := rfl
theorem r_notin_ref_ref {K : PySem.W.Frag} {i : Addr} {d : Addr} {H : Hp} {Q : VK} : (cmpA K .NotIn (.ref i) (.ref d) H Q) = (rIn K true (.ref i) (.ref d) H Q) := rfl
theorem r_is_ref {K : PySem.W.Frag} {i : Addr} {H : Hp} {Q : VK} : (cmpA K .Is (.ref i) .non H Q) = (Q (.bl false) H) := rfl
theorem r_isnot_ref {K : PySem.W.Frag} {i : Addr} {H : Hp} {Q : VK} : (cmpA K .IsNot (.ref i) .non H Q) = (Q (.bl true) H) := rfl
theorem r_add {i j : Int} {H : Hp} {Q : VK} : (binA .Add (.int i) (.int j) H Q) = (Q (.int (i + j)) H) := rfl
theorem r_adds {i j : Str} {H : Hp} {Q : VK} : (binA .Add (.str i) (.str j) H Q) = (i.length + j.length ≤ sizeLine ∧ Q (.str (i ++ j)) H) := rfl
theorem r_addr {a b : Addr} {H : Hp} {Q : VK} : (binA .Add (.ref a) (.ref b) H Q) = (rCat (.ref a) (.ref b) H Q) := rfl
theorem r_sub {i j : Int} {H : Hp} {Q : VK} : (binA .Sub (.int i) (.int j) H Q) = (Q (.int (i - j)) H) := rfl
theorem r_mul {i j : Int} {H : Hp} {Q : VK} : (binA .Mult (.int i) (.int j) H Q) = (CMul i j ∧ Q (.int (i * j)) H) := rfl
theorem r_fdiv {i j : Int} {H : Hp} {Q : VK} : (binA .FloorDiv (.int i) (.int j) H Q) = (CDiv i j ∧ Q (.int (i / j)) H) := rfl
theorem r_mod {i j : Int} {H : Hp} {Q : VK} : (binA .Mod (.int i) (.int j) H Q) = (0 < j ∧ Q (.int (i % j)) H) := rfl
theorem r_pow {i j : Int} {H : Hp} {Q : VK} : (binA .Pow (.int i) (.int j) H Q) = (CPow i j ∧ Q (.int (i ^ j.toNat)) H) := rfl
theorem r_ixs {K : PySem.W.Frag} {z : Str} {i : Int} {H : Hp} {Q : VK} : (ixA K (.str z) (.int i) H Q) = (z.length ≤ sizeLine ∧ ∃ c, atI z.cps.toList i = some c ∧ Q (.str ⟨#[c]⟩) H) := rfl
theorem r_ixr {K : PySem.W.Frag} {d : Addr} {i : Int} {H : Hp} {Q : VK} : (ixA K (.ref d) (.int i) H Q) = (∃ xs v, (SqL K H d xs ∨ SqT K H d xs) ∧ atI xs i = some v ∧ Q v H) := rfl
theorem r_sls {K : PySem.W.Frag} {z : Str} {lo hi : Option Int} {H : Hp} {Q : VK} : (slA K (.str z) lo hi H Q) = (z.length ≤ sizeLine ∧ Q (.str (cutS z lo hi)) H) := rfl
theorem r_slr {K : PySem.W.Frag} {d : Addr} {lo hi : Option Int} {H : Hp} {Q : VK} : (slA K (.ref d) lo hi H Q) = (∃ xs, SqL K H d xs ∧ ∀ q, H q = none → Q (.ref q) (upd H q (.lst (cutV xs lo hi)))) := rfl
theorem r_lens {K : PySem.W.Frag} {z : Str} {H : Hp} {Q : VK} : (lenA K [.str z] H Q) = (z.length ≤ sizeLine ∧ Q (.int z.length) H) := rfl
theorem r_lenr {K : PySem.W.Frag} {d : Addr} {H : Hp} {Q : VK} : (lenA K [.ref d] H Q) = (∃ ys, (SqL K H d ys ∨ SqT K H d ys) ∧ Q (.int ys.length) H) := rfl
theorem r_min {i j : Int} {H : Hp} {Q : VK} : (minA [.int i, .int j] H Q) = (Q (.int (if j < i then j else i)) H) := rfl
theorem r_str {i : Int} {H : Hp} {Q : VK} : (strA [.int i] H Q) = (i.natAbs.log2 < 1920 ∧ Q (.str (toString i)) H) := rfl
theorem r_ints {z : Str} {H : Hp} {Q : VK} : (intA [.str z] H Q) = (∃ n, PySem.intText? z = some n ∧ z.length ≤ 640 ∧ Q (.int n) H) := rfl
theorem r_intb {k : Bool} {H : Hp} {Q : VK} : (intA [.bl k] H Q) = (Q (.int (if k then 1 else 0)) H) := rfl
theorem r_all {K : PySem.W.Frag} {d : Addr} {H : Hp} {Q : VK} : (allA K [.ref d] H Q) = (∃ ks : List Bool, SqL K H d (ks.map V.bl) ∧ Q (.bl (ks.all id)) H) := rfl
theorem r_sw {a b : Str} {H : Hp} {Q : VK} : (swA (.str a) [.str b] H Q) = (Q (.bl (b.cps.toList.isPrefixOf a.cps.toList)) H) := rfl
theorem r_join {K : PySem.W.Frag} {a : Str} {d : Addr} {H : Hp} {Q : VK} : (joinA K (.str a) [.ref d] H Q) = (∃ ys : List Str, SqL K H d (ys.map V.str) ∧ (ys.map (·.length)).sum + ys.length * a.length ≤ 16777216 ∧ Q (.str (Txt.join a ys)) H) := rfl
theorem r_up {a : Str} {H : Hp} {Q : VK} : (upA (.str a) [] H Q) = (a.length ≤ sizeLine ∧ (∀ c ∈ a.cps.toList, c < 128) ∧ Q (.str ⟨a.cps.map up1⟩) H) := rfl
theorem r_isa_non {T : BT} {H : Hp} {Q : VK} : (isA T .non H Q) = (Q (.bl false) H) := rfl
theorem r_isa_bl {T : BT} {b : Bool} {H : Hp} {Q : VK} : (isA T (.bl b) H Q) = (Q (.bl (isSub .bool T)) H) := rfl
theorem r_isa_int {T : BT} {b : Int} {H : Hp} {Q : VK} : (isA T (.int b) H Q) = (Q (.bl (isSub .int T)) H) := rfl
theorem r_isa_str {T : BT} {b : Str} {H : Hp} {Q : VK} : (isA T (.str b) H Q) = (Q (.bl (isSub .str T)) H) := rfl
theorem r_b {k : Bool} {Q : Bool → Hp → Prop} {H : Hp} : bOnly Q (.bl k) H = Q k H := rfl
end L2
namespace L2
open PySem PySem.Spec PyProof.Rows
def plainE : Expr → Bool
  | .Starred _ _ => false
  | _ => true
theorem star_of {e : Expr} {es : List Expr} {env : Env} (h : plainE e = true) : starEach (e :: es) env = (false, eval e env) :: starEach es env := by
  cases e <;> first | rfl | cases h
theorem back_of {pos : Pos} {env : Env} : ∀ {es : List Expr}, es.all plainE = true → (backTo pos (starEach es env)).any (·.1) = false
  | [], _ => rfl
  | e :: es, h => by
    rw [List.all_cons, Bool.and_eq_true] at h
    rw [star_of h.1]
    show (false || (backTo pos (starEach es env)).any (·.1)) = false
    rw [back_of h.2]
    rfl
theorem all_of {pos : Pos} {env : Env} : ∀ {es : List Expr}, es.all plainE = true → (backTo pos (starEach es env)).all (fun x => !x.1) = true
  | [], _ => rfl
  | e :: es, h => by
    rw [List.all_cons, Bool.and_eq_true] at h
    rw [star_of h.1]
    show (!false && (backTo pos (starEach es env)).all (fun x => !x.1)) = true
    rw [all_of h.2]
    rfl
section
variable {X : Cx} {a b c e o : Expr} {ta tb tc te to : TE} {p p2 pos : Pos} {es : List Expr} {t : TA}
theorem pac (ha : PE X e te) (hr : PA X es t) (h : plainE e = true := by rfl) : PA X (e :: es) (tCons te t) := pa_cons ha hr (star_of h)
theorem kcall {name : Str} {ps : List Str} {k j : Nat} {sp : Sp} (C : Cal X.prog X.w X.K X.mg X.base name ps k sp) (hr : Room j X.A) (ha : PA X (e :: es) t) (hkj : k ≤ j := by decide) (hp : (e :: es).all plainE = true := by rfl) (hg : Gl X name := by rfl) (hdb : (name == ("__debug__" : Str)) = false := by decide) : PE X (.Call (.Name name p) (e :: es) [] pos) (cCall sp t) := by
  have hp' := hp
  rw [List.all_cons, Bool.and_eq_true] at hp'
  exact ce_call C hr hkj ha hg hdb (star_of hp'.1) (back_of hp'.2)
theorem kB {id : String} {x : Str} {r : List V → Hp → VK → Prop} (hc : CallR X (.builtin id) r) (hv : bootBuiltins x = some (.builtin id)) (hm : X.mg x = none) (ha : PA X (e :: es) t) (hp : (e :: es).all plainE = true := by rfl) (hg : Gl X x := by rfl) (hn : x ≠ "__name__" := by decide) (hdb : (x == ("__debug__" : Str)) = false := by decide) : PE X (.Call (.Name x p) (e :: es) [] pos) (cB r t) := by
  have hp' := hp
  rw [List.all_cons, Bool.and_eq_true] at hp'
  exact ce_B hc hv hm ha hg hn hdb (star_of hp'.1) (back_of hp'.2)
theorem kTy {T : String} {x : Str} {r : List V → Hp → VK → Prop} (hc : CallR X (.type T) r) (hv : bootBuiltins x = some (.type T)) (hm : X.mg x = none) (ha : PA X (e :: es) t) (hp : (e :: es).all plainE = true := by rfl) (hg : Gl X x := by rfl) (hn : x ≠ "__name__" := by decide) (hdb : (x == ("__debug__" : Str)) = false := by decide) : PE X (.Call (.Name x p) (e :: es) [] pos) (cB r t) := by
  have hp' := hp
  rw [List.all_cons, Bool.and_eq_true] at hp'
  exact ce_Ty hc hv hm ha hg hn hdb (star_of hp'.1) (back_of hp'.2)
end
end L2
namespace L2
open PySem
theorem tSeq_of {t u : TS} {D : Ends} {σ : St} {H : Hp} (P : St → Hp → Prop) (h : ∀ K : St → Hp → Prop, (∀ σ' H', P σ' H' → K σ' H') → t { D with nx := K } σ H) (h2 : ∀ σ' H', P σ' H' → u D σ' H') : tSeq t u D σ H := h (u D) h2
theorem st_asg {te : TE} {i : Nat} {u : TS} {D : Ends} {σ : St} {H : Hp} (P : V → Hp → Prop) (h : ∀ Q : VK, (∀ v H', P v H' → Q v H') → te σ H Q) (h2 : ∀ v H', P v H' → u D (σ.set i (some v)) H') : tSeq (tAsg te (gName i)) u D σ H := h _ h2
theorem st_ifH {c : TT} {t u : TS} {D : Ends} {σ : St} {H : Hp} (P : Bool → Hp → Prop) (hc : ∀ Q : Bool → Hp → Prop, (∀ b H', P b H' → Q b H') → c σ H Q) (h1 : ∀ H', P true H' → t { D with nx := u D } σ H') (h2 : ∀ H', P false H' → u D σ H') : tSeq (tIfS c t tNext) u D σ H := by
  refine hc _ fun b H' p => ?_
  cases b with
  | true => exact iteT (h1 H' p)
  | false => exact iteF (h2 H' p)
end L2
namespace L2
open PySem
def constVs : List Expr → Option (List V)
  | [] => some []
  | .Constant (.int i) _ _ :: r => (constVs r).map (V.int i :: ·)
  | .Constant (.str x) _ _ :: r => (constVs r).map (V.str x :: ·)
  | .Constant (.bool b) _ _ :: r => (constVs r).map (V.bl b :: ·)
  | .Constant .none _ _ :: r => (constVs r).map (V.non :: ·)
  | _ => none
def cCs (vs : List V) : TA := fun _ H Q => Q vs H
theorem pa_consts {X : Cx} : ∀ {es : List Expr} {vs : List V}, constVs es = some vs → PA X es (cCs vs) := by
  intro es
  induction es with
  | nil => intro vs h; cases h; exact pa_nil
  | cons e r ih =>
    intro vs h
    unfold constVs at h
    split at h
    · rename_i e1; cases e1
    · rename_i e1
      cases e1
      obtain ⟨ws, h1, h2⟩ := Option.map_eq_some_iff.mp h
      subst h2
      exact pac pe_int (ih h1)
    · rename_i e1
      cases e1
      obtain ⟨ws, h1, h2⟩ := Option.map_eq_some_iff.mp h
      subst h2
      exact pac pe_str (ih h1)
    · rename_i e1
      cases e1
      obtain ⟨ws, h1, h2⟩ := Option.map_eq_some_iff.mp h
      subst h2
      exact pac pe_bl (ih h1)
    · rename_i e1
      cases e1
      obtain ⟨ws, h1, h2⟩ := Option.map_eq_some_iff.mp h
      subst h2
      exact pac pe_non (ih h1)
    · cases h
end L2
namespace L2
open PySem
theorem comp_inv {g : TG} {tt : TT} {te : TE} {src : List (Option Nat)} {σ : St} {Q : VK} {J : It} {H1 : Hp} (n : Nat) (N : Nat → List V → St → Hp → Prop) (hn : n ≤ sizeLine) (hlen : ∀ i ys σ H, N i ys σ H → ys.length ≤ i)
    (hgo : ∀ i ys σ H, N i ys σ H → i < n → J.go i H) (hstop : ∀ ys σ H, N n ys σ H → J.stop n H) (h0 : N 0 [] (subSt src σ) H1)
    (hturn : ∀ i ys σ' H' x H2, i < n → N i ys σ' H' → J.yld i H' x H2 → ∀ (Kt : V → St → Hp → Prop) (Kf : St → Hp → Prop), (∀ v σ3 H5, N (i + 1) (ys ++ [v]) σ3 H5 → Kt v σ3 H5) → (∀ σ3 H4, N (i + 1) ys σ3 H4 → Kf σ3 H4) →
      g x σ' H2 fun σ3 H3 => tt σ3 H3 fun b H4 => if b = true then te σ3 H4 fun v H5 => Kt v σ3 H5 else Kf σ3 H4)
    (hQ : ∀ ys σ' H' d, N n ys σ' H' → H' d = none → Q (.ref d) (upd H' d (.lst ys))) : compWant g tt te src σ Q J H1 := by
  refine ⟨fun i m ys σ' H' => m = n - i ∧ i ≤ n ∧ N i ys σ' H', ⟨n, by simp, Nat.zero_le _, h0⟩, ?_⟩
  rintro i m ys σ' H' ⟨rfl, hi, hN⟩
  by_cases hlt : i < n
  · refine .inr ⟨hgo i ys σ' H' hN hlt, ?_, fun x H2 y => ?_⟩
    · have := hlen i ys σ' H' hN
      omega
    · exact hturn i ys σ' H' x H2 hlt hN y _ _ (fun v σ3 H5 h => ⟨n - (i + 1), by omega, rfl, hlt, h⟩) (fun σ3 H4 h => ⟨n - (i + 1), by omega, rfl, hlt, h⟩)
  · have e : i = n := by omega
    subst e
    exact .inl ⟨hstop ys σ' H' hN, fun d hd => hQ ys σ' H' d hN hd⟩
end L2
namespace L2
open PySem
theorem for_rng1 {ta : TA} {g : TG} {tb : TS} {D : Ends} {σ : St} {H : Hp} (n : Int) (hta : ∀ Q : List V → Hp → Prop, Q [.int n] H → ta σ H Q) (h0 : -(2 ^ 62) ≤ n) (h1 : n < 2 ^ 62) (Pv : Nat → St → Hp → Prop) (hp0 : Pv 0 σ H)
    (hs : ∀ i σ H, i < n.toNat → Pv i σ H → g (.int (0 + i)) σ H fun σ2 H2 => tb { D with nx := Pv (i + 1), ct := Pv (i + 1), bk := D.nx } σ2 H2) (hd : ∀ σ H, Pv n.toNat σ H → D.nx σ H) : tFor (iRng1 ta) g tb D σ H :=
  hta _ ⟨n, rfl, h0, h1, for_range Pv hp0 hs hd⟩
theorem for_lstP {K : PySem.W.Frag} {tl : TE} {g : TG} {tb : TS} {D : Ends} {σ : St} {H : Hp} (P : V → Hp → Prop) (htl : ∀ Q : VK, (∀ v H', P v H' → Q v H') → tl σ H Q)
    (h : ∀ v H', P v H' → ∃ d xs, v = .ref d ∧ SqL K H' d xs ∧ ∃ Pv : Nat → St → Hp → Prop, Pv 0 σ H' ∧ (∀ i σ H, i ≤ xs.length → Pv i σ H → SqL K H d xs) ∧
      (∀ (i : Nat) x σ H, xs[i]? = some x → Pv i σ H → g x σ H fun σ2 H2 => tb { D with nx := Pv (i + 1), ct := Pv (i + 1), bk := D.nx } σ2 H2) ∧ (∀ σ H, Pv xs.length σ H → D.nx σ H)) : tFor (iList K tl) g tb D σ H :=
  htl _ fun v H' p => by
    obtain ⟨d, xs, rfl, hq, Pv, a, b, c, e⟩ := h v H' p
    exact ⟨d, rfl, ⟨xs, hq⟩, for_list Pv a b c e⟩
end L2
namespace L2
open PySem PySem.Spec PyProof.Rows
def uniq (ns : List Int) : List Int := firstMet (fun i => ns.getD i 0) ns.length
theorem firstMet_nodup (val : Nat → Int) : ∀ i, (firstMet val i).length = i ↔ ((List.range i).map val).Nodup
  | 0 => by simp [firstMet_zero]
  | i + 1 => by
    have ih := firstMet_nodup val i
    have hle := firstMet_length_le val i
    have ha := firstMet_any val i (val i)
    rw [firstMet_succ, List.range_succ, List.map_append, List.nodup_append]
    unfold step_dedup
    by_cases h : (firstMet val i).any (· == val i) = true
    · rw [if_pos h]
      constructor
      · intro e; omega
      · intro e
        rw [ha, List.any_eq_true] at h
        obtain ⟨x, hx, e2⟩ := h
        have : x = val i := beq_iff_eq.mp e2
        exact absurd this (e.2.2 x hx (val i) (by simp))
    · rw [if_neg h, List.length_append, List.length_singleton]
      constructor
      · intro e
        refine ⟨ih.mp (by omega), by simp, fun x hx y hy => ?_⟩
        have hy' : y = val i := by simpa using hy
        subst hy'
        intro e3
        apply h
        rw [ha, List.any_eq_true]
        exact ⟨x, hx, beq_iff_eq.mpr e3⟩
      · intro e
        rw [ih.mpr e.1]
section
variable {X : Cx}
def setA (K : PySem.W.Frag) (xs : List V) (H : Hp) (Q : VK) : Prop := match xs with
  | [.ref d] => ∃ ns : List Int, SqL K H d (ns.map V.int) ∧ ns.length + 1 < scanBound ∧ ∀ q, H q = none → Q (.ref q) (upd H q (.set (fun k => (uniq ns).any (· == k)) (uniq ns).length))
  | _ => False
def lenSA (xs : List V) (H : Hp) (Q : VK) : Prop := match xs with
  | [.ref d] => ∃ S n, H d = some (.set S n) ∧ Q (.int n) H
  | _ => False
def sortA (K : PySem.W.Frag) (xs : List V) (H : Hp) (Q : VK) : Prop := match xs with
  | [.ref d] => ∃ ns : List Int, SqL K H d (ns.map V.int) ∧ ns.length < 64 ∧ ∀ (ns' : List Int) q, ns'.Perm ns → ns'.Pairwise (· ≤ ·) → H q = none → Q (.ref q) (upd H q (.lst (ns'.map V.int)))
  | _ => False
def listA (K : PySem.W.Frag) (xs : List V) (H : Hp) (Q : VK) : Prop := match xs with
  | [.ref d] => ∃ ys, (SqL K H d ys ∨ SqT K H d ys) ∧ ∀ l, H l = none → Q (.ref l) (upd H l (.lst ys))
  | _ => False
theorem call_listA : CallR X (.type "list") (listA X.K) := (call_list_of (X := X)).imp fun xs H Q h => by
  unfold listA at h
  split at h
  · obtain ⟨ys, h1, q⟩ := h
    exact ⟨_, ys, rfl, h1, q⟩
  · exact h.elim
def tupleA (K : PySem.W.Frag) (xs : List V) (H : Hp) (Q : VK) : Prop := match xs with
  | [.ref d] => ∃ ys, (SqL K H d ys ∧ ∀ l, H l = none → Q (.ref l) (upd H l (.tup ys))) ∨ (SqT K H d ys ∧ Q (.ref d) H)
  | _ => False
theorem klist (K : PySem.W.Frag) (hK : X.K = K := by rfl) : CallR X (.type "list") (listA K) := by
  subst hK; exact call_listA
theorem isA_lst {T : BT} {a : Addr} {xs : List V} {H : Hp} {Q : VK} (h : H a = some (.lst xs)) (q : Q (.bl (isSub .list T)) H) : isA T (.ref a) H Q := by
  simp only [isA, h]; exact q
end
theorem eqV_refl {x : V} (h : flatV x = true) : eqV x x = true := by
  cases x <;> simp_all [flatV, eqV]
def Fl (K : PySem.W.Frag) (H : Hp) (p : Addr) (f : Str) (v : V) : Prop := ∃ C dx fs, H p = some (.ins C dx fs) ∧ Cls K C ∧ NoAttr K C f ∧ fs.lookup f = some v
def fldA (K : PySem.W.Frag) (x : V) (f : Str) (H : Hp) (Q : VK) : Prop := match x with
  | .ref a => ∃ v, Fl K H a f v ∧ Q v H
  | _ => False
def cFld (K : PySem.W.Frag) (to : TE) (f : Str) : TE := fun σ H Q => to σ H fun x H1 => fldA K x f H1 Q
def InsNo (C : Addr) (m : Str) (H : Hp) (a : Addr) : Prop := ∃ dx fs, H a = some (.ins C dx fs) ∧ fs.lookup m = none
structure MCal (P : Program) (w : World) (K : PySem.W.Frag) (mg : Str → Option Value) (base : Heap) (C : Addr) (m : Str) (ps : List Str) (k : Nat) (sp : Sp) : Prop where
  ex : ∃ f fd, FnOk P w K mg base CX0 k f fd ps sp ∧ Meth K C m f ∧ Binds K fd ps []
  cl : Cls K C
structure MkCal (P : Program) (w : World) (K : PySem.W.Frag) (mg : Str → Option Value) (base : Heap) (name : Str) (C : Addr) (ps : List Str) (k : Nat) (sp : Sp) : Prop where
  ex : ∃ f fd, Mk K C f ∧ FnOk P w K mg base CX0 k f fd ps sp ∧ mg name = some (.ref C) ∧ Binds K fd ps []
def methA (C : Addr) (m : Str) (x : V) (H : Hp) (R : Addr → Prop) : Prop := match x with
  | .ref a => InsNo C m H a ∧ R a
  | _ => False
def cMeth (C : Addr) (m : Str) (sp : Sp) (to : TE) (t : TA) : TE := fun σ H Q => to σ H fun x H1 => methA C m x H1 fun a => t σ H1 fun vs H2 => sp (.ref a :: vs) H2 Q E0
def cMake (C : Addr) (sp : Sp) (t : TA) : TE := fun σ H Q => t σ H fun vs H1 => ∀ x dx, H1 x = none → H1 dx = none → dx ≠ x → sp (.ref x :: vs) (upd (upd H1 dx (.own x)) x (.ins C dx [])) (fun v H2 => v = .non ∧ Q (.ref x) H2) E0
section
variable {X : Cx} {e o value : Expr} {te to tv : TE} {p pos pos' apos : Pos} {es : List Expr} {t : TA} {f m : Str}
def constWs : List Expr → Option (List V)
  | [] => some []
  | .Constant (.int i) _ _ :: r => (constWs r).map (V.int i :: ·)
  | .Constant (.str x) _ _ :: r => (constWs r).map (V.str x :: ·)
  | .UnaryOp .USub (.Constant (.int i) _ _) _ :: r => (constWs r).map (V.int (-i) :: ·)
  | _ => none
def constTs : List Expr → Option (List (List V))
  | [] => some []
  | .Tuple es _ _ :: r => match constWs es, constTs r with
    | some v, some vs => some (v :: vs)
    | _, _ => none
  | _ => none
def cTs (vss : List (List V)) : TA := fun _ H Q => ∀ (qs : List Addr) (H' : Hp), qs.length = vss.length → (∀ (i : Nat) (q : Addr), qs[i]? = some q → ∃ v, vss[i]? = some v ∧ H' q = some (.tup v)) → Same H H' → Q (qs.map V.ref) H'
end
def SameBut (k : Addr) (H H' : Hp) : Prop := ∀ b o, H b = some o → b ≠ k → H' b = some o
theorem SameBut.refl {k : Addr} (H : Hp) : SameBut k H H := fun _ _ h _ => h
theorem SameBut.trans {k : Addr} {H H1 H2 : Hp} (a : SameBut k H H1) (b : SameBut k H1 H2) : SameBut k H H2 := fun c o e n => b c o (a c o e n) n
theorem SameBut.self {k : Addr} {H H' : Hp} {o : HO} (a : SameBut k H H') : SameBut k H (upd H' k o) := fun c ob e n => by
  rw [upd_ne n]; exact a c ob e n
theorem SameBut.new {k d : Addr} {H H' : Hp} {o : HO} (a : SameBut k H H') (hd : H d = none) : SameBut k H (upd H' d o) := fun c ob e n => by
  rw [upd_ne (ne_of_none e hd)]; exact a c ob e n
theorem Same.put {d : Addr} {H H' : Hp} {o : HO} (a : Same H H') (hd : H d = none) : Same H (L2.upd H' d o) := fun c ob e => by
  rw [upd_ne (ne_of_none e hd)]; exact a c ob e
end L2
namespace L2
open PySem PySem.Spec PyProof.Rows
def Ev (t : TE) (σ : St) (H : Hp) (v : V) : Prop := ∀ Q : VK, Q v H → t σ H Q
def Tv (t : TT) (σ : St) (H : Hp) (b : Bool) : Prop := ∀ Q : Bool → Hp → Prop, Q b H → t σ H Q
def Av (t : TA) (σ : St) (H : Hp) (vs : List V) : Prop := ∀ Q : List V → Hp → Prop, Q vs H → t σ H Q
section
variable {K : PySem.W.Frag} {σ : St} {H : Hp} {ta tb tc te to : TE} {t u : TT} {x y : V} {i j k : Int} {a b : Bool} {z z' : Str}
theorem ev_c : Ev (tC x) σ H x := fun Q q => q
theorem ev_v {n : Nat} (h : σ[n]? = some (some x)) : Ev (cVar n) σ H x := fun Q q => by unfold cVar; rw [h]; exact q
theorem ev_add (ha : Ev ta σ H (.int i)) (hb : Ev tb σ H (.int j)) : Ev (cBin .Add ta tb) σ H (.int (i + j)) := fun Q q => ha _ (hb _ q)
theorem ev_sub (ha : Ev ta σ H (.int i)) (hb : Ev tb σ H (.int j)) : Ev (cBin .Sub ta tb) σ H (.int (i - j)) := fun Q q => ha _ (hb _ q)
theorem ev_mul (ha : Ev ta σ H (.int i)) (hb : Ev tb σ H (.int j)) (h : CMul i j) : Ev (cBin .Mult ta tb) σ H (.int (i * j)) := fun Q q => ha _ (hb _ ⟨h, q⟩)
theorem ev_div (ha : Ev ta σ H (.int i)) (hb : Ev tb σ H (.int j)) (h : CDiv i j) : Ev (cBin .FloorDiv ta tb) σ H (.int (i / j)) := fun Q q => ha _ (hb _ ⟨h, q⟩)
theorem ev_mod (ha : Ev ta σ H (.int i)) (hb : Ev tb σ H (.int j)) (h : 0 < j) : Ev (cBin .Mod ta tb) σ H (.int (i % j)) := fun Q q => ha _ (hb _ ⟨h, q⟩)
theorem ev_neg (ha : Ev ta σ H (.int i)) : Ev (cNeg ta) σ H (.int (-i)) := fun Q q => ha _ q
theorem ev_ix {p : Addr} {xs : List V} (ho : Ev to σ H (.ref p)) (hi : Ev ta σ H (.int i)) (h : SqL K H p xs ∨ SqT K H p xs) (e : atI xs i = some x) : Ev (cIx K to ta) σ H x := fun Q q => ho _ (hi _ ⟨xs, x, h, e, q⟩)
theorem ev_len {p : Addr} {xs : List V} (ho : Ev to σ H (.ref p)) (h : SqL K H p xs ∨ SqT K H p xs) : Ev (cB (lenA K) (tCons to tNil)) σ H (.int xs.length) := fun Q q => ho _ ⟨xs, h, q⟩
theorem ev_isl {p : Addr} {xs : List V} {T : BT} (ho : Ev to σ H (.ref p)) (h : H p = some (.lst xs)) : Ev (cIs T to) σ H (.bl (isSub .list T)) := fun Q q => ho _ (isA_lst h q)
theorem ev_isi {T : BT} (ho : Ev to σ H (.int i)) : Ev (cIs T to) σ H (.bl (isSub .int T)) := fun Q q => ho _ q
theorem ev_not (ha : Ev ta σ H (.bl a)) : Ev (cNotV ta) σ H (.bl (!a)) := fun Q q => ha _ q
theorem ev_and (ha : Ev ta σ H (.bl a)) (hb : a = true → Ev tb σ H (.bl b)) : Ev (cAndV ta tb) σ H (.bl (a && b)) := fun Q q => ha _ (by
  cases a with
  | true => exact hb rfl Q q
  | false => exact q)
theorem ev_eq (ha : Ev ta σ H (.int i)) (hb : Ev tb σ H (.int j)) : Ev (cCmp K .Eq ta tb) σ H (.bl (decide (i = j))) := fun Q q => ha _ (hb _ q)
theorem ev_ne (ha : Ev ta σ H (.int i)) (hb : Ev tb σ H (.int j)) : Ev (cCmp K .NotEq ta tb) σ H (.bl (!decide (i = j))) := fun Q q => ha _ (hb _ q)
theorem ev_lt (ha : Ev ta σ H (.int i)) (hb : Ev tb σ H (.int j)) : Ev (cCmp K .Lt ta tb) σ H (.bl (decide (i < j))) := fun Q q => ha _ (hb _ q)
theorem ev_gt (ha : Ev ta σ H (.int i)) (hb : Ev tb σ H (.int j)) : Ev (cCmp K .Gt ta tb) σ H (.bl (decide (j < i))) := fun Q q => ha _ (hb _ q)
theorem ev_eqs (ha : Ev ta σ H (.str z)) (hb : Ev tb σ H (.str z')) : Ev (cCmp K .Eq ta tb) σ H (.bl (decide (z = z'))) := fun Q q => ha _ (hb _ q)
theorem ev_nes (ha : Ev ta σ H (.str z)) (hb : Ev tb σ H (.str z')) : Ev (cCmp K .NotEq ta tb) σ H (.bl (!decide (z = z'))) := fun Q q => ha _ (hb _ q)
theorem ev_ner {p q : Addr} (ha : Ev ta σ H (.ref p)) (hb : Ev tb σ H (.ref q)) (h : EqT K H 20 (.ref p) (.ref q) a) : Ev (cCmp K .NotEq ta tb) σ H (.bl (!a)) := fun Q k => ha _ (hb _ ⟨a, h, k⟩)
theorem ev_isnot_i (ha : Ev ta σ H (.int i)) (hb : Ev tb σ H .non) : Ev (cCmp K .IsNot ta tb) σ H (.bl true) := fun Q q => ha _ (hb _ q)
theorem ev_isnot_n (ha : Ev ta σ H .non) (hb : Ev tb σ H .non) : Ev (cCmp K .IsNot ta tb) σ H (.bl false) := fun Q q => ha _ (hb _ q)
theorem ev_is_i (ha : Ev ta σ H (.int i)) (hb : Ev tb σ H .non) : Ev (cCmp K .Is ta tb) σ H (.bl false) := fun Q q => ha _ (hb _ q)
theorem ev_is_n (ha : Ev ta σ H .non) (hb : Ev tb σ H .non) : Ev (cCmp K .Is ta tb) σ H (.bl true) := fun Q q => ha _ (hb _ q)
theorem ev_call {sp : Sp} {t : TA} {vs : List V} (ht : Av t σ H vs) (h : ∀ Q : VK, Q x H → sp vs H Q E0) : Ev (cCall sp t) σ H x := fun Q q => ht _ (h Q q)
theorem av_nil : Av tNil σ H [] := fun Q q => q
theorem av_cons {t : TA} {vs : List V} (ha : Ev ta σ H x) (ht : Av t σ H vs) : Av (tCons ta t) σ H (x :: vs) := fun Q q => ha _ (ht _ q)
theorem av_cs {vs : List V} : Av (cCs vs) σ H vs := fun Q q => q
theorem tv_e (h : Ev te σ H (.bl b)) : Tv (cTest te) σ H b := fun Q q => h _ q
theorem tv_not (h : Tv t σ H b) : Tv (tNot t) σ H (!b) := fun Q q => h _ q
theorem tv_and (ha : Tv t σ H a) (hb : a = true → Tv u σ H b) : Tv (tAnd t u) σ H (a && b) := fun Q q => ha _ (by
  cases a with
  | true => exact iteT (hb rfl _ q)
  | false => exact iteF q)
theorem tv_or (ha : Tv t σ H a) (hb : a = false → Tv u σ H b) : Tv (tOr t u) σ H (a || b) := fun Q q => ha _ (by
  cases a with
  | true => exact iteT q
  | false => exact iteF (hb rfl _ q))
end
section
variable {te : TE} {c : TT} {t u : TS} {D : Ends} {σ : St} {H : Hp} {v : V} {b : Bool}
theorem st_set {i : Nat} (h : Ev te σ H v) (h2 : u D (σ.set i (some v)) H) : tSeq (tAsg te (gName i)) u D σ H := h _ h2
theorem st_set1 {i : Nat} (h : Ev te σ H v) (h2 : D.nx (σ.set i (some v)) H) : tAsg te (gName i) D σ H := h _ h2
theorem st_ret (h : Ev te σ H v) (h2 : D.rt v H) : tRet te D σ H := h _ h2
theorem st_tst (hc : Tv c σ H b) (h1 : b = true → t { D with nx := u D } σ H) (h2 : b = false → u D σ H) : tSeq (tIfS c t tNext) u D σ H := hc _ (by
  cases b with
  | true => exact iteT (h1 rfl)
  | false => exact iteF (h2 rfl))
theorem st_tst1 (hc : Tv c σ H b) (h1 : b = true → t D σ H) (h2 : b = false → D.nx σ H) : tIfS c t tNext D σ H := hc _ (by
  cases b with
  | true => exact iteT (h1 rfl)
  | false => exact iteF (h2 rfl))
end
section
variable {K : PySem.W.Frag} {σ rest : St} {H : Hp} {tl te : TE} {tt : TT} {src : List (Option Nat)} {Q : VK}
theorem tv_noif : Tv tNoIf σ H true := fun Q q => q
theorem comp_evI {J : It} {xs : List V} (hz : xs.length ≤ sizeLine) (hs : subSt src σ = none :: rest) (p : V → Bool) (f : V → V) (hgo : ∀ i, i < xs.length → J.go i H) (hstop : J.stop xs.length H) (hyld : ∀ i v H', i < xs.length → J.yld i H v H' → H' = H ∧ xs[i]? = some v)
    (ht : ∀ x ∈ xs, Tv tt (some x :: rest) H (p x)) (he : ∀ x ∈ xs, p x = true → Ev te (some x :: rest) H (f x)) (q : ∀ d', H d' = none → Q (.ref d') (upd H d' (.lst ((xs.filter p).map f)))) : compWant (gName 0) tt te src σ Q J H := by
  refine ⟨fun i m ys σ' H' => m = xs.length - i ∧ i ≤ xs.length ∧ ys = ((xs.take i).filter p).map f ∧ (∃ o, σ' = o :: rest) ∧ H' = H, ⟨xs.length, by simp, Nat.zero_le _, by simp, ⟨none, hs⟩, rfl⟩, ?_⟩
  rintro i m ys σ' H' ⟨rfl, hi, rfl, ⟨o, rfl⟩, rfl⟩
  by_cases hlt : i < xs.length
  · refine .inr ⟨hgo i hlt, ?_, fun x H2 y => ?_⟩
    · rw [List.length_map]
      have h1 := List.length_filter_le p (xs.take i)
      rw [List.length_take] at h1
      omega
    · obtain ⟨rfl, hx⟩ := hyld i x H2 hlt y
      have tk : (xs.take (i + 1)).filter p = (xs.take i).filter p ++ (if p x then [x] else []) := take_succ_filter p xs i x hx
      have hm : x ∈ xs := List.mem_of_getElem? hx
      show tt (some x :: rest) H2 _
      refine ht x hm _ ?_
      cases hp : p x with
      | true =>
        refine iteT (he x hm hp _ ?_)
        refine ⟨xs.length - (i + 1), by omega, rfl, hlt, ?_, ⟨_, rfl⟩, rfl⟩
        rw [tk, hp, if_pos rfl, List.map_append]
        rfl
      | false =>
        refine iteF ?_
        refine ⟨xs.length - (i + 1), by omega, rfl, hlt, ?_, ⟨_, rfl⟩, rfl⟩
        rw [tk, hp, if_neg (by simp), List.append_nil]
  · have e : i = xs.length := by omega
    subst e
    refine .inl ⟨hstop, fun d hd => ?_⟩
    rw [List.take_length]
    exact q d hd
theorem comp_ev {d : Addr} {xs : List V} (hl : Ev tl σ H (.ref d)) (hx : SqL K H d xs) (hz : xs.length ≤ sizeLine) (hs : subSt src σ = none :: rest) (p : V → Bool) (f : V → V)
    (ht : ∀ x ∈ xs, Tv tt (some x :: rest) H (p x)) (he : ∀ x ∈ xs, p x = true → Ev te (some x :: rest) H (f x)) (q : ∀ d', H d' = none → Q (.ref d') (upd H d' (.lst ((xs.filter p).map f)))) : tComp (iList K tl) (gName 0) tt te src σ H Q :=
  hl _ ⟨d, rfl, ⟨xs, hx⟩, comp_evI hz hs p f (fun i hi => ⟨xs, xs[i], hx, List.getElem?_eq_getElem hi⟩) ⟨xs, hx, Nat.le_refl _⟩ (fun i v H' _ y => ⟨y.1, y.2 xs hx⟩) ht he q⟩
end
section
variable {K : PySem.W.Frag} {te to tv : TE} {t : TA} {c : TT} {u : TS} {D : Ends} {σ : St} {H : Hp} {v x y : V}
theorem st_app {l : Addr} {xs : List V} (ho : Ev to σ H (.ref l)) (he : Ev te σ H y) (hl : H l = some (.lst xs)) (hz : xs.length < sizeLine) (h2 : u D σ (upd H l (.lst (xs ++ [y])))) : tSeq (tDrop (cApp to te)) u D σ H := ho _ ⟨⟨xs, hl⟩, he _ ⟨xs, hl, hz, h2⟩⟩
theorem st_app1 {l : Addr} {xs : List V} (ho : Ev to σ H (.ref l)) (he : Ev te σ H y) (hl : H l = some (.lst xs)) (hz : xs.length < sizeLine) (h2 : D.nx σ (upd H l (.lst (xs ++ [y])))) : tDrop (cApp to te) D σ H := ho _ ⟨⟨xs, hl⟩, he _ ⟨xs, hl, hz, h2⟩⟩
theorem st_nil {i : Nat} (h2 : ∀ q, H q = none → u D (σ.set i (some (.ref q))) (upd H q (.lst []))) : tSeq (tAsg (tLst tNil) (gName i)) u D σ H := ⟨Nat.zero_le _, fun q hq => h2 q hq⟩
end
section
variable {K : PySem.W.Frag} {te to ta tb ti : TE} {t : TA} {c : TT} {σ : St} {H : Hp} {Q : VK} {R : Bool → Hp → Prop} {v x y : V} {vs : List V} {sp : Sp}
theorem evk (h : Ev te σ H v) (q : Q v H) : te σ H Q := h Q q
theorem cal_k (h : Av t σ H vs) (q : sp vs H Q E0) : cCall sp t σ H Q := h _ q
theorem calN_k (h : Av t σ H vs) (q : sp vs H (bOnly fun c H1 => R (!c) H1) E0) : tNot (cTest (cCall sp t)) σ H R := h _ q
theorem lix_k {i : Int} (h : Av t σ H vs) (hz : vs.length ≤ 1000) (hi : ∀ H', Ev ti σ H' (.int i)) (e : atI vs i = some v) (q : ∀ H', Same H H' → Q v H') : cIx K (tLst t) ti σ H Q := h _ ⟨Nat.le_trans hz (by decide), fun p hp => hi _ _ ⟨vs, v, .inl (SqL.of upd_same), e, q _ ((Same.refl H).upd hp)⟩⟩
end
section
variable {K : PySem.W.Frag} {te to ta tb : TE} {D : Ends} {σ : St} {H : Hp} {Q : VK} {x y : V}
end
end L2
namespace L2
open PySem PySem.Spec PyProof.Rows
def oI : Option Int → V
  | some n => .int n
  | none => .non
structure BrdC (K : PySem.W.Frag) (C : Addr) : Prop where
  cl : Cls K C
  wide : NoAttr K C "wide"
  high : NoAttr K C "high"
  holes : NoAttr K C "holes"
  firm : NoAttr K C "firm"
def bflds (wi hi : Int) (ph pf : Addr) : List (Str × V) := putF "firm" (.ref pf) (putF "holes" (.ref ph) (putF "high" (.int hi) (putF "wide" (.int wi) [])))
theorem bf_wide (wi hi : Int) (ph pf : Addr) : (bflds wi hi ph pf).lookup ("wide" : Str) = some (.int wi) := by
  unfold bflds
  rw [lookup_putF, if_neg (by decide +kernel), lookup_putF, if_neg (by decide +kernel), lookup_putF, if_neg (by decide +kernel), lookup_putF, if_pos rfl]
theorem bf_high (wi hi : Int) (ph pf : Addr) : (bflds wi hi ph pf).lookup ("high" : Str) = some (.int hi) := by
  unfold bflds
  rw [lookup_putF, if_neg (by decide +kernel), lookup_putF, if_neg (by decide +kernel), lookup_putF, if_pos rfl]
theorem bf_holes (wi hi : Int) (ph pf : Addr) : (bflds wi hi ph pf).lookup ("holes" : Str) = some (.ref ph) := by
  unfold bflds
  rw [lookup_putF, if_neg (by decide +kernel), lookup_putF, if_pos rfl]
theorem bf_firm (wi hi : Int) (ph pf : Addr) : (bflds wi hi ph pf).lookup ("firm" : Str) = some (.ref pf) := by
  unfold bflds
  rw [lookup_putF, if_pos rfl]
theorem bf_no (wi hi : Int) (ph pf : Addr) {m : Str} (h1 : ¬ m = "wide") (h2 : ¬ m = "high") (h3 : ¬ m = "holes") (h4 : ¬ m = "firm") : (bflds wi hi ph pf).lookup m = none := by
  unfold bflds
  rw [lookup_putF, if_neg h4, lookup_putF, if_neg h3, lookup_putF, if_neg h2, lookup_putF, if_neg h1]
  rfl
def firmL (wi hi : Int) (hs : List Int) : List Bool := (List.range (wi * hi).toNat).map fun (s : Nat) => !decide ((s : Int) ∈ hs)
structure BrdAt (K : PySem.W.Frag) (C : Addr) (H : Hp) (p : Addr) (wi hi : Int) (hs : List Int) : Prop where
  ex : ∃ dx ph pf, H p = some (.ins C dx (bflds wi hi ph pf)) ∧ H ph = some (.lst (hs.map V.int)) ∧ H pf = some (.lst ((firmL wi hi hs).map V.bl))
  w1 : 1 ≤ wi
  w8 : wi ≤ 8
  h1 : 1 ≤ hi
  h8 : hi ≤ 8
  good : ∀ h ∈ hs, 0 ≤ h ∧ h < wi * hi
  srt : hs.Pairwise (· ≤ ·)
  nd : hs.Nodup
section
variable {K : PySem.W.Frag} {C : Addr} {H H' : Hp} {p : Addr} {wi hi : Int} {hs : List Int}
theorem BrdAt.same (B : BrdAt K C H p wi hi hs) (s : Same H H') : BrdAt K C H' p wi hi hs := by
  obtain ⟨⟨dx, ph, pf, a, b, c⟩, w1, w8, h1, h8, g, sr, nd⟩ := B
  exact ⟨⟨dx, ph, pf, s _ _ a, s _ _ b, s _ _ c⟩, w1, w8, h1, h8, g, sr, nd⟩
theorem BrdAt.wide (B : BrdAt K C H p wi hi hs) (D : BrdC K C) : Fl K H p "wide" (.int wi) := by
  obtain ⟨dx, ph, pf, a, _, _⟩ := B.ex
  exact ⟨C, dx, _, a, D.cl, D.wide, bf_wide _ _ _ _⟩
theorem BrdAt.high (B : BrdAt K C H p wi hi hs) (D : BrdC K C) : Fl K H p "high" (.int hi) := by
  obtain ⟨dx, ph, pf, a, _, _⟩ := B.ex
  exact ⟨C, dx, _, a, D.cl, D.high, bf_high _ _ _ _⟩
theorem BrdAt.firm (B : BrdAt K C H p wi hi hs) (D : BrdC K C) : ∃ pf, Fl K H p "firm" (.ref pf) ∧ H pf = some (.lst ((firmL wi hi hs).map V.bl)) := by
  obtain ⟨dx, ph, pf, a, _, c⟩ := B.ex
  exact ⟨pf, ⟨C, dx, _, a, D.cl, D.firm, bf_firm _ _ _ _⟩, c⟩
theorem BrdAt.holes (B : BrdAt K C H p wi hi hs) (D : BrdC K C) : ∃ ph, Fl K H p "holes" (.ref ph) ∧ H ph = some (.lst (hs.map V.int)) := by
  obtain ⟨dx, ph, pf, a, b, c⟩ := B.ex
  exact ⟨ph, ⟨C, dx, _, a, D.cl, D.holes, bf_holes _ _ _ _⟩, b⟩
theorem BrdAt.no (B : BrdAt K C H p wi hi hs) {m : Str} (h1 : ¬ m = "wide" := by decide +kernel) (h2 : ¬ m = "high" := by decide +kernel) (h3 : ¬ m = "holes" := by decide +kernel) (h4 : ¬ m = "firm" := by decide +kernel) : InsNo C m H p := by
  obtain ⟨dx, ph, pf, a, b, c⟩ := B.ex
  exact ⟨dx, _, a, bf_no _ _ _ _ h1 h2 h3 h4⟩
theorem BrdAt.many (B : BrdAt K C H p wi hi hs) : 1 ≤ wi * hi ∧ wi * hi ≤ 64 := by
  have a := B.w1; have b := B.w8; have c := B.h1; have d := B.h8
  have e1 : 1 * 1 ≤ wi * hi := Int.mul_le_mul a c (by omega) (by omega)
  have e2 : wi * hi ≤ 8 * 8 := Int.mul_le_mul b d (by omega) (by omega)
  omega
end
def mvd (wi hi : Int) (hs : List Int) (s ax up : Int) : Option Int :=
  if 0 ≤ s % wi + ax ∧ s % wi + ax < wi ∧ 0 ≤ s / wi + up ∧ s / wi + up < hi then (if (s / wi + up) * wi + (s % wi + ax) ∈ hs then none else some ((s / wi + up) * wi + (s % wi + ax))) else none
def sqK (wi s ax up : Int) (k : Nat) : Int := (s / wi + k * up) * wi + (s % wi + k * ax)
def okK (wi hi : Int) (hs : List Int) (s ax up : Int) (k : Nat) : Prop := 0 ≤ s % wi + k * ax ∧ s % wi + k * ax < wi ∧ 0 ≤ s / wi + k * up ∧ s / wi + k * up < hi ∧ ¬ sqK wi s ax up k ∈ hs
instance {wi hi : Int} {hs : List Int} {s ax up : Int} {k : Nat} : Decidable (okK wi hi hs s ax up k) := by unfold okK; infer_instance
def IsRay (wi hi : Int) (hs : List Int) (s ax up : Int) (n : Nat) : Prop := (∀ j < n, okK wi hi hs s ax up (j + 1)) ∧ ¬ okK wi hi hs s ax up (n + 1)
def rayL (wi s ax up : Int) (n : Nat) : List Int := (List.range n).map fun j => sqK wi s ax up (j + 1)
theorem IsRay.uniq {wi hi : Int} {hs hs' : List Int} {s ax up : Int} {m n : Nat} (h : IsRay wi hi hs s ax up m) (h' : IsRay wi hi hs' s ax up n) (e : ∀ x, x ∈ hs ↔ x ∈ hs') : m = n := by
  have c : ∀ k, okK wi hi hs s ax up k ↔ okK wi hi hs' s ax up k := fun k => by unfold okK; rw [e]
  rcases Nat.lt_trichotomy m n with l | l | l
  · exact absurd ((c _).mpr (h'.1 m l)) h.2
  · exact l
  · exact absurd ((c _).mp (h.1 n l)) h'.2
structure KeptOk (H : Hp) (kl : Addr) (es : List V) : Prop where
  at_ : H kl = some (.lst es)
  all : ∀ e ∈ es, ∃ (t f c : Addr) (zs : List Int), e = V.ref t ∧ t ≠ kl ∧ f ≠ kl ∧ c ≠ kl ∧ H t = some (.tup [.ref f, .ref c]) ∧ H f = some (.lst (zs.map V.int)) ∧ H c = some (.lst (zs.map V.int))
theorem KeptOk.same {H H' : Hp} {kl : Addr} {es : List V} (k : KeptOk H kl es) (s : Same H H') : KeptOk H' kl es := ⟨s _ _ k.at_, fun e he => by
  obtain ⟨t, f, c, zs, h1, h2, h3, h4, h5, h6, h7⟩ := k.all e he
  exact ⟨t, f, c, zs, h1, h2, h3, h4, s _ _ h5, s _ _ h6, s _ _ h7⟩⟩
def spWhI : Sp := fun vs H Q _ => ∃ n : Int, vs = [.int n] ∧ Q (.bl true) H
def spAmI : Sp := fun vs H Q _ => ∃ t a b : Int, vs = [.int t, .int a, .int b] ∧ Q (.bl (decide (a ≤ t ∧ t ≤ b))) H
def spCol : Sp := fun vs H Q _ => ∃ w s : Int, vs = [.int w, .int s] ∧ 0 < w ∧ Q (.int (s % w)) H
def spRow : Sp := fun vs H Q _ => ∃ w s : Int, vs = [.int w, .int s] ∧ 0 < w ∧ w < 100 ∧ Q (.int (s / w)) H
def spSqAt : Sp := fun vs H Q _ => ∃ w c r : Int, vs = [.int w, .int c, .int r] ∧ -100 < w ∧ w < 100 ∧ Q (.int (r * w + c)) H
def spHolesT : Sp := fun vs H Q _ => ∃ (d : Addr) (m : Int) (hs : List Int), vs = [.ref d, .int m] ∧ H d = some (.lst (hs.map V.int)) ∧ (∀ h ∈ hs, 0 ≤ h ∧ h < m) ∧ hs.Nodup ∧ (hs.length : Int) < m ∧ m ≤ 64 ∧ ∀ H', Same H H' → Q (.bl true) H'
def spBInit (K : PySem.W.Frag) (C : Addr) : Sp := fun vs H Q _ => ∃ (p d dx : Addr) (wi hi : Int) (hs : List Int), vs = [.ref p, .int wi, .int hi, .ref d] ∧ H p = some (.ins C dx []) ∧ H d = some (.lst (hs.map V.int)) ∧ 1 ≤ wi ∧ wi ≤ 8 ∧ 1 ≤ hi ∧ hi ≤ 8 ∧ (∀ h ∈ hs, 0 ≤ h ∧ h < wi * hi) ∧ hs.Nodup ∧ (hs.length : Int) < wi * hi ∧
  ∀ (hs' : List Int) H', hs'.Perm hs → BrdAt K C H' p wi hi hs' → SameBut p H H' → Q .non H'
def spMoved (K : PySem.W.Frag) (C : Addr) : Sp := fun vs H Q _ => ∃ (p : Addr) (wi hi : Int) (hs : List Int) (s ax up : Int), vs = [.ref p, .int s, .int ax, .int up] ∧ BrdAt K C H p wi hi hs ∧ Q (oI (mvd wi hi hs s ax up)) H
def spRay (K : PySem.W.Frag) (C : Addr) : Sp := fun vs H Q _ => ∃ (p : Addr) (wi hi : Int) (hs : List Int) (s ax up : Int), vs = [.ref p, .int s, .int ax, .int up] ∧ BrdAt K C H p wi hi hs ∧ 0 ≤ s ∧ s < wi * hi ∧ ¬ (ax = 0 ∧ up = 0) ∧
  ∀ (n : Nat) (q : Addr) (H' : Hp), IsRay wi hi hs s ax up n → n ≤ 8 → H q = none → H' q = some (.lst ((rayL wi s ax up n).map V.int)) → Same H H' → Q (.ref q) H'
structure CW (P : Program) (w : World) (K : PySem.W.Frag) (mg : Str → Option Value) (base : Heap) : Prop where
  is_whole : Cal P w K mg base "is_whole" ["thing"] 1 spWhI
structure CA (P : Program) (w : World) (K : PySem.W.Frag) (mg : Str → Option Value) (base : Heap) : Prop where
  is_among : Cal P w K mg base "is_among" ["thing", "least", "most"] 2 spAmI
structure CB (P : Program) (w : World) (K : PySem.W.Frag) (mg : Str → Option Value) (base : Heap) : Prop where
  column_of : Cal P w K mg base "column_of" ["wide", "square"] 1 spCol
  row_of : Cal P w K mg base "row_of" ["wide", "square"] 1 spRow
  square_at : Cal P w K mg base "square_at" ["wide", "column", "row"] 1 spSqAt
structure CB2 (P : Program) (w : World) (K : PySem.W.Frag) (mg : Str → Option Value) (base : Heap) : Prop extends CA P w K mg base where
  are_holes : Cal P w K mg base "are_holes" ["thing", "many"] 3 spHolesT
structure CB3 (P : Program) (w : World) (K : PySem.W.Frag) (mg : Str → Option Value) (base : Heap) (cB : Addr) : Prop extends CB2 P w K mg base where
  Board : MkCal P w K mg base "Board" cB ["self", "wide", "high", "holes"] 4 (spBInit K cB)
  Board_moved : MCal P w K mg base cB "moved" ["self", "square", "across", "up"] 2 (spMoved K cB)
end L2
namespace L2
open PySem PySem.Spec PyProof.Rows
section
variable {X : Cx} {pins : List (Addr × Obj)} {σ : St} {H : Hp} {s : Shared} {h' : Heap}
theorem Inv.turned_laid {t' : Nat} {e it a : Addr} {o : HO} (I : Inv X pins σ H s) (k : ∀ b ob, b ≠ e → b ≠ it → s.heap.get? b = some ob → h'.get? b = some ob) (he : FpOk X pins H e) (hi : FpOk X pins H it) (hp : s.heap.objs.size ≤ a) (new : ObjOk X.prog X.w (upd H a o) h' a o) :
    Inv X pins σ (upd H a o) { s with heap := h', toks := t' } := by
  obtain ⟨e0, e1, e2, e3, e4, e5⟩ := he
  obtain ⟨i0, i1, i2, i3, i4, i5⟩ := hi
  have hn : H a = none := I.hok.fresh hp
  have ne : ∀ b u, H b = some u → b ≠ e := fun b u q z => by rw [z, e0] at q; cases q
  have nit : ∀ b u, H b = some u → b ≠ it := fun b u q z => by rw [z, i0] at q; cases q
  have kk : ∀ b ob, b ∉ [e, it] → s.heap.get? b = some ob → h'.get? b = some ob := fun b ob hc q => k b ob (fun z => hc (by simp [z])) (fun z => hc (by simp [z])) q
  refine I.step (g' := s.gens) (d' := s.drawn) (ch := [e, it]) (fun b hb => ?_) (fun b ob _ _ hc q _ => kk b ob hc q) (fun b ob _ _ hc q _ => ⟨ob.slots, kk b ob hc q⟩)
    (fun b ob hc q n => by rw [upd_ne (Nat.ne_of_lt (Nat.lt_of_lt_of_le (Heap.lt_size q) hp))]; exact n) (fun b ob hc q => ⟨ob, kk b ob hc q⟩) (fun b xs q => by rw [upd_ne (ne_of_none q hn)]; exact q) (fun b ob u q => by rw [upd_ne (ne_of_none q hn)]; exact q)
    (fun b ps q => ⟨#[], by rw [upd_ne (ne_of_none q hn), q]; simp⟩) (fun m hm => ?_) (fun b u q => ?_) I.bare
  · rcases List.mem_cons.mp hb with rfl | hb
    · exact ⟨e3, e1, e4, e5⟩
    · rw [List.mem_singleton.mp hb]; exact ⟨i3, i1, i4, i5⟩
  · obtain ⟨ob, es, ep, ho, r⟩ := hm
    exact ⟨ob, es, ep, k _ ob (Ne.symm e1) (Ne.symm i1) ho, r⟩
  · by_cases hb : b = a
    · subst hb; rw [upd_same] at q; cases q; exact new
    · rw [upd_ne hb] at q
      refine (I.hok b u q).stay (fun c v hc z => k c v ?_ ?_ z) (fun c z => by rw [upd_ne (ne_of_none z hn)]; exact z) fun c xs z => by rw [upd_ne (ne_of_none z hn)]; exact z
      · rcases hc with z | z
        · rw [z]; exact ne b u q
        · exact ne c _ z
      · rcases hc with z | z
        · rw [z]; exact nit b u q
        · exact nit c _ z
theorem Inv.turned2 {t' : Nat} {e it : Addr} (I : Inv X pins σ H s) (k : ∀ b ob, b ≠ e → b ≠ it → s.heap.get? b = some ob → h'.get? b = some ob) (he : FpOk X pins H e) (hi : FpOk X pins H it) : Inv X pins σ H { s with heap := h', toks := t' } := by
  obtain ⟨e0, e1, e2, e3, e4, e5⟩ := he
  obtain ⟨i0, i1, i2, i3, i4, i5⟩ := hi
  have ne : ∀ b u, H b = some u → b ≠ e := fun b u q z => by rw [z, e0] at q; cases q
  have nit : ∀ b u, H b = some u → b ≠ it := fun b u q z => by rw [z, i0] at q; cases q
  have kk : ∀ b ob, b ∉ [e, it] → s.heap.get? b = some ob → h'.get? b = some ob := fun b ob hc q => k b ob (fun z => hc (by simp [z])) (fun z => hc (by simp [z])) q
  refine I.step (g' := s.gens) (d' := s.drawn) (ch := [e, it]) (fun b hb => ?_) (fun b ob _ _ hc q _ => kk b ob hc q) (fun b ob _ _ hc q _ => ⟨ob.slots, kk b ob hc q⟩)
    (fun _ _ _ _ n => n) (fun b ob hc q => ⟨ob, kk b ob hc q⟩) (fun _ _ q => q) (fun _ _ _ q => q)
    (fun b ps q => ⟨#[], by rw [q]; simp⟩) (fun m hm => ?_) (fun b u q => ?_) I.bare
  · rcases List.mem_cons.mp hb with rfl | hb
    · exact ⟨e3, e1, e4, e5⟩
    · rw [List.mem_singleton.mp hb]; exact ⟨i3, i1, i4, i5⟩
  · obtain ⟨ob, es, ep, ho, r⟩ := hm
    exact ⟨ob, es, ep, k _ ob (Ne.symm e1) (Ne.symm i1) ho, r⟩
  · refine (I.hok b u q).stay (fun c v hc z => k c v ?_ ?_ z) (fun c z => z) fun c xs z => z
    · rcases hc with z | z
      · rw [z]; exact ne b u q
      · exact ne c _ z
    · rcases hc with z | z
      · rw [z]; exact nit b u q
      · exact nit c _ z
end
def ItE (K : PySem.W.Frag) (a : Addr) : It :=
  ⟨fun i H => ∃ xs x, SqL K H a xs ∧ xs[i]? = some x, fun i H x H' => ∃ t v, x = .ref t ∧ H t = none ∧ H' = upd H t (.tup [.int (i : Int), v]) ∧ ∀ xs, SqL K H a xs → xs[i]? = some v, fun i H => ∃ xs, SqL K H a xs ∧ xs.length ≤ i⟩
theorem turn_enumL {P : Program} {w : World} {K : PySem.W.Frag} {elts : List Expr} {k0 : Nat} {pos : Pos} (a e it : Addr) (hne : e ≠ it) : Turn P w K (.Tuple elts k0 pos) (ItE K a) [e, it] e (fun i h => (∃ old, IsEnum h e it (i : Int) old) ∧ h.IsListIter it a i) where
  mem := by simp
  obj := fun i h st b hb => by
    obtain ⟨⟨old, he⟩, o, ho, c, d⟩ := st
    rcases List.mem_cons.mp hb with rfl | hb
    · exact ⟨_, he, fun v z => by cases z⟩
    · rw [List.mem_singleton.mp hb]
      exact ⟨o, ho, fun v z => by rw [d] at z; cases z⟩
  keep := fun i h h' st k => by
    obtain ⟨⟨old, he⟩, hi⟩ := st
    exact ⟨⟨old, k e (by simp) _ he⟩, hi.at fun o x => k it (by simp) o x⟩
  item := by
    intro X hP hw hK hc i pins s σ H E I hf st hg
    subst hP hw hK
    obtain ⟨xs, x, hq, hx⟩ := hg
    obtain ⟨its, rv, p, hz⟩ := I.list hq
    obtain ⟨u, hu, ru⟩ := rv.get hx
    obtain ⟨⟨old, he⟩, hit⟩ := st
    have fe := hf e (by simp)
    have fi := hf it (by simp)
    obtain ⟨oL, hoL, hcL, nL, hdL⟩ := p.isList
    have hai : a ≠ it := fun z => by
      subst z
      obtain ⟨o', ho', hc', _⟩ := hit
      rw [hoL] at ho'
      cases ho'
      rw [hcL] at hc'
      injection hc' with hz'
      exact absurd hz' (by decide)
    have hae : a ≠ e := fun z => by
      subst z
      have he' : s.heap.get? a = _ := he
      rw [hoL] at he'
      cases he'
      injection hcL with hz'
      exact absurd hz' (by decide)
    have D := Draws.list (prog := X.prog) (w := X.w) (A := X.A.in1) (by show X.A.handled = none; exact I.ok.hd hc) it a hai its.toArray
    have hlt : i < its.toArray.size := by
      have := (List.getElem?_eq_some_iff.mp hu).1
      simpa using this
    refine wpAny_pyNext_enum_itemD D he ⟨hit, p.isList⟩ hlt hne (by simp [hne, hae.symm]) fun x' h1 tk hP' ho hs' hT hsz hk => ?_
    have ex : x' = u := by
      have : its.toArray[i]? = some x' := hP'
      rw [List.getElem?_toArray, hu] at this
      exact (Option.some.inj this).symm
    subst ex
    refine ⟨_, rfl, wpAny_letOwnedTupleGo_enum ho fun h2 he2 sb => ?_⟩
    have hlt2 : e < s.heap.objs.size := Heap.lt_size he
    have kk : ∀ b ob, b ≠ e → b ≠ it → s.heap.get? b = some ob → h2.get? b = some ob := fun b ob b1 b2 q => (sb.2 b b1).trans (hk b ob b1 b2 q)
    have hT2 : h2.get? s.heap.objs.size = some { cls := .type "tuple", data := .seq #[.int i tk, x'] } := (sb.2 _ (Nat.ne_of_gt hlt2)).trans hT
    have new : ObjOk X.prog X.w (upd H s.heap.objs.size (.tup [.int (i : Int), x])) h2 s.heap.objs.size (.tup [.int (i : Int), x]) :=
      ⟨by show 2 ≤ sizeLine; decide, [.int i tk, x'], .cons ⟨tk, rfl⟩ (.cons ru .nil), ⟨_, hT2, rfl, _, rfl⟩⟩
    have I2 := I.turned_laid (t' := tk + 1) kk fe fi (Nat.le_refl _) new
    refine ⟨.ref s.heap.objs.size, _, I2, rfl, ⟨_, x, rfl, I.hok.fresh (Nat.le_refl _), rfl, fun ys hy => by rw [I.list_inj hy hq]; exact hx⟩, ⟨⟨_, by simpa using he2⟩, hs'.1.at fun o z => (sb.2 it (Ne.symm hne)).trans z⟩, fun b hb => ?_⟩
    rcases List.mem_cons.mp hb with rfl | hb
    · rw [upd_ne (Nat.ne_of_lt hlt2)]; exact fe.1
    · rw [List.mem_singleton.mp hb]
      obtain ⟨o', ho', _⟩ := hit
      rw [upd_ne (Nat.ne_of_lt (Heap.lt_size ho'))]; exact fi.1
  done := by
    intro X hP hw hK hc i pins s σ H E I hf st hg
    subst hP hw hK
    obtain ⟨xs, hq, hx⟩ := hg
    obtain ⟨its, rv, p, hz⟩ := I.list hq
    obtain ⟨⟨old, he⟩, hit⟩ := st
    have fe := hf e (by simp)
    have fi := hf it (by simp)
    have hl := rv.length
    obtain ⟨oL, hoL, hcL, nL, hdL⟩ := p.isList
    have hai : a ≠ it := fun z => by
      subst z
      obtain ⟨o', ho', hc', _⟩ := hit
      rw [hoL] at ho'
      cases ho'
      rw [hcL] at hc'
      injection hc' with hz'
      exact absurd hz' (by decide)
    have hT : s.TypeIs (.ref e) "enumerate" := ⟨_, he, rfl⟩
    unfold pyNext
    refine wpAny_bind (wpAny_attempt (wpAny_callSpecial?_slot (name := Str.ofString "__next__") hT F.slot_enumerate_next
      (wpAny_call_entry F.slot_enumerate_next hT F.entry_enumerate_next ?_ (F.args_enumerate_next_1 _))))
    show wpAny _ _ (field (.ref e) 2 >>= _) _ _ _
    refine wpAny_bind (wpAny_field he rfl (x := .ref it) rfl ?_)
    refine wpAny_bind (wpAny_nextOf_list_end (by show X.A.handled = none; exact I.ok.hd hc) hit p.isList (by simp; omega) fun h' x he' hx' => ?_)
    obtain ⟨o, ho, hcx⟩ := hx'
    refine wpAny_bind (wpAny_isInstance (T := "StopIteration") (b := true) ⟨o, ho, hcx⟩ isSubtype_stop ?_)
    exact wpAny_pure ⟨rfl, I.turned2 (t' := s.toks) (fun b ob _ b2 q => he' b ob b2 q) fe fi⟩
  self := fun A i s Q E st h => by
    obtain ⟨⟨old, he⟩, _⟩ := st
    exact wpAny_pyIter_enum he h
end L2
namespace L2
open PySem PySem.Spec PyProof.Rows
def ItES (x : Str) : It :=
  ⟨fun i _ => i < x.cps.size, fun i H v H' => ∃ t c, v = .ref t ∧ H t = none ∧ x.cps.toList[i]? = some c ∧ H' = upd H t (.tup [.int (i : Int), .str ⟨#[c]⟩]), fun i _ => i = x.cps.size⟩
theorem draws_str {prog : Program} {w : World} {A : Around} (hh : A.handled = none) (it : Addr) (x : Str) (t : Tok) : Draws prog w A it [it] x.cps.size (fun i v => ∃ c u, x.cps[i]? = some c ∧ v = .str ⟨#[c]⟩ u) (fun i h => h.IsStrIter it (strIterType x) x t i) := by
  unfold strIterType
  split
  · exact Draws.strAscii hh it x t
  · exact Draws.strWide hh it x t
theorem turn_enumS {P : Program} {w : World} {K : PySem.W.Frag} {elts : List Expr} {k0 : Nat} {pos : Pos} (e it : Addr) (x : Str) (t : Tok) (hne : e ≠ it) : Turn P w K (.Tuple elts k0 pos) (ItES x) [e, it] e (fun i h => (∃ old, IsEnum h e it (i : Int) old) ∧ h.IsStrIter it (strIterType x) x t i) where
  mem := by simp
  obj := fun i h st b hb => by
    obtain ⟨⟨old, he⟩, o, ho, c, d⟩ := st
    rcases List.mem_cons.mp hb with rfl | hb
    · exact ⟨_, he, fun v z => by cases z⟩
    · rw [List.mem_singleton.mp hb]
      exact ⟨o, ho, fun v z => by rw [d] at z; cases z⟩
  keep := fun i h h' st k => by
    obtain ⟨⟨old, he⟩, o, ho, r⟩ := st
    exact ⟨⟨old, k e (by simp) _ he⟩, o, k it (by simp) o ho, r⟩
  item := by
    intro X hP hw hK hc i pins s σ H E I hf st hg
    subst hP hw hK
    obtain ⟨⟨old, he⟩, hit⟩ := st
    have fe := hf e (by simp)
    have fi := hf it (by simp)
    have D := draws_str (prog := X.prog) (w := X.w) (A := X.A.in1) (by show X.A.handled = none; exact I.ok.hd hc) it x t
    refine wpAny_pyNext_enum_itemD D he hit hg hne (by simp [hne]) fun x' h1 tk hP' ho hs' hT hsz hk => ?_
    obtain ⟨c, u, hcx, rfl⟩ := hP'
    refine ⟨_, rfl, wpAny_letOwnedTupleGo_enum ho fun h2 he2 sb => ?_⟩
    have hlt2 : e < s.heap.objs.size := Heap.lt_size he
    have kk : ∀ b ob, b ≠ e → b ≠ it → s.heap.get? b = some ob → h2.get? b = some ob := fun b ob b1 b2 q => (sb.2 b b1).trans (hk b ob b1 b2 q)
    have hT2 : h2.get? s.heap.objs.size = some { cls := .type "tuple", data := .seq #[.int i tk, .str ⟨#[c]⟩ u] } := (sb.2 _ (Nat.ne_of_gt hlt2)).trans hT
    have new : ObjOk X.prog X.w (upd H s.heap.objs.size (.tup [.int (i : Int), .str ⟨#[c]⟩])) h2 s.heap.objs.size (.tup [.int (i : Int), .str ⟨#[c]⟩]) :=
      ⟨by show 2 ≤ sizeLine; decide, [.int i tk, .str ⟨#[c]⟩ u], .cons ⟨tk, rfl⟩ (.cons ⟨u, rfl⟩ .nil), ⟨_, hT2, rfl, _, rfl⟩⟩
    have I2 := I.turned_laid (t' := tk + 1) kk fe fi (Nat.le_refl _) new
    have hs2 : h2.IsStrIter it (strIterType x) x t (i + 1) := by
      obtain ⟨o', ho', r⟩ := hs'
      exact ⟨o', (sb.2 it (Ne.symm hne)).trans ho', r⟩
    refine ⟨.ref s.heap.objs.size, _, I2, rfl, ⟨_, c, rfl, I.hok.fresh (Nat.le_refl _), by rw [Array.getElem?_toList]; exact hcx, rfl⟩, ⟨⟨_, by simpa using he2⟩, hs2⟩, fun b hb => ?_⟩
    rcases List.mem_cons.mp hb with rfl | hb
    · rw [upd_ne (Nat.ne_of_lt hlt2)]; exact fe.1
    · rw [List.mem_singleton.mp hb]
      obtain ⟨o', ho', _⟩ := hit
      rw [upd_ne (Nat.ne_of_lt (Heap.lt_size ho'))]; exact fi.1
  done := by
    intro X hP hw hK hc i pins s σ H E I hf st hg
    subst hP hw hK
    obtain ⟨⟨old, he⟩, hit⟩ := st
    have hg : i = x.cps.size := hg
    subst hg
    have fe := hf e (by simp)
    have fi := hf it (by simp)
    have D := draws_str (prog := X.prog) (w := X.w) (A := X.A.in1) (by show X.A.handled = none; exact I.ok.hd hc) it x t
    exact wpAny_pyNext_enum_endD D he hit fun h' hx => ⟨rfl, I.turned2 (t' := s.toks) (fun b ob _ b2 q => hx b ob b2 q) fe fi⟩
  self := fun A i s Q E st h => by
    obtain ⟨⟨old, he⟩, _⟩ := st
    exact wpAny_pyIter_enum he h
section
variable {X : Cx} {p pos pos2 : Pos} {a : Expr} {elts : List Expr} {k0 : Nat} {ta : TE}
def iEnum (K : PySem.W.Frag) (ta : TE) : TI := fun σ H R => ta σ H fun x H1 => match x with
  | .ref d => (∃ xs, SqL K H1 d xs) ∧ R (ItE K d) H1
  | .str z => R (ItES z) H1
  | _ => False
theorem pi_enum (hm : X.mg "enumerate" = none) (ha : PE X a ta) (hg : Gl X "enumerate" := by rfl) (hs : starEach [a] X.env = [(false, eval a X.env)] := by rfl) : PI X (.Tuple elts k0 pos2) (.Call (.Name "enumerate" p) [a] [] pos) (iEnum X.K ta) := by
  intro pins s σ H R I h
  have hA : PA X [a] (tCons ta tNil) := pa_cons ha pa_nil (by rw [hs]; rfl)
  refine Call_ (ld_blt I hg hm bo_enumerate (PyProof.Rows.callWith_type1 (thn (hA pos pins s σ H (fun vs H1 => ∃ x, vs = [x] ∧ (match x with | .ref d => (∃ xs, SqL X.K H1 d xs) ∧ R (ItE X.K d) H1 | .str z => R (ItES z) H1 | _ => False)) I ?_) fun us s1 ⟨vs, H1, I1, r1, x, e1, q1⟩ => ?_) (by rw [hs]; rfl) rfl) (by decide) (by decide))
  · show ta σ H _
    have e : (fun (x : V) (H1 : Hp) => match x with | .ref d => (∃ xs, SqL X.K H1 d xs) ∧ R (ItE X.K d) H1 | .str z => R (ItES z) H1 | _ => False) = fun x H1 => tNil σ H1 fun xs H2 => ∃ y, x :: xs = [y] ∧ (match y with | .ref d => (∃ xs, SqL X.K H2 d xs) ∧ R (ItE X.K d) H2 | .str z => R (ItES z) H2 | _ => False) := by
      funext x H1
      apply propext
      constructor
      · intro q; exact ⟨x, rfl, q⟩
      · rintro ⟨y, e, q⟩
        have : x = y := by injection e
        subst this
        exact q
    rw [← e]
    exact h
  · subst e1
    obtain ⟨u, rfl, ru⟩ := vals1 r1
    cases x with
    | ref d =>
      obtain ⟨⟨xs, hq⟩, q⟩ := q1
      cases ru
      obtain ⟨its, rv, pl, hz⟩ := I1.list hq
      refine call_enumerate_list pl.isList fun h' he hit hsz hk => ?_
      have I2 : Inv X pins σ H1 { s1 with heap := h' } := I1.kept (t' := s1.toks) hk
      refine wpAny_pyIter_enum he ⟨s1.heap.objs.size + 1, [s1.heap.objs.size + 1, s1.heap.objs.size], _, _, H1, rfl, I2, turn_enumL d _ _ (Nat.succ_ne_self _), ⟨⟨_, he⟩, hit⟩, fun b hb => ?_, q⟩
      rcases List.mem_cons.mp hb with rfl | hb
      · exact I1.fpOk (Nat.le_succ _) (I1.hok.fresh (Nat.le_succ _))
      · rw [List.mem_singleton.mp hb]
        exact I1.fpOk (Nat.le_refl _) (I1.hok.fresh (Nat.le_refl _))
    | str z =>
      obtain ⟨t, rfl⟩ := ru
      refine call_enumerate_str fun h' he hit hsz hk => ?_
      have I2 : Inv X pins σ H1 { s1 with heap := h' } := I1.kept (t' := s1.toks) hk
      refine wpAny_pyIter_enum he ⟨s1.heap.objs.size + 1, [s1.heap.objs.size + 1, s1.heap.objs.size], _, _, H1, rfl, I2, turn_enumS _ _ z t (Nat.succ_ne_self _), ⟨⟨_, he⟩, hit⟩, fun b hb => ?_, q1⟩
      rcases List.mem_cons.mp hb with rfl | hb
      · exact I1.fpOk (Nat.le_succ _) (I1.hok.fresh (Nat.le_succ _))
      · rw [List.mem_singleton.mp hb]
        exact I1.fpOk (Nat.le_refl _) (I1.hok.fresh (Nat.le_refl _))
    | _ => exact q1.elim
theorem kenum (K : PySem.W.Frag) (hm : X.mg "enumerate" = none) (ha : PE X a ta) (hg : Gl X "enumerate" := by rfl) (hs : starEach [a] X.env = [(false, eval a X.env)] := by rfl) (hK : X.K = K := by rfl) : PI X (.Tuple elts k0 pos2) (.Call (.Name "enumerate" p) [a] [] pos) (iEnum K ta) := by
  subst hK; exact pi_enum hm ha hg hs
end
end L2
namespace L2
open PySem PySem.Spec PyProof.Rows
section
variable {X : Cx}
def loA (x : V) (vs : List V) (H : Hp) (Q : VK) : Prop := match x, vs with
  | .str a, [] => a.length ≤ sizeLine ∧ (∀ c ∈ a.cps.toList, c < 128) ∧ Q (.str ⟨a.cps.map lo1⟩) H
  | _, _ => False
def iuA (x : V) (vs : List V) (H : Hp) (Q : VK) : Prop := match x, vs with
  | .str a, [] => ∃ c, a = ⟨#[c]⟩ ∧ c < 128 ∧ Q (.bl (decide (65 ≤ c ∧ c ≤ 90))) H
  | _, _ => False
end
end L2
namespace L2
open PySem PySem.Spec PyProof.Rows
abbrev one (c : Nat) : Str := ⟨#[c]⟩
def Ltr (c : Nat) : Prop := 97 ≤ c ∧ c ≤ 122
def Sg (c : Nat) : Prop := c = 46 ∨ c = 35 ∨ (97 ≤ c ∧ c ≤ 122) ∨ (65 ≤ c ∧ c ≤ 90)
theorem Sg.lt {c : Nat} (h : Sg c) : c < 128 := by unfold Sg at h; omega
theorem Ltr.sg {c : Nat} (h : Ltr c) : Sg c := .inr (.inr (.inl h))
def kindV (c : Nat) : V := if c = 46 ∨ c = 35 then .non else .str (one (lo1 c))
def sideV (c : Nat) : V := if c = 46 ∨ c = 35 then .non else .int (if 65 ≤ c ∧ c ≤ 90 then 0 else 1)
section
variable {K : PySem.W.Frag} {σ rest : St} {H : Hp} {te ta tb tl : TE} {tt : TT} {R : Bool → Hp → Prop} {Q : VK} {c : Nat} {z : Str} {src : List (Option Nat)}
def enL (l : List Nat) (p : Nat → Nat → Bool) (f : Nat → Nat → V) (n : Nat) : List V := ((List.range n).filter fun i => p i (l.getD i 0)).map fun i => f i (l.getD i 0)
end
def emptyT (wi hi : Int) (hs : List Int) : Str := ⟨((List.range (wi * hi).toNat).map fun (s : Nat) => if (s : Int) ∈ hs then 35 else 46).toArray⟩
def putT (row : Str) (s : Int) (sg : Str) : Str := cutS row none (some s) ++ sg ++ cutS row (some (s + 1)) none
def sqsOf (row : Str) (sd : Int) : List Int := ((List.range row.length).filter fun i => decide (sideV (row.cps.toList.getD i 0) = .int sd)).map fun (i : Nat) => (i : Int)
def spSign : Sp := fun vs H Q _ => ∃ (c : Nat) (sd : Int), vs = [.str (one c), .int sd] ∧ Ltr c ∧ Q (.str (one (if sd = 0 then c - 32 else c))) H
def spKind : Sp := fun vs H Q _ => ∃ c : Nat, vs = [.str (one c)] ∧ c < 128 ∧ ∀ H', Same H H' → Q (kindV c) H'
def spSideOf : Sp := fun vs H Q _ => ∃ c : Nat, vs = [.str (one c)] ∧ c < 128 ∧ ∀ H', Same H H' → Q (sideV c) H'
def spHas (K : PySem.W.Frag) (C : Addr) : Sp := fun vs H Q _ => ∃ (p : Addr) (wi hi : Int) (hs : List Int) (s : Int), vs = [.ref p, .int s] ∧ BrdAt K C H p wi hi hs ∧ Q (.bl (decide (0 ≤ s ∧ s < wi * hi ∧ ¬ s ∈ hs))) H
def spEmpty (K : PySem.W.Frag) (C : Addr) : Sp := fun vs H Q _ => ∃ (p : Addr) (wi hi : Int) (hs : List Int), vs = [.ref p] ∧ BrdAt K C H p wi hi hs ∧ ∀ H', Same H H' → Q (.str (emptyT wi hi hs)) H'
def spPut : Sp := fun vs H Q _ => ∃ (row : Str) (s : Int) (c : Nat), vs = [.str row, .int s, .str (one c)] ∧ 0 ≤ s ∧ row.length ≤ 100 ∧ Q (.str (putT row s (one c))) H
def spSquares : Sp := fun vs H Q _ => ∃ (row : Str) (sd : Int), vs = [.str row, .int sd] ∧ row.length ≤ 100 ∧ (∀ c ∈ row.cps.toList, c < 128) ∧ ∀ (q : Addr) (H' : Hp), H q = none → H' q = some (.lst ((sqsOf row sd).map V.int)) → Same H H' → Q (.ref q) H'
section
variable {K : PySem.W.Frag} {σ : St} {H : Hp} {tb : TE} {t : TA} {op : CmpOp} {R : Bool → Hp → Prop} {vs : List V} {sp : Sp}
end
structure CP1 (P : Program) (w : World) (K : PySem.W.Frag) (mg : Str → Option Value) (base : Heap) : Prop where
  side_of : Cal P w K mg base "side_of" ["sign"] 1 spSideOf
structure CP2 (P : Program) (w : World) (K : PySem.W.Frag) (mg : Str → Option Value) (base : Heap) (cB : Addr) : Prop where
  Board_has : MCal P w K mg base cB "has" ["self", "square"] 3 (spHas K cB)
end L2
namespace L2
open PySem PySem.Spec PyProof.Rows
section
variable {K : PySem.W.Frag} {σ rest : St} {H : Hp} {te to ta tb tl : TE} {t : TA} {tt u : TT} {src : List (Option Nat)} {Q : VK} {R : Bool → Hp → Prop} {D : Ends} {g : TG} {tB : TS} {v x y : V} {vs : List V} {sp : Sp}
theorem tor_k (h : Tv tt σ H false) (q : u σ H R) : tOr tt u σ H R := h _ (iteF q)
theorem pickV {xs : List V} {i : Int} (h0 : 0 ≤ i) (h1 : i < xs.length) : ∃ v, atI xs i = some v ∧ v ∈ xs := by
  have hlt : i.toNat < xs.length := by omega
  have q := atI_nat (List.getElem?_eq_getElem hlt)
  have ei : ((i.toNat : Nat) : Int) = i := by omega
  rw [ei] at q
  exact ⟨_, q, List.getElem_mem hlt⟩
theorem for_enL {d : Addr} {xs : List V} (P0 : Hp → Prop) (htl : ∀ Q : VK, (∀ H', P0 H' → Q (.ref d) H') → tl σ H Q) (hq : ∀ H', P0 H' → SqL K H' d xs) (Pv : Nat → St → Hp → Prop) (hp0 : ∀ H', P0 H' → Pv 0 σ H') (hl : ∀ i σ' H', Pv i σ' H' → SqL K H' d xs)
    (hs : ∀ (i : Nat) x σ' H' t, xs[i]? = some x → Pv i σ' H' → H' t = none → g (.ref t) σ' (upd H' t (.tup [.int (i : Int), x])) fun σ2 H2 => tB { D with nx := Pv (i + 1), ct := Pv (i + 1), bk := D.nx } σ2 H2) (hd : ∀ σ' H', Pv xs.length σ' H' → D.nx σ' H') : tFor (iEnum K tl) g tB D σ H := by
  refine htl _ fun H1 p1 => ?_
  refine ⟨⟨xs, hq H1 p1⟩, fun i m σ' H' => m = xs.length - i ∧ i ≤ xs.length ∧ Pv i σ' H', ⟨_, rfl, Nat.zero_le _, hp0 H1 p1⟩, ?_⟩
  rintro i m σ' H' ⟨rfl, hi, pv⟩
  have hS := hl i σ' H' pv
  by_cases hlt : i < xs.length
  · refine .inr ⟨⟨xs, xs[i], hS, List.getElem?_eq_getElem hlt⟩, Pv (i + 1), fun σ2 H2 p2 => ⟨xs.length - (i + 1), by omega, rfl, hlt, p2⟩, ?_⟩
    rintro x H2 ⟨t, w, rfl, ht, rfl, hx⟩
    exact hs i w σ' H' t (hx xs hS) pv ht
  · have e : i = xs.length := by omega
    subst e
    exact .inl ⟨⟨xs, hS, Nat.le_refl _⟩, hd σ' H' pv⟩
theorem gpair {i j : Nat} {d : Addr} {a b : V} {R : St → Hp → Prop} (h : H d = some (.tup [a, b])) (q : R ((σ.set i (some a)).set j (some b)) H) : gTup K 2 (gCons (gName i) (gCons (gName j) gNil)) (.ref d) σ H R := ⟨d, _, rfl, SqT.of h, rfl, _, _, rfl, _, _, rfl, rfl, q⟩
theorem asgc_k (h : Av t σ H vs) (q : sp vs H (fun x H1 => g x σ H1 D.nx) E0) : tAsg (cCall sp t) g D σ H := h _ q
end
theorem pigeon : ∀ (n : Nat) (l : List Int), l.length < n → ∃ s : Nat, s < n ∧ ¬ ((s : Int) ∈ l)
  | 0, l, h => by omega
  | n + 1, l, h => by
    by_cases m : ((n : Nat) : Int) ∈ l
    · have hl := List.length_erase_of_mem m
      have hp := List.length_pos_of_mem m
      obtain ⟨s, h1, h2⟩ := pigeon n (l.erase ((n : Nat) : Int)) (by omega)
      refine ⟨s, by omega, fun z => h2 ?_⟩
      exact (List.mem_erase_of_ne (by omega)).mpr z
    · exact ⟨n, by omega, m⟩
def freeL (wi hi : Int) (hs : List Int) : List Int := ((List.range (wi * hi).toNat).map fun (i : Nat) => (i : Int)).filter fun i => !decide (i ∈ hs)
def freeP (hs : List Int) : V → Bool
  | .int i => !decide (i ∈ hs)
  | _ => false
def cellAt (ns : List Int) (k : Int) : Int := ns.getD k.toNat 0
def mixed (c k : Int) : Int := (c + 7919 * k + 3) * 48271 % 2147483647
def kindsL (b s : Int) (n : Nat) : List Nat := (List.range n).map fun (k : Nat) => 97 + ((b + s * (k : Int)) % 26).toNat
def strV (c : Nat) : V := .str (one c)
def spCellAt (K : PySem.W.Frag) : Sp := fun vs H Q _ => ∃ (a : Addr) (ns : List Int) (k : Int), vs = [.ref a, .int k] ∧ SqL K H a (ns.map V.int) ∧ 0 ≤ k ∧ Q (.int (cellAt ns k)) H
def spMixed : Sp := fun vs H Q _ => ∃ c k : Int, vs = [.int c, .int k] ∧ Q (.int (mixed c k)) H
def spLBoard (K : PySem.W.Frag) : Sp := fun vs H Q _ => ∃ (a : Addr) (ns : List Int), vs = [.ref a] ∧ SqL K H a (ns.map V.int) ∧ ∀ (t q : Addr) (wi hi : Int) (hs : List Int) (H' : Hp), 1 ≤ wi → wi ≤ 8 → 1 ≤ hi → hi ≤ 8 → H' t = some (.tup [.int wi, .int hi, .ref q]) → H' q = some (.lst (hs.map V.int)) → (∀ h ∈ hs, 0 ≤ h ∧ h < wi * hi) → hs.Nodup → (hs.length : Int) < wi * hi → hs.length ≤ 2 → H q = none → H t = none → Same H H' → Q (.ref t) H'
def spLKinds : Sp := fun vs H Q _ => ∃ c : Int, vs = [.int c] ∧ ∀ (q : Addr) (ks : List Nat) (H' : Hp), H q = none → H' q = some (.lst (ks.map strV)) → (∀ k ∈ ks, Ltr k) → ks.Nodup → 1 ≤ ks.length → ks.length ≤ 6 → Same H H' → Q (.ref q) H'
def spWhL : Sp := fun vs H Q _ => ∃ n : Int, vs = [.int n] ∧ Q (.bl true) H
structure LG1 (P : Program) (w : World) (K : PySem.W.Frag) (mg : Str → Option Value) (base : Heap) : Prop where
  _law_cell_at : Cal P w K mg base "_law_cell_at" ["_law_script", "_law_k"] 1 (spCellAt K)
  _law_mixed : Cal P w K mg base "_law_mixed" ["_law_cell", "_law_k"] 1 spMixed
end L2
namespace L2
open PySem PySem.Spec PyProof.Rows
section
variable {κ : Type} [DecidableEq κ]
def ddp (l : List κ) (x : κ) : List κ := if x ∈ l then l else l ++ [x]
def mets (val : Nat → κ) : Nat → List κ
  | 0 => []
  | i + 1 => ddp (mets val i) (val i)
theorem mets_le (val : Nat → κ) : ∀ i, (mets val i).length ≤ i
  | 0 => Nat.le_refl 0
  | i + 1 => by
    have ih := mets_le val i
    show (ddp (mets val i) (val i)).length ≤ i + 1
    unfold ddp
    by_cases h : val i ∈ mets val i
    · rw [if_pos h]; omega
    · rw [if_neg h, List.length_append]; show _ + 1 ≤ _; omega
theorem mem_mets (val : Nat → κ) (x : κ) : ∀ i, x ∈ mets val i ↔ x ∈ (List.range i).map val
  | 0 => by simp [mets]
  | i + 1 => by
    have ih := mem_mets val x i
    show x ∈ ddp (mets val i) (val i) ↔ _
    rw [List.range_succ, List.map_append, List.mem_append, ← ih]
    unfold ddp
    by_cases h : val i ∈ mets val i
    · rw [if_pos h]
      constructor
      · exact fun z => .inl z
      · rintro (z | z)
        · exact z
        · have : x = val i := by simpa using z
          rw [this]; exact h
    · rw [if_neg h, List.mem_append]
      simp
theorem mets_nodup (val : Nat → κ) : ∀ i, (mets val i).length = i ↔ ((List.range i).map val).Nodup
  | 0 => by simp [mets]
  | i + 1 => by
    have ih := mets_nodup val i
    have hle := mets_le val i
    have hm := mem_mets val (val i) i
    show (ddp (mets val i) (val i)).length = i + 1 ↔ _
    rw [List.range_succ, List.map_append, List.nodup_append]
    unfold ddp
    by_cases h : val i ∈ mets val i
    · rw [if_pos h]
      constructor
      · intro z; omega
      · intro z
        exact absurd rfl (z.2.2 (val i) (hm.mp h) (val i) (by simp))
    · rw [if_neg h, List.length_append]
      constructor
      · intro z
        have z : (mets val i).length + 1 = i + 1 := z
        refine ⟨ih.mp (by omega), by simp, fun a ha b hb e => h (hm.mpr ?_)⟩
        have : b = val i := by simpa using hb
        rw [← this, ← e]; exact ha
      · intro z
        rw [ih.mpr z.1]
        rfl
end
section
variable {prog : Program} {w : World} {A : Around} {R : Result → Shared → Prop} {I : Addr} {fp wr : List Addr} {G : Array GenState → Array GenState → Prop} {n : Nat} {Pt : Nat → Value → Prop} {St : Nat → Shared → Prop} {κ : Type} [DecidableEq κ] {knd : KeyKind prog w κ}
end
section
variable {prog : Program} {w : World} {A : Around} {E : Value → Shared → Prop} {s : Shared} {κ : Type} [DecidableEq κ] {knd : KeyKind prog w κ}
abbrev setNew (led : Bool) : Obj := { cls := .type "set", dict := none, data := .set #[] 0 (.fresh 0 0 led) }
end
def uniqS (ss : List Str) : List Str := mets (fun i => ss.getD i Str.empty) ss.length
section
variable {X : Cx}
def setSA (K : PySem.W.Frag) (xs : List V) (H : Hp) (Q : VK) : Prop := match xs with
  | [.ref d] => ∃ ss : List Str, SqL K H d (ss.map V.str) ∧ ss.length + 1 < scanBound ∧ ∀ q φ, H q = none → (∀ h : Heap, φ h → ∃ (o : Obj) (es : Array (Int × Value)) (ep : Nat) (t : SetTable), h.get? q = some o ∧ o.ExactSet ∧ o.data = .set es ep t ∧ t.fits es.size = true ∧ es.size = (uniqS ss).length) → Q (.ref q) (upd H q (.ext φ))
  | _ => False
def lenXA (xs : List V) (H : Hp) (Q : VK) : Prop := match xs with
  | [.ref d] => ∃ (φ : Heap → Prop) (n : Nat), H d = some (.ext φ) ∧ n ≤ 1000 ∧ (∀ h : Heap, φ h → ∃ (o : Obj) (es : Array (Int × Value)) (ep : Nat) (t : SetTable), h.get? d = some o ∧ o.ExactSet ∧ o.data = .set es ep t ∧ t.fits es.size = true ∧ es.size = n) ∧ Q (.int n) H
  | _ => False
end
end L2
namespace L2
open PySem PySem.Spec PyProof.Rows
section
variable {X : Cx}
def anyA (K : PySem.W.Frag) (xs : List V) (H : Hp) (Q : VK) : Prop := match xs with
  | [.ref d] => ∃ ks : List Bool, SqL K H d (ks.map V.bl) ∧ Q (.bl (ks.any id)) H
  | _ => False
end
def Thg (H : Hp) : V → Prop
  | .non => True
  | .bl _ => True
  | .int _ => True
  | .str z => z.length ≤ 1000
  | .ref a => (∃ xs, H a = some (.lst xs)) ∨ (∃ xs, H a = some (.tup xs)) ∨ (∃ kvs, H a = some (.dK kvs))
  | _ => False
def isTB (T : BT) (H : Hp) : V → Bool
  | .bl _ => isSub .bool T
  | .int _ => isSub .int T
  | .str _ => isSub .str T
  | .ref a => match H a with
    | some (.lst _) => isSub .list T
    | some (.tup _) => isSub .tuple T
    | some (.dK _) => isSub .dict T
    | _ => false
  | _ => false
def tupOf (H : Hp) : V → Option (List V)
  | .ref a => match H a with
    | some (.tup xs) => some xs
    | _ => none
  | _ => none
def lstOf (H : Hp) : V → Option (List V)
  | .ref a => match H a with
    | some (.lst xs) => some xs
    | _ => none
  | _ => none
def ThgN (H : Hp) : Nat → V → Prop
  | 0, v => Thg H v
  | n + 1, v => Thg H v ∧ ∀ xs, (tupOf H v = some xs ∨ lstOf H v = some xs) → ∀ x ∈ xs, ThgN H n x
theorem ThgN.thg {H : Hp} {n : Nat} {v : V} (h : ThgN H n v) : Thg H v := by
  cases n with
  | zero => exact h
  | succ n => exact h.1
def wholeB : V → Bool
  | .int _ => true
  | _ => false
def amongB (v : V) (a b : Int) : Bool := match v with
  | .int i => decide (a ≤ i ∧ i ≤ b)
  | _ => false
def wordB (v : V) (ws : List Str) : Bool := match v with
  | .str z => decide (z ∈ ws)
  | _ => false
section
variable {K : PySem.W.Frag} {σ : St} {H H' : Hp} {te ta tb : TE} {v : V} {T : BT} {ws : List Str}
theorem Thg.same (h : Thg H v) (s : Same H H') : Thg H' v := by
  cases v with
  | ref a =>
    rcases h with ⟨xs, e⟩ | ⟨xs, e⟩ | ⟨xs, e⟩
    · exact .inl ⟨xs, s _ _ e⟩
    · exact .inr (.inl ⟨xs, s _ _ e⟩)
    · exact .inr (.inr ⟨xs, s _ _ e⟩)
  | _ => exact h
theorem tupOf_same (h : Thg H v) (s : Same H H') : tupOf H' v = tupOf H v := by
  cases v with
  | ref a =>
    rcases h with ⟨xs, e⟩ | ⟨xs, e⟩ | ⟨xs, e⟩ <;> simp only [tupOf, e, s _ _ e]
  | _ => rfl
theorem lstOf_same (h : Thg H v) (s : Same H H') : lstOf H' v = lstOf H v := by
  cases v with
  | ref a =>
    rcases h with ⟨xs, e⟩ | ⟨xs, e⟩ | ⟨xs, e⟩ <;> simp only [lstOf, e, s _ _ e]
  | _ => rfl
theorem ThgN.same {n : Nat} : ∀ {v : V}, ThgN H n v → Same H H' → ThgN H' n v := by
  induction n with
  | zero => intro v h s; exact Thg.same h s
  | succ n ih =>
    intro v h s
    refine ⟨h.1.same s, fun xs hx x hm => ih (h.2 xs ?_ x hm) s⟩
    rw [tupOf_same h.1 s, lstOf_same h.1 s] at hx
    exact hx
end
def sortsL : List Str := ["leap", "slide", "jump"]
def aimsL : List Str := ["go", "hit", "any"]
def endsL : List Str := ["without", "home"]
def stuckL : List Str := ["lost", "even", "won"]
def tupB (H : Hp) (v : V) (n : Int) : Bool := match tupOf H v with
  | some xs => decide ((xs.length : Int) = n)
  | none => false
def lstB (H : Hp) (v : V) (a b : Int) : Bool := match lstOf H v with
  | some xs => decide (a ≤ (xs.length : Int) ∧ (xs.length : Int) ≤ b)
  | none => false
def limS (so : Str) : Int := if so = "leap" then 3 else 1
def stepB (so : Str) (x y : V) : Bool := amongB x (-limS so) (limS so) && amongB y (-limS so) (limS so) && !(decide (x = .int 0) && decide (y = .int 0))
def ruleX (xs : List V) (ws : List Str) : Bool := match xs with
  | [k, .str so, .str ai, x, y] => wordB k ws && decide (so ∈ sortsL) && decide (ai ∈ aimsL) && !(decide (so = "jump") && !decide (ai = "hit")) && stepB so x y
  | _ => false
def ruleB (H : Hp) (v : V) (ws : List Str) : Bool := match tupOf H v with
  | some xs => ruleX xs ws
  | none => false
def pairX (xs : List V) (A B : List Str) : Bool := match xs with
  | [a, b] => wordB a A && wordB b B
  | _ => false
def pairB (H : Hp) (v : V) (A B : List Str) : Bool := match tupOf H v with
  | some xs => pairX xs A B
  | none => false
def pairsB (H : Hp) (v : V) (A B : List Str) : Bool := match lstOf H v with
  | some vs => decide (vs.length ≤ 6) && vs.all (fun x => pairB H x A B)
  | none => false
def fstS (H : Hp) (v : V) : Str := match tupOf H v with
  | some (.str a :: _) => a
  | _ => Str.empty
def sndS (H : Hp) (v : V) : Str := match tupOf H v with
  | some (_ :: .str b :: _) => b
  | _ => Str.empty
def turnsB (H : Hp) (v : V) (ws : List Str) : Bool := pairsB H v ws ws && match lstOf H v with
  | some vs => !(vs.any fun x => decide (sndS H x ∈ vs.map (fstS H))) && decide ((vs.map (fstS H)).Nodup)
  | none => false
def spWholeG : Sp := fun vs H Q _ => ∃ v, vs = [v] ∧ Thg H v ∧ Q (.bl (wholeB v)) H
def spAmongG : Sp := fun vs H Q _ => ∃ v a b, vs = [v, .int a, .int b] ∧ Thg H v ∧ Q (.bl (amongB v a b)) H
def WsAt (K : PySem.W.Frag) (H : Hp) (d : Addr) (ws : List Str) : Prop := SqL K H d (ws.map V.str) ∨ SqT K H d (ws.map V.str)
def spWordG (K : PySem.W.Frag) : Sp := fun vs H Q _ => ∃ v d ws, vs = [v, .ref d] ∧ Thg H v ∧ WsAt K H d ws ∧ Q (.bl (wordB v ws)) H
def spTupG : Sp := fun vs H Q _ => ∃ v n, vs = [v, .int n] ∧ Thg H v ∧ Q (.bl (tupB H v n)) H
def spLstG : Sp := fun vs H Q _ => ∃ v a b, vs = [v, .int a, .int b] ∧ Thg H v ∧ Q (.bl (lstB H v a b)) H
def spStepG : Sp := fun vs H Q _ => ∃ so x y, vs = [.str so, x, y] ∧ Thg H x ∧ Thg H y ∧ Q (.bl (stepB so x y)) H
def spRuleG (K : PySem.W.Frag) : Sp := fun vs H Q _ => ∃ v d ws, vs = [v, .ref d] ∧ ThgN H 1 v ∧ WsAt K H d ws ∧ Q (.bl (ruleB H v ws)) H
def spPairG (K : PySem.W.Frag) : Sp := fun vs H Q _ => ∃ v d e A B, vs = [v, .ref d, .ref e] ∧ ThgN H 1 v ∧ WsAt K H d A ∧ WsAt K H e B ∧ Q (.bl (pairB H v A B)) H
def spPairsG (K : PySem.W.Frag) : Sp := fun vs H Q _ => ∃ v d e A B, vs = [v, .ref d, .ref e] ∧ ThgN H 2 v ∧ WsAt K H d A ∧ WsAt K H e B ∧ ∀ H', Same H H' → Q (.bl (pairsB H v A B)) H'
def spTurnsG (K : PySem.W.Frag) : Sp := fun vs H Q _ => ∃ v d ws, vs = [v, .ref d] ∧ ThgN H 2 v ∧ WsAt K H d ws ∧ ∀ H', Same H H' → Q (.bl (turnsB H v ws)) H'
def spEndsG (K : PySem.W.Frag) : Sp := fun vs H Q _ => ∃ v d ws, vs = [v, .ref d] ∧ ThgN H 2 v ∧ WsAt K H d ws ∧ ∀ H', Same H H' → Q (.bl (pairsB H v endsL ws)) H'
theorem Same.sqt {K : PySem.W.Frag} {H H' : Hp} {a : Addr} {xs : List V} (s : Same H H') (h : SqT K H a xs) : SqT K H' a xs := by
  rcases h with (e | ⟨o, e⟩) | r
  · exact .inl (.inl (s _ _ e))
  · exact .inl (.inr ⟨o, s _ _ e⟩)
  · exact .inr r
theorem WsAt.same {K : PySem.W.Frag} {H H' : Hp} {d : Addr} {ws : List Str} (h : WsAt K H d ws) (s : Same H H') : WsAt K H' d ws := by
  rcases h with h | h
  · exact .inl (s.seq h)
  · exact .inr (s.sqt h)
structure RG0 (P : Program) (w : World) (K : PySem.W.Frag) (mg : Str → Option Value) (base : Heap) : Prop where
  is_whole : Cal P w K mg base "is_whole" ["thing"] 1 spWholeG
structure RG1 (P : Program) (w : World) (K : PySem.W.Frag) (mg : Str → Option Value) (base : Heap) : Prop where
  is_among : Cal P w K mg base "is_among" ["thing", "least", "most"] 2 spAmongG
structure RG2 (P : Program) (w : World) (K : PySem.W.Frag) (mg : Str → Option Value) (base : Heap) : Prop where
  is_word : Cal P w K mg base "is_word" ["thing", "words"] 1 (spWordG K)
  is_tuple_of : Cal P w K mg base "is_tuple_of" ["thing", "many"] 1 spTupG
structure RG3 (P : Program) (w : World) (K : PySem.W.Frag) (mg : Str → Option Value) (base : Heap) : Prop extends RG2 P w K mg base where
  is_step : Cal P w K mg base "is_step" ["sort", "across", "up"] 3 spStepG
structure RG4 (P : Program) (w : World) (K : PySem.W.Frag) (mg : Str → Option Value) (base : Heap) : Prop where
  is_list_of : Cal P w K mg base "is_list_of" ["thing", "least", "most"] 1 spLstG
  is_pair : Cal P w K mg base "is_pair" ["thing", "firsts", "seconds"] 2 (spPairG K)
structure RG5 (P : Program) (w : World) (K : PySem.W.Frag) (mg : Str → Option Value) (base : Heap) : Prop where
  are_pairs : Cal P w K mg base "are_pairs" ["thing", "firsts", "seconds"] 3 (spPairsG K)
end L2
namespace L2
open PySem PySem.Spec PyProof.Rows
def letB : V → Bool
  | .str z => match z.cps.toList with
    | [c] => decide (97 ≤ c ∧ c ≤ 122)
    | _ => false
  | _ => false
def strOf : V → Str
  | .str z => z
  | _ => Str.empty
def kindsB (H : Hp) (v : V) : Bool := match lstOf H v with
  | some xs => decide (1 ≤ xs.length ∧ xs.length ≤ 6) && xs.all letB && decide ((xs.map strOf).Nodup)
  | none => false
def rulesB (H : Hp) (v : V) (ws : List Str) : Bool := match lstOf H v with
  | some xs => decide (xs.length ≤ 24) && xs.all (fun x => ruleB H x ws)
  | none => false
def spLetterG : Sp := fun vs H Q _ => ∃ v, vs = [v] ∧ Thg H v ∧ Q (.bl (letB v)) H
def spKindsG : Sp := fun vs H Q _ => ∃ v, vs = [v] ∧ ThgN H 1 v ∧ ∀ H', Same H H' → Q (.bl (kindsB H v)) H'
def spRulesG (K : PySem.W.Frag) : Sp := fun vs H Q _ => ∃ v d ws, vs = [v, .ref d] ∧ ThgN H 2 v ∧ WsAt K H d ws ∧ ∀ H', Same H H' → Q (.bl (rulesB H v ws)) H'
structure GmC (K : PySem.W.Frag) (C : Addr) : Prop where
  cl : Cls K C
  board : NoAttr K C "board"
  kinds : NoAttr K C "kinds"
  rules : NoAttr K C "rules"
  turns : NoAttr K C "turns"
  ends : NoAttr K C "ends"
  stuck : NoAttr K C "stuck"
def gf1 (b : Addr) : List (Str × V) := putF "board" (.ref b) []
def gf2 (b k : Addr) : List (Str × V) := putF "kinds" (.ref k) (gf1 b)
def gf3 (b k r : Addr) : List (Str × V) := putF "rules" (.ref r) (gf2 b k)
def gf4 (b k r t : Addr) : List (Str × V) := putF "turns" (.ref t) (gf3 b k r)
def gf5 (b k r t e : Addr) : List (Str × V) := putF "ends" (.ref e) (gf4 b k r t)
def gflds (b k r t e : Addr) (st : Str) : List (Str × V) := putF "stuck" (.str st) (gf5 b k r t e)
section
variable {b k r t e : Addr} {st : Str}
theorem gf_board : (gflds b k r t e st).lookup ("board" : Str) = some (.ref b) := by
  unfold gflds gf5 gf4 gf3 gf2 gf1
  rw [lookup_putF, if_neg (by decide +kernel), lookup_putF, if_neg (by decide +kernel), lookup_putF, if_neg (by decide +kernel), lookup_putF, if_neg (by decide +kernel), lookup_putF, if_neg (by decide +kernel), lookup_putF, if_pos rfl]
theorem gf_kinds : (gflds b k r t e st).lookup ("kinds" : Str) = some (.ref k) := by
  unfold gflds gf5 gf4 gf3 gf2
  rw [lookup_putF, if_neg (by decide +kernel), lookup_putF, if_neg (by decide +kernel), lookup_putF, if_neg (by decide +kernel), lookup_putF, if_neg (by decide +kernel), lookup_putF, if_pos rfl]
theorem gf_rules : (gflds b k r t e st).lookup ("rules" : Str) = some (.ref r) := by
  unfold gflds gf5 gf4 gf3
  rw [lookup_putF, if_neg (by decide +kernel), lookup_putF, if_neg (by decide +kernel), lookup_putF, if_neg (by decide +kernel), lookup_putF, if_pos rfl]
theorem gf_turns : (gflds b k r t e st).lookup ("turns" : Str) = some (.ref t) := by
  unfold gflds gf5 gf4
  rw [lookup_putF, if_neg (by decide +kernel), lookup_putF, if_neg (by decide +kernel), lookup_putF, if_pos rfl]
theorem gf_ends : (gflds b k r t e st).lookup ("ends" : Str) = some (.ref e) := by
  unfold gflds gf5
  rw [lookup_putF, if_neg (by decide +kernel), lookup_putF, if_pos rfl]
theorem gf_stuck : (gflds b k r t e st).lookup ("stuck" : Str) = some (.str st) := by
  unfold gflds
  rw [lookup_putF, if_pos rfl]
theorem gf_no {m : Str} (h1 : ¬ m = "board") (h2 : ¬ m = "kinds") (h3 : ¬ m = "rules") (h4 : ¬ m = "turns") (h5 : ¬ m = "ends") (h6 : ¬ m = "stuck") : (gflds b k r t e st).lookup m = none := by
  unfold gflds gf5 gf4 gf3 gf2 gf1
  rw [lookup_putF, if_neg h6, lookup_putF, if_neg h5, lookup_putF, if_neg h4, lookup_putF, if_neg h3, lookup_putF, if_neg h2, lookup_putF, if_neg h1]
  rfl
end
structure GmAt (C : Addr) (H : Hp) (p b : Addr) (ks rs ts es : List V) (st : Str) : Prop where
  ex : ∃ dx kq rq tq eq, H p = some (.ins C dx (gflds b kq rq tq eq st)) ∧ H kq = some (.lst ks) ∧ H rq = some (.lst rs) ∧ H tq = some (.lst ts) ∧ H eq = some (.lst es)
section
variable {K : PySem.W.Frag} {C : Addr} {H H' : Hp} {p b : Addr} {ks rs ts es : List V} {st : Str}
theorem GmAt.same (G : GmAt C H p b ks rs ts es st) (s : Same H H') : GmAt C H' p b ks rs ts es st := by
  obtain ⟨dx, kq, rq, tq, eq, a, c, d, e, f⟩ := G.ex
  exact ⟨dx, kq, rq, tq, eq, s _ _ a, s _ _ c, s _ _ d, s _ _ e, s _ _ f⟩
theorem GmAt.board (G : GmAt C H p b ks rs ts es st) (D : GmC K C) : Fl K H p "board" (.ref b) := by
  obtain ⟨dx, kq, rq, tq, eq, a, _⟩ := G.ex
  exact ⟨C, dx, _, a, D.cl, D.board, gf_board⟩
theorem GmAt.kinds (G : GmAt C H p b ks rs ts es st) (D : GmC K C) : ∃ q, Fl K H p "kinds" (.ref q) ∧ H q = some (.lst ks) := by
  obtain ⟨dx, kq, rq, tq, eq, a, c, d, e, f⟩ := G.ex
  exact ⟨kq, ⟨C, dx, _, a, D.cl, D.kinds, gf_kinds⟩, c⟩
theorem GmAt.rules (G : GmAt C H p b ks rs ts es st) (D : GmC K C) : ∃ q, Fl K H p "rules" (.ref q) ∧ H q = some (.lst rs) := by
  obtain ⟨dx, kq, rq, tq, eq, a, c, d, e, f⟩ := G.ex
  exact ⟨rq, ⟨C, dx, _, a, D.cl, D.rules, gf_rules⟩, d⟩
theorem GmAt.turns (G : GmAt C H p b ks rs ts es st) (D : GmC K C) : ∃ q, Fl K H p "turns" (.ref q) ∧ H q = some (.lst ts) := by
  obtain ⟨dx, kq, rq, tq, eq, a, c, d, e, f⟩ := G.ex
  exact ⟨tq, ⟨C, dx, _, a, D.cl, D.turns, gf_turns⟩, e⟩
theorem GmAt.ends (G : GmAt C H p b ks rs ts es st) (D : GmC K C) : ∃ q, Fl K H p "ends" (.ref q) ∧ H q = some (.lst es) := by
  obtain ⟨dx, kq, rq, tq, eq, a, c, d, e, f⟩ := G.ex
  exact ⟨eq, ⟨C, dx, _, a, D.cl, D.ends, gf_ends⟩, f⟩
theorem GmAt.stuck (G : GmAt C H p b ks rs ts es st) (D : GmC K C) : Fl K H p "stuck" (.str st) := by
  obtain ⟨dx, kq, rq, tq, eq, a, _⟩ := G.ex
  exact ⟨C, dx, _, a, D.cl, D.stuck, gf_stuck⟩
theorem GmAt.no (G : GmAt C H p b ks rs ts es st) {m : Str} (h1 : ¬ m = "board" := by decide +kernel) (h2 : ¬ m = "kinds" := by decide +kernel) (h3 : ¬ m = "rules" := by decide +kernel) (h4 : ¬ m = "turns" := by decide +kernel) (h5 : ¬ m = "ends" := by decide +kernel) (h6 : ¬ m = "stuck" := by decide +kernel) : InsNo C m H p := by
  obtain ⟨dx, kq, rq, tq, eq, a, _⟩ := G.ex
  exact ⟨dx, _, a, gf_no h1 h2 h3 h4 h5 h6⟩
end
section
variable {H H' : Hp} {v : V} {A B ws : List Str}
end
def spGInit (K : PySem.W.Frag) (C : Addr) : Sp := fun vs H Q _ => ∃ (p b kd rd td ed dx : Addr) (ws : List Str) (rs ts es : List V) (st : Str), vs = [.ref p, .ref b, .ref kd, .ref rd, .ref td, .ref ed, .str st] ∧ H p = some (.ins C dx []) ∧ H kd = some (.lst (ws.map V.str)) ∧ H rd = some (.lst rs) ∧ H td = some (.lst ts) ∧ H ed = some (.lst es) ∧
  ThgN H 1 (.ref kd) ∧ ThgN H 2 (.ref rd) ∧ ThgN H 2 (.ref td) ∧ ThgN H 2 (.ref ed) ∧ kindsB H (.ref kd) = true ∧ rulesB H (.ref rd) ws = true ∧ turnsB H (.ref td) ws = true ∧ pairsB H (.ref ed) endsL ws = true ∧ st ∈ stuckL ∧ st.length ≤ 1000 ∧
  ∀ H', GmAt C H' p b (ws.map V.str) rs ts es st → SameBut p H H' → Q .non H'
structure GG1 (P : Program) (w : World) (K : PySem.W.Frag) (mg : Str → Option Value) (base : Heap) : Prop where
  is_list_of : Cal P w K mg base "is_list_of" ["thing", "least", "most"] 1 spLstG
  is_letter : Cal P w K mg base "is_letter" ["thing"] 1 spLetterG
  is_rule : Cal P w K mg base "is_rule" ["thing", "kinds"] 4 (spRuleG K)
structure GG2 (P : Program) (w : World) (K : PySem.W.Frag) (mg : Str → Option Value) (base : Heap) : Prop where
  are_kinds : Cal P w K mg base "are_kinds" ["thing"] 2 spKindsG
  are_rules : Cal P w K mg base "are_rules" ["thing", "kinds"] 5 (spRulesG K)
  is_turns : Cal P w K mg base "is_turns" ["thing", "kinds"] 4 (spTurnsG K)
  is_ends : Cal P w K mg base "is_ends" ["thing", "kinds"] 4 (spEndsG K)
  is_word : Cal P w K mg base "is_word" ["thing", "words"] 1 (spWordG K)
end L2
namespace L2
open PySem PySem.Spec PyProof.Rows
def ThgL (H : Hp) : V → Prop
  | .non => True
  | .bl _ => True
  | .int _ => True
  | .str z => z.length ≤ 1000
  | .ref a => (∃ xs, H a = some (.lst xs)) ∨ (∃ xs, H a = some (.tup xs))
  | _ => False
def ThL (H : Hp) : Nat → V → Prop
  | 0, v => ThgL H v
  | n + 1, v => ThgL H v ∧ ∀ xs, (tupOf H v = some xs ∨ lstOf H v = some xs) → ∀ x ∈ xs, ThL H n x
def eqS : V → Str → Bool
  | .str y, z => decide (y = z)
  | _, _ => false
theorem ThgL.thg {H : Hp} {v : V} (h : ThgL H v) : Thg H v := by
  cases v with
  | ref a =>
    rcases h with h | h
    · exact .inl h
    · exact .inr (.inl h)
  | _ => exact h
theorem ThL.l {H : Hp} {n : Nat} {v : V} (h : ThL H n v) : ThgL H v := by
  cases n with
  | zero => exact h
  | succ n => exact h.1
theorem ThL.n {H : Hp} : ∀ {n : Nat} {v : V}, ThL H n v → ThgN H n v
  | 0, v, h => ThgL.thg h
  | n + 1, v, h => ⟨h.1.thg, fun xs hx x hm => (h.2 xs hx x hm).n⟩
theorem ThgL.same {H H' : Hp} {v : V} (h : ThgL H v) (s : Same H H') : ThgL H' v := by
  cases v with
  | ref a =>
    rcases h with ⟨xs, e⟩ | ⟨xs, e⟩
    · exact .inl ⟨xs, s _ _ e⟩
    · exact .inr ⟨xs, s _ _ e⟩
  | _ => exact h
theorem ThL.same {H H' : Hp} : ∀ {n : Nat} {v : V}, ThL H n v → Same H H' → ThL H' n v
  | 0, v, h, s => ThgL.same h s
  | n + 1, v, h, s => ⟨h.1.same s, fun xs hx x hm => by
    rw [tupOf_same h.1.thg s, lstOf_same h.1.thg s] at hx
    exact (h.2 xs hx x hm).same s⟩
theorem ThL.down {H : Hp} : ∀ {n : Nat} {v : V}, ThL H (n + 1) v → ThL H n v
  | 0, v, h => h.1
  | n + 1, v, h => ⟨h.1, fun xs hx x hm => (h.2 xs hx x hm).down⟩
theorem ThL.flat {H : Hp} {n : Nat} {v : V} (h : ThgL H v) (f : flatV v = true) : ThL H n v := by
  cases n with
  | zero => exact h
  | succ n =>
    refine ⟨h, fun xs hx => ?_⟩
    cases v with
    | ref a => cases f
    | _ => rcases hx with z | z <;> cases z
theorem ThL.lst {H : Hp} {n : Nat} {a : Addr} {xs : List V} (h : H a = some (.lst xs)) (hx : ∀ x ∈ xs, ThL H n x) : ThL H (n + 1) (.ref a) := ⟨.inl ⟨xs, h⟩, fun ys hy => by
  rcases hy with z | z
  · simp only [tupOf, h] at z; cases z
  · simp only [lstOf, h] at z; cases z; exact hx⟩
theorem ThL.tup {H : Hp} {n : Nat} {a : Addr} {xs : List V} (h : H a = some (.tup xs)) (hx : ∀ x ∈ xs, ThL H n x) : ThL H (n + 1) (.ref a) := ⟨.inr ⟨xs, h⟩, fun ys hy => by
  rcases hy with z | z
  · simp only [tupOf, h] at z; cases z; exact hx
  · simp only [lstOf, h] at z; cases z⟩
def cmpG (op : CmpOp) (x y : V) (H : Hp) (Q : VK) : Prop := match op, y with
  | .Eq, .str z => ThgL H x ∧ Q (.bl (eqS x z)) H
  | .NotEq, .str z => ThgL H x ∧ Q (.bl (!eqS x z)) H
  | _, _ => False
def cmpG2 (x y : V) (H : Hp) (Q : VK) : Prop := match x with
  | .str z => ThgL H y ∧ Q (.bl (eqS y z)) H
  | _ => False
section
variable {X : Cx} {a b : Expr} {ta tb : TE} {pos : Pos}
def inG (K : PySem.W.Frag) (op : CmpOp) (x y : V) (H : Hp) (Q : VK) : Prop := match op, y with
  | .In, .ref d => ∃ ws, SqL K H d (ws.map V.str) ∧ ThgL H x ∧ Q (.bl (wordB x ws)) H
  | .NotIn, .ref d => ∃ ws, SqL K H d (ws.map V.str) ∧ ThgL H x ∧ Q (.bl (!wordB x ws)) H
  | _, _ => False
def cCmpG (op : CmpOp) (ta tb : TE) : TE := fun σ H Q => ta σ H fun x H1 => tb σ H1 fun y H2 => cmpG op x y H2 Q
def cInG (K : PySem.W.Frag) (op : CmpOp) (ta tb : TE) : TE := fun σ H Q => ta σ H fun x H1 => tb σ H1 fun y H2 => inG K op x y H2 Q
def cCmpG2 (ta tb : TE) : TE := fun σ H Q => ta σ H fun x H1 => tb σ H1 fun y H2 => cmpG2 x y H2 Q
def absA (xs : List V) (H : Hp) (Q : VK) : Prop := match xs with
  | [.int i] => Q (.int (if i < 0 then -i else i)) H
  | _ => False
end
section
variable {K : PySem.W.Frag} {σ : St} {H : Hp} {ta tb te : TE} {v : V} {z : Str} {d : Addr} {ws : List Str} {i j : Int}
theorem ev_pow (ha : Ev ta σ H (.int i)) (hb : Ev tb σ H (.int j)) (h : CPow i j) : Ev (cBin .Pow ta tb) σ H (.int (i ^ j.toNat)) := fun Q q => ha _ (hb _ ⟨h, q⟩)
end
end L2
namespace L2
open PySem PySem.Spec PyProof.Rows
def isRef : V → Bool
  | .ref _ => true
  | _ => false
theorem eqD_self {K : PySem.W.Frag} {H : Hp} {n : Nat} {x : V} (h : (flatV x || isRef x) = true) : EqD K H n x x true := by
  cases hf : flatV x with
  | true =>
    have := EqD.flat (K := K) (H := H) (n := n) hf hf
    rw [eqV_refl hf] at this
    exact this
  | false =>
    cases x with
    | ref a => exact .same
    | _ => first | (cases hf; done) | (rw [hf] at h; cases h)
def neS (K : PySem.W.Frag) (x y : V) (H : Hp) (Q : VK) : Prop := cmpA K .NotEq x y H Q ∨ ∃ a, x = .ref a ∧ y = .ref a ∧ H a = some (.dK []) ∧ Q (.bl false) H
section
variable {X : Cx} {a b : Expr} {ta tb : TE} {pos : Pos}
def cNeS (K : PySem.W.Frag) (ta tb : TE) : TE := fun σ H Q => ta σ H fun x H1 => tb σ H1 fun y H2 => neS K x y H2 Q
end
section
variable {X : Cx} {a b e o : Expr} {ta tb te to : TE} {pos p2 : Pos}
def cPopAt (to te : TE) : TE := fun σ H Q => to σ H fun x H1 => match x with
  | .ref l => (∃ xs, H1 l = some (.lst xs)) ∧ te σ H1 fun y H2 => rPopAt (.ref l) [y] H2 Q
  | _ => False
end
section
variable {K : PySem.W.Frag} {te to ta tb ti : TE} {u : TS} {D : Ends} {σ : St} {H : Hp} {Q : VK} {v : V}
end
end L2
namespace L2
open PySem PySem.Spec PyProof.Rows
structure ZAp (z TI TO i1 i2 : Addr) : Prop where
  a : TI ≠ z
  b : TO ≠ z
  c : i1 ≠ z
  d : i2 ≠ z
  e : TI ≠ TO
  f : TO ≠ i1
  g : TO ≠ i2
  h : i1 ≠ i2
  i : TI ≠ i1
  j : TI ≠ i2
section
variable {prog : Program} {w : World} {A : Around} {E : Value → Shared → Prop} {s : Shared} {z TI TO i1 i2 : Addr} {n1 n2 i : Nat} {P1 P2 : Nat → Value → Prop} {S1 S2 : Nat → Heap → Prop} {a b : Value}
end
def sI (x : Str) (t : Tok) : Obj := { cls := .type (strIterType x), data := .fields #[.str x t, .int 0 0] }
def zH2 (h : Heap) (x : Str) (t : Tok) (y : Str) (u : Tok) : Heap := (h.push (sI x t)).push (sI y u)
def zH4 (h : Heap) (x : Str) (t : Tok) (y : Str) (u : Tok) : Heap := ((zH2 h x t y u).push { cls := .type "tuple", data := .seq #[.ref h.objs.size, .ref (h.push (sI x t)).objs.size] }).push { cls := .type "tuple", data := .seq #[.none, .none] }
def zH5 (h : Heap) (x : Str) (t : Tok) (y : Str) (u : Tok) : Heap := (zH4 h x t y u).push { cls := .type "zip", data := .fields #[.none, .bool false, .bool false, .ref (zH2 h x t y u).objs.size, .ref ((zH2 h x t y u).push { cls := .type "tuple", data := .seq #[.ref h.objs.size, .ref (h.push (sI x t)).objs.size] }).objs.size] }
section
variable {prog : Program} {w : World} {A : Around} {E : Value → Shared → Prop} {s : Shared}
end
end L2
namespace L2
open PySem PySem.Spec PyProof.Rows
section
variable {X : Cx} {pins : List (Addr × Obj)} {σ : St} {H : Hp} {s : Shared} {h' : Heap}
end
def ItZS (x y : Str) : It :=
  ⟨fun i _ => i < x.cps.size, fun i H v H' => ∃ t c e, v = .ref t ∧ H t = none ∧ x.cps.toList[i]? = some c ∧ y.cps.toList[i]? = some e ∧ H' = upd H t (.tup [.str ⟨#[c]⟩, .str ⟨#[e]⟩]), fun i _ => i = x.cps.size⟩
def ZSt (z TI TO i1 i2 : Addr) (x : Str) (t : Tok) (y : Str) (u : Tok) (i : Nat) (h : Heap) : Prop := IsZip h z TI TO .none ∧ IsPair h TI (.ref i1) (.ref i2) ∧ (∃ a b, IsPair h TO a b) ∧ h.IsStrIter i1 (strIterType x) x t i ∧ h.IsStrIter i2 (strIterType y) y u i
section
variable {X : Cx} {p pos pos2 : Pos} {a b : Expr} {elts : List Expr} {k0 : Nat} {ta tb : TE}
def rZip (R : It → Hp → Prop) (vs : List V) (H : Hp) : Prop := match vs with
  | [.str x, .str y] => x.cps.size = y.cps.size ∧ R (ItZS x y) H
  | _ => False
def iZip (t : TA) : TI := fun σ H R => t σ H fun vs H1 => rZip R vs H1
end
section
variable {K : PySem.W.Frag} {σ rest : St} {H : Hp} {t : TA} {te : TE} {src : List (Option Nat)} {Q : VK} {x y : Str}
end
def cellB (ks : List Nat) (c e : Nat) : Bool := if e = 35 then decide (c = 35) else decide (c = 46 ∨ c ∈ ks ∨ c ∈ ks.map (· - 32))
def rowB (wi hi : Int) (hs : List Int) (ks : List Nat) (v : V) : Bool := match v with
  | .str z => decide (z.length = (emptyT wi hi hs).length) && (List.zipWith (cellB ks) z.cps.toList (emptyT wi hi hs).cps.toList).all id
  | _ => false
def placeB (wi hi : Int) (hs : List Int) (ks : List Nat) (H : Hp) (v : V) : Bool := match tupOf H v with
  | some [a, b] => rowB wi hi hs ks a && amongB b 0 1
  | _ => false
def spRowG (K : PySem.W.Frag) (cB cG : Addr) : Sp := fun vs H Q _ => ∃ (g b : Addr) (v : V) (wi hi : Int) (hs : List Int) (ks : List Nat) (rs ts es : List V) (st : Str), vs = [.ref g, v] ∧ GmAt cG H g b (ks.map strV) rs ts es st ∧ BrdAt K cB H b wi hi hs ∧ (∀ k ∈ ks, Ltr k) ∧ ks.length ≤ 6 ∧ Thg H v ∧ ∀ H', Same H H' → Q (.bl (rowB wi hi hs ks v)) H'
def spPlaceG (K : PySem.W.Frag) (cB cG : Addr) : Sp := fun vs H Q _ => ∃ (g b : Addr) (v : V) (wi hi : Int) (hs : List Int) (ks : List Nat) (rs ts es : List V) (st : Str), vs = [.ref g, v] ∧ GmAt cG H g b (ks.map strV) rs ts es st ∧ BrdAt K cB H b wi hi hs ∧ (∀ k ∈ ks, Ltr k) ∧ ks.length ≤ 6 ∧ ThgN H 1 v ∧ ∀ H', Same H H' → Q (.bl (placeB wi hi hs ks H v)) H'
structure CR1 (P : Program) (w : World) (K : PySem.W.Frag) (mg : Str → Option Value) (base : Heap) (cB : Addr) : Prop where
  sign_of : Cal P w K mg base "sign_of" ["kind", "side"] 1 spSign
  empty_row : Cal P w K mg base "empty_row" ["board"] 4 (spEmpty K cB)
structure CR2 (P : Program) (w : World) (K : PySem.W.Frag) (mg : Str → Option Value) (base : Heap) (cB cG : Addr) : Prop where
  is_tuple_of : Cal P w K mg base "is_tuple_of" ["thing", "many"] 1 spTupG
  is_among : Cal P w K mg base "is_among" ["thing", "least", "most"] 2 spAmongG
  is_row : Cal P w K mg base "is_row" ["game", "thing"] 5 (spRowG K cB cG)
section
variable {K : PySem.W.Frag} {te ta tb : TE} {t ta' : TA} {c : TT} {u e t1 : TS} {D : Ends} {σ : St} {H : Hp} {Q : VK} {R : List V → Hp → Prop} {v : V}
theorem st_midH (P : St → Hp → Prop) (hu : ∀ σ' H', P σ' H' → u D σ' H') (h : (∀ σ' H', P σ' H' → u D σ' H') → tSeq (tIfS c t1 e) u D σ H) : tSeq (tIfS c t1 e) u D σ H := h hu
theorem lis_k {d : Addr} {ys : List V} (h : Ev te σ H (.ref d)) (hd : SqL K H d ys ∨ SqT K H d ys) (q : ∀ l, H l = none → Q (.ref l) (upd H l (.lst ys))) : cB (listA K) (tCons te tNil) σ H Q := h _ ⟨ys, hd, q⟩
theorem asg1_k {i : Nat} (h : te σ H (fun v H' => D.nx (σ.set i (some v)) H')) : tAsg te (gName i) D σ H := h
theorem cons_k (h : Ev te σ H v) (q : ta' σ H (fun xs H2 => R (v :: xs) H2)) : tCons te ta' σ H R := h _ q
theorem consx_k (h : te σ H (fun x H1 => ta' σ H1 (fun xs H2 => R (x :: xs) H2))) : tCons te ta' σ H R := h
theorem nil_k (q : R [] H) : tNil σ H R := q
theorem lst_k (q : t σ H (fun vs H2 => vs.length ≤ sizeLine ∧ ∀ p, H2 p = none → Q (.ref p) (upd H2 p (.lst vs)))) : tLst t σ H Q := q
theorem tup_k (q : t σ H (fun vs H2 => vs.length ≤ sizeLine ∧ ∀ p, H2 p = none → Q (.ref p) (upd H2 p (.tup vs)))) : tTup t σ H Q := q
end
def upV : V → V
  | .str z => .str (one (z.cps.toList.getD 0 0 - 32))
  | v => v
end L2
namespace L2
open PySem PySem.Spec PyProof.Rows
theorem vals_of : ∀ {xs : List V} {us : List Value}, xs.length = us.length → (∀ (i : Nat) x u, xs[i]? = some x → us[i]? = some u → RelV x u) → Vals xs us
  | [], [], _, _ => .nil
  | [], _ :: _, h, _ => by simp at h
  | _ :: _, [], h, _ => by simp at h
  | x :: xs, u :: us, h, r => .cons (r 0 x u rfl rfl) (vals_of (by simpa using h) fun i a b h1 h2 => r (i + 1) a b (by simpa using h1) (by simpa using h2))
section
variable {X : Cx}
def lisSA (xs : List V) (H : Hp) (Q : VK) : Prop := match xs with
  | [.str z] => z.length ≤ 1000 ∧ ∀ l, H l = none → Q (.ref l) (upd H l (.lst (z.cps.toList.map strV)))
  | _ => False
end
end L2
namespace L2
open PySem PySem.Spec PyProof.Rows
section
variable {X : Cx} {a e : Expr} {ta te tb : TE} {p p2 pos : Pos}
theorem vals_intsE : ∀ {ns : List Int} {its : List Value}, Vals (ns.map V.int) its → ∃ ps : List (Int × Tok), its = ps.map (fun q => Value.int q.1 q.2) ∧ ns = ps.map (·.1)
  | [], its, r => by
    have r : Vals [] its := r
    cases r; exact ⟨[], rfl, rfl⟩
  | n :: ns, its, r => by
    have r : Vals (.int n :: ns.map V.int) its := r
    cases r with
    | cons r1 r2 =>
      obtain ⟨t, rfl⟩ := r1
      obtain ⟨ps, rfl, rfl⟩ := vals_intsE r2
      exact ⟨(n, t) :: ps, rfl, rfl⟩
def minLA (K : PySem.W.Frag) (xs : List V) (H : Hp) (Q : VK) : Prop := ∃ (q : Addr) (ns : List Int), xs = [.ref q] ∧ SqL K H q (ns.map V.int) ∧ 0 < ns.length ∧ ∀ m, m ∈ ns → (∀ a ∈ ns, m ≤ a) → Q (.int m) H
def maxLA (K : PySem.W.Frag) (xs : List V) (H : Hp) (Q : VK) : Prop := ∃ (q : Addr) (ns : List Int), xs = [.ref q] ∧ SqL K H q (ns.map V.int) ∧ 0 < ns.length ∧ ∀ m, m ∈ ns → (∀ a ∈ ns, a ≤ m) → Q (.int m) H
def maxA (xs : List V) (H : Hp) (Q : VK) : Prop := match xs with
  | [.int i, .int j] => Q (.int (if j > i then j else i)) H
  | _ => False
theorem call_maxA (hc : X.calm = true) : CallR X (.builtin "max") maxA := (call_max2 hc).imp fun xs H Q h => by
  unfold maxA at h
  split at h
  · exact ⟨_, _, rfl, h⟩
  · exact h.elim
def cTru (K : PySem.W.Frag) (ta : TE) : TT := fun σ H Q => ta σ H fun x H' => ∃ k, TruV K x H' k ∧ Q k H'
theorem ktru (K : PySem.W.Frag) (ha : PE X a ta) (he : ∀ whole, isTrue a X.env whole = (do let v ← whole; standAt a.pos; holding [v] (truthy v)) := by exact fun _ => rfl) (hK : X.K = K := by rfl) : PT X a (cTru K ta) := by
  subst hK; exact pt_truth ha he
def isA2 (K : PySem.W.Frag) (T : BT) (x : V) (H : Hp) (Q : VK) : Prop := isA T x H Q ∨ ∃ a xs, x = .ref a ∧ SqT K H a xs ∧ Q (.bl (isSub .tuple T)) H
theorem is_ok2 (T : BT) {pins : List (Addr × Obj)} {s : Shared} {σ : St} {H : Hp} {x : V} {u : Value} {Q : VK} (I : Inv X pins σ H s) (rx : RelV x u) (h : isA2 X.K T x H Q) : wpAny (model X.prog X.w) X.A (call (.builtin "isinstance") [u, .type T.s]) (EP X pins σ Q) X.xe s := by
  rcases h with h | ⟨a, xs, rfl, h, q⟩
  · exact is_ok T I rx h
  · cases rx
    obtain ⟨its, r, ⟨o, h1, h2, _⟩, hz⟩ := I.tuple h
    exact PySem.W.kia_one PySem.W.kitx_tuple I.kIn ⟨o, h1, h2⟩ (kit_bt _ .tuple T) (fun z => nomatch z) fun tk => ⟨.bl _, H, I.tok tk, rfl, q⟩
def cIs2 (K : PySem.W.Frag) (T : BT) (ta : TE) : TE := fun σ H Q => ta σ H fun x H1 => isA2 K T x H1 Q
theorem ce_is2 (T : BT) {n : Str} (ha : PE X a ta) (hg : Gl X "isinstance") (hm : X.mg "isinstance" = none) (hgT : Gl X n) (hmT : X.mg n = none) (hv : bootBuiltins n = some (.type T.s)) (hn : n ≠ "__name__" := by decide) (hdb : (n == ("__debug__" : Str)) = false := by decide)
    (he : starEach [a, .Name n p2] X.env = (false, eval a X.env) :: starEach [.Name n p2] X.env := by rfl) (he2 : starEach [.Name n p2] X.env = (false, eval (.Name n p2) X.env) :: starEach [] X.env := by rfl) (hpl : (backTo pos (starEach [.Name n p2] X.env)).any (·.1) = false := by rfl) :
    PE X (.Call (.Name "isinstance" p) [a, .Name n p2] [] pos) (cIs2 X.K T ta) := by
  intro pins s σ H Q I h
  refine wpAny_Call_Name_kw (ld_blt I hg hm bo_isinstance ?_ (by decide) (by decide))
  have hA : PA X [a, .Name n p2] (tCons ta (tCons (tC (.ty T.s)) tNil)) := pa_cons ha (pa_cons (pe_bltn hgT hmT hv rfl hn hdb) pa_nil he2) he
  refine PyProof.Rows.callWith_builtin1 (thn (hA pos pins s σ H (fun vs H1 => ∃ x, vs = [x, .ty T.s] ∧ isA2 X.K T x H1 Q) I ?_) fun us s1 ⟨vs, H1, I1, r1, x, e, q1⟩ => ?_) he hpl
  · have mono : (fun (x : V) H1 => isA2 X.K T x H1 Q) = fun x H1 => (tCons (tC (.ty T.s)) tNil) σ H1 fun xs H2 => ∃ y, x :: xs = [y, .ty T.s] ∧ isA2 X.K T y H2 Q := by
      funext x H1
      apply propext
      constructor
      · intro q; exact ⟨x, rfl, q⟩
      · rintro ⟨y, e, q⟩
        have : x = y := by injection e
        subst this
        exact q
    show ta σ H _
    rw [← mono]
    exact h
  · subst e
    obtain ⟨u, w', rfl, ru, rt⟩ := vals2 r1
    cases rt
    exact is_ok2 T I1 ru q1
theorem kis2 (K : PySem.W.Frag) (T : BT) {n : Str} (hm : X.mg "isinstance" = none) (hmT : X.mg n = none) (hv : bootBuiltins n = some (.type T.s)) (ha : PE X a ta) (hg : Gl X "isinstance" := by rfl) (hgT : Gl X n := by rfl) (hn : n ≠ "__name__" := by decide) (hdb : (n == ("__debug__" : Str)) = false := by decide)
    (he : starEach [a, .Name n p2] X.env = (false, eval a X.env) :: starEach [.Name n p2] X.env := by rfl) (he2 : starEach [.Name n p2] X.env = (false, eval (.Name n p2) X.env) :: starEach [] X.env := by rfl) (hpl : (backTo pos (starEach [.Name n p2] X.env)).any (·.1) = false := by rfl) (hK : X.K = K := by rfl) :
    PE X (.Call (.Name "isinstance" p) [a, .Name n p2] [] pos) (cIs2 K T ta) := by
  subst hK; exact ce_is2 T ha hg hm hgT hmT hv hn hdb he he2 hpl
end
section
variable {K : PySem.W.Frag} {σ : St} {H : Hp} {ta tb te to : TE} {Q : VK} {i j : Int}
theorem ev_max (ha : Ev ta σ H (.int i)) (hb : Ev tb σ H (.int j)) : Ev (cB maxA (tCons ta (tCons tb tNil))) σ H (.int (if j > i then j else i)) := fun Q q => ha _ (hb _ q)
theorem ev_ist2 {d : Addr} {xs : List V} {T : BT} (ho : Ev to σ H (.ref d)) (h : SqT K H d xs) : Ev (cIs2 K T to) σ H (.bl (isSub .tuple T)) := fun Q q => ho _ (.inr ⟨d, xs, rfl, h, q⟩)
end
section
variable {K : PySem.W.Frag} {σ : St} {H : Hp} {ta tb te to : TE} {Q : VK} {c : TT} {t e : TS} {D : Ends}
theorem pickT {ss : List Str} {i : Int} (h0 : 0 ≤ i) (h1 : i < ss.length) : ∃ s, atI (ss.map V.str) i = some (.str s) ∧ s ∈ ss := by
  obtain ⟨v, e1, e2⟩ := pickV (xs := ss.map V.str) h0 (by rw [List.length_map]; exact h1)
  obtain ⟨s, hs, rfl⟩ := List.mem_map.mp e2
  exact ⟨s, e1, hs⟩
theorem eqv_k {op : CmpOp} {x : V} (ha : Ev ta σ H x) (q : tb σ H fun y H2 => cmpA K op x y H2 Q) : cCmp K op ta tb σ H Q := ha _ q
theorem ife_k {b : Bool} (hc : Tv c σ H b) (h1 : b = true → t D σ H) (h2 : b = false → e D σ H) : tIfS c t e D σ H := hc _ (by
  cases b with
  | true => exact iteT (h1 rfl)
  | false => exact iteF (h2 rfl))
theorem tandh_k {tt u : TT} {R : Bool → Hp → Prop} {b : Bool} (h : Tv tt σ H b) (q1 : b = true → u σ H R) (q2 : b = false → R false H) : tAnd tt u σ H R := h _ (by
  cases b with
  | true => exact iteT (q1 rfl)
  | false => exact iteF (q2 rfl))
theorem callx_k {sp : Sp} {t : TA} (h : t σ H (fun vs H1 => sp vs H1 Q E0)) : cCall sp t σ H Q := h
end
section
variable {K : PySem.W.Frag} {ta : TA} {te tl : TE} {src : List (Option Nat)} {σ rest : St} {H : Hp} {Q : VK}
end
end L2
namespace L2
open PySem
def Ris (xs : Array Nat) : Prop := ∀ i j, i < j → j < xs.size → xs.getD i 0 < xs.getD j 0
theorem ad_eq {α : Type} {xs : Array α} {i : Nat} {d : α} (h : i < xs.size) : xs.getD i d = xs[i] := by simp [Array.getD, h]
theorem ad_any {xs : Array Nat} {i d e : Nat} (h : i < xs.size) : xs.getD i d = xs.getD i e := by rw [ad_eq h, ad_eq h]
theorem below_go (xs : Array Nat) (j : Nat) (hr : Ris xs) : ∀ (f lo hi : Nat), hi - lo ≤ f → lo ≤ hi → hi ≤ xs.size → (∀ k, k < lo → xs.getD k 0 < j) → (∀ k, hi ≤ k → k < xs.size → j ≤ xs.getD k 0) →
    SetTable.below.go xs j f lo hi ≤ xs.size ∧ (∀ k, k < SetTable.below.go xs j f lo hi → xs.getD k 0 < j) ∧ (∀ k, SetTable.below.go xs j f lo hi ≤ k → k < xs.size → j ≤ xs.getD k 0)
  | 0, lo, hi, h1, h2, h3, h4, h5 => by
    have : lo = hi := by omega
    subst this
    exact ⟨h3, h4, h5⟩
  | f + 1, lo, hi, h1, h2, h3, h4, h5 => by
    unfold SetTable.below.go
    by_cases h : lo < hi
    · rw [if_pos h]
      have hm : (lo + hi) / 2 < xs.size := by omega
      dsimp only
      rw [ad_any (e := 0) hm]
      by_cases q : xs.getD ((lo + hi) / 2) 0 < j
      · rw [if_pos q]
        refine below_go xs j hr f _ hi (by omega) (by omega) h3 (fun k hk => ?_) h5
        by_cases e : k = (lo + hi) / 2
        · rw [e]; exact q
        · exact Nat.lt_trans (hr k _ (by omega) hm) q
      · rw [if_neg q]
        refine below_go xs j hr f lo _ (by omega) (by omega) (by omega) h4 (fun k hk hks => ?_)
        by_cases e : k = (lo + hi) / 2
        · rw [e]; omega
        · have := hr ((lo + hi) / 2) k (by omega) hks
          omega
    · rw [if_neg h]
      have : lo = hi := by omega
      subst this
      exact ⟨h3, h4, h5⟩
theorem below_spec (xs : Array Nat) (j : Nat) (hr : Ris xs) : SetTable.below xs j ≤ xs.size ∧ (∀ k, k < SetTable.below xs j → xs.getD k 0 < j) ∧ (∀ k, SetTable.below xs j ≤ k → k < xs.size → j ≤ xs.getD k 0) :=
  below_go xs j hr _ 0 xs.size (by omega) (Nat.zero_le _) (Nat.le_refl _) (fun k hk => by omega) (fun k h1 h2 => by omega)
def Free (xs : Array Nat) (j : Nat) : Prop := ∀ k, k < xs.size → ¬ xs.getD k 0 = j
theorem free_of {xs : Array Nat} {j : Nat} (hr : Ris xs) (h : (xs[SetTable.below xs j]? == some j) = false) : Free xs j := by
  obtain ⟨h1, h2, h3⟩ := below_spec xs j hr
  intro k hk e
  rcases Nat.lt_trichotomy k (SetTable.below xs j) with q | q | q
  · have := h2 k q
    omega
  · rw [← q, Array.getElem?_eq_getElem hk, ← ad_eq (d := 0) hk, e] at h
    simp at h
  · have a1 := hr (SetTable.below xs j) k q hk
    have a2 := h3 (SetTable.below xs j) (Nat.le_refl _) (by omega)
    omega
structure SG (led : Bool) (n : Nat) (t : SetTable) : Prop where
  fits : t.fits n = true
  led : t.led = led
  ris : Ris t.place
theorem ris_range (n : Nat) : Ris (Array.range n) := fun i j h hj => by
  have hj' : j < n := by simpa using hj
  rw [ad_eq (by simpa using Nat.lt_trans h hj'), ad_eq hj]
  simpa using h
theorem SG.standIn {t : SetTable} {led : Bool} (h : t.led = led) (n : Nat) : SG led n (t.standIn n) := ⟨SetTable.standIn_fits t n, h, ris_range n⟩
theorem SG.fresh (led : Bool) : SG led 0 (SetTable.fresh 0 0 led) := ⟨rfl, rfl, fun i j _ hj => absurd hj (by simp [SetTable.fresh])⟩
theorem slot_free {t : SetTable} {j : Nat} (hr : Ris t.place) (h : t.slot j = .empty ∨ t.slot j = .dummy) : Free t.place j := by
  apply free_of hr
  unfold SetTable.slot at h
  dsimp only at h
  cases e : (t.place[SetTable.below t.place j]? == some j) with
  | false => rfl
  | true =>
    rw [e] at h
    simp at h
theorem probe_free {t : SetTable} (hr : Ris t.place) (hashAt : Nat → Int) (h : Int) : ∀ (f : Nat) (p : SetTable.Probe), (∀ d, p.dummy = some d → Free t.place d) → ∀ j o, SetTable.probe.go t hashAt h f p = some (.empty j o) → Free t.place j ∧ ∀ d, o = some d → Free t.place d
  | 0, p, hp, j, o, e => by simp [SetTable.probe.go] at e
  | f + 1, p, hp, j, o, e => by
    unfold SetTable.probe.go at e
    cases q : t.slot p.j with
    | empty =>
      rw [q] at e
      simp at e
      obtain ⟨rfl, rfl⟩ := e
      exact ⟨slot_free hr (.inl q), hp⟩
    | dummy =>
      rw [q] at e
      refine probe_free hr hashAt h f _ (fun d hd => ?_) j o e
      have : (t.advance { p with dummy := some p.j }).dummy = some p.j := by unfold SetTable.advance; split <;> rfl
      rw [this] at hd
      cases hd
      exact slot_free hr (.inr q)
    | live i =>
      rw [q] at e
      dsimp only at e
      split at e
      · cases e
      · refine probe_free hr hashAt h f _ (fun d hd => ?_) j o e
        have : (t.advance p).dummy = p.dummy := by unfold SetTable.advance; split <;> rfl
        rw [this] at hd
        exact hp d hd
theorem ris_filterMap {α : Type} (f : Nat → Option (Nat × α)) (hf : ∀ j p, f j = some p → p.1 = j) : ∀ (l : List Nat), l.Pairwise (· < ·) → ((l.filterMap f).map (·.1)).Pairwise (· < ·) ∧ ∀ a ∈ (l.filterMap f).map (·.1), a ∈ l
  | [], _ => ⟨by simp, by simp⟩
  | j :: l, h => by
    obtain ⟨h1, h2⟩ := List.pairwise_cons.mp h
    obtain ⟨i1, i2⟩ := ris_filterMap f hf l h2
    rw [List.filterMap_cons]
    cases e : f j with
    | none => exact ⟨i1, fun a ha => List.mem_cons_of_mem _ (i2 a ha)⟩
    | some p =>
      have ep := hf j p e
      dsimp only
      rw [List.map_cons, ep]
      refine ⟨List.pairwise_cons.mpr ⟨fun a ha => h1 a (i2 a ha), i1⟩, fun a ha => ?_⟩
      rcases List.mem_cons.mp ha with rfl | ha
      · exact List.mem_cons_self
      · exact List.mem_cons_of_mem _ (i2 a ha)
theorem erase_perm {α : Type} {l : List α} {i : Nat} {x : α} (h : l[i]? = some x) : (x :: l.eraseIdx i).Perm l := by
  have hi : i < l.length := (List.getElem?_eq_some_iff.mp h).1
  have e : l = l.take i ++ x :: l.drop (i + 1) := by
    have e1 := (List.take_append_drop i l).symm
    have e2 : l.drop i = x :: l.drop (i + 1) := by
      rw [List.drop_eq_getElem_cons hi]
      rw [List.getElem?_eq_getElem hi] at h
      rw [Option.some.inj h]
    rw [e2] at e1
    exact e1
  rw [List.eraseIdx_eq_take_drop_succ]
  conv => rhs; rw [e]
  exact List.perm_middle.symm
theorem sPickGo {α : Type} (next : Nat → Nat) : ∀ (f k : Nat) (left : List α) (out : Array α), left.length ≤ f → (pickOrder.go next f k left out).toList.Perm (out.toList ++ left)
  | 0, k, left, out, h => by
    have : left = [] := List.length_eq_zero_iff.mp (by omega)
    subst this
    simp [pickOrder.go]
  | f + 1, k, left, out, h => by
    unfold pickOrder.go
    split
    · rename_i x e
      have hi : next k % left.length < left.length := (List.getElem?_eq_some_iff.mp e).1
      have hl := List.length_eraseIdx_of_lt hi
      refine (sPickGo next f (k + 1) _ _ (by omega)).trans ?_
      rw [Array.toList_push, List.append_assoc]
      exact List.Perm.append_left _ (erase_perm e)
    · rename_i e
      have : left = [] := by
        cases left with
        | nil => rfl
        | cons a l =>
          rw [List.getElem?_eq_getElem (Nat.mod_lt _ (by simp))] at e
          cases e
      subst this
      simp
end L2
namespace L2
open PySem
def SetO (h : Heap) (D : Addr) (es : Array (Int × Value)) (ep : Nat) (t : SetTable) : Prop := ∃ o, h.get? D = some o ∧ o.ExactSet ∧ o.data = .set es ep t
def SIt (h : Heap) (I D : Addr) (first : Value) (i n ep : Nat) : Prop := ∃ o, h.get? I = some o ∧ o.cls = .type "set_iterator" ∧ o.data = .fields #[first, .int i 0, .ref D, .int n 0, .int ep 0]
section
variable {M : Model} {prog : Program} {w : World} {A : Around} {E : Value → Shared → Prop} {s : Shared}
theorem SIt.ty {I D : Addr} {f : Value} {i n ep : Nat} (h : SIt s.heap I D f i n ep) : s.TypeIs (.ref I) "set_iterator" := let ⟨o, h1, h2, _⟩ := h; ⟨o, h1, h2⟩
theorem SIt.keep {h h' : Heap} {I D : Addr} {f : Value} {i n ep : Nat} (x : SIt h I D f i n ep) (k : ∀ o, h.get? I = some o → h'.get? I = some o) : SIt h' I D f i n ep := let ⟨o, h1, r⟩ := x; ⟨o, k o h1, r⟩
theorem SetO.keep {h h' : Heap} {D : Addr} {es : Array (Int × Value)} {ep : Nat} {t : SetTable} (x : SetO h D es ep t) (k : ∀ o, h.get? D = some o → h'.get? D = some o) : SetO h' D es ep t := let ⟨o, h1, r⟩ := x; ⟨o, k o h1, r⟩
end
def slotAt (t : SetTable) (i : Nat) : Nat := if i = 0 then 0 else t.place.getD (i - 1) 0 + 1
section
variable {prog : Program} {w : World} {A : Around} {E : Value → Shared → Prop} {s : Shared}
end
end L2
namespace L2
open PySem
section
variable {prog : Program} {w : World} {A : Around} {E : Value → Shared → Prop} {s : Shared}
end
end L2
namespace L2
open PySem
def sVals (es : Array (Int × Value)) : List Value := es.toList.map (·.2)
structure WS3 (prog : Program) (w : World) (s : Shared) (D : Addr) (vs : List Value) (h' : Heap) (I : Addr) : Prop where
  ex : ∃ (fp : List Addr) (St : Nat → Heap → Prop), (∀ A' : Around, A'.handled = none → Walks prog w A' I fp [I] vs.length (fun i v => vs[i]? = some v) St) ∧ St 0 h' ∧ (∀ b ∈ fp, b = D ∨ s.heap.objs.size ≤ b) ∧ I ∈ fp ∧ (∀ b ∈ fp, b < h'.objs.size) ∧ s.heap.objs.size ≤ I
section
variable {prog : Program} {w : World}
end
section
variable {prog : Program} {w : World} {A : Around} {E : Value → Shared → Prop}
theorem draw_k {α : Type} : ∀ (n : Nat) (xs : List α) (s : Shared) (Q : List α → Shared → Prop), xs.length = n → (∀ l d, l.Perm xs → Q l { s with drawn := d }) → wpAny (model prog w) A (drawOrder n xs) Q E s
  | 0, xs, s, Q, hn, h => by
    have : xs = [] := List.length_eq_zero_iff.mp hn
    subst this
    exact wpAny_pure (h [] s.drawn (List.Perm.refl _))
  | n + 1, [], s, Q, hn, h => by cases hn
  | n + 1, x :: xs, s, Q, hn, h => by
    show wpAny _ _ (do let i ← choose .order (x :: xs).length; _) _ _ s
    refine wpAny_bind ?_
    intro Γ p hΓ
    unfold choose
    rw [Sem.wp_choose]
    refine ⟨Nat.succ_ne_zero _, ?_⟩
    have hi : (model prog w).w.draws Source.order (s.drawn.get Source.order) % (x :: xs).length < (x :: xs).length := Nat.mod_lt _ (Nat.succ_pos _)
    refine (wpAny_pure (M := model prog w) (A := A) (E := E) ?_) Γ p hΓ
    rw [List.getElem?_eq_getElem hi]
    dsimp only
    refine wpAny_bind (draw_k n _ _ _ ?_ fun l d hp => ?_)
    · rw [List.length_eraseIdx_of_lt hi]
      omega
    · exact wpAny_pure (h _ d ((List.Perm.cons _ hp).trans (erase_perm (List.getElem?_eq_getElem hi))))
end
section
variable {prog : Program} {w : World} {A : Around} {E : Value → Shared → Prop} {s : Shared}
end
end L2
namespace L2
open PySem
section
variable {prog : Program} {w : World} {A : Around} {E : Value → Shared → Prop} {s : Shared}
abbrev nlist : Obj := { cls := .type "list", data := .seq ([] : List Value).toArray }
end
def SetS {prog : Program} {w : World} {κ : Type} [DecidableEq κ] (knd : KeyKind prog w κ) (h : Heap) (D : Addr) (S : κ → Bool) (n : Nat) : Prop :=
  ∃ es ep t, SetO h D es ep t ∧ ElemsOf knd es.toList ∧ (∀ k, S k = true ↔ ∃ e ∈ es.toList, knd.is k e.2 = true) ∧ es.size < scanBound ∧ SG (!w.params.followText "set-order") es.size t ∧ es.size = n
section
variable {prog : Program} {w : World} {κ : Type} [DecidableEq κ] {knd : KeyKind prog w κ} {A : Around} {E : Value → Shared → Prop} {s : Shared}
theorem SetS.congr {h : Heap} {D : Addr} {S S' : κ → Bool} {n n' : Nat} (x : SetS knd h D S n) (e1 : ∀ k, S k = S' k) (e2 : n = n') : SetS knd h D S' n' := by
  obtain rfl : S = S' := funext e1
  subst e2
  exact x
theorem SetS.keep {h h' : Heap} {D : Addr} {S : κ → Bool} {n : Nat} (x : SetS knd h D S n) (k : ∀ o, h.get? D = some o → h'.get? D = some o) : SetS knd h' D S n := let ⟨es, ep, t, h1, r⟩ := x; ⟨es, ep, t, h1.keep k, r⟩
theorem SetO.put {h : Heap} {D : Addr} {es : Array (Int × Value)} {ep : Nat} {t : SetTable} (x : SetO h D es ep t) (es' : Array (Int × Value)) (t' : SetTable) : SetO (h.update D (Obj.putSet es' t')) D es' (ep + 1) t' := by
  obtain ⟨o, ho, hx, hd⟩ := x
  have e := Heap.get?_update_self (Obj.putSet es' t') ho (by rw [putSet_of es' t' hd]; rfl)
  rw [putSet_of es' t' hd] at e
  exact ⟨_, e, hx, rfl⟩
end
end L2
namespace L2
open PySem PySem.Spec PyProof.Rows
section
variable {prog : Program} {w : World} {A : Around} {R : Result → Shared → Prop} {I : Addr} {fp wr : List Addr} {G : Array GenState → Array GenState → Prop} {n : Nat} {Pt : Nat → Value → Prop} {St : Nat → Shared → Prop} {κ : Type} [DecidableEq κ] {knd : KeyKind prog w κ}
end
section
variable {prog : Program} {w : World} {A : Around} {E : Value → Shared → Prop} {s : Shared} {κ : Type} [DecidableEq κ] {knd : KeyKind prog w κ}
end
end L2
namespace L2
open PySem PySem.Spec PyProof.Rows
theorem perm_nd {κ : Type} [DecidableEq κ] : ∀ {l ns : List κ}, l.Nodup → (∀ k ∈ l, k ∈ ns) → ns.length = l.length → ns.Perm l
  | [], ns, _, _, h => by
    have : ns = [] := List.length_eq_zero_iff.mp h
    rw [this]
  | a :: l, ns, nd, h, hl => by
    obtain ⟨n1, n2⟩ := List.nodup_cons.mp nd
    have ha := h a (by simp)
    have hp : ns.Perm (a :: ns.erase a) := List.perm_cons_erase ha
    have hl2 := hp.length_eq
    refine hp.trans (List.Perm.cons _ (perm_nd n2 (fun k hk => ?_) ?_))
    · have hne : k ≠ a := fun e => n1 (e ▸ hk)
      exact (List.mem_erase_of_ne hne).mpr (h k (List.mem_cons_of_mem _ hk))
    · simp only [List.length_cons] at hl hl2
      omega
theorem mets_nd {κ : Type} [DecidableEq κ] (val : Nat → κ) : ∀ i, (mets val i).Nodup
  | 0 => by simp [mets]
  | i + 1 => by
    have ih := mets_nd val i
    show (ddp (mets val i) (val i)).Nodup
    unfold ddp
    by_cases h : val i ∈ mets val i
    · rw [if_pos h]; exact ih
    · rw [if_neg h, List.nodup_append]
      refine ⟨ih, by simp, fun a ha b hb e => h ?_⟩
      have : b = val i := by simpa using hb
      rw [← this, ← e]; exact ha
section
variable {prog : Program} {w : World} {A : Around} {E : Value → Shared → Prop} {s : Shared}
end
end L2
namespace L2
open PySem PySem.Spec PyProof.Rows
def uqI (ns : List Int) : List Int := mets (fun i => ns.getD i 0) ns.length
def uqS (ns : List Str) : List Str := mets (fun i => ns.getD i Str.empty) ns.length
theorem Inv.drawn {X : Cx} {pins : List (Addr × Obj)} {σ : St} {H : Hp} {s : Shared} (I : Inv X pins σ H s) (d : Drawn) : Inv X pins σ H { s with drawn := d } := by
  cases I; constructor <;> assumption
section
variable {X : Cx}
def setIA (P : Program) (w : World) (K : PySem.W.Frag) (xs : List V) (H : Hp) (Q : VK) : Prop := ∃ d ns, xs = [.ref d] ∧ SqL K H d (ns.map V.int) ∧ ns.length + 1 < scanBound ∧ ∀ q, H q = none → Q (.ref q) (upd H q (.ext fun h => SetS (intKind P w) h q (fun x => decide (x ∈ uqI ns)) (uqI ns).length))
def setTA (P : Program) (w : World) (K : PySem.W.Frag) (xs : List V) (H : Hp) (Q : VK) : Prop := ∃ d ns, xs = [.ref d] ∧ SqL K H d (ns.map V.str) ∧ ns.length + 1 < scanBound ∧ ∀ q, H q = none → Q (.ref q) (upd H q (.ext fun h => SetS (PySem.strKind P w) h q (fun x => decide (x ∈ uqS ns)) (uqS ns).length))
def sortIA (P : Program) (w : World) (xs : List V) (H : Hp) (Q : VK) : Prop := ∃ d l, xs = [.ref d] ∧ H d = some (.ext fun h => SetS (intKind P w) h d (fun x => decide (x ∈ l)) l.length) ∧ l.Nodup ∧ l.length < 64 ∧ ∀ (ns' : List Int) q, ns'.Perm l → ns'.Pairwise (· ≤ ·) → H q = none → Q (.ref q) (upd H q (.lst (ns'.map V.int)))
def sortTA (P : Program) (w : World) (xs : List V) (H : Hp) (Q : VK) : Prop := ∃ d l, xs = [.ref d] ∧ H d = some (.ext fun h => SetS (PySem.strKind P w) h d (fun x => decide (x ∈ l)) l.length) ∧ l.Nodup ∧ l.length < 64 ∧ ∀ (ns' : List Str) q, ns'.Perm l → sortedS ns' = true → H q = none → Q (.ref q) (upd H q (.lst (ns'.map V.str)))
end
section
variable {P : Program} {w : World} {K : PySem.W.Frag} {σ : St} {H : Hp} {Q : VK} {te : TE}
end
end L2
namespace L2
open PySem PySem.Spec PyProof.Rows
inductive EqE (K : PySem.W.Frag) (H : Hp) : V → V → Bool → Prop
  | rr {a b : Addr} {k : Bool} (h : EqT K H 20 (.ref a) (.ref b) k) : EqE K H (.ref a) (.ref b) k
  | nr {a : Addr} {xs : List V} (h : SqL K H a xs ∨ SqT K H a xs) : EqE K H .non (.ref a) false
  | rn {a : Addr} {xs : List V} (h : SqL K H a xs ∨ SqT K H a xs) : EqE K H (.ref a) .non false
  | nn : EqE K H .non .non true
def eqEA (K : PySem.W.Frag) (x y : V) (H : Hp) (Q : VK) : Prop := ∃ k, EqE K H x y k ∧ Q (.bl k) H
def neEA (K : PySem.W.Frag) (x y : V) (H : Hp) (Q : VK) : Prop := ∃ k, EqE K H x y k ∧ Q (.bl (!k)) H
section
variable {X : Cx} {a b : Expr} {ta tb : TE} {pos : Pos}
def cEqE (K : PySem.W.Frag) (ta tb : TE) : TE := fun σ H Q => ta σ H fun x H1 => tb σ H1 fun y H2 => eqEA K x y H2 Q
def cNeE (K : PySem.W.Frag) (ta tb : TE) : TE := fun σ H Q => ta σ H fun x H1 => tb σ H1 fun y H2 => neEA K x y H2 Q
end
section
variable {K : PySem.W.Frag} {σ : St} {H : Hp} {ta tb : TE} {x y : V} {k : Bool} {Q : VK}
end
theorem Same.tupS {K : PySem.W.Frag} {H H' : Hp} {a : Addr} {xs : List V} (e : Same H H') (h : SqT K H a xs) : SqT K H' a xs := by
  rcases h with (h | ⟨o, h⟩) | h
  · exact .inl (.inl (e _ _ h))
  · exact .inl (.inr ⟨o, e _ _ h⟩)
  · exact .inr h
theorem SqT.keepL {K : PySem.W.Frag} {H : Hp} {a l : Addr} {xs ys : List V} {o : HO} (h : SqT K H a xs) (hl : H l = some (.lst ys)) : SqT K (upd H l o) a xs := by
  rcases h with (h | ⟨ob, h⟩) | h
  · exact .inl (.inl (by rw [upd_ne (ne_of h hl (fun z => by cases z))]; exact h))
  · exact .inl (.inr ⟨ob, by rw [upd_ne (ne_of h hl (fun z => by cases z))]; exact h⟩)
  · exact .inr h
section
variable {K : PySem.W.Frag} {σ : St} {H : Hp} {Q : VK}
end
end L2
namespace L2
inductive Wk | won | lost | even
  deriving DecidableEq
abbrev W := Wk × Int
def wAt (ws : List (Option W)) (i : Nat) : Option W := ws.getD i none
def isWon : Option W → Bool
  | some (.won, _) => true
  | _ => false
def maxI (i j : Int) : Int := if j > i then j else i
def numW : Option W → Int
  | some (_, n) => n
  | none => 0
def greatest (ns : List Nat) (ws : List (Option W)) : Int := ns.foldl (fun g x => maxI g (numW (wAt ws x))) 0
def comesUp (ns : List Nat) (ws : List (Option W)) (t : Int) : Option W :=
  if ns.any (fun x => decide (wAt ws x = some (.lost, t - 1))) = true then some (.won, t)
  else if ns.all (fun x => isWon (wAt ws x)) = true then (if ns = [] ∨ ¬ greatest ns ws = t - 1 then none else some (.lost, t))
  else none
def freshW (k : Option W) (ns : List Nat) (wi : Option W) (ws : List (Option W)) (t : Int) : Option W :=
  if k = none ∧ wi = none then comesUp ns ws t
  else match k with
    | some (s, n) => if ¬ s = .even ∧ n = t then some (s, n) else none
    | none => none
def orW (a b : Option W) : Option W := match a with
  | some w => some w
  | none => b
def stepW (nx : List (List Nat)) (kn ws : List (Option W)) (t : Int) : List (Option W) :=
  (List.range kn.length).map fun i => orW (freshW (wAt kn i) (nx.getD i []) (wAt ws i) ws t) (wAt ws i)
def runW (nx : List (List Nat)) (kn : List (Option W)) : Nat → List (Option W)
  | 0 => List.replicate kn.length none
  | t + 1 => stepW nx kn (runW nx kn t) (t : Int)
section
variable {nx : List (List Nat)} {kn : List (Option W)}
theorem runW_len (t : Nat) : (runW nx kn t).length = kn.length := by
  cases t with
  | zero => simp [runW]
  | succ t => simp [runW, stepW]
theorem wAt_ge {ws : List (Option W)} {i : Nat} (h : ws.length ≤ i) : wAt ws i = none := by
  unfold wAt
  rw [List.getD_eq_getElem?_getD, List.getElem?_eq_none h]; rfl
theorem wAt_get {ws : List (Option W)} {i : Nat} {o : Option W} (h : ws[i]? = some o) : wAt ws i = o := by
  unfold wAt
  rw [List.getD_eq_getElem?_getD, h]; rfl
theorem run0 (i : Nat) : wAt (runW nx kn 0) i = none := by
  unfold wAt runW
  rw [List.getD_eq_getElem?_getD, List.getElem?_replicate]
  by_cases h : i < kn.length
  · rw [if_pos h]; rfl
  · rw [if_neg h]; rfl
theorem run1 {i : Nat} (h : i < kn.length) (t : Nat) : wAt (runW nx kn (t + 1)) i = orW (freshW (wAt kn i) (nx.getD i []) (wAt (runW nx kn t) i) (runW nx kn t) (t : Int)) (wAt (runW nx kn t) i) := by
  refine wAt_get ?_
  show (stepW nx kn (runW nx kn t) (t : Int))[i]? = _
  unfold stepW
  rw [List.getElem?_map, List.getElem?_range h]; rfl
theorem run_known {i : Nat} {k w : W} (hk : wAt kn i = some k) : ∀ t, wAt (runW nx kn t) i = some w → w = k ∧ ¬ k.1 = .even
  | 0, h => by rw [run0] at h; cases h
  | t + 1, h => by
    have hi : i < kn.length := Nat.lt_of_not_le fun z => by rw [wAt_ge z] at hk; cases hk
    rw [run1 hi, hk] at h
    unfold freshW at h
    rw [if_neg (fun z => by cases z.1)] at h
    obtain ⟨s, n⟩ := k
    dsimp only at h
    by_cases z : ¬ s = .even ∧ n = (t : Int)
    · rw [if_pos z] at h
      have h : some (s, n) = some w := h
      cases h
      exact ⟨rfl, z.1⟩
    · rw [if_neg z] at h
      exact run_known hk t h
theorem keep1 {i : Nat} {w : W} {t : Nat} (h : wAt (runW nx kn t) i = some w) : wAt (runW nx kn (t + 1)) i = some w := by
  have hi : i < kn.length := Nat.lt_of_not_le fun z => by rw [wAt_ge (by rw [runW_len]; exact z)] at h; cases h
  rw [run1 hi, h]
  unfold freshW
  rw [if_neg (fun z => by cases z.2)]
  cases hk : wAt kn i with
  | none => rfl
  | some k =>
    obtain ⟨e, _⟩ := run_known hk t h
    subst e
    obtain ⟨s, n⟩ := w
    dsimp only
    by_cases z : ¬ s = .even ∧ n = (t : Int)
    · rw [if_pos z]; rfl
    · rw [if_neg z]; rfl
theorem keepW {i : Nat} {w : W} {t u : Nat} (h : wAt (runW nx kn t) i = some w) (l : t ≤ u) : wAt (runW nx kn u) i = some w := by
  induction l with
  | refl => exact h
  | step _ ih => exact keep1 ih
theorem comes_num {ns : List Nat} {ws : List (Option W)} {t : Int} {w : W} (h : comesUp ns ws t = some w) : w.2 = t := by
  unfold comesUp at h
  split at h
  · cases h; rfl
  · split at h
    · split at h
      · cases h
      · cases h; rfl
    · cases h
theorem fresh_num {k wi : Option W} {ns : List Nat} {ws : List (Option W)} {t : Int} {w : W} (h : freshW k ns wi ws t = some w) : w.2 = t := by
  unfold freshW at h
  split at h
  · exact comes_num h
  · split at h
    · split at h
      · rename_i z; cases h; exact z.2
      · cases h
    · cases h
theorem born {i : Nat} {w : W} : ∀ {t : Nat}, wAt (runW nx kn t) i = some w → ∃ u : Nat, u < t ∧ w.2 = (u : Int) ∧ wAt (runW nx kn u) i = none ∧ freshW (wAt kn i) (nx.getD i []) none (runW nx kn u) (u : Int) = some w ∧ wAt (runW nx kn (u + 1)) i = some w
  | 0, h => by rw [run0] at h; cases h
  | t + 1, h => by
    have h0 := h
    cases e : wAt (runW nx kn t) i with
    | some w' =>
      have := keep1 e
      rw [h] at this
      cases this
      obtain ⟨u, a, b⟩ := born e
      exact ⟨u, by omega, b⟩
    | none =>
      have hi : i < kn.length := Nat.lt_of_not_le fun z => by rw [wAt_ge (by rw [runW_len]; exact z)] at h; cases h
      rw [run1 hi, e] at h
      cases ef : freshW (wAt kn i) (nx.getD i []) none (runW nx kn t) (t : Int) with
      | none => rw [ef] at h; cases h
      | some w' =>
        rw [ef] at h
        have h : some w' = some w := h
        cases h
        exact ⟨t, by omega, fresh_num ef, e, ef, h0⟩
theorem maxI_ge {a b : Int} : a ≤ maxI a b ∧ b ≤ maxI a b ∧ (maxI a b = a ∨ maxI a b = b) := by
  unfold maxI
  by_cases h : b > a
  · rw [if_pos h]; exact ⟨by omega, by omega, .inr rfl⟩
  · rw [if_neg h]; exact ⟨by omega, by omega, .inl rfl⟩
theorem fold_ge {f : Nat → Int} : ∀ (ns : List Nat) (a : Int), a ≤ ns.foldl (fun g x => maxI g (f x)) a ∧ (∀ x ∈ ns, f x ≤ ns.foldl (fun g x => maxI g (f x)) a) ∧ (ns.foldl (fun g x => maxI g (f x)) a = a ∨ ∃ x ∈ ns, ns.foldl (fun g x => maxI g (f x)) a = f x)
  | [], a => ⟨Int.le_refl _, fun x hx => (by cases hx), .inl rfl⟩
  | y :: ns, a => by
    obtain ⟨h1, h2, h3⟩ := fold_ge (f := f) ns (maxI a (f y))
    obtain ⟨m1, m2, m3⟩ := @maxI_ge a (f y)
    rw [List.foldl_cons]
    refine ⟨by omega, fun x hx => ?_, ?_⟩
    · rcases List.mem_cons.mp hx with rfl | hx
      · omega
      · exact h2 x hx
    · rcases h3 with h3 | ⟨x, hx, h3⟩
      · rcases m3 with m3 | m3
        · left; rw [h3, m3]
        · right; exact ⟨y, List.mem_cons_self, by rw [h3, m3]⟩
      · right; exact ⟨x, List.mem_cons_of_mem _ hx, h3⟩
theorem fold_congr {f g : Nat → Int} : ∀ {ns : List Nat} {a : Int}, (∀ x ∈ ns, f x = g x) → ns.foldl (fun m x => maxI m (f x)) a = ns.foldl (fun m x => maxI m (g x)) a
  | [], _, _ => rfl
  | y :: ns, a, h => by
    rw [List.foldl_cons, List.foldl_cons, h y List.mem_cons_self]
    exact fold_congr (fun x hx => h x (List.mem_cons_of_mem _ hx))
theorem isWon_of {o : Option W} (h : isWon o = true) : ∃ m, o = some (.won, m) := by
  unfold isWon at h
  split at h
  · exact ⟨_, rfl⟩
  · cases h
def many (ws : List (Option W)) : Nat := ws.countP Option.isSome
theorem count_lt : ∀ {a b : List (Option W)}, a.length = b.length → (∀ i : Nat, (wAt a i).isSome = true → (wAt b i).isSome = true) → (a.countP Option.isSome ≤ b.countP Option.isSome) ∧ ((∃ i : Nat, wAt a i = none ∧ (wAt b i).isSome = true) → a.countP Option.isSome < b.countP Option.isSome)
  | [], [], _, _ => ⟨Nat.le_refl _, fun ⟨i, _, h⟩ => by simp [wAt] at h⟩
  | x :: a, y :: b, hl, h => by
    have h0 := h 0
    obtain ⟨h1, h2⟩ := count_lt (a := a) (b := b) (by simpa using hl) (fun i => by have := h (i + 1); simpa [wAt] using this)
    rw [List.countP_cons, List.countP_cons]
    have h0 : x.isSome = true → y.isSome = true := by simpa [wAt] using h0
    constructor
    · cases hx : x.isSome with
      | true => rw [h0 hx]; simp; omega
      | false => simp; omega
    · rintro ⟨i, ha, hb⟩
      cases i with
      | zero =>
        have ha : x = none := by simpa [wAt] using ha
        have hb : y.isSome = true := by simpa [wAt] using hb
        rw [ha, hb]
        simp
        omega
      | succ i =>
        have := h2 ⟨i, by simpa [wAt] using ha, by simpa [wAt] using hb⟩
        cases hx : x.isSome with
        | true => rw [h0 hx]; simp; omega
        | false => simp; omega
theorem many_step (t : Nat) : many (runW nx kn t) ≤ many (runW nx kn (t + 1)) ∧ ((∃ i : Nat, wAt (runW nx kn t) i = none ∧ (wAt (runW nx kn (t + 1)) i).isSome = true) → many (runW nx kn t) < many (runW nx kn (t + 1))) :=
  count_lt (by rw [runW_len, runW_len]) fun i hi => by
    obtain ⟨w, hw⟩ := Option.isSome_iff_exists.mp hi
    rw [keep1 hw]; rfl
theorem fresh_back {t i : Nat} {w : W} (hk : ∀ (j : Nat) (k : W), wAt kn j = some k → k.2 ≤ 6) (ht : 6 ≤ t) (h0 : wAt (runW nx kn (t + 1)) i = none) (h1 : wAt (runW nx kn (t + 2)) i = some w) :
    ∃ j : Nat, wAt (runW nx kn t) j = none ∧ (wAt (runW nx kn (t + 1)) j).isSome = true := by
  have hi : i < kn.length := Nat.lt_of_not_le fun z => by rw [wAt_ge (by rw [runW_len]; exact z)] at h1; cases h1
  obtain ⟨u, hu, hn, hb0, hf, hb1⟩ := born h1
  have hut : u = t + 1 := by
    by_cases z : u = t + 1
    · exact z
    · have := keepW hb1 (by omega : u + 1 ≤ t + 1)
      rw [h0] at this; cases this
  subst hut
  have from_ : ∀ x s, wAt (runW nx kn (t + 1)) x = some (s, (t : Int)) → ∃ j : Nat, wAt (runW nx kn t) j = none ∧ (wAt (runW nx kn (t + 1)) j).isSome = true := fun x s e => by
    obtain ⟨v, hv, hvn, hv0, _, hv1⟩ := born e
    have hvn : (t : Int) = (v : Int) := hvn
    have : v = t := by omega
    subst this
    exact ⟨x, hv0, by rw [e]; rfl⟩
  cases hki : wAt kn i with
  | some k =>
    have hkn := (run_known hki _ h1).1
    have := hk i k hki
    rw [hkn] at hn
    omega
  | none =>
    unfold freshW at hf
    rw [hki, if_pos ⟨rfl, rfl⟩] at hf
    unfold comesUp at hf
    have ec : ((t + 1 : Nat) : Int) - 1 = (t : Int) := by omega
    rw [ec] at hf
    split at hf
    · rename_i z
      obtain ⟨x, _, e⟩ := List.any_eq_true.mp z
      exact from_ x _ (of_decide_eq_true e)
    · split at hf
      · rename_i _ z
        split at hf
        · cases hf
        · rename_i g
          have hg : greatest (nx.getD i []) (runW nx kn (t + 1)) = (t : Int) := Decidable.byContradiction fun z => g (.inr z)
          obtain ⟨f1, f2, f3⟩ := fold_ge (f := fun x => numW (wAt (runW nx kn (t + 1)) x)) (nx.getD i []) 0
          have hg' : (nx.getD i []).foldl (fun g x => maxI g (numW (wAt (runW nx kn (t + 1)) x))) 0 = (t : Int) := hg
          rw [hg'] at f3
          rcases f3 with f3 | ⟨x, hx, f3⟩
          · omega
          · obtain ⟨m, e⟩ := isWon_of (List.all_eq_true.mp z x hx)
            rw [e] at f3
            have f3 : (t : Int) = m := f3
            rw [← f3] at e
            exact from_ x _ e
      · cases hf
theorem count_up (hk : ∀ (j : Nat) (k : W), wAt kn j = some k → k.2 ≤ 6) : ∀ (d : Nat), (∃ i : Nat, wAt (runW nx kn (6 + d)) i = none ∧ (wAt (runW nx kn (7 + d)) i).isSome = true) → d + 1 ≤ many (runW nx kn (7 + d))
  | 0, h => by
    have : many (runW nx kn 6) < many (runW nx kn 7) := (many_step (nx := nx) (kn := kn) 6).2 h
    show 1 ≤ many (runW nx kn 7)
    omega
  | d + 1, h => by
    obtain ⟨i, h0, h1⟩ := h
    obtain ⟨w, hw⟩ := Option.isSome_iff_exists.mp h1
    have hw' : wAt (runW nx kn (6 + d + 2)) i = some w := by rw [show 6 + d + 2 = 7 + (d + 1) by omega]; exact hw
    have h0' : wAt (runW nx kn (6 + d + 1)) i = none := by rw [show 6 + d + 1 = 6 + (d + 1) by omega]; exact h0
    obtain ⟨j, hj⟩ := fresh_back hk (by omega) h0' hw'
    have ih := count_up hk d ⟨j, by rw [show 7 + d = 6 + d + 1 by omega]; exact hj⟩
    have := (many_step (nx := nx) (kn := kn) (6 + (d + 1))).2 ⟨i, h0, by rw [show 6 + (d + 1) + 1 = 7 + (d + 1) by omega]; exact h1⟩
    rw [show 6 + (d + 1) + 1 = 7 + (d + 1) by omega, show 6 + (d + 1) = 7 + d by omega] at this
    omega
end
end L2
namespace L2
section
variable (nx : List (List Nat)) (kn : List (Option W)) (m : Nat)
structure WInv (N : Int) (D : Nat → Bool) (c : Nat) (pre todo found waiting : List Nat) (ws : List (Option W)) (lf : List Int) : Prop where
  lw : ws.length = m
  ll : lf.length = m
  kn1 : ∀ (i : Nat) k, wAt kn i = some k → wAt ws i = some k
  ev : ∀ (i : Nat) w, wAt ws i = some w → w.1 = .even → wAt kn i = some w
  cls : ∀ (i : Nat) w, wAt ws i = some w → ¬ w.1 = .even → (D i = true ∧ w.2 ≤ N) ∨ (i ∈ todo ∧ w.2 = N) ∨ (i ∈ found ∧ w.2 = N + 1) ∨ (i ∈ waiting ∧ N < w.2)
  dn : ∀ i, D i = true → ∃ w, wAt ws i = some w ∧ ¬ w.1 = .even
  td : ∀ i ∈ todo, D i = false ∧ ∃ w, wAt ws i = some w ∧ ¬ w.1 = .even ∧ w.2 = N
  fd : ∀ i ∈ found, D i = false ∧ wAt kn i = none ∧ ∃ w, wAt ws i = some w ∧ ¬ w.1 = .even ∧ w.2 = N + 1
  wt : ∀ i ∈ waiting, D i = false ∧ ∃ w, wAt kn i = some w ∧ ¬ w.1 = .even ∧ N < w.2
  nt : todo.Nodup
  nf : found.Nodup
  nw : waiting.Nodup
  un : ∀ a, a < m → wAt kn a = none → wAt ws a = none → lf.getD a 0 + (pre.count a : Int) = ((nx.getD a []).countP (fun x => !D x) : Int) ∧ 0 < lf.getD a 0 ∧ (∀ x ∈ nx.getD a [], D x = true → ∃ k, wAt ws x = some (.won, k)) ∧ (0 < pre.count a → ∃ k, wAt ws c = some (.won, k))
  wn : ∀ (a : Nat) n, wAt kn a = none → wAt ws a = some (.won, n) → n ≤ N + 1 ∧ (∃ x ∈ nx.getD a [], wAt ws x = some (.lost, n - 1)) ∧ ∀ x ∈ nx.getD a [], ∀ k, wAt ws x = some (.lost, k) → n - 1 ≤ k
  ls : ∀ (a : Nat) n, wAt kn a = none → wAt ws a = some (.lost, n) → (∀ x ∈ nx.getD a [], ∃ k, k ≤ n - 1 ∧ wAt ws x = some (.won, k)) ∧ ∃ x ∈ nx.getD a [], wAt ws x = some (.won, n - 1)
  nn : ∀ (i : Nat) w, wAt ws i = some w → 0 ≤ w.2
structure WS where
  words : List (Option W)
  left : List Int
  found : List Nat
def stepA (w : W) (s : WS) (a : Nat) : WS :=
  if wAt s.words a = none then
    (if w.1 = .lost then ⟨s.words.set a (some (.won, w.2 + 1)), s.left.set a (s.left.getD a 0 - 1), s.found ++ [a]⟩
     else if s.left.getD a 0 - 1 = 0 then ⟨s.words.set a (some (.lost, w.2 + 1)), s.left.set a (s.left.getD a 0 - 1), s.found ++ [a]⟩
     else ⟨s.words, s.left.set a (s.left.getD a 0 - 1), s.found⟩)
  else s
end
theorem wAt_set {ws : List (Option W)} {a i : Nat} {o : Option W} (h : a < ws.length) : wAt (ws.set a o) i = if i = a then o else wAt ws i := by
  unfold wAt
  rw [List.getD_eq_getElem?_getD, List.getD_eq_getElem?_getD]
  by_cases e : i = a
  · subst e
    rw [if_pos rfl, List.getElem?_set_self h]; rfl
  · rw [if_neg e, List.getElem?_set_ne (fun z => e z.symm)]
theorem lf_set {lf : List Int} {a i : Nat} {v : Int} (h : a < lf.length) : (lf.set a v).getD i 0 = if i = a then v else lf.getD i 0 := by
  rw [List.getD_eq_getElem?_getD, List.getD_eq_getElem?_getD]
  by_cases e : i = a
  · subst e
    rw [if_pos rfl, List.getElem?_set_self h]; rfl
  · rw [if_neg e, List.getElem?_set_ne (fun z => e z.symm)]
section
variable {nx : List (List Nat)} {kn : List (Option W)} {m : Nat} {N : Int} {D : Nat → Bool} {c : Nat} {pre todo found waiting : List Nat} {ws : List (Option W)} {lf : List Int}
theorem WInv.step {w : W} {a : Nat} (I : WInv nx kn m N D c pre (c :: todo) found waiting ws lf) (hw : wAt ws c = some w) (ha : a < m) (hk : wAt kn a = none) (hc : pre.count a + 1 ≤ (nx.getD a []).count c) :
    WInv nx kn m N D c (pre ++ [a]) (c :: todo) (stepA w ⟨ws, lf, found⟩ a).found waiting (stepA w ⟨ws, lf, found⟩ a).words (stepA w ⟨ws, lf, found⟩ a).left := by
  have hcD : D c = false := (I.td c List.mem_cons_self).1
  obtain ⟨w', hw', hne, hN⟩ := (I.td c List.mem_cons_self).2
  rw [hw] at hw'
  cases hw'
  have hcm : c ∈ nx.getD a [] := List.count_pos_iff.mp (by omega)
  have cnt : ∀ b, (pre ++ [a]).count b = pre.count b + (if b = a then 1 else 0) := fun b => by
    rw [List.count_append, List.count_singleton]
    by_cases e : b = a
    · subst e; simp
    · rw [if_neg e]
      have : (a == b) = false := by simpa using fun z => e z.symm
      rw [this]; simp
  unfold stepA
  dsimp only
  by_cases hn : wAt ws a = none
  · rw [if_pos hn]
    have alw : a < ws.length := by rw [I.lw]; exact ha
    have all_ : a < lf.length := by rw [I.ll]; exact ha
    obtain ⟨u1, u2, u3, u4⟩ := I.un a ha hk hn
    have hca : ¬ c = a := fun z => by rw [← z, hw] at hn; cases hn
    have naD : D a = false := by
      cases e : D a with
      | false => rfl
      | true => obtain ⟨w2, h2, _⟩ := I.dn a e; rw [hn] at h2; cases h2
    have nat : a ∉ c :: todo := fun z => by obtain ⟨_, w2, h2, _⟩ := I.td a z; rw [hn] at h2; cases h2
    have naf : a ∉ found := fun z => by obtain ⟨_, _, w2, h2, _⟩ := I.fd a z; rw [hn] at h2; cases h2
    have set_ : ∀ (v : W), ¬ v.1 = .even → v.2 = N + 1 →
        (v.1 = .won → v = (.won, N + 1) ∧ (∃ x ∈ nx.getD a [], wAt ws x = some (.lost, N)) ∧ ∀ x ∈ nx.getD a [], ∀ k, wAt ws x = some (.lost, k) → N ≤ k) →
        (v.1 = .lost → v = (.lost, N + 1) ∧ (∀ x ∈ nx.getD a [], ∃ k, k ≤ N ∧ wAt ws x = some (.won, k)) ∧ ∃ x ∈ nx.getD a [], wAt ws x = some (.won, N)) →
        WInv nx kn m N D c (pre ++ [a]) (c :: todo) (found ++ [a]) waiting (ws.set a (some v)) (lf.set a (lf.getD a 0 - 1)) := fun v v1 v2 v3 v4 => by
      have at_ : ∀ i, wAt (ws.set a (some v)) i = if i = a then some v else wAt ws i := fun i => wAt_set alw
      have old : ∀ i w2, wAt ws i = some w2 → wAt (ws.set a (some v)) i = some w2 := fun i w2 h => by
        rw [at_, if_neg (fun z => by rw [z, hn] at h; cases h)]; exact h
      refine ⟨by rw [List.length_set]; exact I.lw, by rw [List.length_set]; exact I.ll, fun i k h => old i k (I.kn1 i k h), fun i w2 h e => ?_, fun i w2 h e => ?_, fun i h => ?_, fun i h => ?_, fun i h => ?_, fun i h => ?_, I.nt, ?_, I.nw, fun b hb hkb hnb => ?_, fun b n hkb h => ?_, fun b n hkb h => ?_, fun i w2 h => ?_⟩
      · rw [at_] at h
        by_cases z : i = a
        · rw [if_pos z] at h; cases h; exact absurd e v1
        · rw [if_neg z] at h; exact I.ev i w2 h e
      · rw [at_] at h
        by_cases z : i = a
        · rw [if_pos z] at h; cases h
          exact .inr (.inr (.inl ⟨List.mem_append_right _ (by rw [z]; exact List.mem_singleton.mpr rfl), v2⟩))
        · rw [if_neg z] at h
          rcases I.cls i w2 h e with q | q | q | q
          · exact .inl q
          · exact .inr (.inl q)
          · exact .inr (.inr (.inl ⟨List.mem_append_left _ q.1, q.2⟩))
          · exact .inr (.inr (.inr q))
      · obtain ⟨w2, h1, h2⟩ := I.dn i h
        exact ⟨w2, old i w2 h1, h2⟩
      · obtain ⟨h0, w2, h1, h2⟩ := I.td i h
        exact ⟨h0, w2, old i w2 h1, h2⟩
      · rcases List.mem_append.mp h with h | h
        · obtain ⟨h0, h00, w2, h1, h2⟩ := I.fd i h
          exact ⟨h0, h00, w2, old i w2 h1, h2⟩
        · have z := List.mem_singleton.mp h
          subst z
          exact ⟨naD, hk, v, by rw [at_, if_pos rfl], v1, v2⟩
      · exact I.wt i h
      · rw [List.nodup_append]
        refine ⟨I.nf, by simp, fun x hx y hy e => ?_⟩
        rw [List.mem_singleton.mp hy] at e
        exact naf (e ▸ hx)
      · rw [at_] at hnb
        by_cases z : b = a
        · rw [if_pos z] at hnb; cases hnb
        · rw [if_neg z] at hnb
          obtain ⟨q1, q2, q3, q4⟩ := I.un b hb hkb hnb
          rw [lf_set all_, if_neg z, cnt, if_neg z]
          refine ⟨q1, q2, fun x hx hD => ?_, fun hp => ?_⟩
          · obtain ⟨k, hk'⟩ := q3 x hx hD
            exact ⟨k, old _ _ hk'⟩
          · obtain ⟨k, hk'⟩ := q4 hp
            exact ⟨k, old _ _ hk'⟩
      · rw [at_] at h
        by_cases z : b = a
        · rw [if_pos z] at h
          have h : v = (.won, n) := Option.some.inj h
          obtain ⟨e1, ⟨x, hx, e2⟩, e3⟩ := v3 (by rw [h])
          have en : n = N + 1 := by rw [h] at v2; exact v2
          subst en
          rw [z]
          refine ⟨by omega, ⟨x, hx, by rw [show N + 1 - 1 = N by omega]; exact old _ _ e2⟩, fun y hy k hy2 => ?_⟩
          rw [at_] at hy2
          by_cases z2 : y = a
          · rw [if_pos z2, h] at hy2; cases hy2
          · rw [if_neg z2] at hy2
            have := e3 y hy k hy2
            omega
        · rw [if_neg z] at h
          obtain ⟨q1, ⟨x, hx, q2⟩, q3⟩ := I.wn b n hkb h
          refine ⟨q1, ⟨x, hx, old _ _ q2⟩, fun y hy k hy2 => ?_⟩
          rw [at_] at hy2
          by_cases z2 : y = a
          · rw [if_pos z2] at hy2
            have hv : v = (.lost, k) := Option.some.inj hy2
            have : k = N + 1 := by rw [hv] at v2; exact v2
            omega
          · rw [if_neg z2] at hy2
            exact q3 y hy k hy2
      · rw [at_] at h
        by_cases z : b = a
        · rw [if_pos z] at h
          have h : v = (.lost, n) := Option.some.inj h
          obtain ⟨e1, e3, ⟨x, hx, e2⟩⟩ := v4 (by rw [h])
          have en : n = N + 1 := by rw [h] at v2; exact v2
          subst en
          rw [z, show N + 1 - 1 = N by omega]
          refine ⟨fun y hy => ?_, x, hx, old _ _ e2⟩
          obtain ⟨k, k1, k2⟩ := e3 y hy
          exact ⟨k, k1, old _ _ k2⟩
        · rw [if_neg z] at h
          obtain ⟨q1, x, hx, q2⟩ := I.ls b n hkb h
          refine ⟨fun y hy => ?_, x, hx, old _ _ q2⟩
          obtain ⟨k, k1, k2⟩ := q1 y hy
          exact ⟨k, k1, old _ _ k2⟩
      · rw [at_] at h
        by_cases z : i = a
        · rw [if_pos z] at h; cases h
          have := I.nn c w hw
          omega
        · rw [if_neg z] at h; exact I.nn i w2 h
    by_cases hl : w.1 = .lost
    · rw [if_pos hl]
      have ew : w = (.lost, N) := by obtain ⟨a1, a2⟩ := w; exact Prod.ext hl hN
      refine set_ (.won, w.2 + 1) (by simp) (by show w.2 + 1 = N + 1; omega) (fun _ => ⟨by rw [hN], ⟨c, hcm, by rw [hw, ew]⟩, fun x hx k hxk => ?_⟩) (fun h => by cases h)
      rcases I.cls x _ hxk (by simp) with q | q | q | q
      · obtain ⟨k', e⟩ := u3 x hx q.1
        rw [hxk] at e; cases e
      · exact Int.le_of_eq q.2.symm
      · have := q.2
        have : k = N + 1 := this
        omega
      · have : N < k := q.2
        omega
    · rw [if_neg hl]
      have hwon : w.1 = .won := by
        obtain ⟨a1, a2⟩ := w
        cases a1 with
        | won => rfl
        | lost => exact absurd rfl hl
        | even => exact absurd rfl hne
      have ew : w = (.won, N) := by obtain ⟨a1, a2⟩ := w; exact Prod.ext hwon hN
      by_cases h0 : lf.getD a 0 - 1 = 0
      · rw [if_pos h0]
        have c1 : (nx.getD a []).count c ≤ (nx.getD a []).countP (fun x => !D x) := by
          unfold List.count
          exact List.countP_mono_left (fun x _ hx => by
            have : x = c := by simpa using hx
            rw [this, hcD]; rfl)
        have c2 : (nx.getD a []).countP (fun x => !D x) = (nx.getD a []).count c := by omega
        have all : ∀ x ∈ nx.getD a [], D x = true ∨ x = c := fun x hx => by
          refine Decidable.byContradiction fun hno => ?_
          have hD : D x = false := by
            cases e : D x with
            | false => rfl
            | true => exact absurd (.inl e) hno
          have hxc : ¬ x = c := fun e => hno (.inr e)
          have lt : (nx.getD a []).count c < (nx.getD a []).countP (fun x => !D x) := by
            unfold List.count
            have key : ∀ l : List Nat, x ∈ l → l.countP (· == c) < l.countP (fun x => !D x) := fun l => by
              induction l with
              | nil => intro h; cases h
              | cons y r ih =>
                intro hm
                rw [List.countP_cons, List.countP_cons]
                have mono : r.countP (· == c) ≤ r.countP (fun x => !D x) := List.countP_mono_left (fun x _ hx => by
                  have : x = c := by simpa using hx
                  rw [this, hcD]; rfl)
                rcases List.mem_cons.mp hm with rfl | hm
                · have e1 : (x == c) = false := by simpa using hxc
                  rw [e1, hD]
                  simp
                  omega
                · have := ih hm
                  by_cases e : y = c
                  · subst e
                    rw [hcD]
                    simp
                    omega
                  · have e1 : (y == c) = false := by simpa using e
                    rw [e1]
                    simp
                    omega
            exact key _ hx
          omega
        refine set_ (.lost, w.2 + 1) (by simp) (by show w.2 + 1 = N + 1; omega) (fun h => by cases h) (fun _ => ⟨by rw [hN], fun x hx => ?_, ⟨c, hcm, by rw [hw, ew]⟩⟩)
        rcases all x hx with hD | rfl
        · obtain ⟨k, e⟩ := u3 x hx hD
          rcases I.cls x _ e (by simp) with q | q | q | q
          · exact ⟨k, q.2, e⟩
          · have := (I.td x q.1).1; rw [hD] at this; cases this
          · have := (I.fd x q.1).1; rw [hD] at this; cases this
          · have := (I.wt x q.1).1; rw [hD] at this; cases this
        · exact ⟨N, Int.le_refl _, by rw [hw, ew]⟩
      · rw [if_neg h0]
        refine ⟨I.lw, by rw [List.length_set]; exact I.ll, I.kn1, I.ev, I.cls, I.dn, I.td, I.fd, I.wt, I.nt, I.nf, I.nw, fun b hb hkb hnb => ?_, I.wn, I.ls, I.nn⟩
        obtain ⟨q1, q2, q3, q4⟩ := I.un b hb hkb hnb
        rw [lf_set all_, cnt]
        by_cases z : b = a
        · subst z
          rw [if_pos rfl, if_pos rfl]
          exact ⟨by omega, by omega, q3, fun _ => ⟨N, by rw [hw, ew]⟩⟩
        · rw [if_neg z, if_neg z]
          exact ⟨q1, q2, q3, q4⟩
  · rw [if_neg hn]
    refine ⟨I.lw, I.ll, I.kn1, I.ev, I.cls, I.dn, I.td, I.fd, I.wt, I.nt, I.nf, I.nw, fun b hb hkb hnb => ?_, I.wn, I.ls, I.nn⟩
    have z : ¬ b = a := fun e => hn (e ▸ hnb)
    rw [cnt, if_neg z]
    exact I.un b hb hkb hnb
theorem WInv.done {bk : List Nat} (I : WInv nx kn m N D c bk (c :: todo) found waiting ws lf) (hb : ∀ a, a < m → wAt kn a = none → bk.count a = (nx.getD a []).count c) (c2 : Nat) :
    WInv nx kn m N (fun x => D x || decide (x = c)) c2 [] todo found waiting ws lf := by
  have hcD : D c = false := (I.td c List.mem_cons_self).1
  obtain ⟨w, hw, hne, hN⟩ := (I.td c List.mem_cons_self).2
  have nd := List.nodup_cons.mp I.nt
  have off : ∀ i, ¬ i = c → (D i || decide (i = c)) = D i := fun i h => by rw [decide_eq_false h, Bool.or_false]
  refine ⟨I.lw, I.ll, I.kn1, I.ev, fun i w2 h e => ?_, fun i h => ?_, fun i h => ?_, fun i h => ?_, fun i h => ?_, nd.2, I.nf, I.nw, fun a ha hk hn => ?_, I.wn, I.ls, I.nn⟩
  · rcases I.cls i w2 h e with q | q | q | q
    · exact .inl ⟨by rw [q.1]; rfl, q.2⟩
    · rcases List.mem_cons.mp q.1 with rfl | q1
      · exact .inl ⟨by simp, by omega⟩
      · exact .inr (.inl ⟨q1, q.2⟩)
    · exact .inr (.inr (.inl q))
    · exact .inr (.inr (.inr q))
  · by_cases z : i = c
    · subst z; exact ⟨w, hw, hne⟩
    · rw [off i z] at h; exact I.dn i h
  · have z : ¬ i = c := fun e => nd.1 (e ▸ h)
    rw [off i z]
    exact I.td i (List.mem_cons_of_mem _ h)
  · have z : ¬ i = c := fun e => by
      obtain ⟨_, _, w2, h1, _, h3⟩ := I.fd i h
      rw [e, hw] at h1; cases h1; omega
    rw [off i z]
    exact I.fd i h
  · have z : ¬ i = c := fun e => by
      obtain ⟨_, w2, h1, _, h3⟩ := I.wt i h
      have := I.kn1 i w2 h1
      rw [e, hw] at this; cases this; omega
    rw [off i z]
    exact I.wt i h
  · obtain ⟨q1, q2, q3, q4⟩ := I.un a ha hk hn
    rw [hb a ha hk] at q1 q4
    have split : ∀ l : List Nat, l.countP (fun x => !D x) = l.countP (fun x => !(D x || decide (x = c))) + l.count c := fun l => by
      induction l with
      | nil => rfl
      | cons y r ih =>
        rw [List.countP_cons, List.countP_cons, List.count_cons, ih]
        by_cases e : y = c
        · subst e; rw [hcD]; simp; omega
        · have e1 : (y == c) = false := by simpa using e
          rw [off y e, e1]; simp; omega
    refine ⟨?_, q2, fun x hx hD => ?_, fun hp => by simp at hp⟩
    · have := split (nx.getD a [])
      rw [List.count_nil]
      omega
    · by_cases z : x = c
      · subst z
        exact q4 (List.count_pos_iff.mpr hx)
      · rw [off x z] at hD; exact q3 x hx hD
theorem WInv.next {N' : Int} {rest pop : List Nat} {c2 : Nat} (I : WInv nx kn m N D c [] [] found (rest ++ pop) ws lf) (hN : N < N') (hf : ∀ i ∈ found, N' = N + 1) (hp : ∀ i ∈ pop, ∀ w, wAt kn i = some w → w.2 = N') (hr : ∀ i ∈ rest, ∀ w, wAt kn i = some w → N' < w.2) :
    WInv nx kn m N' D c2 [] (found ++ pop.reverse) [] rest ws lf := by
  have hw := List.nodup_append.mp I.nw
  refine ⟨I.lw, I.ll, I.kn1, I.ev, fun i w h e => ?_, I.dn, fun i h => ?_, fun i h => (by cases h), fun i h => ?_, ?_, List.nodup_nil, hw.1, fun a ha hk hn => ?_, fun a n hk h => ?_, I.ls, I.nn⟩
  · rcases I.cls i w h e with q | q | q | q
    · exact .inl ⟨q.1, by omega⟩
    · cases q.1
    · have := hf i q.1
      exact .inr (.inl ⟨List.mem_append_left _ q.1, by omega⟩)
    · obtain ⟨_, w2, h1, _⟩ := I.wt i q.1
      have h2 := I.kn1 i w2 h1
      rw [h] at h2; cases h2
      rcases List.mem_append.mp q.1 with q1 | q1
      · exact .inr (.inr (.inr ⟨q1, hr i q1 w h1⟩))
      · exact .inr (.inl ⟨List.mem_append_right _ (List.mem_reverse.mpr q1), hp i q1 w h1⟩)
  · rcases List.mem_append.mp h with h | h
    · obtain ⟨a1, _, w, a2, a3, a4⟩ := I.fd i h
      have := hf i h
      exact ⟨a1, w, a2, a3, by omega⟩
    · have h := List.mem_reverse.mp h
      obtain ⟨a1, w, a2, a3, _⟩ := I.wt i (List.mem_append_right _ h)
      exact ⟨a1, w, I.kn1 i w a2, a3, hp i h w a2⟩
  · obtain ⟨a1, w, a2, a3, _⟩ := I.wt i (List.mem_append_left _ h)
    exact ⟨a1, w, a2, a3, hr i h w a2⟩
  · rw [List.nodup_append]
    refine ⟨I.nf, List.pairwise_reverse.mpr (hw.2.1.imp fun h e => h e.symm), fun x hx y hy e => ?_⟩
    obtain ⟨_, a2, _⟩ := I.fd x hx
    obtain ⟨_, w, b2, _⟩ := I.wt y (List.mem_append_right _ (List.mem_reverse.mp hy))
    rw [← e, a2] at b2; cases b2
  · obtain ⟨q1, q2, q3, q4⟩ := I.un a ha hk hn
    exact ⟨q1, q2, q3, fun h => by simp at h⟩
  · obtain ⟨q1, q2, q3⟩ := I.wn a n hk h
    exact ⟨by omega, q2, q3⟩
theorem WInv.init {waiting : List Nat} (hm : kn.length = m) (hnx : ∀ a, a < m → wAt kn a = none → ¬ nx.getD a [] = []) (hlf : lf.length = m) (hl : ∀ a, a < m → lf.getD a 0 = ((nx.getD a []).length : Int))
    (hk : ∀ (i : Nat) w, wAt kn i = some w → 0 ≤ w.2) (hw : ∀ i, i ∈ waiting ↔ ∃ w, wAt kn i = some w ∧ ¬ w.1 = .even) (nd : waiting.Nodup) :
    WInv nx kn m (-1) (fun _ => false) 0 [] [] [] waiting kn lf := by
  refine ⟨hm, hlf, fun _ _ h => h, fun _ _ h _ => h, fun i w h e => ?_, fun i h => (by cases h), fun i h => (by cases h), fun i h => (by cases h), fun i h => ?_, List.nodup_nil, List.nodup_nil, nd, fun a ha hka _ => ?_, fun a n hka h => (by rw [hka] at h; cases h), fun a n hka h => (by rw [hka] at h; cases h), hk⟩
  · have := hk i w h
    exact .inr (.inr (.inr ⟨(hw i).mpr ⟨w, h, e⟩, by omega⟩))
  · obtain ⟨w, h1, h2⟩ := (hw i).mp h
    have := hk i w h1
    exact ⟨rfl, w, h1, h2, by omega⟩
  · have hne := hnx a ha hka
    have hp : 0 < (nx.getD a []).length := by
      cases e : nx.getD a [] with
      | nil => exact absurd e hne
      | cons x r => exact Nat.succ_pos _
    rw [hl a ha]
    refine ⟨?_, by omega, fun x hx h => (by cases h), fun h => (by simp at h)⟩
    have : (nx.getD a []).countP (fun _ => !false) = (nx.getD a []).length := by simp
    rw [this, List.count_nil]
    omega
end
def FolW (ns : List Nat) (fw : Nat → W) (w : W) : Prop :=
  (w.1 = .won ∧ (∃ x ∈ ns, fw x = (.lost, w.2 - 1)) ∧ ∀ x ∈ ns, ∀ k, fw x = (.lost, k) → w.2 - 1 ≤ k) ∨
  (w.1 = .lost ∧ (∀ x ∈ ns, ∃ k, k ≤ w.2 - 1 ∧ fw x = (.won, k)) ∧ ∃ x ∈ ns, fw x = (.won, w.2 - 1)) ∨
  (w = (.even, 0) ∧ (∀ x ∈ ns, ∀ k, ¬ fw x = (.lost, k)) ∧ ∃ x ∈ ns, ∀ k, ¬ fw x = (.won, k))
structure Fol (nx : List (List Nat)) (kn : List (Option W)) (m : Nat) (fw : Nat → W) : Prop where
  known : ∀ i k, i < m → wAt kn i = some k → fw i = k
  folw : ∀ i, i < m → wAt kn i = none → FolW (nx.getD i []) fw (fw i)
  pos : ∀ i, i < m → 0 ≤ (fw i).2
def finW (ws : List (Option W)) (i : Nat) : W := match wAt ws i with
  | some w => w
  | none => (.even, 0)
theorem finW_some {ws : List (Option W)} {i : Nat} {w : W} (h : wAt ws i = some w) : finW ws i = w := by unfold finW; rw [h]
theorem finW_none {ws : List (Option W)} {i : Nat} (h : wAt ws i = none) : finW ws i = (.even, 0) := by unfold finW; rw [h]
theorem finW_ne {ws : List (Option W)} {i : Nat} {s : Wk} {n : Int} (h : finW ws i = (s, n)) (hs : ¬ s = .even) : wAt ws i = some (s, n) := by
  cases e : wAt ws i with
  | none => rw [finW_none e] at h; cases h; exact absurd rfl hs
  | some w => rw [finW_some e] at h; rw [h]
theorem WInv.fin {nx : List (List Nat)} {kn : List (Option W)} {m : Nat} {N : Int} {D : Nat → Bool} {c : Nat} {ws : List (Option W)} {lf : List Int} (I : WInv nx kn m N D c [] [] [] [] ws lf) : Fol nx kn m (finW ws) := by
  refine ⟨fun i k _ h => finW_some (I.kn1 i k h), fun i hi hk => ?_, fun i _ => ?_⟩
  · cases e : wAt ws i with
    | some w =>
      rw [finW_some e]
      obtain ⟨s, n⟩ := w
      cases s with
      | won =>
        obtain ⟨_, ⟨x, hx, q2⟩, q3⟩ := I.wn i n hk e
        exact .inl ⟨rfl, ⟨x, hx, finW_some q2⟩, fun y hy k h => q3 y hy k (finW_ne h (by simp))⟩
      | lost =>
        obtain ⟨q1, x, hx, q2⟩ := I.ls i n hk e
        refine .inr (.inl ⟨rfl, fun y hy => ?_, x, hx, finW_some q2⟩)
        obtain ⟨k, k1, k2⟩ := q1 y hy
        exact ⟨k, k1, finW_some k2⟩
      | even =>
        have := I.ev i _ e rfl
        rw [hk] at this; cases this
    | none =>
      rw [finW_none e]
      obtain ⟨q1, q2, q3, _⟩ := I.un i hi hk e
      have cl : ∀ x w, wAt ws x = some w → ¬ w.1 = .even → D x = true := fun x w h hne => by
        rcases I.cls x w h hne with q | q | q | q
        · exact q.1
        · cases q.1
        · cases q.1
        · cases q.1
      refine .inr (.inr ⟨rfl, fun x hx k h => ?_, ?_⟩)
      · have h := finW_ne h (by simp)
        obtain ⟨k', e'⟩ := q3 x hx (cl x _ h (by simp))
        rw [h] at e'; cases e'
      · rw [List.count_nil] at q1
        have hp : 0 < (nx.getD i []).countP (fun x => !D x) := by omega
        obtain ⟨x, hx, hD⟩ := List.countP_pos_iff.mp hp
        refine ⟨x, hx, fun k h => ?_⟩
        have h := finW_ne h (by simp)
        rw [cl x _ h (by simp)] at hD
        cases hD
  · cases e : wAt ws i with
    | some w => rw [finW_some e]; exact I.nn i w e
    | none => rw [finW_none e]; exact Int.le_refl _
theorem Fol.uniq {nx : List (List Nat)} {kn : List (Option W)} {m : Nat} {fw fv : Nat → W} (hx : ∀ i x, x ∈ nx.getD i [] → x < m) (F : Fol nx kn m fw) (G : Fol nx kn m fv) : ∀ i, i < m → fw i = fv i := by
  have half : ∀ {fw fv : Nat → W}, Fol nx kn m fw → Fol nx kn m fv → ∀ t : Nat, (∀ i, i < m → ∀ s n, n < (t : Int) → ¬ s = .even → (fw i = (s, n) → fv i = (s, n)) ∧ (fv i = (s, n) → fw i = (s, n))) := by
    intro fw fv F G t
    induction t with
    | zero =>
      intro i hi s n hn _
      constructor
      · intro e; have := F.pos i hi; rw [e] at this; have : 0 ≤ n := this; omega
      · intro e; have := G.pos i hi; rw [e] at this; have : 0 ≤ n := this; omega
    | succ t ih =>
      have one : ∀ {fw fv : Nat → W}, Fol nx kn m fw → Fol nx kn m fv → (∀ i, i < m → ∀ s n, n < (t : Int) → ¬ s = .even → (fw i = (s, n) → fv i = (s, n)) ∧ (fv i = (s, n) → fw i = (s, n))) → ∀ i, i < m → ∀ s n, n < ((t + 1 : Nat) : Int) → ¬ s = .even → fw i = (s, n) → fv i = (s, n) := by
        intro fw fv F G ih i hi s n hn hs e
        cases hk : wAt kn i with
        | some k => rw [← F.known i k hi hk] at *; rw [G.known i _ hi hk]; rw [← e]
        | none =>
          have f := F.folw i hi hk
          have g := G.folw i hi hk
          rw [e] at f
          rcases f with ⟨f1, ⟨x, hxm, f2⟩, f3⟩ | ⟨f1, f2, x, hxm, f3⟩ | ⟨f1, _⟩
          · have f1 : s = .won := f1
            subst f1
            have f2 : fw x = (.lost, n - 1) := f2
            have gx : fv x = (.lost, n - 1) := (ih x (hx i x hxm) _ _ (by omega) (by simp)).1 f2
            rcases g with ⟨g1, ⟨y, hym, g2⟩, g3⟩ | ⟨g1, g2, y, hym, g3⟩ | ⟨g1, g2, _⟩
            · have h1 := g3 x hxm _ gx
              have hp : 0 ≤ (fv y).2 := G.pos y (hx i y hym)
              have fy : fw y = (.lost, (fv i).2 - 1) := (ih y (hx i y hym) _ _ (by omega) (by simp)).2 g2
              have h2 := f3 y hym _ fy
              have h2 : n - 1 ≤ (fv i).2 - 1 := h2
              exact Prod.ext g1 (by show (fv i).2 = n; omega)
            · obtain ⟨k, _, e2⟩ := g2 x hxm
              rw [gx] at e2; cases e2
            · exact absurd gx (g2 x hxm _)
          · have f1 : s = .lost := f1
            subst f1
            have all : ∀ y ∈ nx.getD i [], ∃ k, k ≤ n - 1 ∧ fv y = (.won, k) := fun y hy => by
              obtain ⟨k, k1, k2⟩ := f2 y hy
              have k1 : k ≤ n - 1 := k1
              exact ⟨k, k1, (ih y (hx i y hy) _ _ (by omega) (by simp)).1 k2⟩
            have gx : fv x = (.won, n - 1) := (ih x (hx i x hxm) _ _ (by omega) (by simp)).1 f3
            rcases g with ⟨g1, ⟨y, hym, g2⟩, g3⟩ | ⟨g1, g2, y, hym, g3⟩ | ⟨g1, _, y, hym, g3⟩
            · obtain ⟨k, _, e2⟩ := all y hym
              rw [g2] at e2; cases e2
            · obtain ⟨k, k1, k2⟩ := g2 x hxm
              rw [gx] at k2; cases k2
              obtain ⟨k, k3, k4⟩ := all y hym
              rw [g3] at k4; cases k4
              exact Prod.ext g1 (by show (fv i).2 = n; omega)
            · obtain ⟨k, _, e2⟩ := all y hym
              exact absurd e2 (g3 k)
          · cases f1; exact absurd rfl hs
      intro i hi s n hn hs
      exact ⟨one F G ih i hi s n hn hs, one G F (fun i hi s n hn hs => ⟨(ih i hi s n hn hs).2, (ih i hi s n hn hs).1⟩) i hi s n hn hs⟩
  intro i hi
  have h := half F G
  cases e1 : fw i with
  | mk s n =>
    cases e2 : fv i with
    | mk s' n' =>
      by_cases hs : s = .even
      · by_cases hs' : s' = .even
        · subst hs; subst hs'
          cases hk : wAt kn i with
          | some k => rw [← e1, ← e2, F.known i k hi hk, G.known i k hi hk]
          | none =>
            have z : ∀ {fw : Nat → W} {n : Int}, FolW (nx.getD i []) fw (.even, n) → n = 0 := fun f => by
              rcases f with ⟨f1, _⟩ | ⟨f1, _⟩ | ⟨f1, _⟩
              · cases f1
              · cases f1
              · cases f1; rfl
            have f := F.folw i hi hk
            have g := G.folw i hi hk
            rw [e1] at f; rw [e2] at g
            rw [z f, z g]
        · have := (h (n'.toNat + 1) i hi s' n' (by omega) hs').2 e2
          rw [e1] at this; exact this
      · have := (h (n.toNat + 1) i hi s n (by omega) hs).1 e1
        rw [e2] at this; exact this.symm
end L2
namespace L2
section
variable {nx : List (List Nat)} {kn : List (Option W)}
end
end L2
namespace L2
open PySem PySem.Spec PyProof.Rows
def wkS : Wk → Str
  | .won => "won"
  | .lost => "lost"
  | .even => "even"
theorem wkS_inj {a b : Wk} (h : wkS a = wkS b) : a = b := by
  cases a <;> cases b <;> first | rfl | (exact absurd h (by decide))
def natV (n : Nat) : V := .int n
def OW (K : PySem.W.Frag) (H : Hp) (v : V) (o : Option W) : Prop := (o = none ∧ v = .non) ∨ ∃ e a, o = some e ∧ v = .ref a ∧ SqT K H a [.str (wkS e.1), .int e.2]
theorem OW.same {K : PySem.W.Frag} {H H' : Hp} {v : V} {o : Option W} (h : OW K H v o) (s : Same H H') : OW K H' v o := by
  rcases h with h | ⟨e, a, h1, h2, h3⟩
  · exact .inl h
  · exact .inr ⟨e, a, h1, h2, s.tupS h3⟩
theorem OW.keepL {K : PySem.W.Frag} {H : Hp} {v : V} {o : Option W} {l : Addr} {ys : List V} {ob : HO} (h : OW K H v o) (hl : H l = some (.lst ys)) : OW K (upd H l ob) v o := by
  rcases h with h | ⟨e, a, h1, h2, h3⟩
  · exact .inl h
  · exact .inr ⟨e, a, h1, h2, h3.keepL hl⟩
theorem OW.mk {K : PySem.W.Frag} {H : Hp} {a : Addr} {e : W} (h : SqT K H a [.str (wkS e.1), .int e.2]) : OW K H (.ref a) (some e) := .inr ⟨e, a, rfl, rfl, h⟩
theorem OW.non {K : PySem.W.Frag} {H : Hp} : OW K H .non none := .inl ⟨rfl, rfl⟩
theorem OW.som {K : PySem.W.Frag} {H : Hp} {v : V} {e : W} (h : OW K H v (some e)) : ∃ a, v = .ref a ∧ SqT K H a [.str (wkS e.1), .int e.2] := by
  rcases h with ⟨h, _⟩ | ⟨e', a, h1, h2, h3⟩
  · cases h
  · cases h1; exact ⟨a, h2, h3⟩
theorem eqT_wd {K : PySem.W.Frag} {H : Hp} {n : Nat} {a b : Addr} {t t' : Str} {i i' : Int} (ha : SqT K H a [.str t, .int i]) (hb : SqT K H b [.str t', .int i']) : EqT K H (n + 1) (.ref a) (.ref b) (decide (t = t' ∧ i = i')) := by
  have h := EqT.tup (n := n) (es := fun j => match j with | 0 => eqV (.str t) (.str t') | _ => eqV (.int i) (.int i')) ha hb (fun j x y hx hy => by
    match j, hx, hy with
    | 0, hx, hy =>
      simp at hx hy
      subst hx; subst hy
      exact EqD.flat rfl rfl
    | 1, hx, hy =>
      simp at hx hy
      subst hx; subst hy
      exact EqD.flat rfl rfl
    | j + 2, hx, hy => simp at hx)
  have e : ((List.range (min [V.str t, V.int i].length [V.str t', V.int i'].length)).all (fun j => match j with | 0 => eqV (.str t) (.str t') | _ => eqV (.int i) (.int i')) && [V.str t, V.int i].length == [V.str t', V.int i'].length) = decide (t = t' ∧ i = i') := by
    show ((List.range 2).all _ && true) = _
    rw [Bool.and_true]
    show (eqV (.str t) (.str t') && (eqV (.int i) (.int i') && true)) = _
    rw [Bool.and_true]
    show ((t == t') && (i == i')) = _
    by_cases h1 : t = t'
    · subst h1
      by_cases h2 : i = i'
      · subst h2; simp
      · simp [h2]
    · simp [h1]
  rw [e] at h
  exact h
def WsV (K : PySem.W.Frag) (H : Hp) (vs : List V) (ws : List (Option W)) : Prop := vs.length = ws.length ∧ ∀ (i : Nat) v, vs[i]? = some v → OW K H v (wAt ws i)
theorem WsV.same {K : PySem.W.Frag} {H H' : Hp} {vs : List V} {ws : List (Option W)} (h : WsV K H vs ws) (s : Same H H') : WsV K H' vs ws := ⟨h.1, fun i v e => (h.2 i v e).same s⟩
theorem WsV.keepL {K : PySem.W.Frag} {H : Hp} {vs : List V} {ws : List (Option W)} {l : Addr} {ys : List V} {ob : HO} (h : WsV K H vs ws) (hl : H l = some (.lst ys)) : WsV K (upd H l ob) vs ws := ⟨h.1, fun i v e => (h.2 i v e).keepL hl⟩
theorem wAt_snoc {ws : List (Option W)} {o : Option W} {i : Nat} : wAt (ws ++ [o]) i = if i = ws.length then o else wAt ws i := by
  unfold wAt
  rw [List.getD_eq_getElem?_getD, List.getD_eq_getElem?_getD]
  by_cases h : i < ws.length
  · rw [List.getElem?_append_left h, if_neg (by omega)]
  · by_cases e : i = ws.length
    · subst e; simp
    · rw [if_neg e, List.getElem?_eq_none (by simp; omega), List.getElem?_eq_none (by omega)]
theorem WsV.snoc {K : PySem.W.Frag} {H : Hp} {vs : List V} {ws : List (Option W)} {v : V} {o : Option W} (h : WsV K H vs ws) (hv : OW K H v o) : WsV K H (vs ++ [v]) (ws ++ [o]) := by
  refine ⟨by simp [h.1], fun i u e => ?_⟩
  rw [wAt_snoc]
  by_cases q : i = ws.length
  · subst q
    rw [← h.1] at e
    simp at e
    subst e
    rw [if_pos rfl]
    exact hv
  · rw [if_neg q]
    by_cases l : i < vs.length
    · rw [List.getElem?_append_left l] at e
      exact h.2 i u e
    · rw [List.getElem?_eq_none (by have := h.1; simp; omega)] at e
      cases e
theorem WsV.get {K : PySem.W.Frag} {H : Hp} {vs : List V} {ws : List (Option W)} (h : WsV K H vs ws) {i : Nat} (hi : i < ws.length) : ∃ v, vs[i]? = some v ∧ OW K H v (wAt ws i) :=
  ⟨vs[i]'(by rw [h.1]; exact hi), List.getElem?_eq_getElem _, h.2 i _ (List.getElem?_eq_getElem _)⟩
theorem WsV.set {K : PySem.W.Frag} {H : Hp} {vs : List V} {ws : List (Option W)} {v : V} {o : Option W} {j : Nat} (h : WsV K H vs ws) (hj : j < ws.length) (hv : OW K H v o) : WsV K H (vs.set j v) (ws.set j o) := by
  refine ⟨by simp [h.1], fun i u e => ?_⟩
  rw [wAt_set hj]
  rw [List.getElem?_set] at e
  by_cases q : j = i
  · subst q
    rw [if_pos rfl] at e
    rw [if_pos rfl]
    have hl : j < vs.length := by rw [h.1]; exact hj
    rw [if_pos hl] at e
    cases e
    exact hv
  · rw [if_neg q] at e
    rw [if_neg (fun z => q z.symm)]
    exact h.2 i u e
def NxV (H : Hp) (ms : List Addr) (nx : List (List Nat)) : Prop := ms.length = nx.length ∧ ∀ (i : Nat) m, ms[i]? = some m → H m = some (.lst ((nx.getD i []).map natV))
theorem NxV.same {H H' : Hp} {ms : List Addr} {nx : List (List Nat)} (h : NxV H ms nx) (s : Same H H') : NxV H' ms nx := ⟨h.1, fun i m e => s _ _ (h.2 i m e)⟩
theorem NxV.get {H : Hp} {ms : List Addr} {nx : List (List Nat)} (h : NxV H ms nx) {i : Nat} (hi : i < nx.length) : ∃ m, ms[i]? = some m ∧ H m = some (.lst ((nx.getD i []).map natV)) :=
  ⟨ms[i]'(by rw [h.1]; exact hi), List.getElem?_eq_getElem _, h.2 i _ (List.getElem?_eq_getElem _)⟩
theorem NxV.snoc {H : Hp} {ms : List Addr} {nx : List (List Nat)} {m : Addr} {ns : List Nat} (h : NxV H ms nx) (hm : H m = some (.lst (ns.map natV))) : NxV H (ms ++ [m]) (nx ++ [ns]) := by
  refine ⟨by simp [h.1], fun i u e => ?_⟩
  rw [List.getD_eq_getElem?_getD]
  by_cases q : i = nx.length
  · subst q
    rw [← h.1] at e
    simp at e
    subst e
    simp
    exact hm
  · by_cases l : i < ms.length
    · rw [List.getElem?_append_left l] at e
      rw [List.getElem?_append_left (by rw [← h.1]; exact l), ← List.getD_eq_getElem?_getD]
      exact h.2 i u e
    · rw [List.getElem?_eq_none (by have := h.1; simp; omega)] at e
      cases e
structure NetG (m : Nat) (nx : List (List Nat)) (kn : List (Option W)) : Prop where
  ln : nx.length = m
  lk : kn.length = m
  m1 : 1 ≤ m
  m2 : m ≤ 60
  lt : ∀ (i x : Nat), x ∈ nx.getD i [] → x < m
  ne : ∀ a, a < m → wAt kn a = none → ¬ nx.getD a [] = []
  few : ∀ i : Nat, (nx.getD i []).length ≤ 6
  kg : ∀ (j : Nat) (k : W), wAt kn j = some k → 0 ≤ k.2 ∧ (k.1 = .even → k.2 = 0)
def Kn6 (kn : List (Option W)) : Prop := ∀ (j : Nat) (k : W), wAt kn j = some k → k.2 ≤ 6
structure NetAt (K : PySem.W.Frag) (H : Hp) (a b : Addr) (nx : List (List Nat)) (kn : List (Option W)) : Prop where
  nx : ∃ ms : List Addr, H a = some (.lst (ms.map V.ref)) ∧ NxV H ms nx
  kn : ∃ vs, H b = some (.lst vs) ∧ WsV K H vs kn
theorem NetAt.same {K : PySem.W.Frag} {H H' : Hp} {a b : Addr} {nx : List (List Nat)} {kn : List (Option W)} (h : NetAt K H a b nx kn) (s : Same H H') : NetAt K H' a b nx kn :=
  ⟨let ⟨ms, h1, h2⟩ := h.nx; ⟨ms, s _ _ h1, h2.same s⟩, let ⟨vs, h1, h2⟩ := h.kn; ⟨vs, s _ _ h1, h2.same s⟩⟩
def WlAt (K : PySem.W.Frag) (H : Hp) (d : Addr) (ws : List (Option W)) : Prop := ∃ vs, H d = some (.lst vs) ∧ WsV K H vs ws
theorem WlAt.same {K : PySem.W.Frag} {H H' : Hp} {d : Addr} {ws : List (Option W)} (h : WlAt K H d ws) (s : Same H H') : WlAt K H' d ws := let ⟨vs, h1, h2⟩ := h; ⟨vs, s _ _ h1, h2.same s⟩
def finL (m : Nat) (fw : Nat → W) : List (Option W) := (List.range m).map fun i => some (fw i)
theorem finL_len {m : Nat} {fw : Nat → W} : (finL m fw).length = m := by simp [finL]
theorem finL_at {m : Nat} {fw : Nat → W} {i : Nat} (h : i < m) : wAt (finL m fw) i = some (fw i) := by
  unfold wAt finL
  rw [List.getD_eq_getElem?_getD, List.getElem?_map, List.getElem?_range h]
  rfl
section
variable {K : PySem.W.Frag} {σ : St} {H : Hp} {ta tb to ti : TE} {x : V} {a : Addr}
theorem ev_is_r (ha : Ev ta σ H (.ref a)) (hb : Ev tb σ H .non) : Ev (cCmp K .Is ta tb) σ H (.bl false) := fun Q q => ha _ (hb _ q)
theorem ev_isnot_r (ha : Ev ta σ H (.ref a)) (hb : Ev tb σ H .non) : Ev (cCmp K .IsNot ta tb) σ H (.bl true) := fun Q q => ha _ (hb _ q)
theorem ev_isO {o : Option W} (ha : Ev ta σ H x) (hb : Ev tb σ H .non) (h : OW K H x o) : Ev (cCmp K .Is ta tb) σ H (.bl o.isNone) := by
  rcases h with ⟨rfl, rfl⟩ | ⟨e, a, rfl, rfl, _⟩
  · exact ev_is_n ha hb
  · exact ev_is_r ha hb
theorem ev_isnotO {o : Option W} (ha : Ev ta σ H x) (hb : Ev tb σ H .non) (h : OW K H x o) : Ev (cCmp K .IsNot ta tb) σ H (.bl o.isSome) := by
  rcases h with ⟨rfl, rfl⟩ | ⟨e, a, rfl, rfl, _⟩
  · exact ev_isnot_n ha hb
  · exact ev_isnot_r ha hb
theorem ev_at {d : Addr} {vs : List V} {i : Nat} (ho : Ev to σ H (.ref d)) (hi : Ev ti σ H (.int i)) (hd : H d = some (.lst vs)) (e : vs[i]? = some x) : Ev (cIx K to ti) σ H x := ev_ix ho hi (.inl (SqL.of hd)) (atI_nat e)
end
def KnG (o : Option W) : Prop := ∀ k, o = some k → 0 ≤ k.2 ∧ k.2 ≤ 6 ∧ (k.1 = .even → k.2 = 0)
def spKnown (K : PySem.W.Frag) : Sp := fun vs H Q _ => ∃ c : Int, vs = [.int c] ∧ ∀ v o H', OW K H' v o → KnG o → Same H H' → Q v H'
def spNexts : Sp := fun vs H Q _ => ∃ (c : Int) (m : Nat), vs = [.int c, .int m] ∧ 1 ≤ m ∧ m ≤ 60 ∧ ∀ p ns H', H p = none → H' p = some (.lst (ns.map natV)) → (∀ n ∈ ns, n < m) → ¬ ns = [] → ns.length ≤ 6 → Same H H' → Q (.ref p) H'
def spNet (K : PySem.W.Frag) : Sp := fun vs H Q _ => ∃ (s : Addr) (zs : List Int), vs = [.ref s] ∧ SqL K H s (zs.map V.int) ∧ ∀ t a b m nx kn H', H' t = some (.tup [.ref a, .ref b]) → NetAt K H' a b nx kn → NetG m nx kn → Kn6 kn → H a = none → H b = none → Same H H' → Q (.ref t) H'
def spComes (K : PySem.W.Frag) : Sp := fun vs H Q _ => ∃ (n d : Addr) (t : Int) (ns : List Nat) (ws : List (Option W)), vs = [.ref n, .ref d, .int t] ∧ H n = some (.lst (ns.map natV)) ∧ WlAt K H d ws ∧ (∀ x ∈ ns, x < ws.length) ∧ ns.length ≤ 6 ∧ ∀ v H', OW K H' v (comesUp ns ws t) → Same H H' → Q v H'
def spRounds (K : PySem.W.Frag) : Sp := fun vs H Q _ => ∃ (a b : Addr) (m : Nat) (nx : List (List Nat)) (kn : List (Option W)), vs = [.ref a, .ref b] ∧ NetAt K H a b nx kn ∧ NetG m nx kn ∧ ∀ p H', H p = none → WlAt K H' p (finL m (finW (runW nx kn (m + 8)))) → Same H H' → Q (.ref p) H'
theorem ret2_k {ta tb : TE} {D : Ends} {σ : St} {H : Hp} {x y : V} (ha : Ev ta σ H x) (hb : Ev tb σ H y) (q : ∀ p, H p = none → D.rt (.ref p) (upd H p (.tup [x, y]))) : tRet (tTup (tCons ta (tCons tb tNil))) D σ H := ha _ (hb _ ⟨by show 2 ≤ sizeLine; decide, q⟩)
theorem getD_snoc {α : Type} {xs : List (List α)} {x : List α} {i : Nat} : (xs ++ [x]).getD i [] = if i = xs.length then x else xs.getD i [] := by
  rw [List.getD_eq_getElem?_getD, List.getD_eq_getElem?_getD]
  by_cases h : i < xs.length
  · rw [List.getElem?_append_left h, if_neg (by omega)]
  · by_cases e : i = xs.length
    · subst e; simp
    · rw [if_neg e, List.getElem?_eq_none (by simp; omega), List.getElem?_eq_none (by omega)]
theorem nat_ints (ns : List Nat) : ns.map natV = (ns.map fun (n : Nat) => (n : Int)).map V.int := by rw [List.map_map]; rfl
section
variable {K : PySem.W.Frag} {σ : St} {H : Hp} {ta tb ta2 tb2 : TE} {R : Bool → Hp → Prop} {Q : VK} {x y v : V} {t u : TT}
theorem tor_x (h : t σ H fun c H1 => if c = true then R true H1 else u σ H1 R) : tOr t u σ H R := h
theorem tif_k {b : Bool} (hc : Tv t σ H b) (h1 : b = true → ta σ H Q) (h2 : b = false → tb σ H Q) : tIf t ta tb σ H Q := hc _ (by
  cases b with
  | true => exact iteT (h1 rfl)
  | false => exact iteF (h2 rfl))
end
structure NetI (m i : Nat) (a b : Addr) (ms : List Addr) (nx : List (List Nat)) (kn : List (Option W)) : Prop where
  ln : nx.length = i
  lk : kn.length = i
  ab : ∀ x ∈ ms, x ≠ a ∧ x ≠ b
  lt : ∀ (j x : Nat), x ∈ nx.getD j [] → x < m
  ne : ∀ j, j < i → wAt kn j = none → ¬ nx.getD j [] = []
  few : ∀ j : Nat, (nx.getD j []).length ≤ 6
  kg : ∀ j : Nat, KnG (wAt kn j)
theorem NetI.nil {m : Nat} {a b : Addr} : NetI m 0 a b [] [] [] := ⟨rfl, rfl, by simp, fun j x h => by simp at h, fun j h => by omega, fun j => by simp, fun j k h => by simp [wAt] at h⟩
theorem NetI.snoc {m i : Nat} {a b p : Addr} {ms : List Addr} {nx : List (List Nat)} {kn : List (Option W)} {ns : List Nat} {o : Option W} (h : NetI m i a b ms nx kn) (pa : p ≠ a) (pb : p ≠ b) (n1 : ∀ n ∈ ns, n < m) (n2 : o = none → ¬ ns = []) (n3 : ns.length ≤ 6) (og : KnG o) : NetI m (i + 1) a b (ms ++ [p]) (nx ++ [ns]) (kn ++ [o]) := by
  refine ⟨by simp [h.ln], by simp [h.lk], fun x hx => ?_, fun j x hx => ?_, fun j hj hk => ?_, fun j => ?_, fun j => ?_⟩
  · rcases List.mem_append.mp hx with z | z
    · exact h.ab x z
    · rw [List.mem_singleton.mp z]; exact ⟨pa, pb⟩
  · rw [getD_snoc] at hx
    by_cases e : j = nx.length
    · rw [if_pos e] at hx; exact n1 x hx
    · rw [if_neg e] at hx; exact h.lt j x hx
  · rw [getD_snoc]
    rw [wAt_snoc] at hk
    rw [h.ln]
    rw [h.lk] at hk
    by_cases e : j = i
    · rw [if_pos e] at hk ⊢; exact n2 hk
    · rw [if_neg e] at hk ⊢; exact h.ne j (by omega) hk
  · rw [getD_snoc]
    by_cases e : j = nx.length
    · rw [if_pos e]; exact n3
    · rw [if_neg e]; exact h.few j
  · rw [wAt_snoc]
    by_cases e : j = kn.length
    · rw [if_pos e]; exact og
    · rw [if_neg e]; exact h.kg j
theorem NetI.good {m : Nat} {a b : Addr} {ms : List Addr} {nx : List (List Nat)} {kn : List (Option W)} (h : NetI m m a b ms nx kn) (m1 : 1 ≤ m) (m2 : m ≤ 60) : NetG m nx kn := ⟨h.ln, h.lk, m1, m2, h.lt, h.ne, h.few, fun j k e => ⟨(h.kg j k e).1, (h.kg j k e).2.2⟩⟩
structure NB1 (P : Program) (w : World) (K : PySem.W.Frag) (mg : Str → Option Value) (base : Heap) : Prop where
  _law_cell_at : Cal P w K mg base "_law_cell_at" ["_law_script", "_law_k"] 1 (spCellAt K)
  _law_known : Cal P w K mg base "_law_known" ["_law_cell"] 1 (spKnown K)
  _law_nexts : Cal P w K mg base "_law_nexts" ["_law_cell", "_law_many"] 1 spNexts
theorem comp_mkL {K : PySem.W.Frag} {te tl : TE} {src : List (Option Nat)} {σ rest : St} {H : Hp} {Q : VK} {d : Addr} {xs : List V} (hl : Ev tl σ H (.ref d)) (hx : H d = some (.lst xs)) (hz : xs.length ≤ sizeLine) (hs : subSt src σ = none :: rest) (R : Nat → Hp → V → Prop) (hR : ∀ i H H' v, R i H v → Same H H' → R i H' v)
    (he : ∀ (i : Nat) x H', xs[i]? = some x → Same H H' → ∀ Q : VK, (∀ v H2, R i H2 v → Same H' H2 → Q v H2) → te (some x :: rest) H' Q)
    (q : ∀ d' H' ys, Same H H' → H' d' = none → ys.length = xs.length → (∀ i y, ys[i]? = some y → R i H' y) → Q (.ref d') (upd H' d' (.lst ys))) : tComp (iList K tl) (gName 0) tNoIf te src σ H Q := by
  refine hl _ ⟨d, rfl, ⟨xs, SqL.of hx⟩, ?_⟩
  refine comp_inv xs.length (fun i ys σ' H' => Same H H' ∧ (∃ v, σ' = v :: rest) ∧ ys.length = i ∧ ∀ j y, ys[j]? = some y → R j H' y) hz (fun i ys σ H h => Nat.le_of_eq h.2.2.1)
    (fun i ys σ H' h hi => ⟨xs, xs[i], SqL.of (h.1 _ _ hx), List.getElem?_eq_getElem hi⟩) (fun ys σ H' h => ⟨xs, SqL.of (h.1 _ _ hx), Nat.le_refl _⟩) ⟨Same.refl H, ⟨none, hs⟩, rfl, fun j y e => by simp at e⟩ ?_ ?_
  · rintro i ys _ H1 x H2 hi ⟨s1, ⟨v0, rfl⟩, hl, hy⟩ ⟨rfl, hyy⟩ Kt Kf ht hf
    have ex := hyy xs (SqL.of (s1 _ _ hx))
    simp only [gName, tNoIf, List.set_cons_zero, if_true]
    refine he i x _ ex s1 _ fun v H2 rv s2 => ht _ _ _ ⟨s1.trans s2, ⟨_, rfl⟩, by simp [hl], fun j y e => ?_⟩
    by_cases q : j < ys.length
    · rw [List.getElem?_append_left q] at e
      exact hR _ _ _ _ (hy j y e) s2
    · by_cases q2 : j = ys.length
      · subst q2
        simp at e
        subst e
        rw [hl]
        exact rv
      · rw [List.getElem?_eq_none (by simp; omega)] at e
        cases e
  · rintro ys _ H1 dd ⟨s1, _, hl, hy⟩ hd
    exact q dd H1 ys s1 hd hl hy
end L2
namespace L2
open PySem PySem.Spec PyProof.Rows
def aimW (e : W) : W := match e.1 with
  | .won => (.lost, e.2 - 1)
  | .lost => (.won, e.2 - 1)
  | .even => e
def bestL (nx : List (List Nat)) (kn : List (Option W)) (m : Nat) (fw : Nat → W) (i : Nat) : List Nat := if (wAt kn i).isSome = true then [] else (List.range m).filter fun x => decide (x ∈ nx.getD i []) && decide (fw x = aimW (fw i))
def spAim (K : PySem.W.Frag) : Sp := fun vs H Q _ => ∃ (a : Addr) (e : W), vs = [.ref a] ∧ SqT K H a [.str (wkS e.1), .int e.2] ∧ ∀ p H', SqT K H' p [.str (wkS (aimW e).1), .int (aimW e).2] → Same H H' → Q (.ref p) H'
def spBest (K : PySem.W.Frag) : Sp := fun vs H Q _ => ∃ (a b d : Addr) (m : Nat) (nx : List (List Nat)) (kn : List (Option W)) (fw : Nat → W) (i : Nat), vs = [.ref a, .ref b, .ref d, .int i] ∧ NetAt K H a b nx kn ∧ NetG m nx kn ∧ WlAt K H d (finL m fw) ∧ i < m ∧ (wAt kn i = none → (fw i).1 = .even → (fw i).2 = 0) ∧ ∀ p H', H p = none → H' p = some (.lst ((bestL nx kn m fw i).map natV)) → Same H H' → Q (.ref p) H'
def spNums : Sp := fun vs H Q _ => ∃ (p q : Addr) (ns : List Nat), vs = [.ref p, .ref q] ∧ H p = some (.lst (ns.map natV)) ∧ H q = some (.lst (ns.map natV)) ∧ ns.length ≤ 100 ∧ ∀ H', Same H H' → Q (.bl true) H'
def prV (fw : Nat → W) (e : W) : V → Bool
  | .int n => decide (fw n.toNat = e)
  | _ => false
theorem filt_natV {p : V → Bool} {r : Nat → Bool} (h : ∀ n, p (natV n) = r n) : ∀ {l : List Nat}, (l.map natV).filter p = (l.filter r).map natV
  | [] => rfl
  | n :: l => by
    rw [List.map_cons, List.filter_cons, List.filter_cons, h n, filt_natV h]
    cases r n <;> rfl
theorem perm_nd2 {κ : Type} [DecidableEq κ] : ∀ {l ns : List κ}, l.Nodup → ns.Nodup → (∀ k, k ∈ l ↔ k ∈ ns) → ns.Perm l
  | [], ns, _, _, h => by
    cases ns with
    | nil => exact List.Perm.refl _
    | cons a l => exact absurd ((h a).mpr (by simp)) (by simp)
  | a :: l, ns, nd, nn, h => by
    obtain ⟨n1, n2⟩ := List.nodup_cons.mp nd
    have ha := (h a).mp (by simp)
    refine (List.perm_cons_erase ha).trans (List.Perm.cons _ (perm_nd2 n2 (nn.erase a) fun k => ?_))
    rw [nn.mem_erase_iff, ← h k, List.mem_cons]
    constructor
    · intro hk
      exact ⟨fun e => n1 (e ▸ hk), .inr hk⟩
    · rintro ⟨e, z | z⟩
      · exact absurd z e
      · exact z
theorem gpairT {K : PySem.W.Frag} {σ : St} {H : Hp} {i j : Nat} {d : Addr} {a b : V} {R : St → Hp → Prop} (h : SqT K H d [a, b]) (q : R ((σ.set i (some a)).set j (some b)) H) : gTup K 2 (gCons (gName i) (gCons (gName j) gNil)) (.ref d) σ H R := ⟨d, _, rfl, h, rfl, _, _, rfl, _, _, rfl, rfl, q⟩
theorem eqD_lst {K : PySem.W.Frag} {H : Hp} {n : Nat} {a b : Addr} {xs ys : List V} (ha : SqL K H a xs) (hb : SqL K H b ys) (hl : xs.length = ys.length) (he : ∀ (i : Nat) x y, xs[i]? = some x → ys[i]? = some y → EqD K H n x y true) : EqD K H (n + 1) (.ref a) (.ref b) true := by
  by_cases h : a = b
  · subst h; exact .same
  · have := EqD.lst (es := fun _ => true) ha hb h hl he
    rw [show ((List.range xs.length).all fun _ => true) = true from List.all_eq_true.mpr fun _ _ => rfl] at this
    exact this
theorem ow_ref {K : PySem.W.Frag} {H : Hp} {v : V} {o : Option W} (h : OW K H v o) : (flatV v || isRef v) = true := by
  rcases h with ⟨_, rfl⟩ | ⟨e, a, _, rfl, _⟩ <;> rfl
theorem kop_k {K : PySem.W.Frag} {H H' : Hp} {σ : St} {Q : VK} {te : TE} {d : Addr} {ys : List V} (h : Ev te σ H (.ref d)) (hd : H d = some (.lst ys)) (q : ∀ l, H l = none → Q (.ref l) (upd H l (.lst ys))) : cB (listA K) (tCons te tNil) σ H Q := lis_k h (.inl (SqL.of hd)) q
structure BA (P : Program) (w : World) (K : PySem.W.Frag) (mg : Str → Option Value) (base : Heap) : Prop where
  aim_of : Cal P w K mg base "aim_of" ["word"] 1 (spAim K)
end L2
namespace L2
open PySem PySem.Spec PyProof.Rows
abbrev lamArgs (p : Pos) : Arguments := { posonlyargs := [], args := [{ arg := "number", annotation := none, pos := p : PySem.Arg }], vararg := none, kwonlyargs := [], kw_defaults := [], kwarg := none, defaults := [] }
abbrev lamScope : Scope := { kind := .function, names := [("number", .local), ("known", .free)], isGenerator := false, isCoroutine := false, more := [] }
abbrev lamBody (p1 p2 p3 p4 p5 : Pos) : Expr := .Subscript (.Subscript (.Name "known" p1) (.Name "number" p2) p3) (.Constant (.int 1) 0 p4) p5
def LamAt (h : Heap) (f : Addr) (qual : Str) (p0 p1 p2 p3 p4 p5 : Pos) (cc : Addr) : Prop :=
  ∃ (pm ctv : Value) (c' : Addr), h.get? f = some (PySem.W.kla_obj "<lambda>" qual (lamArgs p0) (lamBody p1 p2 p3 p4 p5) lamScope [("known", cc)] pm c' ctv) ∧ h.CodeRec (.ref c') qual
theorem lam_run {prog : Program} {w : World} {A : Around} {s : Shared} {f cc b t : Addr} {qual : Str} {p0 p1 p2 p3 p4 p5 : Pos} {its : List Value} {n : Int} {tn : Tok} {k : Int} {u : Value} {tk : Tok}
    (hroom : A.depth < recursionLimit) (lim : s.heap.NoLimit) (hf : LamAt s.heap f qual p0 p1 p2 p3 p4 p5 cc) (hc : s.heap.IsCell cc (some (.ref b)))
    (hb : s.heap.IsList b its.toArray) (h0 : 0 ≤ n) (hn : n < its.length) (hs : its.length ≤ sizeLine) (hi : its[n.toNat]? = some (.ref t)) (ht : IsTup s.heap t [u, Value.int k tk].toArray) :
    wpAny (model prog w) A (call (.ref f) [.int n tn]) (fun v s' => v = .int k tk ∧ ∃ h' tk', s' = { s with heap := h', toks := tk' } ∧ ∀ b o, s.heap.get? b = some o → h'.get? b = some o) (fun _ _ => False) s := by
  obtain ⟨pm, ctv, c', ho, hcd⟩ := hf
  refine wpAny_call ?_
  refine PySem.W.kla_callFunE hroom ho rfl rfl rfl rfl hcd ?_
  have hbind : bindArgs (PySem.W.kla_fn "<lambda>" qual (lamArgs p0) (lamBody p1 p2 p3 p4 p5) lamScope [("known", cc)] pm (.ref c') ctv) ⟨[.int n tn], []⟩ = pure [(("number" : Str), Value.int n tn)] := by rfl
  rw [hbind]
  refine wpAny_pure (wpAny_newFunctionEnv (show ∀ x ∈ lamScope.names, x.2 ≠ .cell by decide) ?_ (fun h₁ hns hsb => ⟨lim.fresh _ hsb, ?_⟩) rfl)
  · intro z hz
    rw [List.mem_singleton.mp hz]
    rfl
  have hk₁ : ∀ b o, s.heap.get? b = some o → h₁.get? b = some o := fun b o e => hsb.extBut b o (Nat.ne_of_lt (Heap.lt_size e)) (Heap.get?_push_of_some _ e)
  show codeAny _ _ (.expr _ (PySem.W.envX qual lamScope s.heap.objs.size f (.ref c') [("known", cc)])) _ _
  refine PySem.W.kla_codeExpr ?_
  have done : ∀ tk', (fun (v : Value) (s' : Shared) => v = .int k tk ∧ ∃ h' tk', s' = { s with heap := h', toks := tk' } ∧ ∀ b o, s.heap.get? b = some o → h'.get? b = some o) (.int k tk) { s with heap := h₁, toks := tk' } := fun tk' => ⟨rfl, h₁, tk', rfl, hk₁⟩
  have hn63 := line63
  have hc' : h₁.IsCell cc (some (.ref b)) := by obtain ⟨o, e1, e2⟩ := hc; exact ⟨o, hk₁ _ _ e1, e2⟩
  have hb' : h₁.IsList b its.toArray := by obtain ⟨o, e, r⟩ := hb; exact ⟨o, hk₁ _ _ e, r⟩
  have ht' : IsTup h₁ t [u, Value.int k tk].toArray := by obtain ⟨o, e, r⟩ := ht; exact ⟨o, hk₁ _ _ e, r⟩
  refine Subscript_ (Subscript_ (wpAny_Name (wpAny_loadName_free rfl rfl rfl hc' ?_)))
  refine wpAny_Name (wpAny_loadName_local rfl rfl hns rfl ?_)
  refine item_listR (x := .ref t) hb' h0 (by omega) ?_ ?_ rfl
  · simpa using hi
  refine wpAny_Constant_int ?_
  exact subscriptTail_builtinR (x := .int k tk) ht'.typeIs slot_tuple_getitem.lookup
    (getItem_tuple (j := 1) ht' (by decide) (by decide) (by rfl) (by rfl) ⟨rfl, done _⟩) rfl
end L2
namespace L2
open PySem PySem.Spec PyProof.Rows
def TblOk (H : Hp) (P : Addr) (qual : Str) (pos : Pos) : Prop :=
  H P = some (.tbl #[]) ∨ ∃ (c' : Addr) (oc : Obj) (vs : Array Value) (t : Tok), H P = some (.tbl #[rawInt pos.line, rawInt pos.col, .ref c']) ∧ H c' = some (.frz oc (.own c')) ∧ oc.data = .fields vs ∧ vs[1]? = some (.str qual t)
def BM (mg : Str → Option Value) (h : Heap) : Prop := ∃ bm ob, mg "__builtins__" = some (.ref bm) ∧ bm ≠ builtinsNs ∧ h.get? bm = some ob ∧ ob.cls = .type "module" ∧ ob.dict = some builtinsNs ∧ ob.data = .plain
theorem among_hit (pos : Pos) (c : Value) : codeAmong pos [rawInt pos.line, rawInt pos.col, c] = some c := by simp [codeAmong, rawInt]
section
variable {X : Cx} {pins : List (Addr × Obj)} {σ : St} {H : Hp} {s : Shared} {c P cc : Addr} {pos p0 p1 p2 p3 p4 p5 : Pos}
theorem Inv.tblGrow {h' : Heap} {t' : Nat} {c' : Addr} {oc : Obj} {ps : Array Value} (I : Inv X pins σ H s) (hP : H P = some (.tbl #[])) (k : ∀ b o, b ≠ P → s.heap.get? b = some o → h'.get? b = some o)
    (hc : s.heap.objs.size ≤ c') (hoc : h'.get? c' = some oc) (htb : h'.get? P = some { cls := .none, data := .fields ps }) :
    Inv X pins σ (upd (upd H P (.tbl ps)) c' (.frz oc (.own c'))) { s with heap := h', toks := t' } := by
  have hPl : P < s.heap.objs.size := I.hok.lt hP
  have hcn : H c' = none := I.hok.fresh hc
  have hcP : c' ≠ P := fun z => absurd (Nat.lt_of_lt_of_le hPl (z ▸ hc)) (Nat.lt_irrefl _)
  have old : ∀ b u, H b = some u → b ≠ P → upd (upd H P (.tbl ps)) c' (.frz oc (.own c')) b = some u := fun b u e n => by
    rw [upd_ne (ne_of_none e hcn), upd_ne n]; exact e
  refine I.un ⟨fun b o e n hb hx => k b o (fun z => by rw [z, hP] at n; cases n) e, fun b o e n hb hx => ⟨o.slots, k b o (fun z => by rw [z, hP] at n; cases n) e⟩,
    fun b o e n hx => ?_, fun b o e hx => ?_, fun b xs e => old b _ e (fun z => by rw [z, hP] at e; cases e), fun b o u e => old b _ e (fun z => by rw [z, hP] at e; cases e), fun b qs e => ?_⟩ ?_
  · have h1 : b ≠ P := fun z => by rw [z, hP] at n; cases n
    have h2 : b ≠ c' := fun z => absurd (Nat.lt_of_lt_of_le (Heap.lt_size e) (z ▸ hc)) (Nat.lt_irrefl _)
    rw [upd_ne h2, upd_ne h1]; exact n
  · by_cases hb : b = P
    · rw [hb]; exact ⟨_, htb⟩
    · exact ⟨o, k b o hb e⟩
  · by_cases hb : b = P
    · subst hb
      rw [hP] at e; cases e
      exact ⟨ps, by rw [upd_ne hcP.symm, upd_same]; simp⟩
    · exact ⟨#[], by rw [old b _ e hb]; simp⟩
  · intro b u e
    by_cases hbc : b = c'
    · subst hbc
      rw [upd_same] at e; cases e
      exact ⟨hoc, oc, hoc⟩
    · rw [upd_ne hbc] at e
      by_cases hb : b = P
      · subst hb
        rw [upd_same] at e; cases e
        exact htb
      · rw [upd_ne hb] at e
        refine (I.hok b u e).stay (fun b' v hb' q => k b' v ?_ q) (fun b' q => old b' _ q (fun z => by rw [z, hP] at q; cases q)) fun b' xs q => old b' _ q (fun z => by rw [z, hP] at q; cases q)
        rcases hb' with rfl | hb'
        · exact hb
        · intro z; rw [z, hP] at hb'; cases hb'
def LamPost (X : Cx) (pins : List (Addr × Obj)) (σ : St) (H : Hp) (P : Addr) (qual : Str) (pos p0 p1 p2 p3 p4 p5 : Pos) (cc : Addr) (v : Value) (s' : Shared) : Prop :=
  ∃ (f : Addr) (H' : Hp), v = .ref f ∧ Inv X pins σ H' s' ∧ LamAt s'.heap f qual p0 p1 p2 p3 p4 p5 cc ∧ (∀ b u, H b = some u → b ≠ P → H' b = some u) ∧ TblOk H' P qual pos
theorem lam_make (I : Inv X pins σ H s) (hcode : X.env.code = .ref c) (hC : PySem.W.codeHdIn X.K c P = true) (hB : BM X.mg X.base) (hT : TblOk H P (X.env.qual ++ "<lambda>") pos)
    (hcl : closureFor lamScope X.env = pure [(("known" : Str), cc)]) :
    wpAny (model X.prog X.w) X.A (eval (.Lambda (lamArgs p0) (lamBody p1 p2 p3 p4 p5) lamScope pos) X.env) (LamPost X pins σ H P (X.env.qual ++ "<lambda>") pos p0 p1 p2 p3 p4 p5 cc) X.xe s := by
  refine PySem.W.kla_eval rfl ?_
  have C := PySem.W.codeHd_of_K I.kIn hC
  have hg : s.heap.Ns mainGlobals X.mg := I.ok.mod.glob.keeps I.bk
  obtain ⟨bm, ob, b1, b2, b3, b4, b5, b6⟩ := hB
  have nT : ∀ {ps : Array Value}, H P = some (.tbl ps) → ∀ b o, X.base.get? b = some o → b ≠ P := fun e b o q z => by
    have := (I.bs b o q).2; rw [z, e] at this; cases this
  have hbG : bm ≠ mainGlobals := fun q => by
    obtain ⟨o, es, ep, e, hd, _⟩ := I.ok.mod.glob
    rw [← q, b3] at e; cases e; rw [hd] at b6; cases b6
  obtain ⟨og, es, ep, eg, _⟩ := I.ok.mod.glob
  rcases hT with hP | ⟨c', oc, vs, t, hP, hc', hd, hv⟩
  · have htab : s.heap.get? P = some (PySem.W.tabObj #[]) := I.hok P _ hP
    refine PySem.W.kla_makeFunction (mg := X.mg) (ps := #[]) hcl I.ok.glob hg hcode C htab trivial rfl (nT hP _ _ eg) ⟨bm, ob, b1, b2, hbG, nT hP _ _ b3, I.bk _ _ b3, b4, b5, b6⟩ fun c' ctv h' tk hx hge hlt hrec htb => ?_
    obtain ⟨c₂, oc, vs, t, e2, hoc, hd, hv⟩ := hrec
    cases e2
    have kk : ∀ {o : Obj} b u, b ≠ P → s.heap.get? b = some u → (h'.push o).get? b = some u := fun b u n e => Heap.get?_push_of_some _ (hx b u n e)
    have htb' : h'.get? P = some { cls := .none, data := .fields #[rawInt pos.line, rawInt pos.col, .ref c'] } := by simpa using htb
    refine ⟨_, _, rfl, I.tblGrow hP (fun b o n e => kk b o n e) hge (Heap.get?_push_of_some _ hoc) (Heap.get?_push_of_some _ htb'), ⟨_, _, c', Heap.get?_push_size _ rfl, c', oc, vs, t, rfl, Heap.get?_push_of_some _ hoc, hd, hv⟩, fun b u e n => ?_, .inr ⟨c', oc, vs, t, ?_, upd_same, hd, hv⟩⟩
    · rw [upd_ne (ne_of_none e (I.hok.fresh hge)), upd_ne n]; exact e
    · have hcP : P ≠ c' := fun z => absurd (Nat.lt_of_lt_of_le (I.hok.lt hP) (z ▸ hge)) (Nat.lt_irrefl _)
      rw [upd_ne hcP, upd_same]
  · have htab : s.heap.get? P = some (PySem.W.tabObj #[rawInt pos.line, rawInt pos.col, .ref c']) := I.hok P _ hP
    refine PySem.W.kla_makeFunctionHit (mg := X.mg) (cv := .ref c') (ps := #[rawInt pos.line, rawInt pos.col, .ref c']) hcl I.ok.glob hg hcode C htab trivial (among_hit pos _) ⟨bm, ob, b1, b2, hbG, nT hP _ _ b3, I.bk _ _ b3, b4, b5, b6⟩ fun ctv h' tk hk hsz => ?_
    have kk : ∀ {o : Obj} b u, s.heap.get? b = some u → (h'.push o).get? b = some u := fun b u e => Heap.get?_push_of_some _ (hk b u e)
    obtain ⟨hoc, _⟩ := I.hok c' _ hc'
    refine ⟨_, H, rfl, I.un (Un.kept fun b o e => kk b o e) (I.hok.kept fun b o e => kk b o e), ⟨_, _, c', Heap.get?_push_size _ rfl, c', oc, vs, t, rfl, kk _ _ hoc, hd, hv⟩, fun b u e _ => e, .inr ⟨c', oc, vs, t, hP, hc', hd, hv⟩⟩
end
end L2
namespace L2
open PySem PySem.Spec PyProof.Rows
def KeyR (K : PySem.W.Frag) (P : Addr) (qual : Str) (posL : Pos) (j : Nat) (σ : St) (Q : VK) (x : V) (H1 : Hp) : Prop := ∃ (a : Addr) (ns : List Int) (b : Addr) (ks : List V) (g : Int → Int),
  x = .ref a ∧ SqL K H1 a (ns.map V.int) ∧ ns.length < 64 ∧ σ[j]? = some (some (.ref b)) ∧ SqL K H1 b ks ∧ (∀ n ∈ ns, 0 ≤ n ∧ ∃ (t : Addr) (u : V), ks[n.toNat]? = some (.ref t) ∧ SqT K H1 t [u, .int (g n)]) ∧ TblOk H1 P qual posL ∧
  ∀ (D : Addr) (ns' : List Int) (H2 : Hp), (∀ b u, H1 b = some u → b ≠ P → H2 b = some u) → TblOk H2 P qual posL → H2 D = none → ns'.Perm ns → ns'.Pairwise (fun x y => g y ≤ g x) → Q (.ref D) (upd H2 D (.lst (ns'.map V.int)))
def KeyRs (R : V → Hp → Prop) (vs : List V) (H1 : Hp) : Prop := match vs with
  | [x] => R x H1
  | _ => False
def tKey (K : PySem.W.Frag) (P : Addr) (qual : Str) (posL : Pos) (j : Nat) (ta : TE) : TE := fun σ H Q => ta σ H (KeyR K P qual posL j σ Q)
theorem SqL.past {K : PySem.W.Frag} {H H' : Hp} {P a : Addr} {xs : List V} {qual : Str} {pos : Pos} (h : SqL K H a xs) (hT : TblOk H P qual pos) (k : ∀ b u, H b = some u → b ≠ P → H' b = some u) : SqL K H' a xs := by
  have ne : ∀ {u : HO}, H a = some u → (∀ ps, u ≠ .tbl ps) → a ≠ P := fun e n z => by
    rcases hT with q | ⟨c', oc, vs, t, q, _⟩ <;> rw [z, q] at e <;> cases e <;> exact n _ rfl
  rcases h with (h | ⟨o, h⟩) | h
  · exact .inl (.inl (k _ _ h (ne h fun _ z => by cases z)))
  · exact .inl (.inr ⟨o, k _ _ h (ne h fun _ z => by cases z)⟩)
  · exact .inr h
theorem SqT.past {K : PySem.W.Frag} {H H' : Hp} {P a : Addr} {xs : List V} {qual : Str} {pos : Pos} (h : SqT K H a xs) (hT : TblOk H P qual pos) (k : ∀ b u, H b = some u → b ≠ P → H' b = some u) : SqT K H' a xs := by
  have ne : ∀ {u : HO}, H a = some u → (∀ ps, u ≠ .tbl ps) → a ≠ P := fun e n z => by
    rcases hT with q | ⟨c', oc, vs, t, q, _⟩ <;> rw [z, q] at e <;> cases e <;> exact n _ rfl
  rcases h with (h | ⟨o, h⟩) | h
  · exact .inl (.inl (k _ _ h (ne h fun _ z => by cases z)))
  · exact .inl (.inr ⟨o, k _ _ h (ne h fun _ z => by cases z)⟩)
  · exact .inr h
theorem ObjOk.here {P : Program} {w : World} {H : Hp} {h : Heap} {a : Addr} {o : HO} (x : ObjOk P w H h a o) : ∃ u, h.get? a = some u := by
  cases o with
  | lst xs => obtain ⟨_, _, _, _, e⟩ := x; exact ⟨_, e⟩
  | tup xs => obtain ⟨_, _, _, o, e, _⟩ := x; exact ⟨_, e⟩
  | dK kvs => obtain ⟨_, _, _, _, o, _, _, e, _⟩ := x; exact ⟨_, e⟩
  | dT kvs => obtain ⟨_, _, _, _, o, _, _, e, _⟩ := x; exact ⟨_, e⟩
  | set S n => obtain ⟨o, _, _, _, e, _⟩ := x; exact ⟨_, e⟩
  | ins C dx fs => obtain ⟨_, _, _, e, _⟩ := x; exact ⟨_, e⟩
  | own y => obtain ⟨_, e⟩ := x; exact ⟨_, e⟩
  | xd fs => obtain ⟨_, ⟨_, _, _, e, _⟩, _⟩ := x; exact ⟨_, e⟩
  | rng lo hi => obtain ⟨_, _, _, e⟩ := x; exact ⟨_, e⟩
  | frz ob u => obtain ⟨e, _⟩ := x; exact ⟨_, e⟩
  | tbl ps => exact ⟨_, (show h.get? a = some _ from x)⟩
  | met f y => exact ⟨_, (show h.get? a = some _ from x)⟩
  | ext φ => obtain ⟨_, ⟨_, e⟩, _⟩ := x; exact ⟨_, e⟩
theorem ints_of_vals : ∀ {ns : List Int} {us : List Value}, Vals (ns.map V.int) us → IntsAre us ns
  | [], _, .nil => .nil
  | _ :: _, _, .cons r t => by obtain ⟨tk, rfl⟩ := r; exact .cons _ tk (ints_of_vals t)
section
variable {X : Cx} {k : Nat} {c P cc : Addr} {a : Expr} {ta : TE} {posL p0 p1 p2 p3 p4 p5 q1 q2 q3 q4 q5 : Pos} {j jc : Nat}
theorem sortkey_call {pins : List (Addr × Obj)} {σ : St} {H : Hp} {s : Shared} {Q : VK} {l f b : Addr} {ns : List Int} {ks : List V} {g : Int → Int} {qual : Str} (hr : Room k X.A) (I : Inv X pins σ H s)
    (hl : SqL X.K H l (ns.map V.int)) (h64 : ns.length < 64) (hb : SqL X.K H b ks) (hks : ∀ n ∈ ns, 0 ≤ n ∧ ∃ (t : Addr) (u : V), ks[n.toNat]? = some (.ref t) ∧ SqT X.K H t [u, .int (g n)])
    (hf : LamAt s.heap f qual p0 p1 p2 p3 p4 p5 cc) (hcell : s.heap.IsCell cc (some (.ref b)))
    (q : ∀ (D : Addr) (ns' : List Int), H D = none → ns'.Perm ns → ns'.Pairwise (fun x y => g y ≤ g x) → Q (.ref D) (upd H D (.lst (ns'.map V.int)))) :
    wpAny (model X.prog X.w) X.A (call (.builtin "sorted") [.ref l] [(Str.ofString "key", .ref f), (Str.ofString "reverse", .bool true)]) (EP X pins σ Q) X.xe s := by
  obtain ⟨m, F⟩ := I.fr
  obtain ⟨its, r, pl, hz⟩ := I.list hl
  have hi := ints_of_vals r
  have neL : ∀ b o, s.heap.get? b = some o → (∀ es ep, o.data ≠ .dict es ep) → b ≠ X.env.locals := fun b o e n z => by
    obtain ⟨o', es, ep, e', d, _⟩ := F.ns
    rw [z, e'] at e; cases e; exact n _ _ d
  have keepH : ∀ {h : Heap} {own : List (Addr × Obj)}, Fr X.base X.env.locals h m → News X.base X.env.locals h (allNews X.base s.heap X.env.locals ++ own) → ∀ b o, b ≠ X.env.locals → s.heap.get? b = some o → h.get? b = some o := fun {h own} F' N' b o n e => by
    cases z : X.base.get? b with
    | some u => have := I.bk b u z; rw [e] at this; cases this; exact F'.keep b _ z
    | none => exact (N' (b, o) (List.mem_append_left _ (mem_allNews n z e))).1
  refine ksk_letter (b := true) g F news_all pl.isList hi h64 (ksk_s2 _ _ _) (fun x => ksk_l2 _ _ _) (fun x => ksk_t2 _ _ _) (fun n t h tk own hn F' N' => ?_) fun D vs' ns' c' h' tk F' N' hlt hi' hlen hperm hpair _ => ?_
  · obtain ⟨h0, tt, u, hk, ht⟩ := hks n hn
    obtain ⟨itb, rb, plb, hzb⟩ := I.list hb
    obtain ⟨w1, ew, rw1⟩ := rb.get hk
    cases rw1
    obtain ⟨itt, rt, plt, _⟩ := I.tuple ht
    have kp := keepH F' N'
    cases rt with
    | cons ru rt =>
    rename_i u' itt'
    cases rt with
    | cons rk rt =>
    cases rt
    obtain ⟨tk0, rfl⟩ := rk
    obtain ⟨pm, ctv, c', ho, cx, oc, vs, tq, e1, hoc, hd, hv⟩ := hf
    cases e1
    have hlb : n.toNat < itb.length := (List.getElem?_eq_some_iff.mp ew).1
    have hlen2 := rb.length
    refine wpAny_mono (lam_run (s := { s with heap := h, toks := tk }) (its := itb) (t := tt) (u := u') (k := g n) (tk := tk0) (cc := cc) (b := b) (qual := qual) (p0 := p0) (p1 := p1) (p2 := p2) (p3 := p3) (p4 := p4) (p5 := p5) ?_ (I.ok.mod.nolimit.keeps F'.keep) ⟨pm, ctv, c', kp _ _ (neL _ _ ho (fun _ _ z => by cases z)) ho, c', oc, vs, tq, rfl, kp _ _ (neL _ _ hoc (fun _ _ z => by rw [hd] at z; cases z)) hoc, hd, hv⟩ ?_ ?_ h0 (by omega) (by omega) ew ?_) (fun v s' hv => ?_) fun _ _ z => z
    · have := hr.dp
      show X.A.depth < recursionLimit
      omega
    · obtain ⟨o, e, d⟩ := hcell
      exact ⟨o, kp _ _ (neL _ _ e (fun _ _ z => by rw [d] at z; cases z)) e, d⟩
    · obtain ⟨o, e, d1, nn, d2⟩ := plb.isList
      exact ⟨o, kp _ _ (neL _ _ e (fun _ _ z => by rw [d2] at z; cases z)) e, d1, nn, d2⟩
    · obtain ⟨o, e, d1, nn, d2⟩ := plt
      exact ⟨o, kp _ _ (neL _ _ e (fun _ _ z => by rw [d2] at z; cases z)) e, d1, nn, d2⟩
    · obtain ⟨rfl, h2, tk2, rfl, kk⟩ := hv
      exact ⟨h2, tk2, tk0, rfl, rfl, F'.kept kk, N'.grown kk⟩
  · have nD := N' _ (.head _)
    have kp : ∀ b o, b ≠ X.env.locals → s.heap.get? b = some o → h'.get? b = some o := keepH (own := []) F' (fun p hp => N' p (List.mem_cons_of_mem _ (by simpa using hp)))
    have hD : s.heap.get? D = none := by
      cases z : s.heap.get? D with
      | none => rfl
      | some o => exact absurd (hlt _ (mem_allNews nD.2.1 nD.2.2 z)) (Nat.lt_irrefl _)
    have hHD : H D = none := by
      cases z : H D with
      | none => rfl
      | some u =>
        obtain ⟨o, e⟩ := (I.hok D u z).here
        rw [hD] at e; cases e
    refine ⟨.ref D, upd H D (.lst (ns'.map V.int)), ?_, rfl, q D ns' hHD hperm (by simpa using hpair)⟩
    have hlenZ : (ns'.map V.int).length ≤ sizeLine := by rw [List.length_map, hlen, sizeLine_eq]; omega
    have neD : ∀ b u, H b = some u → b ≠ D := fun b u e => ne_of_none e hHD
    have neLH : ∀ b u, H b = some u → b ≠ X.env.locals := fun b u e => ne_of_none e I.free
    refine I.step (g' := s.gens) (d' := s.drawn) (ch := []) (fun _ z => nomatch z) (fun b o n _ _ e _ => kp b o n e) (fun b o n _ _ e _ => ⟨o.slots, kp b o n e⟩) (fun b o _ e n => ?_) (fun b o _ e => ?_)
      (fun b xs e => by rw [upd_ne (neD b _ e)]; exact e) (fun b o u e => by rw [upd_ne (neD b _ e)]; exact e) (fun b ps e => ⟨#[], by rw [upd_ne (neD b _ e), e]; simp⟩) (fun m' hm => ?_) (fun b u e => ?_) I.bare
    · rw [upd_ne (fun z => by rw [z, hD] at e; cases e)]; exact n
    · by_cases hb : b = X.env.locals
      · obtain ⟨o', _, _, e', _⟩ := F'.ns
        rw [hb]; exact ⟨o', e'⟩
      · exact ⟨o, kp b o hb e⟩
    · rw [hm.eq_nsMap, ← F.ns.eq_nsMap]; exact F'.ns
    · by_cases hb : b = D
      · subst hb
        rw [upd_same] at e; cases e
        exact ⟨hlenZ, vs', c', vals_ints hi', nD.1⟩
      · rw [upd_ne hb] at e
        refine (I.hok b u e).stay (fun b' v hb' z => kp b' v ?_ z) (fun b' z => by rw [upd_ne (neD b' _ z)]; exact z) fun b' xs z => by rw [upd_ne (neD b' _ z)]; exact z
        rcases hb' with rfl | hb'
        · exact neLH _ _ e
        · exact neLH _ _ hb'
theorem pe_sortkey {kp1 kp2 : Pos} {jb : Nat} (hr : Room k X.A) (hcode : X.env.code = .ref c) (hC : PySem.W.codeHdIn X.K c P = true) (hB : BM X.mg X.base)
    (hcl : closureFor lamScope X.env = pure [(("known" : Str), cc)]) (hcc : X.env.cells.lookup ("known" : Str) = some cc) (hkind : X.env.kindOf "known" = some .cell) (hN : X.N[j]? = some ("known" : Str))
    (hg : Gl X "sorted") (hm : X.mg "sorted" = none) (hv : bootBuiltins "sorted" = some (.builtin "sorted")) (ha : PE X a ta)
    (he : starEach [a] X.env = (false, eval a X.env) :: starEach [] X.env := by rfl) :
    PE X (.Call (.Name "sorted" q1) [a] [⟨some "key", .Lambda (lamArgs p0) (lamBody p1 p2 p3 p4 p5) lamScope posL, kp1⟩, ⟨some "reverse", .Constant (.bool true) jb q2, kp2⟩] q3) (tKey X.K P (X.env.qual ++ "<lambda>") posL j ta) := by
  intro pins s σ H Q I h
  refine wpAny_Call_Name_kw (ld_blt I hg hm hv ?_)
  refine callWith_builtin_kwB ?_ rfl (evalArgs_kw2 rfl ?_ he)
  · rw [he]; rfl
  refine thn (pa_cons ha pa_nil he q3 pins s σ H (KeyRs (KeyR X.K P (X.env.qual ++ "<lambda>") posL j σ Q)) I h) fun us s1 ⟨vs, H1, I1, r1, q1⟩ => ?_
  unfold KeyRs at q1
  split at q1
  case h_2 => exact q1.elim
  rename_i x
  obtain ⟨v1, rfl, rv1⟩ := vals1 r1
  obtain ⟨l, ns, b, ks, g, rfl, hl, h64, hσ, hb, hks, hT, q⟩ := q1
  obtain rfl : v1 = .ref l := rv1
  refine kwAll_cons (thn (lam_make I1 hcode hC hB hT hcl) fun v s2 ⟨f, H2, ev, I2, hf, kk, hT2⟩ => ?_)
  subst ev
  refine kwAll_cons (Constant_bool (kwAll_nil ?_))
  have hcell : s2.heap.IsCell cc (some (.ref b)) := by
    obtain ⟨m, hn, hloc⟩ := I2.loc
    obtain ⟨u, ru, lk⟩ := hloc j "known" (.ref b) hN hσ (.inr (.inl hkind))
    cases ru
    rcases lk with ⟨k1, _⟩ | ⟨_, c2, e2, z⟩
    · rw [hkind] at k1; cases k1
    · rw [hcc] at e2; cases e2; exact z
  show wpAny _ _ (call (.builtin "sorted") [.ref l] [(Str.ofString "key", .ref f), (Str.ofString "reverse", .bool true)]) _ _ s2
  exact sortkey_call hr I2 (hl.past hT kk) h64 (hb.past hT kk) (fun n hn => let ⟨h0, t, u, e1, e2⟩ := hks n hn; ⟨h0, t, u, e1, e2.past hT kk⟩) hf hcell fun D ns' hD hp hw => q D ns' H2 kk hT2 hD hp hw
end
end L2
namespace L2
open PySem PySem.Spec PyProof.Rows
def OnlyT (P : Addr) (H : Hp) : Prop := H P = some (.tbl #[]) ∧ ∀ b, b ≠ P → H b = none ∨ ∃ o xs, H b = some (.frz o (.lst xs))
theorem law_callT {P : Program} {w : World} {K : PySem.W.Frag} {mg mb : Str → Option Value} {CX : CXT} {k : Nat} {fa a c T : Addr} {fd : FuncData} {x : Str} {sp : Sp} {s₁ : Shared} {vs : List Value} {ns : List Int}
    (KX : K.In s₁.heap) (hns : s₁.heap.Ns mainGlobals mg) (hb : s₁.heap.Ns builtinsNs mb) (hbb : ∀ x : Str, x ≠ "__name__" → mb x = bootBuiltins x) (hlim : s₁.heap.NoLimit) (hg : s₁.gens = #[])
    (hBM : BM mg s₁.heap) (hC : PySem.W.codeHdIn K c T = true) (hKT : K.lookup T = none) (hTt : s₁.heap.get? T = some (PySem.W.tabObj #[]))
    (ha : s₁.heap.get? a = some { cls := .type "list", data := .seq vs.toArray }) (hi : IntsAre vs ns) (hl : ns.length ≤ sizeLine) (hr : Room k callerA)
    (F : ∀ base : Heap, K.In base → base.Ns mainGlobals mg → BM mg base → FnOk P w K mg base CX k fa fd [x] sp) (hbind : ∀ (s : Shared) (u : Value), BindsTo s fd ⟨[u], []⟩ [(x, u)])
    (hsp : ∀ H : Hp, OnlyT T H → SqL K H a (ns.map V.int) → sp [.ref a] H (fun v _ => v = .bl true) fun _ _ _ => False)
    (hCX : ∀ H e s', CX [] H s₁ (fun _ _ _ => False) e s' → False) :
    codeAny (model P w) callerA (.call (.ref fa) ⟨[.ref a], []⟩) (fun r s' => r = .ok (.ret (.bool true)) ∧ OldK s₁.heap s'.heap ∧ s'.os = s₁.os ∧ AllBare s'.gens) s₁ := by
  have rv := vals_ints hi
  have lenV := hi.length
  have haT : a ≠ T := fun z => by rw [z, hTt] at ha; cases ha
  have tabC : isCodeTable s₁.heap T := ((PySem.W.codeHd_of_K KX hC).tab hTt).isCodeTable
  have core : ∀ H : Hp, OnlyT T H → SqL K H a (ns.map V.int) → HOk P w H s₁.heap → (∀ b, b ≠ T → H b ≠ none → b = a) → (H a ≠ none → K.lookup a = none) →
      codeAny (model P w) callerA (.call (.ref fa) ⟨[.ref a], []⟩) (fun r s' => r = .ok (.ret (.bool true)) ∧ OldK s₁.heap s'.heap ∧ s'.os = s₁.os ∧ AllBare s'.gens) s₁ := by
    intro H hO hS hok hA hK
    have base_of : ∀ {b : Addr} {o : Obj}, s₁.heap.get? b = some o → H b = none → (hidT s₁.heap H).get? b = some o := fun e n => hidT_get e n
    have noA : ∀ {b : Addr} {o : Obj}, s₁.heap.get? b = some o → (∀ its n, o.data ≠ .seq its n) → (∀ fs, o.data ≠ .fields fs) → H b = none := fun {b o} e d d2 => by
      cases q : H b with
      | none => rfl
      | some u =>
        by_cases hbT : b = T
        · subst hbT
          rw [hTt] at e; cases e
          exact absurd rfl (d2 _)
        · have e' : b = a := hA b hbT (by rw [q]; simp)
          subst e'
          rw [ha] at e; cases e
          exact absurd rfl (d _ _)
    have nsK : ∀ {b : Addr} {m : Str → Option Value}, s₁.heap.Ns b m → (hidT s₁.heap H).Ns b m := fun {b m} ⟨o, es, ep, e, d, r⟩ => ⟨o, es, ep, base_of e (noA e (fun _ _ z => by rw [d] at z; cases z) fun _ z => by rw [d] at z; cases z), d, r⟩
    have hKb : K.In (hidT s₁.heap H) := fun b o e => base_of (KX b o e) (by
      cases q : H b with
      | none => rfl
      | some u =>
        by_cases hbT : b = T
        · subst hbT; rw [hKT] at e; cases e
        · have e' : b = a := hA b hbT (by rw [q]; simp)
          subst e'
          rw [hK (by rw [q]; simp)] at e; cases e)
    have hBb : BM mg (hidT s₁.heap H) := by
      obtain ⟨bm, ob, b1, b2, b3, b4, b5, b6⟩ := hBM
      exact ⟨bm, ob, b1, b2, base_of b3 (noA b3 (fun _ _ z => by rw [b6] at z; cases z) fun _ z => by rw [b6] at z; cases z), b4, b5, b6⟩
    have hM : Mod K mg (hidT s₁.heap H) := ⟨hKb, nsK hns, ⟨mb, nsK hb, hbb⟩, let ⟨mc, h1, h2⟩ := hlim; ⟨mc, nsK h1, h2⟩⟩
    have e0 : Env0 P w K mg (hidT s₁.heap H) callerA [] s₁ H := ⟨rfl, hM, fun b o e => of_hidT e, Nat.le_of_eq (hidT_size _ _), trivial, fun b hb => absurd (show b ∈ ([] : List Addr) from hb) (by simp), hok, .of_eq hg⟩
    refine codeAny_mono ((F _ hKb (nsK hns) hBb).run callerA [] s₁ H ⟨[.ref a], []⟩ [.ref a] [.ref a] _ _ hr e0 (hbind s₁ (.ref a)) (.cons rfl .nil) (hsp H hO hS)) fun r s' h => ?_
    cases r with
    | error e => exact (hCX H e s' h).elim
    | ok fl =>
      cases fl with
      | next => exact False.elim h
      | brk => exact False.elim h
      | cont => exact False.elim h
      | ret u =>
        obtain ⟨v, H', os, bare, un, hok', r', q⟩ := h
        have q' : v = .bl true := q
        subst q'
        obtain rfl : u = Value.bool true := r'
        have keepO : ∀ b o, b ≠ T → s₁.heap.get? b = some o → s'.heap.get? b = some o := fun b o hbT e => by
          cases q : H b with
          | none => exact un.keep b o e q (by intro z; exact absurd (show b ∈ ([] : List Addr) from z) (by simp)) (by simp)
          | some u =>
            rcases hO.2 b hbT with z | ⟨ob, xs, z⟩
            · rw [q] at z; cases z
            · have z2 := un.frzs b ob _ z
              obtain ⟨e1, _⟩ := hok b _ z
              obtain ⟨e2, _⟩ := hok' b _ z2
              rw [e] at e1; cases e1
              exact e2
        obtain ⟨more, hmore⟩ := un.tbls T _ hO.1
        have hT' : s'.heap.get? T = some { cls := .none, data := .fields (#[] ++ more) } := hok' T _ hmore
        refine ⟨rfl, ⟨fun b o e => ?_, fun b o e => ?_⟩, os, bare⟩
        · by_cases hbT : b = T
          · subst hbT
            rw [hTt] at e; cases e
            exact .inr (.inl ⟨tabC, rfl, #[], more, rfl, hT'⟩)
          · exact .inl (keepO b o hbT e)
        · by_cases hbT : b = T
          · subst hbT; exact ⟨_, hT'⟩
          · exact ⟨o, keepO b o hbT e⟩
  cases hk : K.lookup a with
  | some o =>
    have e := KX a o hk
    rw [ha] at e
    cases e
    refine core (fun b => if b = T then some (.tbl #[]) else none) ⟨if_pos rfl, fun b hb => .inl (if_neg hb)⟩ (.inr ⟨_, vs.toArray, _, hk, rfl, rfl, rfl, by rw [List.size_toArray, lenV]; exact hl, by simpa using rv⟩) (fun b u z => ?_) (fun b hb z => absurd (if_neg hb) z) fun z => absurd (if_neg haT) z
    by_cases hb : b = T
    · have z' := (if_pos hb).symm.trans z
      cases z'
      subst hb
      exact hTt
    · have z' := (if_neg hb).symm.trans z
      cases z'
  | none =>
    refine core (fun b => if b = T then some (.tbl #[]) else if b = a then some (.frz { cls := .type "list", data := .seq vs.toArray } (.lst (ns.map V.int))) else none) ⟨if_pos rfl, fun b hbT => ?_⟩ (.inl (.inr ⟨{ cls := .type "list", data := .seq vs.toArray }, (if_neg haT).trans (if_pos rfl)⟩)) (fun b u z => ?_) (fun b hbT z => ?_) fun _ => hk
    · by_cases hb : b = a
      · exact .inr ⟨_, _, (if_neg hbT).trans (if_pos hb)⟩
      · exact .inl ((if_neg hbT).trans (if_neg hb))
    · by_cases hbT : b = T
      · have z' := (if_pos hbT).symm.trans z
        cases z'
        subst hbT
        exact hTt
      · have z := (if_neg hbT).symm.trans z
        by_cases hb : b = a
        · have z' := (if_pos hb).symm.trans z
          cases z'
          subst hb
          exact ⟨ha, by rw [List.length_map]; exact hl, vs, _, rv, ha⟩
        · have z' := (if_neg hb).symm.trans z
          cases z'
    · by_cases hb : b = a
      · exact hb
      · exact absurd ((if_neg hbT).trans (if_neg hb)) z
theorem walk_ofT2 {l : PySem.W.OpenLaw} {n k : Nat} {q : Program} {loose : List Str} {XP : (Str → Option Value) → Heap → Prop} {YP : World → Heap → Prop} {d : DefRec} {K : Params → PySem.W.Frag} {CX : World → CXT} {sp : World → Sp} {x : Str} {T : Addr}
    (hn : l.most = some n) (hn2 : n ≤ sizeLine) (hdf : d.params.defaults = []) (hr : Room k callerA)
    (hY : ∀ (w : World) (h : Heap), YP w h → (K w.params).In h ∧ h.get? T = some (PySem.W.tabObj #[]))
    (F : ∀ (w : World) (mg : Str → Option Value) (fa : Addr) (h : Heap), (K w.params).In h → h.Ns mainGlobals mg → mg d.name = some (.ref fa) →
      ∃ fd : FuncData, (∀ (s : Shared) (u : Value), BindsTo s fd ⟨[u], []⟩ [(x, u)]) ∧ (∃ c, PySem.W.codeHdIn (K w.params) c T = true) ∧ (K w.params).lookup T = none ∧
        ∀ base : Heap, (K w.params).In base → base.Ns mainGlobals mg → BM mg base → FnOk l.prog w (K w.params) mg base (CX w) k fa fd [x] (sp w))
    (hsp : ∀ (w : World) (H : Hp) (a : Addr) (ns : List Int), ns.length ≤ n → OnlyT T H → SqL (K w.params) H a (ns.map V.int) → sp w [.ref a] H (fun v _ => v = .bl true) fun _ _ _ => False)
    (hCX : ∀ (w : World) (H : Hp) (s : Shared) (e : Value) (s' : Shared), CX w [] H s (fun _ _ _ => False) e s' → False) :
    PySem.W.WalkO q loose XP YP l.row.toRowW d [] (fun f vs => PySem.call f vs) := by
  refine Att.attach_call hn hdf fun w s₀ s₁ mg mb fa o pm cd doc a vs ns G Y ho hd hcd hmg hobj hints hlen hg => ?_
  have KX := hY w _ Y
  obtain ⟨fd, hb, ⟨c, hC⟩, hKT, hF⟩ := F w mg fa _ KX.1 G.T.g hmg
  exact law_callT KX.1 G.T.g G.T.b G.T.builtins G.T.nolimit hg G.T.bmain hC hKT KX.2 hobj hints (Nat.le_trans hlen hn2) hr hF hb (fun H hO hS => hsp w H a ns hlen hO hS) fun H e s' => hCX w H s₁ e s'
end L2
namespace L2
open PySem PySem.Spec PyProof.Rows
section
variable {X : Cx} {o e : Expr} {to te : TE}
def cPop (to : TE) : TE := fun σ H Q => to σ H fun x H1 => match x with
  | .ref l => (∃ xs, H1 l = some (.lst xs)) ∧ rPop (.ref l) [] H1 Q
  | _ => False
theorem ce_pop {apos cpos : Pos} (ho : PE X o to) (hbase : attributeBase o "pop" X.env (eval o X.env) = eval o X.env := by rfl) (hline : (apos.endLine == cpos.line) = true := by rfl) :
    PE X (.Call (.Attribute o "pop" apos) [] [] cpos) (cPop to) := by
  intro pins s σ H Q I h
  refine wpAny_Call_method0_late hbase hline (thn (ho pins s σ H _ I h) fun v s1 ⟨x, H1, I1, r1, q1⟩ => ?_)
  cases x with
  | ref l =>
    obtain ⟨⟨xs0, e0⟩, q1⟩ := q1
    have ty : tyV X.K "list" (.ref l) H1 := .inl ⟨rfl, xs0, SqL.of e0⟩
    obtain ⟨h1, h2⟩ := tyV_is I1 r1 ty
    exact ⟨"list", "list.pop", PySem.F.plainAttrs_list, PySem.F.slot_list_pop, PySem.F.type_list_pop, h1, h2, Calls.callWith_builtin rfl (PySem.evalArgs_none (mt_pop pins s1 σ H1 _ [] v [] Q I1 r1 .nil q1))⟩
  | _ => exact q1.elim
def cClr (to : TE) : TE := fun σ H Q => to σ H fun x H1 => match x with
  | .ref l => (∃ xs, H1 l = some (.lst xs)) ∧ rClear (.ref l) [] H1 Q
  | _ => False
def rGetI : V → V → Hp → VK → Prop := fun o i H Q => ∃ (p : Addr) (xs : List V) (k : Nat) (v : V), o = .ref p ∧ i = .int k ∧ H p = some (.lst xs) ∧ xs[k]? = some v ∧ Q v H
end
def SameT (P : Addr) (H H' : Hp) : Prop := ∀ b u, H b = some u → b ≠ P → H' b = some u
end L2
namespace L2
open PySem PySem.Spec PyProof.Rows
section
variable {X : Cx}
theorem get_I : PGet X rGetI := by
  intro pins s σ H o i ov iv Q I ro ri h
  obtain ⟨p, xs, k, v, rfl, rfl, hp, hv, q⟩ := h
  cases ro
  obtain ⟨t, rfl⟩ := ri
  obtain ⟨its, r, pl, hz⟩ := I.list (SqL.of hp)
  obtain ⟨w, ew, rw'⟩ := r.get hv
  have hl := r.length
  have hk : k < its.length := (List.getElem?_eq_some_iff.mp ew).1
  have hn := line63
  exact wpAny_getItem_list pl.isList (by omega) (by omega) (by simpa using ew) ⟨v, H, I, rw', q⟩
end
section
variable {K : PySem.W.Frag} {te to ta tb ti : TE} {u : TS} {D : Ends} {σ : St} {H : Hp} {Q : VK} {v : V}
theorem st_dec {l : Addr} {k : Nat} {xs : List V} {n d : Int} (ho : Ev to σ H (.ref l)) (hi : Ev ti σ H (.int k)) (hl : H l = some (.lst xs)) (hx : xs[k]? = some (.int n)) (he : Ev te σ H (.int d))
    (q : u D σ (upd H l (.lst (xs.set k (.int (n - d)))))) : tSeq (tAugS to ti te rGetI (ipI fun i j => i - j) rSetL) u D σ H := by
  have hk : k < xs.length := (List.getElem?_eq_some_iff.mp hx).1
  refine ho _ (hi _ ⟨l, xs, k, .int n, rfl, rfl, hl, hx, he _ ⟨n, d, rfl, rfl, l, xs, k, k, rfl, rfl, hl, ?_, q⟩⟩)
  unfold ixN
  rw [if_pos (by omega), if_pos (by omega)]; simp
theorem pop_k {l : Addr} {xs : List V} {y : V} (ho : Ev to σ H (.ref l)) (hl : H l = some (.lst (xs ++ [y]))) (q : Q y (upd H l (.lst xs))) : cPop to σ H Q :=
  ho _ ⟨⟨_, hl⟩, l, _, y, rfl, rfl, hl, by simp, by simpa using q⟩
theorem tru_l {R : Bool → Hp → Prop} {l : Addr} {xs : List V} (ho : Ev to σ H (.ref l)) (hl : H l = some (.lst xs)) (q : R (!xs.isEmpty) H) : cTru K to σ H R := ho _ ⟨_, .inl ⟨_, SqL.of hl, rfl⟩, q⟩
end
theorem SameT.refl (P : Addr) (H : Hp) : SameT P H H := fun _ _ e _ => e
theorem Same.toT {P : Addr} {H H' : Hp} (h : Same H H') : SameT P H H' := fun b u e _ => h b u e
theorem SameT.trans {P : Addr} {H H1 H2 : Hp} (a : SameT P H H1) (b : SameT P H1 H2) : SameT P H H2 := fun c u e n => b c u (a c u e n) n
theorem SqT.sameT {K : PySem.W.Frag} {P a : Addr} {H H' : Hp} {xs : List V} {ps : Array Value} (h : SqT K H a xs) (hP : H P = some (.tbl ps)) (s : SameT P H H') : SqT K H' a xs := by
  rcases h with (h | ⟨o, h⟩) | h
  · exact .inl (.inl (s _ _ h (ne_of h hP (by simp))))
  · exact .inl (.inr ⟨o, s _ _ h (ne_of h hP (by simp))⟩)
  · exact .inr h
theorem OW.sameT {K : PySem.W.Frag} {P : Addr} {H H' : Hp} {v : V} {o : Option W} {ps : Array Value} (h : OW K H v o) (hP : H P = some (.tbl ps)) (s : SameT P H H') : OW K H' v o := by
  rcases h with h | ⟨e, a, h1, h2, h3⟩
  · exact .inl h
  · exact .inr ⟨e, a, h1, h2, h3.sameT hP s⟩
theorem WsV.sameT {K : PySem.W.Frag} {P : Addr} {H H' : Hp} {vs : List V} {ws : List (Option W)} {ps : Array Value} (h : WsV K H vs ws) (hP : H P = some (.tbl ps)) (s : SameT P H H') : WsV K H' vs ws := ⟨h.1, fun i v e => (h.2 i v e).sameT hP s⟩
theorem NxV.sameT {P : Addr} {H H' : Hp} {ms : List Addr} {nx : List (List Nat)} {ps : Array Value} (h : NxV H ms nx) (hP : H P = some (.tbl ps)) (s : SameT P H H') : NxV H' ms nx := ⟨h.1, fun i m e => s _ _ (h.2 i m e) (ne_of (h.2 i m e) hP (by simp))⟩
theorem lst_sameT {P a : Addr} {H H' : Hp} {xs : List V} {ps : Array Value} (h : H a = some (.lst xs)) (hP : H P = some (.tbl ps)) (s : SameT P H H') : H' a = some (.lst xs) := s _ _ h (ne_of h hP (by simp))
theorem NetAt.sameT {K : PySem.W.Frag} {P a b : Addr} {H H' : Hp} {nx : List (List Nat)} {kn : List (Option W)} {ps : Array Value} (h : NetAt K H a b nx kn) (hP : H P = some (.tbl ps)) (s : SameT P H H') : NetAt K H' a b nx kn :=
  ⟨let ⟨ms, h1, h2⟩ := h.nx; ⟨ms, lst_sameT h1 hP s, h2.sameT hP s⟩, let ⟨vs, h1, h2⟩ := h.kn; ⟨vs, lst_sameT h1 hP s, h2.sameT hP s⟩⟩
theorem TblOk.tbl {H : Hp} {P : Addr} {qual : Str} {pos : Pos} (h : TblOk H P qual pos) : ∃ ps, H P = some (.tbl ps) := by
  rcases h with h | ⟨_, _, _, _, h, _⟩
  · exact ⟨_, h⟩
  · exact ⟨_, h⟩
theorem TblOk.same {H H' : Hp} {P : Addr} {qual : Str} {pos : Pos} (h : TblOk H P qual pos) (s : Same H H') : TblOk H' P qual pos := by
  rcases h with h | ⟨c, oc, vs, t, h1, h2, h3⟩
  · exact .inl (s _ _ h)
  · exact .inr ⟨c, oc, vs, t, s _ _ h1, s _ _ h2, h3⟩
def pushAt (bk : List (List Nat)) (c a : Nat) : List (List Nat) := bk.set c (bk.getD c [] ++ [a])
theorem pushAt_len {bk : List (List Nat)} {c a : Nat} : (pushAt bk c a).length = bk.length := by simp [pushAt]
theorem pushAt_at {bk : List (List Nat)} {c a i : Nat} (hc : c < bk.length) : (pushAt bk c a).getD i [] = if i = c then bk.getD c [] ++ [a] else bk.getD i [] := by
  unfold pushAt
  rw [List.getD_eq_getElem?_getD, List.getElem?_set]
  by_cases h : c = i
  · subst h
    rw [if_pos rfl, if_pos rfl, if_pos hc]; rfl
  · rw [if_neg h, if_neg (fun z => h z.symm), ← List.getD_eq_getElem?_getD]
structure BkI (m : Nat) (nx : List (List Nat)) (kn : List (Option W)) (bk : List (List Nat)) (i : Nat) (pre : List Nat) : Prop where
  len : bk.length = m
  cnt : ∀ c a, c < m → (bk.getD c []).count a = if a < i ∧ wAt kn a = none then (nx.getD a []).count c else if a = i ∧ wAt kn a = none then pre.count c else 0
  few : ∀ c, (bk.getD c []).length ≤ 6 * i + pre.length
theorem BkI.nil {m : Nat} {nx : List (List Nat)} {kn : List (Option W)} : BkI m nx kn (List.replicate m []) 0 [] := by
  have e : ∀ c, (List.replicate m ([] : List Nat)).getD c [] = [] := fun c => by
    rw [List.getD_eq_getElem?_getD, List.getElem?_replicate]
    split <;> rfl
  refine ⟨by simp, fun c a hc => ?_, fun c => ?_⟩
  · rw [e]; simp
  · rw [e]; simp
theorem BkI.push {m i c : Nat} {nx : List (List Nat)} {kn : List (Option W)} {bk : List (List Nat)} {pre : List Nat} (h : BkI m nx kn bk i pre) (hk : wAt kn i = none) (hc : c < m) : BkI m nx kn (pushAt bk c i) i (pre ++ [c]) := by
  refine ⟨by rw [pushAt_len]; exact h.len, fun d a hd => ?_, fun d => ?_⟩
  · rw [pushAt_at (by rw [h.len]; exact hc)]
    have := h.cnt d a hd
    by_cases e : d = c
    · subst e
      rw [if_pos rfl, List.count_append, this]
      by_cases ea : a = i
      · subst ea
        rw [if_neg (by omega), if_pos ⟨rfl, hk⟩, if_neg (by omega), if_pos ⟨rfl, hk⟩, List.count_append]
        simp
      · have e1 : List.count a [i] = 0 := by rw [List.count_eq_zero]; simpa using ea
        have z2 : ∀ q : Nat, (if a = i ∧ wAt kn a = none then q else 0) = 0 := fun q => if_neg (fun z => ea z.1)
        rw [e1, z2, z2]; rfl
    · rw [if_neg e, this]
      by_cases ea : a = i
      · subst ea
        rw [if_neg (by omega), if_pos ⟨rfl, hk⟩, if_neg (by omega), if_pos ⟨rfl, hk⟩, List.count_append]
        have e1 : List.count d [c] = 0 := by rw [List.count_eq_zero]; simpa using e
        rw [e1]; rfl
      · have z2 : ∀ q : Nat, (if a = i ∧ wAt kn a = none then q else 0) = 0 := fun q => if_neg (fun z => ea z.1)
        rw [z2, z2]
  · rw [pushAt_at (by rw [h.len]; exact hc), List.length_append, List.length_singleton]
    have h1 := h.few d
    have h2 := h.few c
    split
    · rw [List.length_append, List.length_singleton]; omega
    · omega
theorem BkI.on {m i : Nat} {nx : List (List Nat)} {kn : List (Option W)} {bk : List (List Nat)} {pre : List Nat} (h : BkI m nx kn bk i pre) (hp : wAt kn i = none → pre = nx.getD i []) (hl : pre.length ≤ 6) : BkI m nx kn bk (i + 1) [] := by
  refine ⟨h.len, fun c a hc => ?_, fun c => ?_⟩
  · rw [h.cnt c a hc]
    by_cases ha : a < i
    · by_cases hk : wAt kn a = none
      · rw [if_pos ⟨ha, hk⟩, if_pos ⟨by omega, hk⟩]
      · rw [if_neg (fun z => hk z.2), if_neg (fun z => hk z.2), if_neg (fun z => hk z.2), if_neg (fun z => hk z.2)]
    · by_cases ea : a = i
      · subst ea
        by_cases hk : wAt kn a = none
        · rw [if_neg (by omega), if_pos ⟨rfl, hk⟩, if_pos ⟨by omega, hk⟩, hp hk]
        · rw [if_neg (fun z => hk z.2), if_neg (fun z => hk z.2), if_neg (fun z => hk z.2), if_neg (fun z => hk z.2)]
      · rw [if_neg (by omega), if_neg (fun z => ea z.1), if_neg (by omega)]
        split
        · simp
        · rfl
  · have := h.few c
    rw [List.length_nil]
    omega
structure BkG (m : Nat) (nx : List (List Nat)) (kn : List (Option W)) (bk : List (List Nat)) : Prop where
  len : bk.length = m
  cnt : ∀ c a, c < m → a < m → wAt kn a = none → (bk.getD c []).count a = (nx.getD a []).count c
  un : ∀ c a, c < m → a ∈ bk.getD c [] → a < m ∧ wAt kn a = none
  few : ∀ c, (bk.getD c []).length ≤ 400
theorem BkI.good {m : Nat} {nx : List (List Nat)} {kn : List (Option W)} {bk : List (List Nat)} (h : BkI m nx kn bk m []) (hm : m ≤ 60) : BkG m nx kn bk := by
  refine ⟨h.len, fun c a hc ha hk => by rw [h.cnt c a hc, if_pos ⟨ha, hk⟩], fun c a hc ha => ?_, fun c => by have := h.few c; rw [List.length_nil] at this; omega⟩
  have hp := List.count_pos_iff.mpr ha
  rw [h.cnt c a hc] at hp
  by_cases z : a < m ∧ wAt kn a = none
  · exact z
  · rw [if_neg z] at hp
    split at hp
    · simp at hp
    · omega
def spBack (K : PySem.W.Frag) : Sp := fun vs H Q _ => ∃ (a b : Addr) (m : Nat) (nx : List (List Nat)) (kn : List (Option W)), vs = [.ref a, .ref b] ∧ NetAt K H a b nx kn ∧ NetG m nx kn ∧
  ∀ p ls bk H', H p = none → H' p = some (.lst (ls.map V.ref)) → NxV H' ls bk → BkG m nx kn bk → (∀ x ∈ ls, H x = none) → Same H H' → Q (.ref p) H'
def spLatest (K : PySem.W.Frag) (P : Addr) (qual : Str) (pos : Pos) : Sp := fun vs H Q _ => ∃ (b : Addr) (m : Nat) (nx : List (List Nat)) (kn : List (Option W)) (vk : List V), vs = [.ref b] ∧ H b = some (.lst vk) ∧ WsV K H vk kn ∧ NetG m nx kn ∧ TblOk H P qual pos ∧
  ∀ p (ns : List Nat) H', H p = none → H' p = some (.lst (ns.map natV)) → (∀ i, i ∈ ns ↔ ∃ w, wAt kn i = some w ∧ ¬ w.1 = .even) → ns.Nodup → ns.Pairwise (fun x y => numW (wAt kn y) ≤ numW (wAt kn x)) → SameT P H H' → TblOk H' P qual pos → Q (.ref p) H'
end L2
namespace L2
open PySem PySem.Spec PyProof.Rows
theorem nd_le : ∀ (m : Nat) (l : List Nat), l.Nodup → (∀ x ∈ l, x < m) → l.length ≤ m
  | 0, [], _, _ => Nat.le_refl _
  | 0, x :: l, _, h => absurd (h x List.mem_cons_self) (Nat.not_lt_zero _)
  | m + 1, l, nd, h => by
    by_cases z : m ∈ l
    · have := nd_le m (l.erase m) (nd.erase m) (fun x hx => by
        have h1 := h x (List.mem_of_mem_erase hx)
        have h2 : x ≠ m := fun e => by
          rw [e] at hx
          exact (List.Nodup.not_mem_erase nd) hx
        omega)
      rw [List.length_erase_of_mem z] at this
      omega
    · have := nd_le m l nd (fun x hx => by
        have h1 := h x hx
        have h2 : x ≠ m := fun e => z (e ▸ hx)
        omega)
      omega
structure WkAt (K : PySem.W.Frag) (H : Hp) (dw dl p : Addr) (ls : List Addr) (bk : List (List Nat)) (ws : List (Option W)) (lf : List Int) : Prop where
  wds : ∃ vs, H dw = some (.lst vs) ∧ WsV K H vs ws
  lft : H dl = some (.lst (lf.map V.int))
  bks : H p = some (.lst (ls.map V.ref))
  bkv : NxV H ls bk
  ne : dw ≠ dl
  np : p ≠ dw ∧ p ≠ dl
  nl : ∀ x ∈ ls, x ≠ dw ∧ x ≠ dl
section
variable {K : PySem.W.Frag} {H H' : Hp} {dw dl p f : Addr} {ls : List Addr} {bk : List (List Nat)} {ws : List (Option W)} {lf : List Int}
theorem WkAt.same (h : WkAt K H dw dl p ls bk ws lf) (s : Same H H') : WkAt K H' dw dl p ls bk ws lf :=
  ⟨let ⟨vs, a, b⟩ := h.wds; ⟨vs, s _ _ a, b.same s⟩, s _ _ h.lft, s _ _ h.bks, h.bkv.same s, h.ne, h.np, h.nl⟩
theorem WkAt.keep {xs ys : List V} (h : WkAt K H dw dl p ls bk ws lf) (hf : H f = some (.lst xs)) (n1 : f ≠ dw) (n2 : f ≠ dl) (n3 : f ≠ p) (n4 : ∀ x ∈ ls, x ≠ f) : WkAt K (upd H f (.lst ys)) dw dl p ls bk ws lf :=
  ⟨let ⟨vs, a, b⟩ := h.wds; ⟨vs, by rw [upd_ne n1.symm]; exact a, b.keepL hf⟩, by rw [upd_ne n2.symm]; exact h.lft, by rw [upd_ne n3.symm]; exact h.bks, ⟨h.bkv.1, fun i m e => by rw [upd_ne (n4 m (List.mem_of_getElem? e))]; exact h.bkv.2 i m e⟩, h.ne, h.np, h.nl⟩
theorem WkAt.setL {lf' : List Int} (h : WkAt K H dw dl p ls bk ws lf) : WkAt K (upd H dl (.lst (lf'.map V.int))) dw dl p ls bk ws lf' :=
  ⟨let ⟨vs, a, b⟩ := h.wds; ⟨vs, by rw [upd_ne h.ne]; exact a, b.keepL h.lft⟩, upd_same, by rw [upd_ne h.np.2]; exact h.bks, ⟨h.bkv.1, fun i m e => by rw [upd_ne (h.nl m (List.mem_of_getElem? e)).2]; exact h.bkv.2 i m e⟩, h.ne, h.np, h.nl⟩
theorem WkAt.setW {vs : List V} {ws' : List (Option W)} {vs' : List V} (h : WkAt K H dw dl p ls bk ws lf) (hv : H dw = some (.lst vs)) (hw : WsV K H vs' ws') : WkAt K (upd H dw (.lst vs')) dw dl p ls bk ws' lf :=
  ⟨⟨vs', upd_same, hw.keepL hv⟩, by rw [upd_ne h.ne.symm]; exact h.lft, by rw [upd_ne h.np.1]; exact h.bks, ⟨h.bkv.1, fun i m e => by rw [upd_ne (h.nl m (List.mem_of_getElem? e)).1]; exact h.bkv.2 i m e⟩, h.ne, h.np, h.nl⟩
end
def Same2 (dw dl : Addr) (H H' : Hp) : Prop := ∀ b u, H b = some u → b ≠ dw → b ≠ dl → H' b = some u
theorem Same2.refl (dw dl : Addr) (H : Hp) : Same2 dw dl H H := fun _ _ e _ _ => e
theorem Same2.trans {dw dl : Addr} {H H1 H2 : Hp} (a : Same2 dw dl H H1) (b : Same2 dw dl H1 H2) : Same2 dw dl H H2 := fun c u e n1 n2 => b c u (a c u e n1 n2) n1 n2
theorem Same.to2 {dw dl : Addr} {H H' : Hp} (h : Same H H') : Same2 dw dl H H' := fun b u e _ _ => h b u e
theorem Same2.w {dw dl : Addr} {H H1 : Hp} {o : HO} (a : Same2 dw dl H H1) : Same2 dw dl H (upd H1 dw o) := fun c u e n1 n2 => by rw [upd_ne n1]; exact a c u e n1 n2
theorem Same2.l {dw dl : Addr} {H H1 : Hp} {o : HO} (a : Same2 dw dl H H1) : Same2 dw dl H (upd H1 dl o) := fun c u e n1 n2 => by rw [upd_ne n2]; exact a c u e n1 n2
theorem Same2.put {dw dl p : Addr} {H H1 : Hp} {o : HO} (a : Same2 dw dl H H1) (hp : H p = none) : Same2 dw dl H (upd H1 p o) := fun c u e n1 n2 => by rw [upd_ne (ne_of_none e hp)]; exact a c u e n1 n2
def spWave (K : PySem.W.Frag) : Sp := fun vs H Q _ => ∃ (dv dw p dl : Addr) (m : Nat) (nx bk : List (List Nat)) (kn ws : List (Option W)) (lf : List Int) (ls : List Addr) (N : Int) (Dn : Nat → Bool) (todo waiting : List Nat),
  vs = [.ref dv, .ref dw, .ref p, .ref dl] ∧ H dv = some (.lst (todo.map natV)) ∧ dv ≠ dw ∧ dv ≠ dl ∧ WkAt K H dw dl p ls bk ws lf ∧ BkG m nx kn bk ∧ m ≤ 60 ∧ (∀ c2, WInv nx kn m N Dn c2 [] todo [] waiting ws lf) ∧
  ∀ p' (found : List Nat) Dn' ws' lf' H', H p' = none → H' p' = some (.lst (found.map natV)) → WkAt K H' dw dl p ls bk ws' lf' → (∀ c2, WInv nx kn m N Dn' c2 [] [] found waiting ws' lf') → (∀ x, Dn x = true → Dn' x = true) → (∀ x ∈ todo, Dn' x = true) → Same2 dw dl H H' → Q (.ref p') H'
section
variable {te to ta tb ti : TE} {c : TT} {t e u : TS} {D : Ends} {σ : St} {H : Hp} {b : Bool} {x y : V}
theorem st_two (hc : Tv c σ H b) (h1 : b = true → t { D with nx := u D } σ H) (h2 : b = false → e { D with nx := u D } σ H) : tSeq (tIfS c t e) u D σ H := hc _ (by
  cases b with
  | true => exact iteT (h1 rfl)
  | false => exact iteF (h2 rfl))
theorem asg2_k {l : Addr} {k : Nat} {xs : List V} (ha : Ev ta σ H x) (hb : Ev tb σ H y) (ho : ∀ H', Ev to σ H' (.ref l)) (hi : ∀ H', Ev ti σ H' (.int k)) (hl : H l = some (.lst xs)) (hk : k < xs.length)
    (q : ∀ p, H p = none → D.nx σ (upd (upd H p (.tup [x, y])) l (.lst (xs.set k (.ref p))))) : tAsg (tTup (tCons ta (tCons tb tNil))) (gSub to ti rSetL) D σ H :=
  ha _ (hb _ ⟨by show 2 ≤ sizeLine; decide, fun p hp => ho _ _ (hi _ _ ⟨l, xs, k, k, rfl, rfl, ((Same.refl H).upd hp) _ _ hl, (by unfold ixN; rw [if_pos (by omega), if_pos (by omega)]; simp), q p hp⟩)⟩)
end
theorem WInv.lt {nx : List (List Nat)} {kn : List (Option W)} {m : Nat} {N : Int} {D : Nat → Bool} {c : Nat} {pre todo found waiting : List Nat} {ws : List (Option W)} {lf : List Int} (I : WInv nx kn m N D c pre todo found waiting ws lf) {i : Nat} {w : W} (h : wAt ws i = some w) : i < m :=
  Nat.lt_of_not_le fun z => by rw [wAt_ge (by rw [I.lw]; exact z)] at h; cases h
theorem WInv.few {nx : List (List Nat)} {kn : List (Option W)} {m : Nat} {N : Int} {D : Nat → Bool} {c : Nat} {pre todo found waiting : List Nat} {ws : List (Option W)} {lf : List Int} (I : WInv nx kn m N D c pre todo found waiting ws lf) : found.length ≤ m :=
  nd_le m found I.nf fun i hi => by obtain ⟨_, _, w, h, _⟩ := I.fd i hi; exact I.lt h
theorem count_dn : ∀ (l : List Nat) {D D' : Nat → Bool}, (∀ x, D x = true → D' x = true) → (l.countP (fun i => !D' i) ≤ l.countP fun i => !D i) ∧ ∀ x ∈ l, D x = false → D' x = true → l.countP (fun i => !D' i) < l.countP fun i => !D i
  | [], _, _, _ => ⟨Nat.le_refl _, fun x hx => by cases hx⟩
  | y :: l, D, D', h => by
    obtain ⟨h1, h2⟩ := count_dn l h
    rw [List.countP_cons, List.countP_cons]
    have hy := h y
    constructor
    · cases e : D y with
      | true => rw [hy e]; simpa using h1
      | false => cases e2 : D' y <;> simp <;> omega
    · intro x hx hD hD'
      rcases List.mem_cons.mp hx with rfl | hx
      · rw [hD, hD']; simp; omega
      · have := h2 x hx hD hD'
        cases e : D y with
        | true => rw [hy e]; simpa using this
        | false => cases e2 : D' y <;> simp <;> omega
def spWorked (K : PySem.W.Frag) (Pt : Addr) (qual : Str) (pos : Pos) : Sp := fun vs H Q _ => ∃ (a b : Addr) (m : Nat) (nx : List (List Nat)) (kn : List (Option W)), vs = [.ref a, .ref b] ∧ NetAt K H a b nx kn ∧ NetG m nx kn ∧ TblOk H Pt qual pos ∧
  ∀ p fw H', H p = none → WlAt K H' p (finL m fw) → Fol nx kn m fw → SameT Pt H H' → TblOk H' Pt qual pos → Q (.ref p) H'
theorem ev_ifB {t : TT} {ta tb : TE} {σ : St} {H : Hp} {b : Bool} {v : V} (hc : Tv t σ H b) (h1 : b = true → Ev ta σ H v) (h2 : b = false → Ev tb σ H v) : Ev (tIf t ta tb) σ H v := fun Q q => tif_k hc (fun z => h1 z _ q) (fun z => h2 z _ q)
theorem tv_tru {K : PySem.W.Frag} {to : TE} {σ : St} {H : Hp} {l : Addr} {xs : List V} (ho : Ev to σ H (.ref l)) (hl : H l = some (.lst xs)) : Tv (cTru K to) σ H (!xs.isEmpty) := fun R r => tru_l ho hl r
end L2
namespace L2
open PySem PySem.Spec PyProof.Rows
theorem TblOk.keepL {H : Hp} {P l : Addr} {qual : Str} {pos : Pos} {xs : List V} {o : HO} (h : TblOk H P qual pos) (hl : H l = some (.lst xs)) : TblOk (upd H l o) P qual pos := by
  rcases h with h | ⟨c, oc, vs, t, h1, h2, h3⟩
  · exact .inl (by rw [upd_ne (ne_of h hl (by simp))]; exact h)
  · exact .inr ⟨c, oc, vs, t, by rw [upd_ne (ne_of h1 hl (by simp))]; exact h1, by rw [upd_ne (ne_of h2 hl (by simp))]; exact h2, h3⟩
theorem TblOk.same2 {H H' : Hp} {P dw dl : Addr} {qual : Str} {pos : Pos} {xs ys : List V} (h : TblOk H P qual pos) (s : Same2 dw dl H H') (hw : H dw = some (.lst xs)) (hl : H dl = some (.lst ys)) : TblOk H' P qual pos := by
  rcases h with h | ⟨c, oc, vs, t, h1, h2, h3⟩
  · exact .inl (s _ _ h (ne_of h hw (by simp)) (ne_of h hl (by simp)))
  · exact .inr ⟨c, oc, vs, t, s _ _ h1 (ne_of h1 hw (by simp)) (ne_of h1 hl (by simp)), s _ _ h2 (ne_of h2 hw (by simp)) (ne_of h2 hl (by simp)), h3⟩
theorem SameT.put {P p : Addr} {H H1 : Hp} {o : HO} (a : SameT P H H1) (hp : H p = none) : SameT P H (upd H1 p o) := fun c u e n => by rw [upd_ne (ne_of_none e hp)]; exact a c u e n
theorem SameT.free {P p : Addr} {H H1 : Hp} {ps : Array Value} (a : SameT P H H1) (hP : H1 P = some (.tbl ps)) (hp : H1 p = none) : H p = none := by
  cases z : H p with
  | none => rfl
  | some u =>
    by_cases e : p = P
    · rw [e, hP] at hp; cases hp
    · rw [a p u z e] at hp; cases hp
structure RunI (K : PySem.W.Frag) (H0 H : Hp) (Pt : Addr) (qual : Str) (pos : Pos) (m : Nat) (nx bk : List (List Nat)) (kn : List (Option W)) (ls : List Addr) (dw dl p dg dv : Addr) (N : Int) (D : Nat → Bool) (found waiting : List Nat) (ws : List (Option W)) (lf : List Int) : Prop where
  st : SameT Pt H0 H
  tb : TblOk H Pt qual pos
  wk : WkAt K H dw dl p ls bk ws lf
  ev : H dv = some (.lst (found.map natV))
  eg : H dg = some (.lst (waiting.map natV))
  v0 : H0 dv = none
  vn : dv ≠ dw ∧ dv ≠ dl ∧ dv ≠ p ∧ dv ≠ dg ∧ ∀ x ∈ ls, x ≠ dv
  gn : dg ≠ dw ∧ dg ≠ dl ∧ dg ≠ p ∧ ∀ x ∈ ls, x ≠ dg
  iv : ∀ c2, WInv nx kn m N D c2 [] [] found waiting ws lf
  so : waiting.Pairwise (fun x y => numW (wAt kn y) ≤ numW (wAt kn x))
theorem WInv.wfew {nx : List (List Nat)} {kn : List (Option W)} {m : Nat} {N : Int} {D : Nat → Bool} {c : Nat} {pre todo found waiting : List Nat} {ws : List (Option W)} {lf : List Int} (I : WInv nx kn m N D c pre todo found waiting ws lf) : waiting.length ≤ m :=
  nd_le m waiting I.nw fun i hi => by obtain ⟨_, w, h, _⟩ := I.wt i hi; exact I.lt (I.kn1 i w h)
theorem snoc_of {α : Type} : ∀ {l : List α}, ¬ l = [] → ∃ r x, l = r ++ [x]
  | [], h => absurd rfl h
  | y :: l, _ => by
    cases l with
    | nil => exact ⟨[], y, rfl⟩
    | cons z l =>
      obtain ⟨r, x, e⟩ := snoc_of (l := z :: l) (by simp)
      exact ⟨y :: r, x, by rw [e]; rfl⟩
theorem wave_num {nx : List (List Nat)} {kn : List (Option W)} {m : Nat} {N : Int} {D : Nat → Bool} {found waiting : List Nat} {ws : List (Option W)} {lf : List Int} (I : ∀ c2, WInv nx kn m N D c2 [] [] found waiting ws lf) (so : waiting.Pairwise (fun x y => numW (wAt kn y) ≤ numW (wAt kn x)))
    {y : Nat} (hy : (∃ r, found = y :: r) ∨ (found = [] ∧ ∃ r, waiting = r ++ [y])) :
    ∃ w, wAt ws y = some w ∧ y < m ∧ N < w.2 ∧ (∀ i ∈ found, w.2 = N + 1) ∧ ∀ i ∈ waiting, ∀ k, wAt kn i = some k → w.2 ≤ k.2 := by
  rcases hy with ⟨r, rfl⟩ | ⟨rfl, r, rfl⟩
  · obtain ⟨_, _, w, h, _, e⟩ := (I 0).fd y List.mem_cons_self
    refine ⟨w, h, (I 0).lt h, by omega, fun i _ => e, fun i hi k hk => ?_⟩
    obtain ⟨_, w2, h2, _, l⟩ := (I 0).wt i hi
    rw [hk] at h2; cases h2
    omega
  · obtain ⟨_, w, h, _, l⟩ := (I 0).wt y (by simp)
    have h' := (I 0).kn1 y w h
    refine ⟨w, h', (I 0).lt h', l, fun i hi => (by cases hi), fun i hi k hk => ?_⟩
    rcases List.mem_append.mp hi with z | z
    · have := (List.pairwise_append.mp so).2.2 i z y (by simp)
      rw [h, hk] at this
      exact this
    · rw [List.mem_singleton.mp z, h] at hk
      cases hk
      exact Int.le_refl _
theorem rest_num {kn : List (Option W)} {r : List Nat} {y : Nat} {n : Int} {w : W} (so : (r ++ [y]).Pairwise (fun x y => numW (wAt kn y) ≤ numW (wAt kn x))) (hy : wAt kn y = some w) (hn : n < w.2) : ∀ i ∈ r ++ [y], ∀ k, wAt kn i = some k → n < k.2 := fun i hi k hk => by
  rcases List.mem_append.mp hi with z | z
  · have := (List.pairwise_append.mp so).2.2 i z y (by simp)
    rw [hy, hk] at this
    have this : w.2 ≤ k.2 := this
    omega
  · rw [List.mem_singleton.mp z, hy] at hk
    cases hk
    exact hn
theorem or_tru {K : PySem.W.Frag} {t1 t2 : TE} {σ : St} {H : Hp} {l1 l2 : Addr} {xs ys : List V} {R : Bool → Hp → Prop} (h1 : Ev t1 σ H (.ref l1)) (h2 : Ev t2 σ H (.ref l2)) (e1 : H l1 = some (.lst xs)) (e2 : H l2 = some (.lst ys))
    (ht : (¬ xs = [] ∨ ¬ ys = []) → R true H) (hf : xs = [] → ys = [] → R false H) : tOr (cTru K t1) (cTru K t2) σ H R := by
  refine tor_x ((tv_tru h1 e1) _ ?_)
  cases xs with
  | cons x xs => exact iteT (ht (.inl (by simp)))
  | nil =>
    refine iteF ((tv_tru h2 e2) _ ?_)
    cases ys with
    | cons y ys => exact ht (.inr (by simp))
    | nil => exact hf rfl rfl
theorem drop_app {to te : TE} {D : Ends} {σ : St} {H : Hp} {l : Addr} (ho : Ev to σ H (.ref l)) (hl : ∃ xs, H l = some (.lst xs)) (h : te σ H fun y H2 => ∃ xs, H2 l = some (.lst xs) ∧ xs.length < sizeLine ∧ D.nx σ (upd H2 l (.lst (xs ++ [y])))) : tDrop (cApp to te) D σ H := ho _ ⟨hl, h⟩
end L2
local macro_rules | `(tactic| walk_at "rd") => `(tactic| simp only [L2.tSeq, L2.tIfS, L2.tRet, L2.tAsg, L2.gName, L2.tNext, L2.tDrop, L2.cVar, L2.tC, L2.cBin, L2.binA, L2.cCmp, L2.cmpA, L2.eqB, L2.cTest, L2.bOnly, L2.cAndV, L2.cOrV, L2.cNotV, L2.cNeg, L2.cIs, L2.isA, L2.cIx, L2.ixA, L2.cSl, L2.slA, L2.cPart, L2.tNoPart, L2.cB, L2.tCons, L2.tNil, L2.cSM, L2.cSM0, L2.cCall, L2.tNot, L2.tAnd, L2.tOr, L2.tIf, L2.cChain, L2.cChainT, L2.lenA, L2.minA, L2.strA, L2.intA, L2.swA, L2.upA, L2.cJR, List.getElem?_cons_zero, List.getElem?_cons_succ, List.set_cons_zero, List.set_cons_succ])
seal L2.PE L2.PT L2.PA L2.PS L2.PSs L2.PG L2.PGs L2.PI L2.PO L2.PIfs L2.PW L2.CallR L2.MtR L2.OpR L2.UnR L2.IxR L2.SlR
namespace K23
open PySem L2
def top (i : Nat) : Stmt := PySem.Challenge.pw_playboard_k23_whole_words_follow.main.body.getD i (.Pass ⟨0, 0, 0, 0⟩)
abbrev s_ways_back : Stmt := top 2
theorem sc_ways_back : FnScope ["nexts", "known", "found", "number", "ways", "follower"] ["nexts", "known"] (defScope s_ways_back) := ⟨rfl, rfl, rfl, by decide +kernel, rfl, by decide +kernel, by decide +kernel⟩
abbrev s_latest_first : Stmt := top 3
theorem sc_latest_first : FnScope ["known", "told"] ["known"] (defScope s_latest_first) := ⟨rfl, rfl, rfl, by decide +kernel, rfl, by decide +kernel, by decide +kernel⟩
abbrev s_next_wave : Stmt := top 4
theorem sc_next_wave : FnScope ["wave", "words", "back", "left", "found", "number", "word", "above"] ["wave", "words", "back", "left"] (defScope s_next_wave) := ⟨rfl, rfl, rfl, by decide +kernel, rfl, by decide +kernel, by decide +kernel⟩
abbrev s_worked : Stmt := top 5
theorem sc_worked : FnScope ["nexts", "known", "words", "back", "left", "waiting", "wave", "n"] ["nexts", "known"] (defScope s_worked) := ⟨rfl, rfl, rfl, by decide +kernel, rfl, by decide +kernel, by decide +kernel⟩
abbrev s__law_cell_at : Stmt := top 7
theorem sc__law_cell_at : FnScope ["_law_script", "_law_k"] ["_law_script", "_law_k"] (defScope s__law_cell_at) := ⟨rfl, rfl, rfl, by decide +kernel, rfl, by decide +kernel, by decide +kernel⟩
abbrev s__law_known : Stmt := top 8
theorem sc__law_known : FnScope ["_law_cell", "_law_sort"] ["_law_cell"] (defScope s__law_known) := ⟨rfl, rfl, rfl, by decide +kernel, rfl, by decide +kernel, by decide +kernel⟩
abbrev s__law_nexts : Stmt := top 9
theorem sc__law_nexts : FnScope ["_law_cell", "_law_at", "_law_many", "_law_is_near", "_law_found", "_law_k", "_law_step"] ["_law_cell", "_law_at", "_law_many", "_law_is_near"] (defScope s__law_nexts) := ⟨rfl, rfl, rfl, by decide +kernel, rfl, by decide +kernel, by decide +kernel⟩
abbrev s__law_net : Stmt := top 10
theorem sc__law_net : FnScope ["_law_script", "_law_many", "_law_way", "_law_nexts_here", "_law_known_here", "_law_at", "_law_cell", "_law_word", "_law_numbers"] ["_law_script"] (defScope s__law_net) := ⟨rfl, rfl, rfl, by decide +kernel, rfl, by decide +kernel, by decide +kernel⟩
abbrev s__law_follows : Stmt := top 11
theorem sc__law_follows : FnScope ["_law_words", "_law_least", "_law_most", "_law_others", "_law_sort", "_law_many"] ["_law_words"] (defScope s__law_follows) := ⟨rfl, rfl, rfl, by decide +kernel, rfl, by decide +kernel, by decide +kernel⟩
abbrev s__law_is_word : Stmt := top 12
theorem sc__law_is_word : FnScope ["_law_word"] ["_law_word"] (defScope s__law_is_word) := ⟨rfl, rfl, rfl, by decide +kernel, rfl, by decide +kernel, by decide +kernel⟩
abbrev s_law : Stmt := top 13
theorem sc_law : FnScope ["_law_script", "_law_nexts_here", "_law_known_here", "_law_handed", "_law_words", "_law_at", "_law_due"] ["_law_script"] (defScope s_law) := ⟨rfl, rfl, rfl, by decide +kernel, rfl, by decide +kernel, by decide +kernel⟩
structure Txt (mg : Str → Option Value) (aE : Addr) : Prop where
  len : mg "len" = none
  range : mg "range" = none
  enumerate : mg "enumerate" = none
  sorted : mg "sorted" = none
  max : mg "max" = none
  list : mg "list" = none
  isinstance : mg "isinstance" = none
  int : mg "int" = none
  bool : mg "bool" = none
  tuple : mg "tuple" = none
  EVEN : ∃ u, mg "EVEN" = some u ∧ RelV (.ref aE) u
theorem nil_lists {K : PySem.W.Frag} {tl : TE} {src : List (Option Nat)} {σ rest : St} {H : Hp} {Q : VK} {d : Addr} {xs : List V} (hl : Ev tl σ H (.ref d)) (hx : H d = some (.lst xs)) (hz : xs.length ≤ sizeLine) (hs : subSt src σ = none :: rest)
    (q : ∀ d' H' (ls : List Addr), Same H H' → H' d' = none → ls.length = xs.length → ls.Nodup → (∀ x ∈ ls, H x = none ∧ H' x = some (.lst [])) → Q (.ref d') (upd H' d' (.lst (ls.map V.ref)))) : tComp (iList K tl) (gName 0) tNoIf (tLst tNil) src σ H Q := by
  refine hl _ ⟨d, rfl, ⟨xs, SqL.of hx⟩, ?_⟩
  refine comp_inv xs.length (fun i ys σ' H' => Same H H' ∧ (∃ v, σ' = v :: rest) ∧ ∃ ls : List Addr, ys = ls.map V.ref ∧ ls.length = i ∧ ls.Nodup ∧ ∀ x ∈ ls, H x = none ∧ H' x = some (.lst [])) hz (fun i ys σ H h => by obtain ⟨_, _, ls, rfl, h2, _⟩ := h; rw [List.length_map]; exact Nat.le_of_eq h2)
    (fun i ys σ H' h hi => ⟨xs, xs[i], SqL.of (h.1 _ _ hx), List.getElem?_eq_getElem hi⟩) (fun ys σ H' h => ⟨xs, SqL.of (h.1 _ _ hx), Nat.le_refl _⟩) ⟨Same.refl H, ⟨none, hs⟩, [], rfl, rfl, List.nodup_nil, fun x z => by cases z⟩ ?_ ?_
  · rintro i ys _ H1 x H2 hi ⟨s1, ⟨v0, rfl⟩, ls, rfl, hl, nd, hy⟩ ⟨rfl, hyy⟩ Kt Kf ht hf
    simp only [gName, tNoIf, List.set_cons_zero, if_true]
    refine ⟨Nat.zero_le _, fun p hp => ht _ _ _ ⟨s1.upd hp, ⟨_, rfl⟩, ls ++ [p], by rw [List.map_append]; rfl, by simp [hl], ?_, fun x hx => ?_⟩⟩
    · rw [List.nodup_append]
      refine ⟨nd, by simp, fun a ha b hb e => ?_⟩
      rw [List.mem_singleton.mp hb] at e
      rw [e] at ha
      rw [(hy p ha).2] at hp; cases hp
    · rcases List.mem_append.mp hx with z | z
      · exact ⟨(hy x z).1, ((Same.refl _).upd hp) _ _ (hy x z).2⟩
      · rw [List.mem_singleton.mp z]
        exact ⟨s1.free hp, upd_same⟩
  · rintro ys _ H1 dd ⟨s1, _, ls, rfl, hl, nd, hy⟩ hd
    exact q dd H1 ls s1 hd hl nd hy
theorem nxV_push {H : Hp} {ls : List Addr} {bk : List (List Nat)} {c a : Nat} {p : Addr} (h : NxV H ls bk) (nd : ls.Nodup) (hc : ls[c]? = some p) : NxV (upd H p (.lst ((bk.getD c []).map natV ++ [natV a]))) ls (pushAt bk c a) := by
  have hlt : c < bk.length := by rw [← h.1]; exact (List.getElem?_eq_some_iff.mp hc).1
  refine ⟨by rw [pushAt_len]; exact h.1, fun i m e => ?_⟩
  rw [pushAt_at hlt]
  by_cases z : i = c
  · subst z
    rw [hc] at e; cases e
    rw [upd_same, if_pos rfl, List.map_append]; rfl
  · have hne : m ≠ p := fun q => by
      subst q
      obtain ⟨h1, e1⟩ := List.getElem?_eq_some_iff.mp e
      obtain ⟨h2, e2⟩ := List.getElem?_eq_some_iff.mp hc
      have pw := List.pairwise_iff_getElem.mp nd
      rcases Nat.lt_trichotomy i c with l | l | l
      · exact pw i c h1 h2 l (e1.trans e2.symm)
      · exact z l
      · exact pw c i h2 h1 l (e2.trans e1.symm)
    rw [upd_ne hne, if_neg z]
    exact h.2 i m e
section
variable {P : Program} {w : World} {K : PySem.W.Frag} {mg : Str → Option Value} {base : Heap} {aE : Addr}
theorem ok_ways_back {f : Addr} {fd : FuncData} (F : Fun K "ways_back" "ways_back" s_ways_back f fd) (T : Txt mg aE) : FnOk P w K mg base CX0 1 f fd ["nexts", "known"] (spBack K) := by
  refine F.ok sc_ways_back (fun vs H Q E h => ?_) (fun cdv A outer s H vs Q E hr h => ?_)
  · obtain ⟨a, b, m, nx, kn, rfl, _⟩ := h
    rfl
  · obtain ⟨a, b, m, nx, kn, rfl, hN, hG, q⟩ := h
    have hu := hu20 hr
    have hm2 := hG.m2
    obtain ⟨ms, ea, hx⟩ := hN.nx
    obtain ⟨ks, eb, hk⟩ := hN.kn
    have hml : ms.length = m := by rw [hx.1, hG.ln]
    refine ⟨_, (pss_cons (ps_setC (i := 2) rfl (cscope (N := ["ways"]) (src := [none]) (defScope s_ways_back) ["nexts", "known", "found", "number", "ways", "follower"]) (kpl K (cv 0)) (fun _ _ _ => (pg_name' (i := 0) ["ways"])) (fun _ _ _ => pifs_nil) (fun _ _ _ => (pe_lst pa_nil)) sc_ways_back.nd rfl (Or.inl rfl) rfl (Or.inl rfl))
      (pss_cons (ps_for PassesOwn.never rfl (kenum K T.enumerate (cv 0)) (kgt K (n := 2) (pgs_cons (pg_name (i := 3) sc_ways_back.nd rfl (Or.inl rfl)) (pgs_cons (pg_name (i := 4) sc_ways_back.nd rfl (Or.inl rfl)) pgs_nil))) (pss_one (ps_if (ktcmp K hu (kix K (cv 1) (cv 3)) pe_non) (pss_one (ps_for PassesOwn.never rfl (kpl K (cv 4)) (pg_name (i := 5) sc_ways_back.nd rfl (Or.inl rfl)) (pss_one (ps_expr (ce_app (kix K (cv 2) (cv 5)) (cv 3)))))) pss_nil)))
      (pss_one (ps_ret (cv 2))))), ?_⟩
    show tSeq _ _ _ [some (.ref a), some (.ref b), none, none, none, none] H
    refine st_asg (fun v H' => ∃ (p : Addr) (ls : List Addr), v = .ref p ∧ H p = none ∧ H' p = some (.lst (ls.map V.ref)) ∧ ls.length = m ∧ ls.Nodup ∧ (∀ x ∈ ls, H x = none ∧ H' x = some (.lst [])) ∧ Same H H') (fun Q q => ?_) ?_
    · refine nil_lists (d := a) (xs := ms.map V.ref) (rest := []) (ev_v rfl) ea (by rw [List.length_map, hml, sizeLine_eq]; omega) rfl fun d' H' ls s1 hd hl nd hy => ?_
      rw [List.length_map, hml] at hl
      have s2 : Same H' (upd H' d' (.lst (ls.map V.ref))) := (Same.refl H').upd hd
      exact q _ _ ⟨d', ls, rfl, s1.free hd, upd_same, hl, nd, fun x hx => ⟨(hy x hx).1, s2 _ _ (hy x hx).2⟩, s1.trans s2⟩
    rintro _ H1 ⟨p, ls, rfl, hp, ep, hll, nd, hls, s1⟩
    show tSeq _ _ _ [some (.ref a), some (.ref b), some (.ref p), none, none, none] H1
    have hN1 : NxV H1 ls (List.replicate m []) := by
      refine ⟨by rw [List.length_replicate]; exact hll, fun i x e => ?_⟩
      have e2 : (List.replicate m ([] : List Nat)).getD i [] = [] := by
        rw [List.getD_eq_getElem?_getD, List.getElem?_replicate]
        split <;> rfl
      rw [e2]
      exact (hls x (List.mem_of_getElem? e)).2
    let PP : Nat → List Nat → St → Hp → Prop := fun i pre σ' H' => Same H H' ∧ (∃ o3 o4 o5, σ' = [some (.ref a), some (.ref b), some (.ref p), o3, o4, o5]) ∧ H' p = some (.lst (ls.map V.ref)) ∧ ∃ bk, NxV H' ls bk ∧ BkI m nx kn bk i pre
    refine tSeq_of (PP m []) (fun K' hK => ?_) ?_
    · refine for_enL (d := a) (xs := ms.map V.ref) (fun H' => H' = H1) (fun Q q => (ev_v rfl) _ (q _ rfl)) (fun H' e => by subst e; exact SqL.of (s1 _ _ ea)) (fun i => PP i []) (fun H' e => by subst e; exact ⟨s1, ⟨_, _, _, rfl⟩, ep, _, hN1, BkI.nil⟩) (fun i σ' H' h => SqL.of (h.1 _ _ ea)) ?_ (fun σ' H' h => hK _ _ (by rw [List.length_map, hml] at h; exact h))
      rintro i x _ H2 t ex ⟨s2, ⟨o3, o4, o5, rfl⟩, ep2, bk, hB, hI⟩ ht
      rw [List.getElem?_map] at ex
      obtain ⟨mi, emi, rfl⟩ := Option.map_eq_some_iff.mp ex
      have him : i < m := by rw [← hml]; exact (List.getElem?_eq_some_iff.mp emi).1
      have st : Same H2 (upd H2 t (.tup [.int (i : Int), .ref mi])) := (Same.refl H2).upd ht
      refine gpair upd_same ?_
      have s3 := s2.trans st
      have ep3 := st _ _ ep2
      have hB3 := hB.same st
      generalize upd H2 t (.tup [.int (i : Int), .ref mi]) = H3 at s3 ep3 hB3 ⊢
      show tIfS _ _ _ _ [some (.ref a), some (.ref b), some (.ref p), some (.int (i : Int)), some (.ref mi), o5] H3
      obtain ⟨vk, evk, ok⟩ := (hk.same s3).get (i := i) (by rw [hG.lk]; exact him)
      refine st_tst1 (tv_e (ev_isO (ev_at (ev_v rfl) (ev_v rfl) (s3 _ _ eb) evk) ev_c ok)) (fun hn => ?_) (fun hn => ?_)
      · rw [Option.isNone_iff_eq_none] at hn
        have hlst := s3 _ _ (hx.2 i mi emi)
        refine for_lstP (fun v H' => v = .ref mi ∧ H' = H3) (fun Q q => (ev_v rfl) _ (q _ _ ⟨rfl, rfl⟩)) ?_
        rintro _ _ ⟨rfl, rfl⟩
        refine ⟨mi, _, rfl, SqL.of hlst, fun j σ' H' => (∃ o5, σ' = [some (.ref a), some (.ref b), some (.ref p), some (.int (i : Int)), some (.ref mi), o5]) ∧ Same H H' ∧ H' p = some (.lst (ls.map V.ref)) ∧ ∃ bk, NxV H' ls bk ∧ BkI m nx kn bk i ((nx.getD i []).take j), ⟨⟨_, rfl⟩, s3, ep3, bk, hB3, by simpa using hI⟩, fun j σ' H' _ h => SqL.of (h.2.1 _ _ (hx.2 i mi emi)), ?_, ?_⟩
        · rintro j x _ H4 ex2 ⟨⟨o5', rfl⟩, s4, ep4, bk4, hB4, hI4⟩
          rw [List.getElem?_map] at ex2
          obtain ⟨c, ec, rfl⟩ := Option.map_eq_some_iff.mp ex2
          have hcm : c < m := hG.lt i c (List.mem_of_getElem? ec)
          obtain ⟨pc, epc, hpc⟩ := hB4.get (i := c) (by rw [hI4.len]; exact hcm)
          have hnp : H pc = none := (hls pc (List.mem_of_getElem? epc)).1
          have hpp : pc ≠ p := fun z => by rw [z, ep4] at hpc; have := Option.some.inj hpc; injection this with this; cases hq : bk4.getD c [] with
            | nil => rw [hq] at this; simp at this; rw [this] at epc; simp at epc
            | cons y r => rw [hq] at this; cases hls2 : ls with
              | nil => rw [hls2] at this; simp at this
              | cons l0 lr => rw [hls2] at this; simp [natV] at this
          show tDrop _ _ [some (.ref a), some (.ref b), some (.ref p), some (.int (i : Int)), some (.ref mi), some (natV c)] H4
          refine st_app1 (ev_ix (ev_v rfl) (ev_v rfl) (.inl (SqL.of ep4)) (atI_nat (j := c) (by rw [List.getElem?_map, epc]; rfl))) (ev_v rfl) hpc (by have := hI4.few c; rw [List.length_map, sizeLine_eq]; have h6 := hG.few i; have : ((nx.getD i []).take j).length ≤ 6 := Nat.le_trans (List.length_take_le' _ _) h6; omega) ?_
          refine ⟨⟨_, rfl⟩, s4.put hnp, by rw [upd_ne hpp.symm]; exact ep4, pushAt bk4 c i, nxV_push hB4 nd epc, ?_⟩
          have := hI4.push hn hcm
          rw [List.take_add_one, ec]
          exact this
        · rintro _ H4 ⟨⟨o5', rfl⟩, s4, ep4, bk4, hB4, hI4⟩
          rw [List.length_map, List.take_length] at hI4
          exact ⟨s4, ⟨_, _, _, rfl⟩, ep4, bk4, hB4, hI4.on (fun _ => rfl) (hG.few i)⟩
      · refine ⟨s3, ⟨_, _, _, rfl⟩, ep3, bk, hB3, hI.on (fun z => ?_) (Nat.zero_le _)⟩
        rw [z] at hn; cases hn
    rintro _ H4 ⟨s4, ⟨o3, o4, o5, rfl⟩, ep4, bk, hB, hI⟩
    exact st_ret (ev_v rfl) (q p ls bk H4 hp ep4 hB (hI.good hm2) (fun x hx => (hls x hx).1) s4)
end
end K23
namespace K23
open PySem L2
def isTold (o : Option W) : Bool := match o with
  | some (.even, _) => false
  | some _ => true
  | none => false
theorem isTold_iff {o : Option W} : isTold o = true ↔ ∃ w, o = some w ∧ ¬ w.1 = .even := by
  rcases o with _ | ⟨k, n⟩
  · simp [isTold]
  · cases k <;> simp [isTold]
def toldL (kn : List (Option W)) (i : Nat) : List Nat := (List.range i).filter fun j => isTold (wAt kn j)
theorem toldL_len {kn : List (Option W)} {i : Nat} : (toldL kn i).length ≤ i := by
  unfold toldL
  refine Nat.le_trans (List.length_filter_le _ _) ?_
  rw [List.length_range]; exact Nat.le_refl _
theorem comp_enL {K : PySem.W.Frag} {te tl : TE} {tt : TT} {src : List (Option Nat)} {σ rest : St} {H : Hp} {Q : VK} {d : Addr} {xs : List V} (hl : Ev tl σ H (.ref d)) (hx : H d = some (.lst xs)) (hz : xs.length ≤ sizeLine) (hs : subSt src σ = none :: none :: rest) (p : Nat → Bool) (f : Nat → V)
    (ht : ∀ (i : Nat) x (H' : Hp), xs[i]? = some x → Same H H' → ∀ R : Bool → Hp → Prop, R (p i) H' → tt (some (.int (i : Int)) :: some x :: rest) H' R)
    (he : ∀ (i : Nat) x (H' : Hp), xs[i]? = some x → p i = true → Same H H' → Ev te (some (.int (i : Int)) :: some x :: rest) H' (f i))
    (q : ∀ H' d, Same H H' → H' d = none → Q (.ref d) (upd H' d (.lst (((List.range xs.length).filter p).map f)))) : tComp (iEnum K tl) (gTup K 2 (gCons (gName 0) (gCons (gName 1) gNil))) tt te src σ H Q := by
  refine hl _ ⟨⟨xs, SqL.of hx⟩, ?_⟩
  refine comp_inv xs.length (fun i ys σ' H' => Same H H' ∧ (∃ o0 o1, σ' = o0 :: o1 :: rest) ∧ ys = ((List.range i).filter p).map f) hz (fun i ys σ H h => by rw [h.2.2, List.length_map]; refine Nat.le_trans (List.length_filter_le _ _) ?_; rw [List.length_range]; exact Nat.le_refl _)
    (fun i ys σ H' h hi => ⟨xs, xs[i], SqL.of (h.1 _ _ hx), List.getElem?_eq_getElem hi⟩) (fun ys σ H' h => ⟨xs, SqL.of (h.1 _ _ hx), Nat.le_refl _⟩) ⟨Same.refl H, ⟨_, _, hs⟩, rfl⟩ ?_ ?_
  · rintro i ys _ H1 x H2 hi ⟨s1, ⟨o0, o1, rfl⟩, rfl⟩ ⟨t, wv, rfl, ht0, rfl, hxx⟩ Kt Kf kt kf
    have ex := hxx xs (SqL.of (s1 _ _ hx))
    have s2 : Same H (upd H1 t (.tup [.int (i : Int), wv])) := s1.upd ht0
    refine gpair upd_same ?_
    refine ht i wv _ ex s2 _ ?_
    have e1 : (List.range (i + 1)).filter p = (List.range i).filter p ++ (if p i = true then [i] else []) := by
      rw [List.range_succ, List.filter_append]
      congr 1
      by_cases h : p i = true
      · rw [if_pos h]; simp [h]
      · rw [if_neg h]; simp [h]
    by_cases h : p i = true
    · rw [if_pos h]
      refine he i wv _ ex h s2 _ (kt _ _ _ ⟨s2, ⟨_, _, rfl⟩, ?_⟩)
      rw [e1, if_pos h, List.map_append]; rfl
    · rw [if_neg h]
      refine kf _ _ ⟨s2, ⟨_, _, rfl⟩, ?_⟩
      rw [e1, if_neg h, List.append_nil]
  · rintro ys _ H1 dd ⟨s1, _, rfl⟩ hd
    exact q H1 dd s1 hd
section
variable {P : Program} {w : World} {K : PySem.W.Frag} {mg : Str → Option Value} {base : Heap} {aE : Addr}
abbrev lamQ : Str := (("latest_first" : Str) ++ (".<locals>." : Str)) ++ ("<lambda>" : Str)
abbrev lamP : Pos := ⟨12, 28, 12, 59⟩
theorem ok_latest_first {f c Pt : Addr} {oc kV doc pm ct : Value} {od an : Option Addr} {osl : Array (Option Value)} (lk : K.lookup f = some ⟨oc, od, .func (PySem.W.fnOf "latest_first" "latest_first" (defArgs s_latest_first) (defBody s_latest_first) (defScope s_latest_first) .none kV doc pm an (.ref c) ct), osl⟩)
    (hcd : PySem.W.codeIn K (.ref c) "latest_first" = true) (hC : PySem.W.codeHdIn K c Pt = true) (hB : BM mg base) (T : Txt mg aE) : FnOk P w K mg base CX0 2 f (PySem.W.fnOf "latest_first" "latest_first" (defArgs s_latest_first) (defBody s_latest_first) (defScope s_latest_first) .none kV doc pm an (.ref c) ct) ["known"] (spLatest K Pt lamQ lamP) := by
  refine fn_of lk hcd sc_latest_first (fun vs H Q E h => ?_) (fun A outer s H vs Q E hr h => ?_)
  · obtain ⟨b, m, nx, kn, vk, rfl, _⟩ := h
    rfl
  · obtain ⟨b, m, nx, kn, vk, rfl, eb, hk, hG, hT, q⟩ := h
    have hu := hu20 hr
    have hm2 := hG.m2
    have hcode : ((cxOf CX0 P w K mg base ["known", "told"] "latest_first" (defScope s_latest_first) f (.ref c) A outer s H E).nox).env.code = .ref c := rfl
    have hcl : closureFor lamScope ((cxOf CX0 P w K mg base ["known", "told"] "latest_first" (defScope s_latest_first) f (.ref c) A outer s H E).nox).env = pure [(("known" : Str), s.heap.objs.size + 1)] := rfl
    have hcc : ((cxOf CX0 P w K mg base ["known", "told"] "latest_first" (defScope s_latest_first) f (.ref c) A outer s H E).nox).env.cells.lookup ("known" : Str) = some (s.heap.objs.size + 1) := rfl
    have hkind : ((cxOf CX0 P w K mg base ["known", "told"] "latest_first" (defScope s_latest_first) f (.ref c) A outer s H E).nox).env.kindOf "known" = some .cell := rfl
    refine ⟨_, PSs.nox ((pss_cons (ps_setC (i := 1) rfl (cscope (N := ["number", "word"]) (src := [none, none]) (defScope s_latest_first) ["known", "told"]) (kenum K T.enumerate (cv 0)) (fun _ _ _ => (kgt K (n := 2) (pgs_cons (pg_name' (i := 0) ["number", "word"]) (pgs_cons (pg_name' (i := 1) ["number", "word"]) pgs_nil)))) (fun _ _ _ => (pifs_one (PW.pt (pw_and (ktcmp K hu (cv 1) pe_non) (pw_and1 (ktcmp K hu (kix K (cv 1) pe_int) pe_str)))))) (fun _ _ _ => (cv 0)) sc_latest_first.nd rfl (Or.inl rfl) rfl (Or.inl rfl))
      (pss_one (ps_ret (pe_sortkey (j := 0) (jb := 0) hr hcode hC hB hcl hcc hkind rfl rfl T.sorted bo_sorted (cv 1)))))), ?_⟩
    show tSeq _ _ _ [some (.ref b), none] H
    have hkl : vk.length = m := by rw [hk.1, hG.lk]
    refine st_asg (fun v H' => ∃ d, v = .ref d ∧ H' d = some (.lst ((toldL kn m).map natV)) ∧ Same H H') (fun Q q => ?_) ?_
    · refine comp_enL (d := b) (xs := vk) (rest := []) (ev_v rfl) eb (by rw [hkl, sizeLine_eq]; omega) rfl (fun j => isTold (wAt kn j)) natV (fun i x H' ex s1 R r => ?_) (fun i x H' ex hp s1 => ev_v rfl) fun H' d s1 hd => ?_
      · have ow := (hk.same s1).2 i x ex
        refine tandh_k (tv_e (ev_isnotO (ev_v rfl) ev_c ow)) (fun hn => ?_) (fun hn => ?_)
        · obtain ⟨e, he⟩ := Option.isSome_iff_exists.mp hn
          rw [he] at ow
          obtain ⟨ta, rfl, ht⟩ := ow.som
          refine (tv_e (ev_nes (ev_ix (ev_v rfl) ev_c (.inr ht) (atI_nat (j := 0) rfl)) ev_c)) _ ?_
          have e2 : (!decide (wkS e.1 = ("even" : Str))) = isTold (wAt kn i) := by
            rw [he]
            rcases e with ⟨k, n⟩
            cases k <;> rfl
          rw [e2]; exact r
        · have e2 : isTold (wAt kn i) = false := by
            rw [Option.isSome_eq_false_iff, Option.isNone_iff_eq_none] at hn
            rw [hn]; rfl
          rw [e2] at r; exact r
      · rw [hkl]
        exact q _ _ ⟨d, rfl, upd_same, s1.upd hd⟩
    rintro _ H1 ⟨d, rfl, ed, s1⟩
    show cVar 1 [some (.ref b), some (.ref d)] H1 (KeyR K Pt lamQ lamP 0 _ _)
    refine (ev_v (n := 1) rfl) _ ?_
    have hT1 := hT.same s1
    have hlen := toldL_len (kn := kn) (i := m)
    refine ⟨d, (toldL kn m).map fun (n : Nat) => (n : Int), b, vk, fun n => numW (wAt kn n.toNat), rfl, by rw [← nat_ints]; exact SqL.of ed, by rw [List.length_map]; omega, rfl, SqL.of (s1 _ _ eb), fun n hn => ?_, hT1, fun D ns' H2 kk hT2 hD hp hw => ?_⟩
    · obtain ⟨j, hj, rfl⟩ := List.mem_map.mp hn
      obtain ⟨hjm, hjt⟩ := List.mem_filter.mp hj
      have hjm := List.mem_range.mp hjm
      obtain ⟨e, he, _⟩ := isTold_iff.mp hjt
      obtain ⟨v, ev, ov⟩ := (hk.same s1).get (i := j) (by rw [hG.lk]; exact hjm)
      rw [he] at ov
      obtain ⟨ta, rfl, ht⟩ := ov.som
      refine ⟨by omega, ta, .str (wkS e.1), by rw [Int.toNat_natCast]; exact ev, ?_⟩
      show SqT K H1 ta [_, .int (numW (wAt kn ((j : Int).toNat)))]
      rw [Int.toNat_natCast, he]
      exact ht
    · obtain ⟨ps, hps⟩ := hT1.tbl
      have hmem : ∀ n ∈ ns', 0 ≤ n := fun n hn => by
        obtain ⟨j, _, rfl⟩ := List.mem_map.mp (hp.mem_iff.mp hn)
        omega
      have back : (ns'.map Int.toNat).map (fun (n : Nat) => (n : Int)) = ns' := by
        rw [List.map_map]
        refine (List.map_congr_left fun n hn => ?_).trans (List.map_id _)
        show ((n.toNat : Nat) : Int) = n
        have := hmem n hn
        omega
      have hp2 : (ns'.map Int.toNat).Perm (toldL kn m) := by
        have := hp.map Int.toNat
        rw [List.map_map] at this
        have e : (toldL kn m).map (Int.toNat ∘ fun (n : Nat) => (n : Int)) = toldL kn m := by
          refine (List.map_congr_left fun n hn => ?_).trans (List.map_id _)
          rfl
        rw [e] at this
        exact this
      have hD0 : H D = none := by
        cases z : H D with
        | none => rfl
        | some u =>
          obtain ⟨ps', hps'⟩ := hT2.tbl
          by_cases hDP : D = Pt
          · rw [hDP, hps'] at hD; cases hD
          · rw [kk D u (s1 D u z) hDP] at hD; cases hD
      refine q D (ns'.map Int.toNat) _ hD0 (by rw [upd_same, nat_ints, back]) (fun i => ?_) ?_ ?_ (fun x u e n => ?_) ?_
      · rw [hp2.mem_iff]
        unfold toldL
        rw [List.mem_filter, List.mem_range, isTold_iff]
        constructor
        · exact fun h => h.2
        · rintro ⟨e, he, hne⟩
          refine ⟨?_, e, he, hne⟩
          exact Nat.lt_of_not_le fun z => by rw [wAt_ge (by rw [hG.lk]; exact z)] at he; cases he
      · exact hp2.nodup_iff.mpr (List.Pairwise.filter _ List.nodup_range)
      · rw [List.pairwise_map]
        exact hw
      · rw [upd_ne (fun z => by rw [z, hD0] at e; cases e)]
        exact kk x u (s1 _ _ e) n
      · rcases hT2 with z | ⟨c', oc', vs', t', z1, z2, z3⟩
        · exact .inl (by rw [upd_ne (ne_of_none z hD)]; exact z)
        · exact .inr ⟨c', oc', vs', t', by rw [upd_ne (ne_of_none z1 hD)]; exact z1, by rw [upd_ne (ne_of_none z2 hD)]; exact z2, z3⟩
end
end K23
namespace K23
open PySem L2
section
variable {P : Program} {w : World} {K : PySem.W.Frag} {mg : Str → Option Value} {base : Heap} {aE : Addr}
theorem ok_next_wave {f : Addr} {fd : FuncData} (F : Fun K "next_wave" "next_wave" s_next_wave f fd) (T : Txt mg aE) : FnOk P w K mg base CX0 1 f fd ["wave", "words", "back", "left"] (spWave K) := by
  refine F.ok sc_next_wave (fun vs H Q E h => ?_) (fun cdv A outer s H vs Q E hr h => ?_)
  · obtain ⟨dv, dw, p, dl, m, nx, bk, kn, ws, lf, ls, N, Dn, todo, waiting, rfl, _⟩ := h
    rfl
  · obtain ⟨dv, dw, p, dl, m, nx, bk, kn, ws, lf, ls, N, Dn, todo, waiting, rfl, hdv, n1, n2, hWk, hB, hm, hI, q⟩ := h
    have hu := hu20 hr
    refine ⟨_, (pss_cons (ps_set (i := 4) sc_next_wave.nd rfl (Or.inl rfl) (pe_lst pa_nil))
      (pss_cons (ps_for PassesOwn.never rfl (kpl K (cv 0)) (pg_name (i := 5) sc_next_wave.nd rfl (Or.inl rfl)) (pss_cons (ps_set (i := 6) sc_next_wave.nd rfl (Or.inl rfl) (kix K (cv 1) (cv 5)))
      (pss_one (ps_for PassesOwn.never rfl (kpl K (kix K (cv 2) (cv 5))) (pg_name (i := 7) sc_next_wave.nd rfl (Or.inl rfl)) (pss_cons (ps_if (ktcmp K hu (kix K (cv 1) (cv 7)) pe_non) (pss_one ps_continue) pss_nil)
      (pss_cons (ps_augS (cv 3) (cv 7) get_I pe_int ip_sub set_list)
      (pss_cons (ps_if (ktcmp K hu (kix K (cv 6) pe_int) pe_str) (pss_one (ps_asg (pe_tup (pac pe_str (pac (ce_bin (kix K (cv 6) pe_int) pe_int) pa_nil))) (pg_sub (cv 1) (cv 7) set_list))) (pss_one (ps_if (ktcmp K hu (kix K (cv 3) (cv 7)) pe_int) (pss_one (ps_asg (pe_tup (pac pe_str (pac (ce_bin (kix K (cv 6) pe_int) pe_int) pa_nil))) (pg_sub (cv 1) (cv 7) set_list))) pss_nil)))
      (pss_one (ps_if (ktcmp K hu (kix K (cv 1) (cv 7)) pe_non) (pss_one (ps_expr (ce_app (cv 4) (cv 7)))) pss_nil)))))))))
      (pss_one (ps_ret (cv 4))))), ?_⟩
    show tSeq _ _ _ [some (.ref dv), some (.ref dw), some (.ref p), some (.ref dl), none, none, none, none] H
    refine st_nil fun pf hpf => ?_
    have hfw : pf ≠ dw := fun z => by obtain ⟨vs, e, _⟩ := hWk.wds; rw [← z, hpf] at e; cases e
    have hfl : pf ≠ dl := fun z => by have e := hWk.lft; rw [← z, hpf] at e; cases e
    have hfp : pf ≠ p := fun z => by have e := hWk.bks; rw [← z, hpf] at e; cases e
    have hfs : ∀ x ∈ ls, x ≠ pf := fun x hx z => by
      obtain ⟨i, hi, e⟩ := List.mem_iff_getElem.mp hx
      have e2 := hWk.bkv.2 i x (by rw [List.getElem?_eq_getElem hi, e])
      rw [z, hpf] at e2; cases e2
    show tSeq _ _ _ [some (.ref dv), some (.ref dw), some (.ref p), some (.ref dl), some (.ref pf), none, none, none] _
    have s0 : Same2 dw dl H (upd H pf (.lst [])) := (Same2.refl dw dl H).put hpf
    let PP : List Nat → St → Hp → Prop := fun rest σ' H' => (∃ o5 o6 o7, σ' = [some (.ref dv), some (.ref dw), some (.ref p), some (.ref dl), some (.ref pf), o5, o6, o7]) ∧ Same2 dw dl H H' ∧ ∃ (found : List Nat) (Dn' : Nat → Bool) (ws' : List (Option W)) (lf' : List Int), H' pf = some (.lst (found.map natV)) ∧ WkAt K H' dw dl p ls bk ws' lf' ∧ (∀ c2, WInv nx kn m N Dn' c2 [] rest found waiting ws' lf') ∧ (∀ x, Dn x = true → Dn' x = true) ∧ ∀ x ∈ todo, x ∈ rest ∨ Dn' x = true
    refine tSeq_of (PP []) (fun K' hK => ?_) ?_
    · refine for_lstP (fun v H' => v = .ref dv ∧ H' = upd H pf (.lst [])) (fun Q q => (ev_v rfl) _ (q _ _ ⟨rfl, rfl⟩)) ?_
      rintro _ _ ⟨rfl, rfl⟩
      refine ⟨dv, todo.map natV, rfl, SqL.of (s0 _ _ hdv n1 n2), fun i σ' H' => PP (todo.drop i) σ' H', ⟨⟨_, _, _, rfl⟩, s0, [], Dn, ws, lf, upd_same, hWk.same ((Same.refl H).upd hpf), hI, fun x h => h, fun x h => .inl h⟩, fun i σ' H' _ h => SqL.of (h.2.1 _ _ hdv n1 n2), ?_, fun σ' H' h => hK _ _ (by rw [List.length_map, List.drop_length] at h; exact h)⟩
      rintro i x _ H1 ex ⟨⟨o5, o6, o7, rfl⟩, s1, found, D1, ws1, lf1, ef, hW1, hI1, hD1, hD2⟩
      rw [List.getElem?_map] at ex
      obtain ⟨c, ec, rfl⟩ := Option.map_eq_some_iff.mp ex
      have hdrop : todo.drop i = c :: todo.drop (i + 1) := by
        obtain ⟨hi, e⟩ := List.getElem?_eq_some_iff.mp ec
        rw [← e]; exact List.drop_eq_getElem_cons hi
      rw [hdrop] at hI1 hD2
      obtain ⟨_, wc, hwc, hne, hN⟩ := (hI1 0).td c List.mem_cons_self
      have hcm : c < m := (hI1 0).lt hwc
      obtain ⟨vs1, ew1, hV1⟩ := hW1.wds
      obtain ⟨vc, evc, oc⟩ := hV1.get (i := c) (by rw [(hI1 0).lw]; exact hcm)
      rw [hwc] at oc
      obtain ⟨ta, rfl, hta⟩ := oc.som
      show tSeq _ _ _ [some (.ref dv), some (.ref dw), some (.ref p), some (.ref dl), some (.ref pf), some (natV c), o6, o7] H1
      refine st_set (ev_at (ev_v rfl) (ev_v rfl) ew1 evc) ?_
      show tFor _ _ _ _ [some (.ref dv), some (.ref dw), some (.ref p), some (.ref dl), some (.ref pf), some (natV c), some (.ref ta), o7] H1
      obtain ⟨pc, epc, hpc⟩ := hW1.bkv.get (i := c) (by rw [hB.len]; exact hcm)
      have npc := hW1.nl pc (List.mem_of_getElem? epc)
      refine for_lstP (fun v H' => v = .ref pc ∧ H' = H1) (fun Q q => (ev_ix (ev_v rfl) (ev_v rfl) (.inl (SqL.of hW1.bks)) (atI_nat (j := c) (by rw [List.getElem?_map, epc]; rfl))) _ (q _ _ ⟨rfl, rfl⟩)) ?_
      rintro _ _ ⟨rfl, rfl⟩
      let P2 : Nat → St → Hp → Prop := fun j σ' H' => (∃ o7, σ' = [some (.ref dv), some (.ref dw), some (.ref p), some (.ref dl), some (.ref pf), some (natV c), some (.ref ta), o7]) ∧ Same2 dw dl H H' ∧ SqT K H' ta [.str (wkS wc.1), .int wc.2] ∧ ∃ (found : List Nat) (ws' : List (Option W)) (lf' : List Int), H' pf = some (.lst (found.map natV)) ∧ WkAt K H' dw dl p ls bk ws' lf' ∧ wAt ws' c = some wc ∧ WInv nx kn m N D1 c ((bk.getD c []).take j) (c :: todo.drop (i + 1)) found waiting ws' lf'
      refine ⟨pc, _, rfl, SqL.of hpc, P2, ⟨⟨_, rfl⟩, s1, hta, found, ws1, lf1, ef, hW1, hwc, by simpa using hI1 c⟩, fun j σ' H' _ h => ?_, ?_, ?_⟩
      · obtain ⟨_, _, _, _, _, _, _, h, _⟩ := h
        exact SqL.of (h.bkv.2 c pc epc)
      · rintro j x _ H2 ex2 ⟨⟨o7', rfl⟩, s2, hta2, found2, ws2, lf2, ef2, hW2, hwc2, hI2⟩
        rw [List.getElem?_map] at ex2
        obtain ⟨a, ea, rfl⟩ := Option.map_eq_some_iff.mp ex2
        obtain ⟨ham, hka⟩ := hB.un c a hcm (List.mem_of_getElem? ea)
        have htk : (bk.getD c []).take (j + 1) = (bk.getD c []).take j ++ [a] := by rw [List.take_add_one, ea]; rfl
        have hcnt : ((bk.getD c []).take j).count a + 1 ≤ (nx.getD a []).count c := by
          rw [← hB.cnt c a hcm ham hka]
          have h1 : ((bk.getD c []).take (j + 1)).count a ≤ (bk.getD c []).count a := (List.take_sublist _ _).count_le a
          rw [htk, List.count_append, List.count_singleton_self] at h1
          exact h1
        have hStep := hI2.step hwc2 ham hka hcnt
        rw [← htk] at hStep
        obtain ⟨vs2, ew2, hV2⟩ := hW2.wds
        obtain ⟨va, eva, oa⟩ := hV2.get (i := a) (by rw [hI2.lw]; exact ham)
        have hvl : vs2.length = m := by rw [hV2.1, hI2.lw]
        show tSeq _ _ _ [some (.ref dv), some (.ref dw), some (.ref p), some (.ref dl), some (.ref pf), some (natV c), some (.ref ta), some (natV a)] H2
        refine st_tst (tv_e (ev_isnotO (ev_at (ev_v rfl) (ev_v rfl) ew2 eva) ev_c oa)) (fun hs => ?_) (fun hs => ?_)
        · have hsome : ¬ wAt ws2 a = none := fun z => by rw [z] at hs; cases hs
          unfold stepA at hStep
          rw [if_neg hsome] at hStep
          exact ⟨⟨_, rfl⟩, s2, hta2, found2, ws2, lf2, ef2, hW2, hwc2, hStep⟩
        have hnone : wAt ws2 a = none := by
          cases z : wAt ws2 a with
          | none => rfl
          | some u => rw [z] at hs; cases hs
        have hac : ¬ a = c := fun z => by rw [z, hwc2] at hnone; cases hnone
        unfold stepA at hStep
        rw [if_pos hnone] at hStep
        have hll : lf2.length = m := hI2.ll
        have elf : (lf2.map V.int)[a]? = some (.int (lf2.getD a 0)) := by
          rw [List.getElem?_map, List.getD_eq_getElem?_getD, List.getElem?_eq_getElem (by rw [hll]; exact ham)]; rfl
        refine st_dec (ev_v rfl) (ev_v rfl) hW2.lft elf ev_c ?_
        have emap : (lf2.map V.int).set a (.int (lf2.getD a 0 - 1)) = (lf2.set a (lf2.getD a 0 - 1)).map V.int := by rw [List.map_set]
        rw [emap]
        have s3 : Same2 dw dl H (upd H2 dl (.lst ((lf2.set a (lf2.getD a 0 - 1)).map V.int))) := s2.l
        have hW3 : WkAt K (upd H2 dl (.lst ((lf2.set a (lf2.getD a 0 - 1)).map V.int))) dw dl p ls bk ws2 (lf2.set a (lf2.getD a 0 - 1)) := hW2.setL
        have hta3 : SqT K (upd H2 dl (.lst ((lf2.set a (lf2.getD a 0 - 1)).map V.int))) ta [.str (wkS wc.1), .int wc.2] := hta2.keepL hW2.lft
        have ef3 : (upd H2 dl (.lst ((lf2.set a (lf2.getD a 0 - 1)).map V.int))) pf = some (.lst (found2.map natV)) := by rw [upd_ne hfl]; exact ef2
        have ew3 : (upd H2 dl (.lst ((lf2.set a (lf2.getD a 0 - 1)).map V.int))) dw = some (.lst vs2) := by rw [upd_ne hW2.ne]; exact ew2
        have hV3 : WsV K (upd H2 dl (.lst ((lf2.set a (lf2.getD a 0 - 1)).map V.int))) vs2 ws2 := hV2.keepL hW2.lft
        generalize upd H2 dl (.lst ((lf2.set a (lf2.getD a 0 - 1)).map V.int)) = H3 at s3 hW3 hta3 ef3 ew3 hV3 ⊢
        have i0 : ∀ (σ' : St) H', σ'[6]? = some (some (V.ref ta)) → SqT K H' ta [.str (wkS wc.1), .int wc.2] → Ev (cIx K (cVar 6) (tC (.int 0))) σ' H' (.str (wkS wc.1)) := fun σ' H' e h => ev_ix (ev_v e) ev_c (.inr h) (atI_nat (j := 0) rfl)
        have i1 : ∀ (σ' : St) H', σ'[6]? = some (some (V.ref ta)) → SqT K H' ta [.str (wkS wc.1), .int wc.2] → Ev (cIx K (cVar 6) (tC (.int 1))) σ' H' (.int wc.2) := fun σ' H' e h => ev_ix (ev_v e) ev_c (.inr h) (atI_nat (j := 1) rfl)
        have last : ∀ (ws' : List (Option W)) (vs' : List V) H', Same2 dw dl H H' → SqT K H' ta [.str (wkS wc.1), .int wc.2] → H' pf = some (.lst (found2.map natV)) → WkAt K H' dw dl p ls bk ws' (lf2.set a (lf2.getD a 0 - 1)) → H' dw = some (.lst vs') → WsV K H' vs' ws' → ws'.length = m → wAt ws' c = some wc →
            WInv nx kn m N D1 c ((bk.getD c []).take (j + 1)) (c :: todo.drop (i + 1)) (if (wAt ws' a).isSome = true then found2 ++ [a] else found2) waiting ws' (lf2.set a (lf2.getD a 0 - 1)) →
            tIfS (cTest (cCmp K .IsNot (cIx K (cVar 1) (cVar 7)) (tC .non))) (tDrop (cApp (cVar 4) (cVar 7))) tNext { nx := P2 (j + 1), ct := P2 (j + 1), bk := PP (todo.drop (i + 1)), rt := Q } [some (.ref dv), some (.ref dw), some (.ref p), some (.ref dl), some (.ref pf), some (natV c), some (.ref ta), some (natV a)] H' := by
          intro ws' vs' H' s' hta' ef' hW' ew' hV' hl' hwc' hI'
          obtain ⟨va', eva', oa'⟩ := hV'.get (i := a) (by rw [hl']; exact ham)
          refine st_tst1 (tv_e (ev_isnotO (ev_at (ev_v rfl) (ev_v rfl) ew' eva') ev_c oa')) (fun h1 => ?_) (fun h1 => ?_)
          · rw [if_pos h1] at hI'
            have hfew := hI2.few
            refine st_app1 (ev_v rfl) (ev_v rfl) ef' (by rw [List.length_map, sizeLine_eq]; omega) ?_
            refine ⟨⟨_, rfl⟩, s'.put hpf, hta'.keepL ef', found2 ++ [a], ws', _, ?_, hW'.keep ef' hfw hfl hfp hfs, hwc', hI'⟩
            rw [upd_same, List.map_append]; rfl
          · rw [if_neg (by rw [h1]; decide)] at hI'
            exact ⟨⟨_, rfl⟩, s', hta', found2, ws', _, ef', hW', hwc', hI'⟩
        have put : ∀ (k : Wk), ∀ q1 : Addr, H3 q1 = none → ∀ ws', ws' = ws2.set a (some (k, wc.2 + 1)) → WInv nx kn m N D1 c ((bk.getD c []).take (j + 1)) (c :: todo.drop (i + 1)) (found2 ++ [a]) waiting ws' (lf2.set a (lf2.getD a 0 - 1)) →
            tIfS (cTest (cCmp K .IsNot (cIx K (cVar 1) (cVar 7)) (tC .non))) (tDrop (cApp (cVar 4) (cVar 7))) tNext { nx := P2 (j + 1), ct := P2 (j + 1), bk := PP (todo.drop (i + 1)), rt := Q } [some (.ref dv), some (.ref dw), some (.ref p), some (.ref dl), some (.ref pf), some (natV c), some (.ref ta), some (natV a)] (upd (upd H3 q1 (.tup [.str (wkS k), .int (wc.2 + 1)])) dw (.lst (vs2.set a (.ref q1)))) := by
          rintro k q1 hq1 _ rfl hI'
          have sq : Same H3 (upd H3 q1 (.tup [.str (wkS k), .int (wc.2 + 1)])) := (Same.refl H3).upd hq1
          have hS : WsV K (upd H3 q1 (.tup [.str (wkS k), .int (wc.2 + 1)])) (vs2.set a (.ref q1)) (ws2.set a (some (k, wc.2 + 1))) := (hV3.same sq).set (by rw [hI2.lw]; exact ham) (OW.mk (SqT.of upd_same))
          refine last (ws2.set a (some (k, wc.2 + 1))) (vs2.set a (.ref q1)) _ ((s3.trans sq.to2).w) ((sq.tupS hta3).keepL (sq _ _ ew3)) (by rw [upd_ne hfw]; exact sq _ _ ef3) ((hW3.same sq).setW (sq _ _ ew3) hS) upd_same (hS.keepL (sq _ _ ew3)) (by rw [List.length_set]; exact hI2.lw) (by rw [wAt_set (by rw [hI2.lw]; exact ham), if_neg (fun z => hac z.symm)]; exact hwc2) ?_
          rw [wAt_set (by rw [hI2.lw]; exact ham), if_pos rfl]
          exact hI'
        refine st_two (tv_e (ev_eqs (i0 _ _ rfl hta3) ev_c)) (fun h1 => ?_) (fun h1 => ?_)
        · have hl : wc.1 = .lost := wkS_inj (of_decide_eq_true h1)
          rw [if_pos hl] at hStep
          exact asg2_k (x := .str (wkS .won)) ev_c (ev_add (i1 _ _ rfl hta3) ev_c) (fun H' => ev_v rfl) (fun H' => ev_v rfl) ew3 (by rw [hvl]; exact ham) fun q1 hq1 => put .won q1 hq1 _ rfl hStep
        · have hl : ¬ wc.1 = .lost := fun z => of_decide_eq_false h1 (by rw [z]; rfl)
          rw [if_neg hl] at hStep
          have ela : ((lf2.set a (lf2.getD a 0 - 1)).map V.int)[a]? = some (.int (lf2.getD a 0 - 1)) := by
            rw [List.getElem?_map, List.getElem?_set_self (by rw [hll]; exact ham)]; rfl
          refine st_tst1 (tv_e (ev_eq (ev_at (ev_v rfl) (ev_v rfl) hW3.lft ela) ev_c)) (fun h2 => ?_) (fun h2 => ?_)
          · rw [if_pos (of_decide_eq_true h2)] at hStep
            exact asg2_k (x := .str (wkS .lost)) ev_c (ev_add (i1 _ _ rfl hta3) ev_c) (fun H' => ev_v rfl) (fun H' => ev_v rfl) ew3 (by rw [hvl]; exact ham) fun q1 hq1 => put .lost q1 hq1 _ rfl hStep
          · rw [if_neg (of_decide_eq_false h2)] at hStep
            refine last ws2 vs2 H3 s3 hta3 ef3 hW3 ew3 hV3 hI2.lw hwc2 ?_
            rw [hnone, if_neg (by decide)]
            exact hStep
      · rintro _ H2 ⟨⟨o7', rfl⟩, s2, hta2, found2, ws2, lf2, ef2, hW2, hwc2, hI2⟩
        rw [List.length_map, List.take_length] at hI2
        refine ⟨⟨_, _, _, rfl⟩, s2, found2, fun x => D1 x || decide (x = c), ws2, lf2, ef2, hW2, fun c2 => hI2.done (fun x hx hk => hB.cnt c x hcm hx hk) c2, fun x hx => by show (D1 x || decide (x = c)) = true; rw [hD1 x hx]; rfl, fun x hx => ?_⟩
        rcases hD2 x hx with z | z
        · rcases List.mem_cons.mp z with rfl | z
          · exact .inr (by simp)
          · exact .inl z
        · exact .inr (by show (D1 x || decide (x = c)) = true; rw [z]; rfl)
    rintro _ H4 ⟨⟨o5, o6, o7, rfl⟩, s4, found, D4, ws4, lf4, ef, hW4, hI4, hD1, hD2⟩
    exact st_ret (ev_v rfl) (q pf found D4 ws4 lf4 H4 hpf ef hW4 hI4 hD1 (fun x hx => (hD2 x hx).resolve_left (by simp)) s4)
end
end K23
namespace K23
open PySem L2
structure WB (P : Program) (w : World) (K : PySem.W.Frag) (mg : Str → Option Value) (base : Heap) (Pt : Addr) : Prop where
  ways_back : Cal P w K mg base "ways_back" ["nexts", "known"] 1 (spBack K)
  latest_first : Cal P w K mg base "latest_first" ["known"] 2 (spLatest K Pt lamQ lamP)
  next_wave : Cal P w K mg base "next_wave" ["wave", "words", "back", "left"] 1 (spWave K)
section
variable {P : Program} {w : World} {K : PySem.W.Frag} {mg : Str → Option Value} {base : Heap} {aE : Addr}
theorem ok_worked {f : Addr} {fd : FuncData} {Pt : Addr} (F : Fun K "worked" "worked" s_worked f fd) (T : Txt mg aE) (C : WB P w K mg base Pt) (hE : ∀ H, SqT K H aE [.str "even", .int 0]) : FnOk P w K mg base CX0 3 f fd ["nexts", "known"] (spWorked K Pt lamQ lamP) := by
  refine F.ok sc_worked (fun vs H Q E h => ?_) (fun cdv A outer s H vs Q E hr h => ?_)
  · obtain ⟨a, b, m, nx, kn, rfl, _⟩ := h
    rfl
  · obtain ⟨a, b, m, nx, kn, rfl, hN, hG, hT, q⟩ := h
    have hu := hu20 hr
    have hm2 := hG.m2
    refine ⟨_, (pss_cons (ps_set (i := 2) sc_worked.nd rfl (Or.inl rfl) (kTy (klist K) bo_list T.list (pac (cv 1) pa_nil)))
      (pss_cons (ps_set (i := 3) sc_worked.nd rfl (Or.inl rfl) (kcall C.ways_back hr (pac (cv 0) (pac (cv 1) pa_nil))))
      (pss_cons (ps_setC (i := 4) rfl (cscope (N := ["ways"]) (src := [none]) (defScope s_worked) ["nexts", "known", "words", "back", "left", "waiting", "wave", "n"]) (kpl K (cv 0)) (fun _ _ _ => (pg_name' (i := 0) ["ways"])) (fun _ _ _ => pifs_nil) (fun _ _ _ => (kB (klen K) bo_len T.len (pac (cv 0) pa_nil))) sc_worked.nd rfl (Or.inl rfl) rfl (Or.inl rfl))
      (pss_cons (ps_set (i := 5) sc_worked.nd rfl (Or.inl rfl) (kcall C.latest_first hr (pac (cv 1) pa_nil)))
      (pss_cons (ps_set (i := 6) sc_worked.nd rfl (Or.inl rfl) (pe_lst pa_nil))
      (pss_cons (ps_while PassesOwn.never (PW.pt (pw_or (ktru K (cv 6)) (pw_or1 (ktru K (cv 5))))) (pss_cons (ps_set (i := 7) sc_worked.nd rfl (Or.inl rfl) (kix K (kix K (cv 2) (pe_ifExp (ktru K (cv 6)) (kix K (cv 6) pe_int) (kix K (cv 5) (ce_neg pe_int)))) pe_int))
      (pss_cons (ps_while PassesOwn.never (PW.pt (pw_and (ktru K (cv 5)) (pw_and1 (ktcmp K hu (kix K (kix K (cv 2) (kix K (cv 5) (ce_neg pe_int))) pe_int) (cv 7))))) (pss_one (ps_expr (ce_app (cv 6) (ce_pop (cv 5))))))
      (pss_one (ps_set (i := 6) sc_worked.nd rfl (Or.inl rfl) (kcall C.next_wave hr (pac (cv 6) (pac (cv 2) (pac (cv 3) (pac (cv 4) pa_nil))))))))))
      (pss_one (ps_ret (kcomp (cscope (N := ["word"]) (src := [none]) (defScope s_worked) ["nexts", "known", "words", "back", "left", "waiting", "wave", "n"]) (kpl K (cv 2)) (fun _ _ _ => (pg_name' (i := 0) ["word"])) (fun _ _ _ => pifs_nil) (fun _ _ _ => (pe_ifExp (ktcmp K hu (cv 0) pe_non) (kg T.EVEN) (cv 0)))))))))))), ?_⟩
    show tSeq _ _ _ [some (.ref a), some (.ref b), none, none, none, none, none, none] H
    obtain ⟨ms, ea, hx⟩ := hN.nx
    obtain ⟨ks, eb, hk⟩ := hN.kn
    have hml : ms.length = m := by rw [hx.1, hG.ln]
    refine st_asg (fun v H' => ∃ dw, v = .ref dw ∧ H dw = none ∧ H' = upd H dw (.lst ks)) (fun Q q => lis_k (ev_v rfl) (.inl (SqL.of eb)) fun l hl => q _ _ ⟨l, rfl, hl, rfl⟩) ?_
    rintro _ _ ⟨dw, rfl, hdw, rfl⟩
    have s1 : Same H (upd H dw (.lst ks)) := (Same.refl H).upd hdw
    have e1w : (upd H dw (.lst ks)) dw = some (.lst ks) := upd_same
    generalize upd H dw (.lst ks) = H1 at s1 e1w ⊢
    show tSeq _ _ _ [some (.ref a), some (.ref b), some (.ref dw), none, none, none, none, none] H1
    refine st_asg (fun v H' => ∃ (p : Addr) (ls : List Addr) (bk : List (List Nat)), v = .ref p ∧ H1 p = none ∧ H' p = some (.lst (ls.map V.ref)) ∧ NxV H' ls bk ∧ BkG m nx kn bk ∧ (∀ x ∈ ls, H1 x = none) ∧ Same H1 H') (fun Q q => cal_k (av_cons (ev_v rfl) (av_cons (ev_v rfl) av_nil)) ⟨a, b, m, nx, kn, rfl, hN.same s1, hG, fun p ls bk H' a1 a2 a3 a4 a5 a6 => q _ _ ⟨p, ls, bk, rfl, a1, a2, a3, a4, a5, a6⟩⟩) ?_
    rintro _ H2 ⟨p, ls, bk, rfl, hp1, ep2, hB2, hBG, hls1, s2⟩
    show tSeq _ _ _ [some (.ref a), some (.ref b), some (.ref dw), some (.ref p), none, none, none, none] H2
    have s12 := s1.trans s2
    let lf0 : List Int := (List.range m).map fun i => ((nx.getD i []).length : Int)
    refine st_asg (fun v H' => ∃ dl, v = .ref dl ∧ H2 dl = none ∧ H' dl = some (.lst (lf0.map V.int)) ∧ Same H2 H') (fun Q q => ?_) ?_
    · refine comp_mkL (d := a) (xs := ms.map V.ref) (rest := []) (ev_v rfl) (s12 _ _ ea) (by rw [List.length_map, hml, sizeLine_eq]; omega) rfl (fun i H' v => v = .int ((nx.getD i []).length : Int)) (fun i H H' v h s => h) (fun i x H3 e s3 Q q => ?_) (fun d' H' ys s3 hd hyl hy => ?_)
      · rw [List.getElem?_map] at e
        obtain ⟨mi, emi, rfl⟩ := Option.map_eq_some_iff.mp e
        have := ev_len (K := K) (ev_v (H := H3) (σ := [some (.ref mi)]) (n := 0) rfl) (.inl (SqL.of ((s12.trans s3) _ _ (hx.2 i mi emi))))
        rw [List.length_map] at this
        exact this _ (q _ _ rfl (Same.refl H3))
      · rw [List.length_map, hml] at hyl
        have ey : ys = lf0.map V.int := by
          apply List.ext_getElem?
          intro i
          rw [List.getElem?_map, List.getElem?_map]
          by_cases hi : i < m
          · rw [List.getElem?_range hi, List.getElem?_eq_getElem (by rw [hyl]; exact hi)]
            rw [hy i _ (List.getElem?_eq_getElem (by rw [hyl]; exact hi))]
            rfl
          · rw [List.getElem?_eq_none (by rw [hyl]; omega), List.getElem?_eq_none (by rw [List.length_range]; omega)]
            rfl
        rw [ey]
        exact q _ _ ⟨d', rfl, s3.free hd, upd_same, s3.upd hd⟩
    rintro _ H3 ⟨dl, rfl, hdl2, e3l, s3⟩
    show tSeq _ _ _ [some (.ref a), some (.ref b), some (.ref dw), some (.ref p), some (.ref dl), none, none, none] H3
    have s13 := s12.trans s3
    have hT3 := hT.same s13
    obtain ⟨ps3, hP3⟩ := hT3.tbl
    refine st_asg (fun v H' => ∃ (dg : Addr) (ns : List Nat), v = .ref dg ∧ H3 dg = none ∧ H' dg = some (.lst (ns.map natV)) ∧ (∀ i, i ∈ ns ↔ ∃ w, wAt kn i = some w ∧ ¬ w.1 = .even) ∧ ns.Nodup ∧ ns.Pairwise (fun x y => numW (wAt kn y) ≤ numW (wAt kn x)) ∧ SameT Pt H3 H' ∧ TblOk H' Pt lamQ lamP)
      (fun Q q => cal_k (av_cons (ev_v rfl) av_nil) ⟨b, m, nx, kn, ks, rfl, s13 _ _ eb, hk.same s13, hG, hT3, fun p ns H' a1 a2 a3 a4 a5 a6 a7 => q _ _ ⟨p, ns, rfl, a1, a2, a3, a4, a5, a6, a7⟩⟩) ?_
    rintro _ H4 ⟨dg, ns, rfl, hg3, e4g, hns, nnd, nso, s4, hT4⟩
    show tSeq _ _ _ [some (.ref a), some (.ref b), some (.ref dw), some (.ref p), some (.ref dl), some (.ref dg), none, none] H4
    obtain ⟨ps4, hP4⟩ := hT4.tbl
    have st4 : SameT Pt H H4 := s13.toT.trans s4
    refine st_nil fun dv hdv => ?_
    show tSeq _ _ _ [some (.ref a), some (.ref b), some (.ref dw), some (.ref p), some (.ref dl), some (.ref dg), some (.ref dv), none] (upd H4 dv (.lst []))
    have e3w : H3 dw = some (.lst ks) := (s2.trans s3) _ _ e1w
    have e3p : H3 p = some (.lst (ls.map V.ref)) := s3 _ _ ep2
    have hB3 := hB2.same s3
    have hwl : dw ≠ dl := ne_of_none (s2 _ _ e1w) hdl2
    have hpw : p ≠ dw := fun z => by rw [z, e1w] at hp1; cases hp1
    have hpl : p ≠ dl := ne_of_none ep2 hdl2
    have hlsn : ∀ x ∈ ls, x ≠ dw ∧ x ≠ dl := fun x hx => by
      obtain ⟨i, hi, e⟩ := List.mem_iff_getElem.mp hx
      refine ⟨fun z => ?_, ne_of_none (hB2.2 i x (by rw [List.getElem?_eq_getElem hi, e])) hdl2⟩
      have := hls1 x hx
      rw [z, e1w] at this; cases this
    have hlsH : ∀ x ∈ ls, ∃ y, H3 x = some (.lst y) := fun x hx => by
      obtain ⟨i, hi, e⟩ := List.mem_iff_getElem.mp hx
      exact ⟨_, hB3.2 i x (by rw [List.getElem?_eq_getElem hi, e])⟩
    have W4 : WkAt K H4 dw dl p ls bk kn lf0 := ⟨⟨ks, lst_sameT e3w hP3 s4, (hk.same s13).sameT hP3 s4⟩, lst_sameT e3l hP3 s4, lst_sameT e3p hP3 s4, hB3.sameT hP3 s4, hwl, ⟨hpw, hpl⟩, hlsn⟩
    have gn : dg ≠ dw ∧ dg ≠ dl ∧ dg ≠ p ∧ ∀ x ∈ ls, x ≠ dg := ⟨(ne_of_none e3w hg3).symm, (ne_of_none e3l hg3).symm, (ne_of_none e3p hg3).symm, fun x hx => let ⟨y, e⟩ := hlsH x hx; ne_of_none e hg3⟩
    have hlf0 : lf0.length = m := by simp [lf0]
    have I0 : ∀ c2, WInv nx kn m (-1) (fun _ => false) c2 [] [] [] ns kn lf0 := fun c2 => by
      have h0 := WInv.init (nx := nx) (kn := kn) (m := m) (lf := lf0) (waiting := ns) hG.lk hG.ne hlf0 (fun x hx => by
        show lf0.getD x 0 = _
        rw [List.getD_eq_getElem?_getD]
        show (((List.range m).map fun i => ((nx.getD i []).length : Int))[x]?).getD 0 = _
        rw [List.getElem?_map, List.getElem?_range hx]; rfl) (fun i w h => (hG.kg i w h).1) hns nnd
      exact ⟨h0.lw, h0.ll, h0.kn1, h0.ev, h0.cls, h0.dn, h0.td, h0.fd, h0.wt, h0.nt, h0.nf, h0.nw, fun x hx hk hn => let ⟨q1, q2, q3, _⟩ := h0.un x hx hk hn; ⟨q1, q2, q3, fun z => by simp at z⟩, h0.wn, h0.ls, h0.nn⟩
    have R0 : RunI K H (upd H4 dv (.lst [])) Pt lamQ lamP m nx bk kn ls dw dl p dg dv (-1) (fun _ => false) [] ns kn lf0 := by
      have sv : Same H4 (upd H4 dv (.lst [])) := (Same.refl H4).upd hdv
      have hv0 := st4.free hP4 hdv
      refine ⟨st4.put hv0, hT4.same sv, W4.same sv, upd_same, sv _ _ e4g, hv0, ⟨?_, ?_, ?_, ?_, fun x hx => ?_⟩, gn, I0, nso⟩
      · obtain ⟨_, e, _⟩ := W4.wds
        exact (ne_of_none e hdv).symm
      · exact (ne_of_none W4.lft hdv).symm
      · exact (ne_of_none W4.bks hdv).symm
      · exact (ne_of_none e4g hdv).symm
      · obtain ⟨i, hi, e⟩ := List.mem_iff_getElem.mp hx
        exact ne_of_none (W4.bkv.2 i x (by rw [List.getElem?_eq_getElem hi, e])) hdv
    generalize upd H4 dv (.lst []) = H5 at R0 ⊢
    refine tSeq_of (fun σ' H' => ∃ (dv : Addr) (o7 : Option V) (N : Int) (D : Nat → Bool) (ws : List (Option W)) (lf : List Int), σ' = [some (.ref a), some (.ref b), some (.ref dw), some (.ref p), some (.ref dl), some (.ref dg), some (.ref dv), o7] ∧ RunI K H H' Pt lamQ lamP m nx bk kn ls dw dl p dg dv N D [] [] ws lf) (fun K' hK => ?_) ?_
    · refine ⟨fun k σ' H' => ∃ (dv : Addr) (o7 : Option V) (N : Int) (D : Nat → Bool) (found waiting : List Nat) (ws : List (Option W)) (lf : List Int), σ' = [some (.ref a), some (.ref b), some (.ref dw), some (.ref p), some (.ref dl), some (.ref dg), some (.ref dv), o7] ∧ k = (List.range m).countP (fun i => !D i) ∧ RunI K H H' Pt lamQ lamP m nx bk kn ls dw dl p dg dv N D found waiting ws lf, ⟨_, dv, none, -1, _, [], ns, kn, lf0, rfl, rfl, R0⟩, ?_⟩
      rintro k _ H6 ⟨dv, o7, N, D, found, waiting, ws, lf, rfl, rfl, R⟩
      have stop : found = [] → waiting = [] → K' [some (.ref a), some (.ref b), some (.ref dw), some (.ref p), some (.ref dl), some (.ref dg), some (.ref dv), o7] H6 := by
        rintro rfl rfl
        exact hK _ _ ⟨dv, o7, N, D, ws, lf, rfl, R⟩
      refine or_tru (ev_v rfl) (ev_v rfl) R.ev R.eg (fun hne => ?_) (fun h1 h2 => ?_)
      · refine iteT ⟨_, fun σ' H' h => h, ?_⟩
        obtain ⟨y, hy⟩ : ∃ y, (∃ r, found = y :: r) ∨ (found = [] ∧ ∃ r, waiting = r ++ [y]) := by
          cases hfd : found with
          | cons y r => exact ⟨y, .inl ⟨r, rfl⟩⟩
          | nil =>
            rw [hfd] at hne
            have hw : ¬ waiting = [] := fun z => by rw [z] at hne; simp at hne
            obtain ⟨r, y, e⟩ := snoc_of hw
            exact ⟨y, .inr ⟨rfl, r, e⟩⟩
        obtain ⟨wd, hwd, hym, hNw, hfn, hwait⟩ := wave_num R.iv R.so hy
        obtain ⟨vs, ew, hV⟩ := R.wk.wds
        have hlw := (R.iv 0).lw
        have word : ∀ {H' : Hp} {vs : List V} {i : Nat} {k : W}, WsV K H' vs ws → wAt ws i = some k → ∃ ta, vs[i]? = some (.ref ta) ∧ SqT K H' ta [.str (wkS k.1), .int k.2] := fun {H' vs i k} hV h => by
          obtain ⟨v, e, o⟩ := hV.get (i := i) (by rw [hlw]; exact (R.iv 0).lt h)
          rw [h] at o
          obtain ⟨ta, rfl, ht⟩ := o.som
          exact ⟨ta, e, ht⟩
        obtain ⟨ty, ety, hty⟩ := word hV hwd
        have hidx : Ev (tIf (cTru K (cVar 6)) (cIx K (cVar 6) (tC (.int 0))) (cIx K (cVar 5) (cNeg (tC (.int 1))))) [some (.ref a), some (.ref b), some (.ref dw), some (.ref p), some (.ref dl), some (.ref dg), some (.ref dv), o7] H6 (.int (y : Int)) := by
          refine ev_ifB (tv_tru (ev_v rfl) R.ev) (fun h => ?_) (fun h => ?_)
          · rcases hy with ⟨r, rfl⟩ | ⟨rfl, _⟩
            · exact ev_ix (ev_v rfl) ev_c (.inl (SqL.of R.ev)) (atI_nat (j := 0) rfl)
            · cases h
          · rcases hy with ⟨r, rfl⟩ | ⟨rfl, r, rfl⟩
            · cases h
            · refine ev_ix (ev_v rfl) (ev_neg ev_c) (.inl (SqL.of R.eg)) ?_
              rw [List.map_append]
              exact atI_last _ _
        refine st_set (ev_ix (ev_at (ev_v rfl) hidx ew ety) ev_c (.inr hty) (atI_nat (j := 1) rfl)) ?_
        show tSeq _ _ _ [some (.ref a), some (.ref b), some (.ref dw), some (.ref p), some (.ref dl), some (.ref dg), some (.ref dv), some (.int wd.2)] H6
        let ST : List Nat → List Nat → St → Hp → Prop := fun rest pop σ' H' => waiting = rest ++ pop ∧ σ' = [some (.ref a), some (.ref b), some (.ref dw), some (.ref p), some (.ref dl), some (.ref dg), some (.ref dv), some (.int wd.2)] ∧ SameT Pt H H' ∧ TblOk H' Pt lamQ lamP ∧ WkAt K H' dw dl p ls bk ws lf ∧ H' dv = some (.lst ((found ++ pop.reverse).map natV)) ∧ H' dg = some (.lst (rest.map natV)) ∧ ∀ i ∈ pop, ∀ k, wAt kn i = some k → k.2 = wd.2
        have hdg0 : H dg = none := by
          cases z : H dg with
          | none => rfl
          | some u =>
            by_cases e : dg = Pt
            · rw [e, hP3] at hg3; cases hg3
            · rw [s13 dg u z] at hg3; cases hg3
        refine tSeq_of (fun σ' H' => ∃ rest pop, ST rest pop σ' H' ∧ ∀ i ∈ rest, ∀ k, wAt kn i = some k → wd.2 < k.2) (fun K2 hK2 => ?_) ?_
        · refine ⟨fun k σ' H' => ∃ rest pop, ST rest pop σ' H' ∧ k = rest.length, ⟨_, waiting, [], ⟨by simp, rfl, R.st, R.tb, R.wk, by simpa using R.ev, R.eg, fun i hi => by cases hi⟩, rfl⟩, ?_⟩
          rintro k2 _ H7 ⟨rest, pop, ⟨hw7, rfl, st7, tb7, wk7, ev7, eg7, hp7⟩, rfl⟩
          refine tandh_k (tv_tru (ev_v rfl) eg7) (fun h1 => ?_) (fun h1 => ?_)
          · have hr : ¬ rest = [] := fun z => by rw [z] at h1; cases h1
            obtain ⟨r2, z, rfl⟩ := snoc_of hr
            have hzw : z ∈ waiting := by rw [hw7]; simp
            obtain ⟨_, kz, hkz, _, _⟩ := (R.iv 0).wt z hzw
            have hkz' := (R.iv 0).kn1 z kz hkz
            obtain ⟨vs7, ew7, hV7⟩ := wk7.wds
            obtain ⟨tz, etz, htz⟩ := word hV7 hkz'
            have hix : Ev (cIx K (cVar 5) (cNeg (tC (.int 1)))) [some (.ref a), some (.ref b), some (.ref dw), some (.ref p), some (.ref dl), some (.ref dg), some (.ref dv), some (.int wd.2)] H7 (.int (z : Int)) := by
              refine ev_ix (ev_v rfl) (ev_neg ev_c) (.inl (SqL.of eg7)) ?_
              rw [List.map_append]
              exact atI_last _ _
            refine (tv_e (ev_eq (ev_ix (ev_at (ev_v rfl) hix ew7 etz) ev_c (.inr htz) (atI_nat (j := 1) rfl)) (ev_v rfl))) _ ?_
            by_cases hq : kz.2 = wd.2
            · rw [decide_eq_true hq]
              refine iteT ⟨_, fun σ' H' h => h, ?_⟩
              show tDrop _ _ [some (.ref a), some (.ref b), some (.ref dw), some (.ref p), some (.ref dl), some (.ref dg), some (.ref dv), some (.int wd.2)] H7
              have egs : H7 dg = some (.lst (r2.map natV ++ [natV z])) := by rw [eg7, List.map_append]; rfl
              have hev8 : (upd H7 dg (.lst (r2.map natV))) dv = some (.lst ((found ++ pop.reverse).map natV)) := by rw [upd_ne R.vn.2.2.2.1]; exact ev7
              have hlf1 := (R.iv 0).few
              have hlw1 := (R.iv 0).wfew
              have hpl1 : pop.length ≤ waiting.length := by rw [hw7, List.length_append]; omega
              refine drop_app (ev_v rfl) ⟨_, ev7⟩ (pop_k (ev_v rfl) egs ⟨_, hev8, by rw [List.length_map, List.length_append, List.length_reverse, sizeLine_eq]; omega, r2.length, by rw [List.length_append, List.length_singleton]; omega, r2, z :: pop, ⟨by rw [hw7]; simp, rfl, (st7.put hdg0).put R.v0, (tb7.keepL eg7).keepL hev8, ?_, ?_, ?_, ?_⟩, rfl⟩)
              · exact (wk7.keep eg7 R.gn.1 R.gn.2.1 R.gn.2.2.1 R.gn.2.2.2).keep hev8 R.vn.1 R.vn.2.1 R.vn.2.2.1 R.vn.2.2.2.2
              · rw [upd_same, List.reverse_cons, ← List.append_assoc, List.map_append (l₁ := found ++ pop.reverse)]; rfl
              · rw [upd_ne R.vn.2.2.2.1.symm, upd_same]
              · intro i hi k hk
                rcases List.mem_cons.mp hi with rfl | hi
                · rw [hkz] at hk; cases hk; exact hq
                · exact hp7 i hi k hk
            · rw [decide_eq_false hq]
              refine iteF (hK2 _ _ ⟨_, pop, ⟨hw7, rfl, st7, tb7, wk7, ev7, eg7, hp7⟩, rest_num ?_ hkz ?_⟩)
              · have := R.so
                rw [hw7] at this
                exact (List.pairwise_append.mp this).1
              · have := hwait z hzw kz hkz
                omega
          · have hr : rest = [] := by
              cases rest with
              | nil => rfl
              | cons x r => cases h1
            subst hr
            exact iteF (hK2 _ _ ⟨[], pop, ⟨hw7, rfl, st7, tb7, wk7, ev7, eg7, hp7⟩, fun i hi => by cases hi⟩)
        rintro _ H7 ⟨rest, pop, ⟨hw7, rfl, st7, tb7, wk7, ev7, eg7, hp7⟩, hrest⟩
        have IV : ∀ c2, WInv nx kn m wd.2 D c2 [] (found ++ pop.reverse) [] rest ws lf := fun c2 => by
          have h0 := R.iv 0
          rw [hw7] at h0
          exact h0.next hNw hfn hp7 hrest
        have hyt : y ∈ found ++ pop.reverse := by
          rcases hy with ⟨r, rfl⟩ | ⟨rfl, r, hr⟩
          · simp
          · have hyw : y ∈ waiting := by rw [hr]; simp
            rw [hw7] at hyw
            rcases List.mem_append.mp hyw with z | z
            · obtain ⟨_, kz, hkz, _⟩ := (IV 0).wt y z
              have := (IV 0).kn1 y kz hkz
              rw [hwd] at this; cases this
              have := hrest y z _ hkz
              omega
            · exact List.mem_append_right _ (List.mem_reverse.mpr z)
        obtain ⟨vs7, ew7, _⟩ := wk7.wds
        obtain ⟨ps7, hP7⟩ := tb7.tbl
        refine asg1_k (cal_k (av_cons (ev_v rfl) (av_cons (ev_v rfl) (av_cons (ev_v rfl) (av_cons (ev_v rfl) av_nil)))) ⟨dv, dw, p, dl, m, nx, bk, kn, ws, lf, ls, wd.2, D, found ++ pop.reverse, rest, rfl, ev7, R.vn.1, R.vn.2.1, wk7, hBG, hm2, IV, fun p' found' D' ws' lf' H8 hp' ep' wk8 I8 hD1 hD2 s8 => ?_⟩)
        refine ⟨(List.range m).countP (fun i => !D' i), (count_dn (List.range m) hD1).2 y (List.mem_range.mpr hym) ((IV 0).td y hyt).1 (hD2 y hyt), p', _, wd.2, D', found', rest, ws', lf', rfl, rfl, ?_⟩
        have eg8 := s8 _ _ eg7 R.gn.1 R.gn.2.1
        refine ⟨fun c u e n => ?_, tb7.same2 s8 ew7 wk7.lft, wk8, ep', eg8, st7.free hP7 hp', ⟨?_, ?_, ?_, ?_, fun x hx => ?_⟩, R.gn, I8, ?_⟩
        · have e7 := st7 c u e n
          refine s8 c u e7 (fun z => ?_) (fun z => ?_)
          · rw [z, hdw] at e; cases e
          · have : H dl = none := s12.free hdl2
            rw [z, this] at e; cases e
        · exact (ne_of_none ew7 hp').symm
        · exact (ne_of_none wk7.lft hp').symm
        · exact (ne_of_none wk7.bks hp').symm
        · exact (ne_of_none eg7 hp').symm
        · obtain ⟨i, hi, e⟩ := List.mem_iff_getElem.mp hx
          exact ne_of_none (wk7.bkv.2 i x (by rw [List.getElem?_eq_getElem hi, e])) hp'
        · have := R.so
          rw [hw7] at this
          exact (List.pairwise_append.mp this).1
      · refine iteF (stop ?_ ?_)
        · simpa using h1
        · simpa using h2
    rintro _ H6 ⟨dv, o7, N, D, ws, lf, rfl, R⟩
    obtain ⟨vs, ew, hV⟩ := R.wk.wds
    have hFol := (R.iv 0).fin
    have hlw := (R.iv 0).lw
    obtain ⟨ps6, hP6⟩ := R.tb.tbl
    show tRet _ _ _ H6
    refine comp_mkL (d := dw) (xs := vs) (rest := []) (ev_v rfl) ew (by rw [hV.1, hlw, sizeLine_eq]; omega) rfl (fun i H' v => OW K H' v (some (finW ws i))) (fun i H H' v h s => h.same s) (fun i x H7 e s7 Q q => ?_) (fun d' H' ys s7 hd hyl hy => ?_)
    · have ow := (hV.same s7).2 i x e
      refine tif_k (tv_e (ev_isO (ev_v rfl) ev_c ow)) (fun h1 => ?_) (fun h1 => ?_)
      · rw [Option.isNone_iff_eq_none] at h1
        refine ev_c _ (q _ _ ?_ (Same.refl H7))
        rw [finW_none h1]
        exact OW.mk (hE H7)
      · obtain ⟨e1, he1⟩ : ∃ e1, wAt ws i = some e1 := by
          cases z : wAt ws i with
          | none => rw [z] at h1; cases h1
          | some u => exact ⟨u, rfl⟩
        refine (ev_v rfl) _ (q _ _ ?_ (Same.refl H7))
        rw [finW_some he1, ← he1]
        exact ow
    · have sd : Same H6 (upd H' d' (.lst ys)) := s7.upd hd
      refine q d' (finW ws) _ (R.st.free hP6 (s7.free hd)) ⟨ys, upd_same, ?_⟩ hFol (R.st.trans sd.toT) (R.tb.same sd)
      refine ⟨by rw [finL_len, hyl, hV.1, hlw], fun i v e => ?_⟩
      have hi : i < m := by
        have := (List.getElem?_eq_some_iff.mp e).1
        rw [hyl, hV.1, hlw] at this; exact this
      rw [finL_at hi]
      exact (hy i v e).same ((Same.refl H').upd hd)
end
end K23
namespace K23
open PySem L2
def KnG3 (o : Option W) : Prop := ∀ k, o = some k → 0 ≤ k.2 ∧ (k.1 = .even → k.2 = 0)
def spKnown3 (K : PySem.W.Frag) : Sp := fun vs H Q _ => ∃ c : Int, vs = [.int c] ∧ ∀ v o H', OW K H' v o → KnG3 o → Same H H' → Q v H'
def spNexts3 : Sp := fun vs H Q _ => ∃ (c i : Int) (m : Nat) (b : Bool), vs = [.int c, .int i, .int m, .bl b] ∧ 1 ≤ m ∧ m ≤ 60 ∧ ∀ p ns H', H p = none → H' p = some (.lst (ns.map natV)) → (∀ n ∈ ns, n < m) → ¬ ns = [] → ns.length ≤ 6 → Same H H' → Q (.ref p) H'
def spNet3 (K : PySem.W.Frag) : Sp := fun vs H Q _ => ∃ (s : Addr) (zs : List Int), vs = [.ref s] ∧ SqL K H s (zs.map V.int) ∧ ∀ t a b m nx kn H', H' t = some (.tup [.ref a, .ref b]) → NetAt K H' a b nx kn → NetG m nx kn → H a = none → H b = none → Same H H' → Q (.ref t) H'
structure NetI3 (m i : Nat) (a b : Addr) (ms : List Addr) (nx : List (List Nat)) (kn : List (Option W)) : Prop where
  ln : nx.length = i
  lk : kn.length = i
  ab : ∀ x ∈ ms, x ≠ a ∧ x ≠ b
  lt : ∀ (j x : Nat), x ∈ nx.getD j [] → x < m
  ne : ∀ j, j < i → wAt kn j = none → ¬ nx.getD j [] = []
  few : ∀ j : Nat, (nx.getD j []).length ≤ 6
  kg : ∀ j : Nat, KnG3 (wAt kn j)
theorem NetI3.nil {m : Nat} {a b : Addr} : NetI3 m 0 a b [] [] [] := ⟨rfl, rfl, by simp, fun j x h => by simp at h, fun j h => by omega, fun j => by simp, fun j k h => by simp [wAt] at h⟩
theorem NetI3.snoc {m i : Nat} {a b p : Addr} {ms : List Addr} {nx : List (List Nat)} {kn : List (Option W)} {ns : List Nat} {o : Option W} (h : NetI3 m i a b ms nx kn) (pa : p ≠ a) (pb : p ≠ b) (n1 : ∀ n ∈ ns, n < m) (n2 : o = none → ¬ ns = []) (n3 : ns.length ≤ 6) (og : KnG3 o) : NetI3 m (i + 1) a b (ms ++ [p]) (nx ++ [ns]) (kn ++ [o]) := by
  refine ⟨by simp [h.ln], by simp [h.lk], fun x hx => ?_, fun j x hx => ?_, fun j hj hk => ?_, fun j => ?_, fun j => ?_⟩
  · rcases List.mem_append.mp hx with z | z
    · exact h.ab x z
    · rw [List.mem_singleton.mp z]; exact ⟨pa, pb⟩
  · rw [getD_snoc] at hx
    by_cases e : j = nx.length
    · rw [if_pos e] at hx; exact n1 x hx
    · rw [if_neg e] at hx; exact h.lt j x hx
  · rw [getD_snoc]
    rw [wAt_snoc] at hk
    rw [h.ln]
    rw [h.lk] at hk
    by_cases e : j = i
    · rw [if_pos e] at hk ⊢; exact n2 hk
    · rw [if_neg e] at hk ⊢; exact h.ne j (by omega) hk
  · rw [getD_snoc]
    by_cases e : j = nx.length
    · rw [if_pos e]; exact n3
    · rw [if_neg e]; exact h.few j
  · rw [wAt_snoc]
    by_cases e : j = kn.length
    · rw [if_pos e]; exact og
    · rw [if_neg e]; exact h.kg j
theorem NetI3.good {m : Nat} {a b : Addr} {ms : List Addr} {nx : List (List Nat)} {kn : List (Option W)} (h : NetI3 m m a b ms nx kn) (m1 : 1 ≤ m) (m2 : m ≤ 60) : NetG m nx kn := ⟨h.ln, h.lk, m1, m2, h.lt, h.ne, h.few, fun j k e => h.kg j k e⟩
theorem pick2_k {K : PySem.W.Frag} {a1 b1 a2 b2 ti : TE} {σ : St} {H : Hp} {Q : VK} {s1 s2 : Wk} {n i : Int} (h1 : ∀ H', Ev a1 σ H' (.str (wkS s1))) (h2 : ∀ H', Ev b1 σ H' (.int n)) (h3 : ∀ H', Ev a2 σ H' (.str (wkS s2))) (h4 : ∀ H', Ev b2 σ H' (.int n)) (hi : ∀ H', Ev ti σ H' (.int i)) (i0 : i = 0 ∨ i = 1)
    (q : ∀ v k H', (k = s1 ∨ k = s2) → OW K H' v (some (k, n)) → Same H H' → Q v H') : cIx K (tLst (tCons (tTup (tCons a1 (tCons b1 tNil))) (tCons (tTup (tCons a2 (tCons b2 tNil))) tNil))) ti σ H Q := by
  refine h1 _ _ (h2 _ _ ⟨by show 2 ≤ sizeLine; decide, fun p hp => h3 _ _ (h4 _ _ ⟨by show 2 ≤ sizeLine; decide, fun p2 hp2 => ⟨by show 2 ≤ sizeLine; decide, fun l hl => hi _ _ ?_⟩⟩)⟩)
  have s1' : Same H (upd H p (.tup [.str (wkS s1), .int n])) := (Same.refl H).upd hp
  have s2' : Same (upd H p (.tup [.str (wkS s1), .int n])) (upd (upd H p (.tup [.str (wkS s1), .int n])) p2 (.tup [.str (wkS s2), .int n])) := (Same.refl _).upd hp2
  have s3' := (Same.refl (upd (upd H p (.tup [.str (wkS s1), .int n])) p2 (.tup [.str (wkS s2), .int n]))).upd (o := .lst [.ref p, .ref p2]) hl
  rcases i0 with rfl | rfl
  · exact ⟨_, .ref p, .inl (SqL.of upd_same), rfl, q _ s1 _ (.inl rfl) (OW.mk (SqT.of ((s2'.trans s3') _ _ upd_same))) ((s1'.trans s2').trans s3')⟩
  · exact ⟨_, .ref p2, .inl (SqL.of upd_same), rfl, q _ s2 _ (.inr rfl) (OW.mk (SqT.of (s3' _ _ upd_same))) ((s1'.trans s2').trans s3')⟩
structure NB1 (P : Program) (w : World) (K : PySem.W.Frag) (mg : Str → Option Value) (base : Heap) : Prop where
  _law_cell_at : Cal P w K mg base "_law_cell_at" ["_law_script", "_law_k"] 1 (spCellAt K)
  _law_known : Cal P w K mg base "_law_known" ["_law_cell"] 1 (spKnown3 K)
  _law_nexts : Cal P w K mg base "_law_nexts" ["_law_cell", "_law_at", "_law_many", "_law_is_near"] 1 spNexts3
section
variable {P : Program} {w : World} {K : PySem.W.Frag} {mg : Str → Option Value} {base : Heap} {aE : Addr}
theorem ok__law_cell_at {f : Addr} {fd : FuncData} (F : Fun K "_law_cell_at" "_law_cell_at" s__law_cell_at f fd) (T : Txt mg aE) : FnOk P w K mg base CX0 1 f fd ["_law_script", "_law_k"] (spCellAt K) := by
  refine F.ok sc__law_cell_at (fun vs H Q E h => ?_) (fun cdv A outer s H vs Q E hr h => ?_)
  · obtain ⟨a, ns, k, rfl, _⟩ := h
    rfl
  · obtain ⟨a, ns, k, rfl, hS, k0, q⟩ := h
    have hu := hu20 hr
    refine ⟨_, (pss_cons (ps_if (ktcmp K hu (cv 1) (kB (klen K) bo_len T.len (pac (cv 0) pa_nil))) (pss_one (ps_ret (kix K (cv 0) (cv 1)))) pss_nil)
      (pss_one (ps_ret pe_int))), ?_⟩
    show tSeq _ _ _ [some (.ref a), some (.int k)] H
    unfold cellAt at q
    refine st_tst (tv_e (ev_lt (ev_v rfl) (ev_len (ev_v rfl) (.inl hS)))) (fun h => ?_) (fun h => ?_)
    · have h := of_decide_eq_true h
      rw [List.length_map] at h
      have hlt : k.toNat < ns.length := by omega
      have e : (ns.map V.int)[k.toNat]? = some (.int (ns.getD k.toNat 0)) := by
        rw [List.getElem?_map, List.getD_eq_getElem?_getD, List.getElem?_eq_getElem hlt]
        rfl
      have e2 := atI_nat e
      have ei : ((k.toNat : Nat) : Int) = k := by omega
      rw [ei] at e2
      exact st_ret (ev_ix (ev_v rfl) (ev_v rfl) (.inl hS) e2) q
    · have h := of_decide_eq_false h
      rw [List.length_map] at h
      rw [List.getD_eq_getElem?_getD, List.getElem?_eq_none (by omega)] at q
      exact st_ret ev_c q
theorem ok__law_known {f : Addr} {fd : FuncData} (F : Fun K "_law_known" "_law_known" s__law_known f fd) (T : Txt mg aE) : FnOk P w K mg base CX0 1 f fd ["_law_cell"] (spKnown3 K) := by
  refine F.ok sc__law_known (fun vs H Q E h => ?_) (fun cdv A outer s H vs Q E hr h => ?_)
  · obtain ⟨c, rfl, _⟩ := h
    rfl
  · obtain ⟨c, rfl, q⟩ := h
    have hu := hu20 hr
    refine ⟨_, (pss_cons (ps_if (ktcmp K hu (ce_bin (cv 0) pe_int) pe_int) (pss_one (ps_ret pe_non)) pss_nil)
      (pss_cons (ps_set (i := 1) sc__law_known.nd rfl (Or.inl rfl) (kix K (pe_lst (pa_consts rfl)) (ce_bin (ce_bin (cv 0) pe_int) pe_int)))
      (pss_cons (ps_if (ktcmp K hu (cv 1) pe_str) (pss_one (ps_ret (pe_tup (pac pe_str (pac pe_int pa_nil))))) pss_nil)
      (pss_cons (ps_if (ktcmp K hu (ce_bin (ce_bin (cv 0) pe_int) pe_int) pe_int) (pss_one (ps_ret (pe_tup (pac (cv 1) (pac (ce_bin (ce_bin (cv 0) pe_int) (ce_bin (ce_bin pe_int pe_int) pe_int)) pa_nil))))) pss_nil)
      (pss_one (ps_ret (pe_tup (pac (cv 1) (pac (ce_bin (ce_bin (cv 0) pe_int) pe_int) pa_nil))))))))), ?_⟩
    show tSeq _ _ _ [some (.int c), none] H
    refine st_tst (tv_e (ev_gt (ev_mod (ev_v rfl) ev_c (by decide)) ev_c)) (fun _ => ?_) (fun _ => ?_)
    · exact st_ret ev_c (q .non none H OW.non (fun k z => by cases z) (Same.refl H))
    obtain ⟨t, e, ht⟩ := pickT (ss := ["won", "lost", "lost", "even"]) (i := c / 5 % 4) (by omega) (by show _ < (4 : Int); omega)
    refine st_asg (fun v H' => v = .str t ∧ Same H H') (fun Q q => lix_k av_cs (by decide) (fun H' => (ev_mod (ev_div (ev_v rfl) ev_c ⟨by decide, by decide⟩) ev_c (by decide))) e (fun H' s => q _ _ ⟨rfl, s⟩)) ?_
    rintro _ H1 ⟨rfl, s1⟩
    show tSeq _ _ _ [some (.int c), some (.str t)] H1
    refine st_tst (tv_e (ev_eqs (ev_v rfl) ev_c)) (fun h => ?_) (fun h => ?_)
    · exact ret2_k ev_c ev_c fun p hp => q _ (some (.even, 0)) _ (OW.mk (SqT.of upd_same)) (fun k z => by cases z; exact ⟨by decide, fun _ => rfl⟩) (s1.upd hp)
    · obtain ⟨k, hk, hne⟩ : ∃ k, wkS k = t ∧ ¬ k = .even := by
        simp only [List.mem_cons, List.not_mem_nil, or_false] at ht
        rcases ht with rfl | rfl | rfl | rfl
        · exact ⟨.won, rfl, fun z => by cases z⟩
        · exact ⟨.lost, rfl, fun z => by cases z⟩
        · exact ⟨.lost, rfl, fun z => by cases z⟩
        · exact absurd rfl (of_decide_eq_false h)
      subst hk
      refine st_tst (tv_e (ev_eq (ev_mod (ev_div (ev_v rfl) ev_c ⟨by decide, by decide⟩) ev_c (by decide)) ev_c)) (fun _ => ?_) (fun _ => ?_)
      · refine ret2_k (ev_v rfl) (ev_mod (ev_div (ev_v rfl) ev_c ⟨by decide, by decide⟩) (ev_add (ev_pow ev_c ev_c ⟨by decide, by decide, by decide⟩) ev_c) (by decide)) fun p hp => q _ (some (k, c / 80 % (10 ^ 9 + 1))) _ (OW.mk (SqT.of upd_same)) (fun k' z => by cases z; exact ⟨by show 0 ≤ c / 80 % (10 ^ 9 + 1); omega, fun e => absurd e hne⟩) (s1.upd hp)
      · exact ret2_k (ev_v rfl) (ev_mod (ev_div (ev_v rfl) ev_c ⟨by decide, by decide⟩) ev_c (by decide)) fun p hp => q _ (some (k, c / 80 % 21)) _ (OW.mk (SqT.of upd_same)) (fun k' z => by cases z; exact ⟨by show 0 ≤ c / 80 % 21; omega, fun e => absurd e hne⟩) (s1.upd hp)
theorem ok__law_nexts {f : Addr} {fd : FuncData} (F : Fun K "_law_nexts" "_law_nexts" s__law_nexts f fd) (T : Txt mg aE) : FnOk P w K mg base CX0 1 f fd ["_law_cell", "_law_at", "_law_many", "_law_is_near"] spNexts3 := by
  refine F.ok sc__law_nexts (fun vs H Q E h => ?_) (fun cdv A outer s H vs Q E hr h => ?_)
  · obtain ⟨c, i, m, b, rfl, _⟩ := h
    rfl
  · obtain ⟨c, i, m, b, rfl, m1, m2, q⟩ := h
    have hu := hu20 hr
    refine ⟨_, (pss_cons (ps_set (i := 4) sc__law_nexts.nd rfl (Or.inl rfl) (pe_lst pa_nil))
      (pss_cons (ps_for PassesOwn.never rfl (kr1 T.range (pac (ce_bin pe_int (ce_bin (ce_bin (cv 0) pe_int) pe_int)) pa_nil)) (pg_name (i := 5) sc__law_nexts.nd rfl (Or.inl rfl)) (pss_cons (ps_set (i := 6) sc__law_nexts.nd rfl (Or.inl rfl) (ce_bin (ce_bin (ce_bin (ce_bin (cv 0) (ce_bin (cv 5) pe_int)) (ce_bin pe_int (cv 5))) pe_int) pe_int))
      (pss_one (ps_if (ct_val (cv 3)) (pss_one (ps_expr (ce_app (cv 4) (ce_bin (ce_bin (ce_bin (cv 1) (ce_bin (cv 6) pe_int)) pe_int) (cv 2))))) (pss_one (ps_expr (ce_app (cv 4) (ce_bin (cv 6) (cv 2)))))))))
      (pss_one (ps_ret (cv 4))))), ?_⟩
    show tSeq _ _ _ [some (.int c), some (.int i), some (.int m), some (.bl b), none, none, none] H
    refine st_nil fun p hp => ?_
    show tSeq _ _ _ [some (.int c), some (.int i), some (.int m), some (.bl b), some (.ref p), none, none] _
    let PP : Nat → St → Hp → Prop := fun j σ' H' => ∃ (ns : List Nat) (o5 o6 : Option V), σ' = [some (.int c), some (.int i), some (.int m), some (.bl b), some (.ref p), o5, o6] ∧ ns.length = j ∧ (∀ n ∈ ns, n < m) ∧ H' = upd H p (.lst (ns.map natV))
    refine tSeq_of (PP (1 + c / 1680 % 6).toNat) (fun K' hK => ?_) ?_
    · refine for_rng1 (1 + c / 1680 % 6) (fun Q q => (av_cons (ev_add ev_c (ev_mod (ev_div (ev_v rfl) ev_c ⟨by decide, by decide⟩) ev_c (by decide))) av_nil) _ q) (by omega) (by omega) PP ⟨[], none, none, rfl, rfl, by simp, rfl⟩ ?_ (fun σ' H' h => hK _ _ h)
      rintro j _ _ hj ⟨ns, o5, o6, rfl, hl, hn, rfl⟩
      show tSeq _ _ _ [some (.int c), some (.int i), some (.int m), some (.bl b), some (.ref p), some (.int (0 + (j : Int))), o6] _
      refine st_set (ev_mod (ev_mul (ev_add (ev_div (ev_v rfl) (ev_add (ev_v rfl) ev_c) (⟨by omega, by omega⟩)) (ev_mul ev_c (ev_v rfl) (.inl ⟨by decide, by decide⟩))) ev_c (.inr ⟨by decide, by decide⟩)) ev_c (by decide)) ?_
      generalize (c / (0 + (j : Int) + 1) + 7919 * (0 + (j : Int))) * 69621 % 998244353 = st
      show tIfS _ _ _ _ [some (.int c), some (.int i), some (.int m), some (.bl b), some (.ref p), some (.int (0 + (j : Int))), some (.int st)] _
      have fin : ∀ x : Int, PP (j + 1) [some (.int c), some (.int i), some (.int m), some (.bl b), some (.ref p), some (.int (0 + (j : Int))), some (.int st)] (upd (upd H p (.lst (ns.map natV))) p (.lst (ns.map natV ++ [.int (x % (m : Int))]))) := fun x => by
        have hx : (((x % (m : Int)).toNat : Nat) : Int) = x % (m : Int) := Int.toNat_of_nonneg (Int.emod_nonneg _ (by omega))
        have hy : x % (m : Int) < m := Int.emod_lt_of_pos _ (by omega)
        refine ⟨ns ++ [(x % (m : Int)).toNat], _, _, rfl, by simp [hl], fun n hn' => ?_, ?_⟩
        · rcases List.mem_append.mp hn' with z | z
          · exact hn n z
          · rw [List.mem_singleton.mp z]; omega
        · rw [upd_upd, List.map_append]
          show _ = upd H p (.lst (ns.map natV ++ [V.int (((x % (m : Int)).toNat : Nat) : Int)]))
          rw [hx]
      refine ife_k (tv_e (ev_v rfl)) (fun _ => ?_) (fun _ => ?_)
      · exact st_app1 (ev_v rfl) (ev_mod (ev_sub (ev_add (ev_v rfl) (ev_mod (ev_v rfl) ev_c (by decide))) ev_c) (ev_v rfl) (by omega)) upd_same (by rw [List.length_map, sizeLine_eq]; omega) (fin _)
      · exact st_app1 (ev_v rfl) (ev_mod (ev_v rfl) (ev_v rfl) (by omega)) upd_same (by rw [List.length_map, sizeLine_eq]; omega) (fin _)
    rintro _ _ ⟨ns, o5, o6, rfl, hl, hn, rfl⟩
    exact st_ret (ev_v rfl) (q p ns _ hp upd_same hn (fun z => by subst z; simp at hl; omega) (by omega) ((Same.refl H).upd hp))
end
end K23
namespace K23
open PySem L2
section
variable {P : Program} {w : World} {K : PySem.W.Frag} {mg : Str → Option Value} {base : Heap} {aE : Addr}
theorem ok__law_net {f : Addr} {fd : FuncData} (F : Fun K "_law_net" "_law_net" s__law_net f fd) (T : Txt mg aE) (C : NB1 P w K mg base) : FnOk P w K mg base CX0 2 f fd ["_law_script"] (spNet3 K) := by
  refine F.ok sc__law_net (fun vs H Q E h => ?_) (fun cdv A outer s H vs Q E hr h => ?_)
  · obtain ⟨s', zs, rfl, _⟩ := h
    rfl
  · obtain ⟨s', zs, rfl, hS, q⟩ := h
    have hu := hu20 hr
    refine ⟨_, (pss_cons (ps_set (i := 1) sc__law_net.nd rfl (Or.inl rfl) (ce_bin pe_int (ce_bin (kcall C._law_cell_at hr (pac (cv 0) (pac pe_int pa_nil))) pe_int)))
      (pss_cons (ps_set (i := 2) sc__law_net.nd rfl (Or.inl rfl) (kcall C._law_cell_at hr (pac (cv 0) (pac pe_int pa_nil))))
      (pss_cons (ps_set (i := 3) sc__law_net.nd rfl (Or.inl rfl) (pe_lst pa_nil))
      (pss_cons (ps_set (i := 4) sc__law_net.nd rfl (Or.inl rfl) (pe_lst pa_nil))
      (pss_cons (ps_for PassesOwn.never rfl (kr1 T.range (pac (cv 1) pa_nil)) (pg_name (i := 5) sc__law_net.nd rfl (Or.inl rfl)) (pss_cons (ps_set (i := 6) sc__law_net.nd rfl (Or.inl rfl) (ce_bin (ce_bin (ce_bin (kcall C._law_cell_at hr (pac (cv 0) (pac (ce_bin pe_int (ce_bin (cv 5) pe_int)) pa_nil))) (ce_bin pe_int (cv 5))) pe_int) pe_int))
      (pss_cons (ps_set (i := 7) sc__law_net.nd rfl (Or.inl rfl) (kcall C._law_known hr (pac (cv 6) pa_nil)))
      (pss_cons (ps_set (i := 8) sc__law_net.nd rfl (Or.inl rfl) (kcall C._law_nexts hr (pac (cv 6) (pac (cv 5) (pac (cv 1) (pac (kcmp K hu (ce_bin (cv 2) pe_int) pe_int) pa_nil))))))
      (pss_cons (ps_if (ktcmp K hu (ce_bin (ce_bin (cv 2) pe_int) pe_int) pe_int) (pss_cons (ps_set (i := 7) sc__law_net.nd rfl (Or.inl rfl) pe_non)
      (pss_cons (ps_set (i := 8) sc__law_net.nd rfl (Or.inl rfl) (pe_lst (pac (ce_bin (cv 5) pe_int) pa_nil)))
      (pss_one (ps_if (ktcmp K hu (ce_bin (cv 5) pe_int) (cv 1)) (pss_one (ps_set (i := 7) sc__law_net.nd rfl (Or.inl rfl) (kix K (pe_lst (pac (pe_tup (pac pe_str (pac (ce_bin (ce_bin (cv 2) pe_int) pe_int) pa_nil))) (pac (pe_tup (pac pe_str (pac (ce_bin (ce_bin (cv 2) pe_int) pe_int) pa_nil))) pa_nil))) (ce_bin (ce_bin (cv 2) pe_int) pe_int)))) pss_nil)))) pss_nil)
      (pss_cons (ps_if (PW.pt (pw_and (ktcmp K hu (cv 7) pe_non) (pw_and1 (PW.pt (pw_or (ktcmp K hu (ce_bin (cv 6) pe_int) pe_int) (pw_or1 (ktcmp K hu (ce_bin (cv 5) pe_int) (cv 1)))))))) (pss_one (ps_set (i := 8) sc__law_net.nd rfl (Or.inl rfl) (pe_lst pa_nil))) pss_nil)
      (pss_cons (ps_expr (ce_app (cv 4) (cv 7)))
      (pss_one (ps_expr (ce_app (cv 3) (cv 8)))))))))))
      (pss_one (ps_ret (pe_tup (pac (cv 3) (pac (cv 4) pa_nil)))))))))), ?_⟩
    show tSeq _ _ _ [some (.ref s'), none, none, none, none, none, none, none, none] H
    refine st_set (ev_add ev_c (ev_mod (ev_call (av_cons (ev_v rfl) (av_cons ev_c av_nil)) (fun Q q => ⟨_, zs, _, rfl, hS, by decide, q⟩)) ev_c (by decide))) ?_
    obtain ⟨m, em, m1, m2⟩ : ∃ m : Nat, 1 + cellAt zs 0 % 60 = (m : Int) ∧ 1 ≤ m ∧ m ≤ 60 := ⟨(1 + cellAt zs 0 % 60).toNat, by omega, by omega, by omega⟩
    rw [em]
    refine st_set (ev_call (av_cons (ev_v rfl) (av_cons ev_c av_nil)) (fun Q q => ⟨_, zs, _, rfl, hS, by decide, q⟩)) ?_
    generalize cellAt zs 1 = wy
    refine st_nil fun a ha => ?_
    refine st_nil fun b hb => ?_
    show tSeq _ _ _ [some (.ref s'), some (.int m), some (.int wy), some (.ref a), some (.ref b), none, none, none, none] _
    have hab : a ≠ b := ne_of_none upd_same hb
    have ha1 : (upd (upd H a (.lst [])) b (.lst [])) a = some (.lst []) := by rw [upd_ne hab]; exact upd_same
    have s0 : Same H (upd (upd H a (.lst [])) b (.lst [])) := ((Same.refl H).upd ha).upd hb
    have hb0 : H b = none := ((Same.refl H).upd (o := .lst []) ha).free hb
    let PP : Nat → St → Hp → Prop := fun i σ' H' => Same H H' ∧ ∃ (o5 o6 o7 o8 : Option V) (ms : List Addr) (nx : List (List Nat)) (vs : List V) (kn : List (Option W)), σ' = [some (.ref s'), some (.int m), some (.int wy), some (.ref a), some (.ref b), o5, o6, o7, o8] ∧ H' a = some (.lst (ms.map V.ref)) ∧ H' b = some (.lst vs) ∧ NxV H' ms nx ∧ WsV K H' vs kn ∧ NetI3 m i a b ms nx kn
    refine tSeq_of (PP m) (fun K' hK => ?_) ?_
    · refine for_rng1 (m : Int) (fun Q q => (av_cons (ev_v rfl) av_nil) _ q) (by omega) (by omega) PP
        ⟨s0, none, none, none, none, [], [], [], [], rfl, ha1, upd_same, ⟨rfl, fun i m e => by simp at e⟩, ⟨rfl, fun i v e => by simp at e⟩, NetI3.nil⟩ ?_ (fun σ' H' h => by rw [Int.toNat_natCast] at h; exact hK _ _ h)
      rintro i _ H1 hi ⟨s1, o5, o6, o7, o8, ms, nx, vs, kn, rfl, e1, e2, hN, hW, hI⟩
      rw [Int.toNat_natCast] at hi
      rw [Int.zero_add]
      show tSeq _ _ _ [some (.ref s'), some (.int m), some (.int wy), some (.ref a), some (.ref b), some (.int (i : Int)), o6, o7, o8] H1
      have hS1 := s1.seq hS
      refine st_set (ev_mod (ev_mul (ev_add (ev_call (av_cons (ev_v rfl) (av_cons (ev_add ev_c (ev_mod (ev_v rfl) ev_c (by decide))) av_nil)) (fun Q q => ⟨_, zs, _, rfl, hS1, by omega, q⟩)) (ev_mul ev_c (ev_v rfl) (.inl ⟨by decide, by decide⟩))) ev_c (.inr ⟨by decide, by decide⟩)) ev_c (by decide)) ?_
      generalize (cellAt zs (2 + (i : Int) % 61) + 7919 * (i : Int)) * 48271 % 2147483647 = c
      show tSeq _ _ _ [some (.ref s'), some (.int m), some (.int wy), some (.ref a), some (.ref b), some (.int (i : Int)), some (.int c), o7, o8] H1
      refine st_asg (fun v H2 => ∃ o, OW K H2 v o ∧ KnG3 o ∧ Same H1 H2) (fun Q q => cal_k (av_cons (ev_v rfl) av_nil) ⟨_, rfl, fun v o H2 a1 a2 a3 => q _ _ ⟨o, a1, a2, a3⟩⟩) ?_
      rintro v H2 ⟨o, ov, og, s2⟩
      show tSeq _ _ _ [some (.ref s'), some (.int m), some (.int wy), some (.ref a), some (.ref b), some (.int (i : Int)), some (.int c), some v, o8] H2
      refine st_asg (fun u H3 => ∃ p ns, u = .ref p ∧ H2 p = none ∧ H3 p = some (.lst (ns.map natV)) ∧ (∀ n ∈ ns, n < m) ∧ ¬ ns = [] ∧ ns.length ≤ 6 ∧ Same H2 H3) (fun Q q => cal_k (av_cons (ev_v rfl) (av_cons (ev_v rfl) (av_cons (ev_v rfl) (av_cons (ev_eq (ev_mod (ev_v rfl) ev_c (by decide)) ev_c) av_nil)))) ⟨c, i, m, _, rfl, m1, m2, fun p ns H4 a0 a1 a2 a3 a4 a5 => q _ _ ⟨p, ns, rfl, a0, a1, a2, a3, a4, a5⟩⟩) ?_
      rintro _ H3 ⟨p, ns, rfl, hp2, hp3, n1, n2, n3, s3⟩
      show tSeq _ _ _ [some (.ref s'), some (.int m), some (.int wy), some (.ref a), some (.ref b), some (.int (i : Int)), some (.int c), some v, some (.ref p)] H3
      have s13 := s2.trans s3
      have hp1 : H1 p = none := s2.free hp2
      let MID : St → Hp → Prop := fun σ' H' => ∃ (v : V) (o : Option W) (p : Addr) (ns : List Nat), σ' = [some (.ref s'), some (.int m), some (.int wy), some (.ref a), some (.ref b), some (.int (i : Int)), some (.int c), some v, some (.ref p)] ∧ OW K H' v o ∧ KnG3 o ∧ H1 p = none ∧ H' p = some (.lst (ns.map natV)) ∧ ((∀ n ∈ ns, n < m) ∨ (¬ o = none ∧ i + 1 = m)) ∧ ¬ ns = [] ∧ ns.length ≤ 6 ∧ Same H1 H'
      refine st_midH MID ?_ (fun go => ?_)
      rotate_left
      · refine st_tst (tv_e (ev_eq (ev_mod (ev_div (ev_v rfl) ev_c ⟨by decide, by decide⟩) ev_c (by decide)) ev_c)) (fun _ => ?_) (fun _ => go _ _ ⟨v, o, p, ns, rfl, ov.same s3, og, hp1, hp3, .inl n1, n2, n3, s13⟩)
        refine st_set ev_c ?_
        refine st_asg (fun u H4 => ∃ p, u = .ref p ∧ H3 p = none ∧ H4 = upd H3 p (.lst [natV (i + 1)])) (fun Q q => lst_k (cons_k (v := natV (i + 1)) (by
          have := ev_add (ta := cVar 5) (tb := tC (.int 1)) (σ := [some (.ref s'), some (.int m), some (.int wy), some (.ref a), some (.ref b), some (.int (i : Int)), some (.int c), some .non, some (.ref p)]) (H := H3) (i := (i : Int)) (j := 1) (ev_v rfl) ev_c
          exact this) (nil_k ⟨by show 1 ≤ sizeLine; decide, fun p hp => q _ _ ⟨p, rfl, hp, rfl⟩⟩))) ?_
        rintro _ _ ⟨p', rfl, hp', rfl⟩
        have s4 : Same H3 (upd H3 p' (.lst [natV (i + 1)])) := (Same.refl H3).upd hp'
        have e4 : (upd H3 p' (.lst [natV (i + 1)])) p' = some (.lst ([i + 1].map natV)) := upd_same
        generalize upd H3 p' (.lst [natV (i + 1)]) = H4 at s4 e4 ⊢
        have hp1' : H1 p' = none := s13.free hp'
        show tIfS _ _ _ _ [some (.ref s'), some (.int m), some (.int wy), some (.ref a), some (.ref b), some (.int (i : Int)), some (.int c), some .non, some (.ref p')] H4
        refine st_tst1 (tv_e (ev_eq (ev_add (ev_v rfl) ev_c) (ev_v rfl))) (fun h1 => ?_) (fun h1 => ?_)
        · have h1 := of_decide_eq_true h1
          refine asg1_k (pick2_k (s1 := .lost) (s2 := .won) (n := wy / 8 % 9) (i := wy / 72 % 2) (fun H' => ev_c) (fun H' => (ev_mod (ev_div (ev_v rfl) ev_c ⟨by decide, by decide⟩) ev_c (by decide))) (fun H' => ev_c) (fun H' => (ev_mod (ev_div (ev_v rfl) ev_c ⟨by decide, by decide⟩) ev_c (by decide))) (fun H' => (ev_mod (ev_div (ev_v rfl) ev_c ⟨by decide, by decide⟩) ev_c (by decide))) (by omega) fun v' k' H5 hk' ov' s5 => ?_)
          refine go _ _ ⟨v', _, p', [i + 1], rfl, ov', fun k z => ?_, hp1', s5 _ _ e4, .inr ⟨by simp, by omega⟩, by simp, by simp, (s13.trans s4).trans s5⟩
          cases z
          refine ⟨by show 0 ≤ wy / 8 % 9; omega, fun z => ?_⟩
          have z : k' = .even := z
          rcases hk' with rfl | rfl <;> cases z
        · have h1 := of_decide_eq_false h1
          exact go _ _ ⟨.non, none, p', [i + 1], rfl, OW.non, fun k z => (by cases z), hp1', e4, .inl (fun n hn => by rw [List.mem_singleton.mp hn]; omega), by simp, by simp, s13.trans s4⟩
      clear hp2 hp3 n1 n2 n3 s3 s13 hp1 ov og s2
      rintro _ H4 ⟨v, o, p, ns, rfl, ov, og, hp1, hp4, n1, n2, n3, s4⟩
      refine st_midH (fun σ' H' => ∃ p ns, σ' = [some (.ref s'), some (.int m), some (.int wy), some (.ref a), some (.ref b), some (.int (i : Int)), some (.int c), some v, some (.ref p)] ∧ H1 p = none ∧ H' p = some (.lst (ns.map natV)) ∧ (∀ n ∈ ns, n < m) ∧ (o = none → ¬ ns = []) ∧ ns.length ≤ 6 ∧ Same H4 H') ?_ (fun go => ?_)
      rotate_left
      · refine st_tst (tv_and (tv_e (ev_isnotO (ev_v rfl) ev_c ov)) (fun _ => tv_or (tv_e (ev_eq (ev_mod (ev_v rfl) ev_c (by decide)) ev_c)) (fun _ => tv_e (ev_eq (ev_add (ev_v rfl) ev_c) (ev_v rfl))))) (fun h => ?_) (fun h => ?_)
        · rw [Bool.and_eq_true] at h
          exact asg1_k (lst_k (nil_k ⟨Nat.zero_le _, fun p' hp' => go _ _ ⟨p', [], rfl, s4.free hp', upd_same, by simp, (fun z => by rw [z] at h; cases h.1), by simp, (Same.refl H4).upd hp'⟩⟩))
        · refine go _ _ ⟨p, ns, rfl, hp1, hp4, ?_, fun _ => n2, n3, Same.refl H4⟩
          rcases n1 with n1 | ⟨n1, n1'⟩
          · exact n1
          · exfalso
            have ho : o.isSome = true := by
              cases o with
              | none => exact absurd rfl n1
              | some u => rfl
            have hd : decide ((i : Int) + 1 = (m : Int)) = true := decide_eq_true (by omega)
            rw [ho, hd, Bool.or_true] at h
            cases h
      clear hp1 hp4 n1 n2 n3
      rintro _ H5 ⟨p, ns, rfl, hp1, hp5, n1, n2, n3, s5⟩
      have s15 := s4.trans s5
      have pa : p ≠ a := fun z => by rw [z, e1] at hp1; cases hp1
      have pb : p ≠ b := fun z => by rw [z, e2] at hp1; cases hp1
      have hlk : kn.length = i := hI.lk
      have hlx : nx.length = i := hI.ln
      have e15 := s15 _ _ e1
      have e25 := s15 _ _ e2
      refine st_app (ev_v rfl) (ev_v rfl) e25 (by rw [hW.1, hlk, sizeLine_eq]; omega) ?_
      have hW6 : WsV K (upd H5 b (.lst (vs ++ [v]))) (vs ++ [v]) (kn ++ [o]) := ((hW.same s15).snoc (ov.same s5)).keepL e25
      have hN6 : NxV (upd H5 b (.lst (vs ++ [v]))) ms nx := ⟨hN.1, fun j x e => by rw [upd_ne (hI.ab x (List.mem_of_getElem? e)).2]; exact s15 _ _ (hN.2 j x e)⟩
      have e16 : (upd H5 b (.lst (vs ++ [v]))) a = some (.lst (ms.map V.ref)) := by rw [upd_ne hab]; exact e15
      have e26 : (upd H5 b (.lst (vs ++ [v]))) b = some (.lst (vs ++ [v])) := upd_same
      have hp6 : (upd H5 b (.lst (vs ++ [v]))) p = some (.lst (ns.map natV)) := by rw [upd_ne pb]; exact hp5
      have s06 : Same H (upd H5 b (.lst (vs ++ [v]))) := (s1.trans s15).put hb0
      generalize upd H5 b (.lst (vs ++ [v])) = H6 at hW6 hN6 e16 e26 hp6 s06 ⊢
      refine st_app1 (ev_v rfl) (ev_v rfl) e16 (by rw [List.length_map, hN.1, hlx, sizeLine_eq]; omega) ?_
      refine ⟨s06.put ha, _, _, _, _, ms ++ [p], nx ++ [ns], vs ++ [v], kn ++ [o], rfl, ?_, ?_, ?_, hW6.keepL e16, hI.snoc pa pb n1 n2 n3 og⟩
      · rw [upd_same, List.map_append]; rfl
      · rw [upd_ne (Ne.symm hab)]; exact e26
      · have hN7 : NxV (upd H6 a (.lst (ms.map V.ref ++ [.ref p]))) ms nx := ⟨hN6.1, fun j x e => by rw [upd_ne (hI.ab x (List.mem_of_getElem? e)).1]; exact hN6.2 j x e⟩
        exact hN7.snoc (by rw [upd_ne pa]; exact hp6)
    rintro _ H4 ⟨s4, o5, o6, o7, o8, ms, nx, vs, kn, rfl, e1, e2, hN, hW, hI⟩
    refine ret2_k (ev_v rfl) (ev_v rfl) fun t ht => ?_
    have st := (Same.refl H4).upd (o := .tup [.ref a, .ref b]) ht
    exact q t a b m nx kn _ upd_same ⟨⟨ms, st _ _ e1, hN.same st⟩, ⟨vs, st _ _ e2, hW.same st⟩⟩ (hI.good m1 m2) ha hb0 (s4.trans st)
end
end K23
namespace K23
open PySem L2
def spIsW (K : PySem.W.Frag) : Sp := fun vs H Q _ => ∃ (v : V) (e : W), vs = [v] ∧ OW K H v (some e) ∧ Q (.bl true) H
theorem eqT_lstT {K : PySem.W.Frag} {H : Hp} {n : Nat} {a b : Addr} {xs ys : List V} (ha : SqL K H a xs) (hb : SqL K H b ys) (hl : xs.length = ys.length) (he : ∀ (i : Nat) x y, xs[i]? = some x → ys[i]? = some y → EqD K H n x y true) : EqT K H (n + 1) (.ref a) (.ref b) true := by
  have := EqT.lst (es := fun _ => true) ha hb hl he
  rw [show ((List.range xs.length).all fun _ => true) = true from List.all_eq_true.mpr fun _ _ => rfl] at this
  exact this
theorem eqT_nx {K : PySem.W.Frag} {H : Hp} {a b : Addr} {ms ms2 : List Addr} {nx : List (List Nat)} (h1 : H a = some (.lst (ms.map V.ref))) (h2 : H b = some (.lst (ms2.map V.ref))) (n1 : NxV H ms nx) (n2 : NxV H ms2 nx) : EqT K H 20 (.ref a) (.ref b) true := by
  refine eqT_lstT (SqL.of h1) (SqL.of h2) (by rw [List.length_map, List.length_map, n1.1, n2.1]) (fun l x y e1 e2 => ?_)
  rw [List.getElem?_map] at e1 e2
  obtain ⟨p1, f1, rfl⟩ := Option.map_eq_some_iff.mp e1
  obtain ⟨p2, f2, rfl⟩ := Option.map_eq_some_iff.mp e2
  refine eqD_lst (SqL.of (n1.2 l p1 f1)) (SqL.of (n2.2 l p2 f2)) rfl (fun r x y e3 e4 => ?_)
  rw [e3] at e4
  cases e4
  obtain ⟨n, _, rfl⟩ := List.mem_map.mp (List.mem_of_getElem? e3)
  exact eqD_self rfl
theorem eqT_ks {K : PySem.W.Frag} {H : Hp} {a b : Addr} {ks : List V} {kn : List (Option W)} (h1 : H a = some (.lst ks)) (h2 : H b = some (.lst ks)) (hk : WsV K H ks kn) : EqT K H 20 (.ref a) (.ref b) true :=
  eqT_lstT (SqL.of h1) (SqL.of h2) rfl fun i x y e1 e2 => by
    rw [e1] at e2; cases e2
    exact eqD_self (ow_ref (hk.2 i x e1))
theorem kop_k {K : PySem.W.Frag} {H H' : Hp} {σ : St} {Q : VK} {te : TE} {d : Addr} {ys : List V} (h : Ev te σ H (.ref d)) (hd : H d = some (.lst ys)) (q : ∀ l, H l = none → Q (.ref l) (upd H l (.lst ys))) : cB (listA K) (tCons te tNil) σ H Q := lis_k h (.inl (SqL.of hd)) q
theorem hand_k {K : PySem.W.Frag} {H : Hp} {σ : St} {src : List (Option Nat)} {Q : VK} {t1 t2 : TE} {a b : Addr} {m : Nat} {nx : List (List Nat)} {kn : List (Option W)} {ms : List Addr} {ks : List V} (hG : NetG m nx kn) (h1 : Ev t1 σ H (.ref a)) (h2 : ∀ H', Ev t2 σ H' (.ref b)) (hs : subSt src σ = [none])
    (ea : H a = some (.lst (ms.map V.ref))) (hx : NxV H ms nx) (eb : H b = some (.lst ks))
    (q : ∀ h a2 b2 (ms2 : List Addr) H', H' h = some (.tup [.ref a2, .ref b2]) → H' a2 = some (.lst (ms2.map V.ref)) → NxV H' ms2 nx → H' b2 = some (.lst ks) → Same H H' → Q (.ref h) H') :
    tTup (tCons (tComp (iList K t1) (gName 0) tNoIf (cB (listA K) (tCons (cVar 0) tNil)) src) (tCons (cB (listA K) (tCons t2 tNil)) tNil)) σ H Q := by
  have hml : ms.length = m := by rw [hx.1, hG.ln]
  have hm2 := hG.m2
  refine tup_k (consx_k ?_)
  refine comp_mkL (d := a) (xs := ms.map V.ref) (rest := []) h1 ea (by rw [List.length_map, hml, sizeLine_eq]; omega) hs (fun i H' v => ∃ p, v = .ref p ∧ H' p = some (.lst ((nx.getD i []).map natV))) (fun i H H' v h s => let ⟨p, h1, h2⟩ := h; ⟨p, h1, s _ _ h2⟩) (fun i x H3 e s3 Q q => ?_) (fun a2 H3 ys s3 ha2 hyl hy => ?_)
  · rw [List.getElem?_map] at e
    obtain ⟨mi, emi, rfl⟩ := Option.map_eq_some_iff.mp e
    exact kop_k (H' := H3) (ev_v rfl) (s3 _ _ (hx.2 i mi emi)) fun l hl => q _ _ ⟨l, rfl, upd_same⟩ ((Same.refl H3).upd hl)
  · have s4 : Same H3 (upd H3 a2 (.lst ys)) := (Same.refl H3).upd ha2
    obtain ⟨ms2, rfl, hms2⟩ : ∃ ms2 : List Addr, ys = ms2.map V.ref ∧ ∀ (i : Nat) p, ms2[i]? = some p → H3 p = some (.lst ((nx.getD i []).map natV)) := by
      clear s4
      refine ⟨ys.map fun v => match v with | .ref p => p | _ => 0, ?_, fun i p e => ?_⟩
      · rw [List.map_map]
        apply List.ext_getElem?
        intro i
        rw [List.getElem?_map]
        cases e : ys[i]? with
        | none => rfl
        | some y =>
          obtain ⟨p, rfl, _⟩ := hy i y e
          rfl
      · rw [List.getElem?_map] at e
        obtain ⟨y, ey, e2⟩ := Option.map_eq_some_iff.mp e
        obtain ⟨p', rfl, hp'⟩ := hy i y ey
        have e2 : p' = p := e2
        subst e2
        exact hp'
    rw [List.length_map, List.length_map] at hyl
    refine consx_k (kop_k (H' := H3) (h2 _) ((s3.trans s4) _ _ eb) fun b2 hb2 => ?_)
    refine nil_k ⟨by show 2 ≤ sizeLine; decide, fun h hh => ?_⟩
    have s5 := (Same.refl (upd H3 a2 (.lst (ms2.map V.ref)))).upd (o := .lst ks) hb2
    have s7 := s5.upd (o := .tup [.ref a2, .ref b2]) hh
    refine q h a2 b2 ms2 _ upd_same (s7 _ _ upd_same) ⟨by rw [hyl, hml, hG.ln], fun i p e => s7 _ _ (s4 _ _ (hms2 i p e))⟩ ?_ ((s3.trans s4).trans s7)
    exact ((Same.refl _).upd hh) _ _ upd_same
structure FolI where
  least : Option Int
  most : Int
  others : Int
def folStep (s : FolI) (e : W) : FolI :=
  let s1 : FolI := if e.1 = .lost ∧ (s.least = none ∨ ∃ l, s.least = some l ∧ e.2 < l) then { s with least := some e.2 } else s
  if e.1 = .won then { s1 with most := maxI s1.most e.2 } else { s1 with others := s1.others + 1 }
def folRun (es : List W) : FolI := es.foldl folStep ⟨none, 0, 0⟩
def folEnd (s : FolI) : W := match s.least with
  | some l => (.won, l + 1)
  | none => if s.others = 0 then (.lost, s.most + 1) else (.even, 0)
structure FolP (es : List W) (s : FolI) : Prop where
  l1 : ∀ l, s.least = some l → (.lost, l) ∈ es ∧ ∀ e ∈ es, e.1 = .lost → l ≤ e.2
  l0 : s.least = none → ∀ e ∈ es, ¬ e.1 = .lost
  m1 : (s.most = 0 ∨ (.won, s.most) ∈ es) ∧ 0 ≤ s.most ∧ ∀ e ∈ es, e.1 = .won → e.2 ≤ s.most
  o0 : 0 ≤ s.others
  o1 : s.others = 0 ↔ ∀ e ∈ es, e.1 = .won
theorem folStep_no {s : FolI} {n : Int} (hc : ¬ (s.least = none ∨ ∃ l, s.least = some l ∧ n < l)) : folStep s (.lost, n) = { s with others := s.others + 1 } := by
  unfold folStep
  rw [if_neg (show ¬ ((Wk.lost, n).1 = Wk.won) from fun z => by cases z), if_neg (fun z => hc z.2)]
theorem folStep_yes {s : FolI} {n : Int} (hc : s.least = none ∨ ∃ l, s.least = some l ∧ n < l) : folStep s (.lost, n) = { s with least := some n, others := s.others + 1 } := by
  unfold folStep
  rw [if_neg (show ¬ ((Wk.lost, n).1 = Wk.won) from fun z => by cases z), if_pos ⟨rfl, hc⟩]
theorem FolP.nil : FolP [] ⟨none, 0, 0⟩ := ⟨fun l h => (by cases h), fun _ e h => (by cases h), ⟨.inl rfl, Int.le_refl _, fun e h => (by cases h)⟩, Int.le_refl _, ⟨fun _ e h => (by cases h), fun _ => rfl⟩⟩
theorem FolP.snoc {es : List W} {s : FolI} {e : W} (h : FolP es s) (hp : 0 ≤ e.2) : FolP (es ++ [e]) (folStep s e) := by
  have mem : ∀ {x : W} {p : Prop}, (x ∈ es → p) → (x = e → p) → x ∈ es ++ [e] → p := fun h1 h2 hx => by
    rcases List.mem_append.mp hx with z | z
    · exact h1 z
    · exact h2 (List.mem_singleton.mp z)
  obtain ⟨k, n⟩ := e
  cases k with
  | won =>
    unfold folStep
    have h1 : ¬ ((Wk.won, n).1 = .lost ∧ (s.least = none ∨ ∃ l, s.least = some l ∧ n < l)) := fun z => by cases z.1
    simp only [h1, if_false, if_true]
    obtain ⟨m1, m2, m3⟩ := @maxI_ge s.most n
    refine ⟨fun l hl => ?_, fun hl x hx => ?_, ⟨?_, ?_, fun x hx hw => ?_⟩, h.o0, ?_⟩
    · obtain ⟨a, b⟩ := h.l1 l hl
      exact ⟨List.mem_append_left _ a, fun x hx hxl => mem (fun z => b x z hxl) (fun z => by rw [z] at hxl; cases hxl) hx⟩
    · exact mem (fun z => h.l0 hl x z) (fun z => by rw [z]; simp) hx
    · rcases m3 with z | z
      · rw [z]
        rcases h.m1.1 with y | y
        · exact .inl y
        · exact .inr (List.mem_append_left _ y)
      · rw [z]; exact .inr (by simp)
    · have := h.m1.2.1
      show 0 ≤ maxI s.most n
      omega
    · exact mem (fun z => Int.le_trans (h.m1.2.2 x z hw) m1) (fun z => by rw [z]; exact m2) hx
    · rw [h.o1]
      constructor
      · exact fun z x hx => mem (fun y => z x y) (fun y => by rw [y]) hx
      · exact fun z x hx => z x (List.mem_append_left _ hx)
  | lost =>
    have ho : ∀ p : FolI, p.others = s.others + 1 → (p.others = 0 ↔ ∀ e ∈ es ++ [(Wk.lost, n)], e.1 = .won) := fun p hp => by
      have := h.o0
      constructor
      · intro z; omega
      · intro z; have := z (.lost, n) (by simp); cases this
    have hm : ∀ x ∈ es ++ [(Wk.lost, n)], x.1 = .won → x.2 ≤ s.most := fun x hx hw => mem (fun z => h.m1.2.2 x z hw) (fun z => by rw [z] at hw; cases hw) hx
    have hm1 : s.most = 0 ∨ (.won, s.most) ∈ es ++ [(Wk.lost, n)] := h.m1.1.imp id (List.mem_append_left _)
    by_cases hc : s.least = none ∨ ∃ l, s.least = some l ∧ n < l
    · rw [folStep_yes hc]
      refine ⟨fun l hl => ?_, fun hl => (by cases hl), ⟨hm1, h.m1.2.1, hm⟩, by have := h.o0; show 0 ≤ s.others + 1; omega, ho _ rfl⟩
      have hl : some n = some l := hl
      cases hl
      refine ⟨by simp, fun x hx hxl => mem (fun z => ?_) (fun z => by rw [z]; exact Int.le_refl _) hx⟩
      rcases hc with y | ⟨l, y1, y2⟩
      · exact absurd hxl (h.l0 y x z)
      · have := (h.l1 l y1).2 x z hxl
        omega
    · rw [folStep_no hc]
      have hc' : ¬ s.least = none ∧ ∀ l, s.least = some l → l ≤ n := by
        refine ⟨fun z => hc (.inl z), fun l hl => ?_⟩
        by_cases z : n < l
        · exact absurd (.inr ⟨l, hl, z⟩) hc
        · omega
      refine ⟨fun l hl => ?_, fun hl => absurd hl hc'.1, ⟨hm1, h.m1.2.1, hm⟩, by have := h.o0; show 0 ≤ s.others + 1; omega, ho _ rfl⟩
      obtain ⟨a, b⟩ := h.l1 l hl
      exact ⟨List.mem_append_left _ a, fun x hx hxl => mem (fun z => b x z hxl) (fun z => by rw [z]; exact hc'.2 l hl) hx⟩
  | even =>
    unfold folStep
    have h1 : ¬ ((Wk.even, n).1 = .lost ∧ (s.least = none ∨ ∃ l, s.least = some l ∧ n < l)) := fun z => by cases z.1
    have hw : ¬ ((Wk.even, n).1 = .won) := fun z => by cases z
    simp only [h1, hw, if_false]
    refine ⟨fun l hl => ?_, fun hl x hx => ?_, ⟨h.m1.1.imp id (List.mem_append_left _), h.m1.2.1, fun x hx hw => mem (fun z => h.m1.2.2 x z hw) (fun z => by rw [z] at hw; cases hw) hx⟩, by have := h.o0; show 0 ≤ s.others + 1; omega, ?_⟩
    · obtain ⟨a, b⟩ := h.l1 l hl
      exact ⟨List.mem_append_left _ a, fun x hx hxl => mem (fun z => b x z hxl) (fun z => by rw [z] at hxl; cases hxl) hx⟩
    · exact mem (fun z => h.l0 hl x z) (fun z => by rw [z]; simp) hx
    · have := h.o0
      constructor
      · intro z; have z : s.others + 1 = 0 := z; omega
      · intro z; have := z (.even, n) (by simp); cases this
theorem FolP.run : ∀ (es : List W), (∀ e ∈ es, 0 ≤ e.2) → FolP es (folRun es) := fun es => by
  have go : ∀ (es2 es1 : List W) (s : FolI), FolP es1 s → (∀ e ∈ es2, 0 ≤ e.2) → FolP (es1 ++ es2) (es2.foldl folStep s) := by
    intro es2
    induction es2 with
    | nil => intro es1 s h _; simpa using h
    | cons e es2 ih =>
      intro es1 s h hp
      have := ih (es1 ++ [e]) (folStep s e) (h.snoc (hp e List.mem_cons_self)) (fun x hx => hp x (List.mem_cons_of_mem _ hx))
      rw [List.append_assoc] at this
      exact this
  intro hp
  exact go es [] _ FolP.nil hp
theorem fol_end {ns : List Nat} {fw : Nat → W} {w : W} (h : FolW ns fw w) (hw : 0 ≤ w.2) (hp : ∀ x ∈ ns, 0 ≤ (fw x).2) (hne : ¬ ns = []) : folEnd (folRun (ns.map fw)) = w := by
  have P := FolP.run (ns.map fw) (fun e he => by obtain ⟨x, hx, rfl⟩ := List.mem_map.mp he; exact hp x hx)
  generalize folRun (ns.map fw) = s at P
  unfold folEnd
  rcases h with ⟨h1, ⟨x, hx, h2⟩, h3⟩ | ⟨h1, h2, x, hx, h3⟩ | ⟨h1, h2, x, hx, h3⟩
  · cases hl : s.least with
    | none => exact absurd (by rw [h2]) (P.l0 hl (fw x) (List.mem_map_of_mem hx))
    | some l =>
      obtain ⟨a, b⟩ := P.l1 l hl
      obtain ⟨y, hy, e⟩ := List.mem_map.mp a
      have b1 := b (fw x) (List.mem_map_of_mem hx) (by rw [h2])
      rw [h2] at b1
      have b1 : l ≤ w.2 - 1 := b1
      have b2 := h3 y hy l e
      exact Prod.ext h1.symm (by show l + 1 = w.2; omega)
  · have hnl : s.least = none := by
      cases hl : s.least with
      | none => rfl
      | some l =>
        obtain ⟨a, _⟩ := P.l1 l hl
        obtain ⟨y, hy, e⟩ := List.mem_map.mp a
        obtain ⟨k, _, e2⟩ := h2 y hy
        rw [e] at e2; cases e2
    have ho : s.others = 0 := P.o1.mpr fun e he => by
      obtain ⟨y, hy, rfl⟩ := List.mem_map.mp he
      obtain ⟨k, _, e2⟩ := h2 y hy
      rw [e2]
    rw [hnl]
    show (if s.others = 0 then (Wk.lost, s.most + 1) else (.even, 0)) = w
    rw [if_pos ho]
    have b1 := P.m1.2.2 (fw x) (List.mem_map_of_mem hx) (by rw [h3])
    rw [h3] at b1
    have b1 : w.2 - 1 ≤ s.most := b1
    refine Prod.ext h1.symm ?_
    show s.most + 1 = w.2
    rcases P.m1.1 with z | z
    · have := hp x hx
      rw [h3] at this
      have this : 0 ≤ w.2 - 1 := this
      omega
    · obtain ⟨y, hy, e⟩ := List.mem_map.mp z
      obtain ⟨k, hk, e2⟩ := h2 y hy
      rw [e] at e2
      cases e2
      omega
  · have hnl : s.least = none := by
      cases hl : s.least with
      | none => rfl
      | some l =>
        obtain ⟨a, _⟩ := P.l1 l hl
        obtain ⟨y, hy, e⟩ := List.mem_map.mp a
        exact absurd e (h2 y hy l)
    have ho : ¬ s.others = 0 := fun z => by
      have := P.o1.mp z (fw x) (List.mem_map_of_mem hx)
      exact h3 (fw x).2 (Prod.ext this rfl)
    rw [hnl]
    show (if s.others = 0 then (Wk.lost, s.most + 1) else (.even, 0)) = w
    rw [if_neg ho, h1]
def spFollows (K : PySem.W.Frag) : Sp := fun vs H Q _ => ∃ (d : Addr) (us : List V) (es : List W), vs = [.ref d] ∧ H d = some (.lst us) ∧ us.length = es.length ∧ (∀ (i : Nat) u e, us[i]? = some u → es[i]? = some e → OW K H u (some e)) ∧ ∀ v H', OW K H' v (some (folEnd (folRun es))) → Same H H' → Q v H'
end K23
namespace K23
open PySem L2
theorem gpairT {K : PySem.W.Frag} {σ : St} {H : Hp} {i j : Nat} {d : Addr} {a b : V} {R : St → Hp → Prop} (h : SqT K H d [a, b]) (q : R ((σ.set i (some a)).set j (some b)) H) : gTup K 2 (gCons (gName i) (gCons (gName j) gNil)) (.ref d) σ H R := ⟨d, _, rfl, h, rfl, _, _, rfl, _, _, rfl, rfl, q⟩
def lV : Option Int → V
  | none => .non
  | some l => .int l
def lN (s : FolI) (e : W) : Option Int := if e.1 = .lost ∧ (s.least = none ∨ ∃ l, s.least = some l ∧ e.2 < l) then some e.2 else s.least
theorem folStep_won {s : FolI} {e : W} (h : e.1 = .won) : folStep s e = ⟨lN s e, maxI s.most e.2, s.others⟩ := by
  unfold folStep lN
  rw [if_pos h]
  have : ¬ (e.1 = .lost ∧ (s.least = none ∨ ∃ l, s.least = some l ∧ e.2 < l)) := fun z => by rw [h] at z; cases z.1
  rw [if_neg this, if_neg this]
theorem folStep_else {s : FolI} {e : W} (h : ¬ e.1 = .won) : folStep s e = ⟨lN s e, s.most, s.others + 1⟩ := by
  unfold folStep lN
  rw [if_neg h]
  by_cases z : e.1 = .lost ∧ (s.least = none ∨ ∃ l, s.least = some l ∧ e.2 < l)
  · rw [if_pos z, if_pos z]
  · rw [if_neg z, if_neg z]
def spIsW3 (K : PySem.W.Frag) : Sp := fun vs H Q _ => ∃ (v : V) (e : W), vs = [v] ∧ OW K H v (some e) ∧ ∀ H', Same H H' → Q (.bl true) H'
section
variable {P : Program} {w : World} {K : PySem.W.Frag} {mg : Str → Option Value} {base : Heap} {aE : Addr}
theorem ok__law_follows {f : Addr} {fd : FuncData} (F : Fun K "_law_follows" "_law_follows" s__law_follows f fd) (T : Txt mg aE) : FnOk P w K mg base CX0 1 f fd ["_law_words"] (spFollows K) := by
  refine F.ok sc__law_follows (fun vs H Q E h => ?_) (fun cdv A outer s H vs Q E hr h => ?_)
  · obtain ⟨d, us, es, rfl, _⟩ := h
    rfl
  · obtain ⟨d, us, es, rfl, ed, hl, hO, q⟩ := h
    have hu := hu20 hr
    refine ⟨_, (pss_cons (ps_set (i := 1) sc__law_follows.nd rfl (Or.inl rfl) pe_non)
      (pss_cons (ps_set (i := 2) sc__law_follows.nd rfl (Or.inl rfl) pe_int)
      (pss_cons (ps_set (i := 3) sc__law_follows.nd rfl (Or.inl rfl) pe_int)
      (pss_cons (ps_for PassesOwn.never rfl (kpl K (cv 0)) (kgt K (n := 2) (pgs_cons (pg_name (i := 4) sc__law_follows.nd rfl (Or.inl rfl)) (pgs_cons (pg_name (i := 5) sc__law_follows.nd rfl (Or.inl rfl)) pgs_nil))) (pss_cons (ps_if (PW.pt (pw_and (ktcmp K hu (cv 4) pe_str) (pw_and1 (PW.pt (pw_or (ktcmp K hu (cv 1) pe_non) (pw_or1 (ktcmp K hu (cv 5) (cv 1)))))))) (pss_one (ps_set (i := 1) sc__law_follows.nd rfl (Or.inl rfl) (cv 5))) pss_nil)
      (pss_one (ps_if (ktcmp K hu (cv 4) pe_str) (pss_one (ps_set (i := 2) sc__law_follows.nd rfl (Or.inl rfl) (kB (call_maxA rfl) bo_max T.max (pac (cv 2) (pac (cv 5) pa_nil))))) (pss_one (ps_set (i := 3) sc__law_follows.nd rfl (Or.inl rfl) (ce_bin (cv 3) pe_int)))))))
      (pss_cons (ps_if (ktcmp K hu (cv 1) pe_non) (pss_one (ps_ret (pe_tup (pac pe_str (pac (ce_bin (cv 1) pe_int) pa_nil))))) pss_nil)
      (pss_cons (ps_if (ktcmp K hu (cv 3) pe_int) (pss_one (ps_ret (pe_tup (pac pe_str (pac (ce_bin (cv 2) pe_int) pa_nil))))) pss_nil)
      (pss_one (ps_ret (pe_tup (pac pe_str (pac pe_int pa_nil))))))))))), ?_⟩
    show tSeq _ _ _ [some (.ref d), none, none, none, none, none] H
    refine st_set ev_c (st_set ev_c (st_set ev_c ?_))
    show tSeq _ _ _ [some (.ref d), some .non, some (.int 0), some (.int 0), none, none] H
    let PP : List W → St → Hp → Prop := fun es σ' H' => H' = H ∧ ∃ o4 o5, σ' = [some (.ref d), some (lV (folRun es).least), some (.int (folRun es).most), some (.int (folRun es).others), o4, o5]
    refine tSeq_of (PP es) (fun K' hK => ?_) ?_
    · refine for_lstP (fun v H' => v = .ref d ∧ H' = H) (fun Q q => (ev_v rfl) _ (q _ _ ⟨rfl, rfl⟩)) ?_
      rintro _ _ ⟨rfl, rfl⟩
      refine ⟨d, us, rfl, SqL.of ed, fun i σ' H' => PP (es.take i) σ' H', ⟨rfl, none, none, rfl⟩, fun i σ' H' _ h => by rw [h.1]; exact SqL.of ed, ?_, fun σ' H' h => hK _ _ (by rw [hl, List.take_length] at h; exact h)⟩
      rintro i x _ H1 ex ⟨rfl, o4, o5, rfl⟩
      have hi : i < es.length := by rw [← hl]; exact (List.getElem?_eq_some_iff.mp ex).1
      have ee : es[i]? = some es[i] := List.getElem?_eq_getElem hi
      obtain ⟨ta, rfl, hta⟩ := (hO i x _ ex ee).som
      generalize es[i] = e at ee hta
      have hrun : folRun (es.take (i + 1)) = folStep (folRun (es.take i)) e := by
        unfold folRun
        rw [List.take_add_one, ee]
        show (es.take i ++ [e]).foldl _ _ = _
        rw [List.foldl_append]; rfl
      generalize hsg : folRun (es.take i) = sg at hrun
      refine gpairT hta ?_
      show tSeq _ _ _ [some (.ref d), some (lV sg.least), some (.int sg.most), some (.int sg.others), some (.str (wkS e.1)), some (.int e.2)] _
      refine st_midH (fun σ' H' => H' = H1 ∧ σ' = [some (.ref d), some (lV (lN sg e)), some (.int sg.most), some (.int sg.others), some (.str (wkS e.1)), some (.int e.2)]) ?_ (fun go => ?_)
      rotate_left
      · have hb : Tv (tAnd (cTest (cCmp K .Eq (cVar 4) (tC (.str "lost")))) (tOr (cTest (cCmp K .Is (cVar 1) (tC .non))) (cTest (cCmp K .Lt (cVar 5) (cVar 1))))) [some (.ref d), some (lV sg.least), some (.int sg.most), some (.int sg.others), some (.str (wkS e.1)), some (.int e.2)] H1 (decide (e.1 = .lost ∧ (sg.least = none ∨ ∃ l, sg.least = some l ∧ e.2 < l))) := by
          have h1 : Tv (cTest (cCmp K .Eq (cVar 4) (tC (.str "lost")))) [some (.ref d), some (lV sg.least), some (.int sg.most), some (.int sg.others), some (.str (wkS e.1)), some (.int e.2)] H1 (decide (wkS e.1 = "lost")) := tv_e (ev_eqs (ev_v rfl) ev_c)
          by_cases hk : e.1 = .lost
          · have e1 : decide (wkS e.1 = ("lost" : Str)) = true := by rw [hk]; rfl
            rw [e1] at h1
            cases hle : sg.least with
            | none =>
              have := tv_and h1 (fun _ => tv_or (b := false) (tv_e (ev_is_n (K := K) (ta := cVar 1) (tb := tC .non) (σ := [some (.ref d), some (lV sg.least), some (.int sg.most), some (.int sg.others), some (.str (wkS e.1)), some (.int e.2)]) (H := H1) (ev_v (by rw [hle]; rfl)) ev_c)) (fun z => by cases z) : _ → Tv (tOr (cTest (cCmp K .Is (cVar 1) (tC .non))) (cTest (cCmp K .Lt (cVar 5) (cVar 1)))) _ _ _)
              rw [hle] at this
              rw [decide_eq_true ⟨hk, .inl rfl⟩]
              exact this
            | some l =>
              have := tv_and h1 (fun _ => tv_or (tv_e (ev_is_i (K := K) (ta := cVar 1) (tb := tC .non) (i := l) (σ := [some (.ref d), some (lV sg.least), some (.int sg.most), some (.int sg.others), some (.str (wkS e.1)), some (.int e.2)]) (H := H1) (ev_v (by rw [hle]; rfl)) ev_c)) (fun z => tv_e (ev_lt (i := e.2) (j := l) (ev_v rfl) (ev_v (by rw [hle]; rfl)))) : _ → Tv (tOr (cTest (cCmp K .Is (cVar 1) (tC .non))) (cTest (cCmp K .Lt (cVar 5) (cVar 1)))) _ _ _)
              rw [hle] at this
              have e2 : decide (e.1 = .lost ∧ (some l = none ∨ ∃ l', some l = some l' ∧ e.2 < l')) = decide (e.2 < l) := by
                by_cases z : e.2 < l
                · rw [decide_eq_true z, decide_eq_true ⟨hk, .inr ⟨l, rfl, z⟩⟩]
                · rw [decide_eq_false z, decide_eq_false]
                  rintro ⟨_, y | ⟨l', y1, y2⟩⟩
                  · cases y
                  · cases y1; exact z y2
              rw [e2]
              simpa using this
          · have e1 : decide (wkS e.1 = ("lost" : Str)) = false := decide_eq_false fun z => hk (wkS_inj (b := .lost) z)
            rw [e1] at h1
            have := tv_and (b := false) h1 (u := tOr (cTest (cCmp K .Is (cVar 1) (tC .non))) (cTest (cCmp K .Lt (cVar 5) (cVar 1)))) (fun z => by cases z)
            rw [decide_eq_false (fun z => hk z.1)]
            exact this
        refine st_tst hb (fun h => ?_) (fun h => ?_)
        · have := go [some (.ref d), some (.int e.2), some (.int sg.most), some (.int sg.others), some (.str (wkS e.1)), some (.int e.2)] H1 ⟨rfl, by unfold lN; rw [if_pos (of_decide_eq_true h)]; rfl⟩
          exact st_set1 (v := .int e.2) (ev_v rfl) this
        · refine go _ _ ⟨rfl, ?_⟩
          unfold lN
          rw [if_neg (of_decide_eq_false h)]
      rintro _ _ ⟨rfl, rfl⟩
      refine ife_k (tv_e (ev_eqs (ev_v rfl) ev_c)) (fun h => ?_) (fun h => ?_)
      · have hk : e.1 = .won := wkS_inj (b := .won) (of_decide_eq_true h)
        refine st_set1 (ev_max (ev_v rfl) (ev_v rfl)) ⟨rfl, some (.str (wkS e.1)), some (.int e.2), ?_⟩
        show _ = [some (.ref d), some (lV (folRun (es.take (i + 1))).least), some (.int (folRun (es.take (i + 1))).most), some (.int (folRun (es.take (i + 1))).others), some (.str (wkS e.1)), some (.int e.2)]
        rw [hrun, folStep_won hk]; rfl
      · have hk : ¬ e.1 = .won := fun z => of_decide_eq_false h (by rw [z]; rfl)
        refine st_set1 (ev_add (ev_v rfl) ev_c) ⟨rfl, some (.str (wkS e.1)), some (.int e.2), ?_⟩
        show _ = [some (.ref d), some (lV (folRun (es.take (i + 1))).least), some (.int (folRun (es.take (i + 1))).most), some (.int (folRun (es.take (i + 1))).others), some (.str (wkS e.1)), some (.int e.2)]
        rw [hrun, folStep_else hk]; rfl
    rintro _ _ ⟨rfl, o4, o5, rfl⟩
    generalize folRun es = sg at q ⊢
    unfold folEnd at q
    cases hle : sg.least with
    | some l =>
      rw [hle] at q
      refine st_tst (b := true) (tv_e (ev_isnot_i (i := l) (ev_v rfl) ev_c)) (fun _ => ?_) (fun z => by cases z)
      exact ret2_k ev_c (ev_add (i := l) (ev_v rfl) ev_c) fun p hp => q _ _ (OW.mk (SqT.of upd_same)) ((Same.refl _).upd hp)
    | none =>
      rw [hle] at q
      refine st_tst (b := false) (tv_e (ev_isnot_n (ev_v rfl) ev_c)) (fun z => by cases z) (fun _ => ?_)
      refine st_tst (tv_e (ev_eq (ev_v rfl) ev_c)) (fun h => ?_) (fun h => ?_)
      · have q : ∀ v H', OW K H' v (some (if sg.others = 0 then (Wk.lost, sg.most + 1) else (.even, 0))) → Same _ H' → Q v H' := q
        rw [if_pos (of_decide_eq_true h)] at q
        exact ret2_k ev_c (ev_add (ev_v rfl) ev_c) fun p hp => q _ _ (OW.mk (SqT.of upd_same)) ((Same.refl _).upd hp)
      · have q : ∀ v H', OW K H' v (some (if sg.others = 0 then (Wk.lost, sg.most + 1) else (.even, 0))) → Same _ H' → Q v H' := q
        rw [if_neg (of_decide_eq_false h)] at q
        exact ret2_k ev_c ev_c fun p hp => q _ _ (OW.mk (SqT.of upd_same)) ((Same.refl _).upd hp)
theorem ok__law_is_word {f : Addr} {fd : FuncData} (F : Fun K "_law_is_word" "_law_is_word" s__law_is_word f fd) (T : Txt mg aE) : FnOk P w K mg base CX0 1 f fd ["_law_word"] (spIsW3 K) := by
  refine F.ok sc__law_is_word (fun vs H Q E h => ?_) (fun cdv A outer s H vs Q E hr h => ?_)
  · obtain ⟨v, e, rfl, _⟩ := h
    rfl
  · obtain ⟨v, e, rfl, ow, q⟩ := h
    have hu := hu20 hr
    obtain ⟨ta, rfl, ht⟩ := ow.som
    refine ⟨_, (pss_cons (ps_if (PW.pt (pw_or (pt_not (ct_val (kis2 K .tuple T.isinstance T.tuple bo_tuple (cv 0)))) (pw_or (ktcmp K hu (kB (klen K) bo_len T.len (pac (cv 0) pa_nil)) pe_int) (pw_or1 (ktcmp K hu (kix K (cv 0) pe_int) (pe_tup (pa_consts rfl))))))) (pss_one (ps_ret pe_bl)) pss_nil)
      (pss_one (ps_ret (ce_and (kis .int T.isinstance T.int bo_int (kix K (cv 0) pe_int)) (pe_one (ce_not (kis .bool T.isinstance T.bool bo_bool (kix K (cv 0) pe_int)))))))), ?_⟩
    show tSeq _ _ _ [some (.ref ta)] H
    refine st_ifH (fun c H' => c = false ∧ Same H H') (fun Q q => ?_) (fun H' z => by cases z.1) ?_
    · refine tor_k (tv_not (b := true) (tv_e (ev_ist2 (ev_v rfl) ht))) (tor_k (tv_e (ev_ne (ev_len (ev_v rfl) (.inr ht)) ev_c)) ?_)
      refine eqv_k (x := .str (wkS e.1)) (ev_ix (ev_v rfl) ev_c (.inr ht) (atI_nat (j := 0) rfl)) (av_cs _ ⟨by decide, fun p hp => ?_⟩)
      show rIn K true (.str (wkS e.1)) (.ref p) _ _
      refine ⟨p, _, rfl, .inr (SqT.of upd_same), rfl, rfl, ?_⟩
      have e1 : inV (.str (wkS e.1)) [.str "won", .str "lost", .str "even"] = true := by
        cases e.1 <;> rfl
      show bOnly Q (.bl (!inV (.str (wkS e.1)) [.str "won", .str "lost", .str "even"])) _
      rw [e1]
      exact q _ _ ⟨rfl, (Same.refl H).upd hp⟩
    rintro H1 ⟨_, s1⟩
    have i1 : Ev (cIx K (cVar 0) (tC (.int 1))) [some (.ref ta)] H1 (.int e.2) := ev_ix (ev_v rfl) ev_c (.inr (s1.tupS ht)) (atI_nat (j := 1) rfl)
    exact st_ret (v := .bl true) (ev_and (a := true) (ev_isi i1) (fun _ => ev_not (ev_isi i1))) (q _ s1)
end
end K23
namespace K23
open PySem L2
def spLaw (K : PySem.W.Frag) (Pt : Addr) : Sp := fun vs H Q _ => ∃ (a : Addr) (ns : List Int), vs = [.ref a] ∧ SqL K H a (ns.map V.int) ∧ ns.length ≤ 63 ∧ TblOk H Pt lamQ lamP ∧ ∀ H', Q (.bl true) H'
structure CL (P : Program) (w : World) (K : PySem.W.Frag) (mg : Str → Option Value) (base : Heap) (Pt : Addr) : Prop where
  _law_net : Cal P w K mg base "_law_net" ["_law_script"] 2 (spNet3 K)
  worked : Cal P w K mg base "worked" ["nexts", "known"] 3 (spWorked K Pt lamQ lamP)
  _law_is_word : Cal P w K mg base "_law_is_word" ["_law_word"] 1 (spIsW3 K)
  _law_follows : Cal P w K mg base "_law_follows" ["_law_words"] 1 (spFollows K)
def pickW (vs : List V) (x : V) : V := match x with
  | .int n => vs.getD n.toNat .non
  | _ => .non
section
variable {P : Program} {w : World} {K : PySem.W.Frag} {mg : Str → Option Value} {base : Heap} {aE : Addr}
theorem ok_law {f : Addr} {fd : FuncData} {Pt : Addr} (F : Fun K "law" "law" s_law f fd) (T : Txt mg aE) (C : CL P w K mg base Pt) : FnOk P w K mg base CX0 4 f fd ["_law_script"] (spLaw K Pt) := by
  refine F.ok sc_law (fun vs H Q E h => ?_) (fun cdv A outer s H vs Q E hr h => ?_)
  · obtain ⟨a, ns, rfl, _⟩ := h
    rfl
  · obtain ⟨sa, zs, rfl, hS, hlen, hT0, q⟩ := h
    have hu := hu20 hr
    refine ⟨_, (pss_cons (ps_asg (kcall C._law_net hr (pac (cv 0) pa_nil)) (kgt K (n := 2) (pgs_cons (pg_name (i := 1) sc_law.nd rfl (Or.inl rfl)) (pgs_cons (pg_name (i := 2) sc_law.nd rfl (Or.inl rfl)) pgs_nil))))
      (pss_cons (ps_set (i := 3) sc_law.nd rfl (Or.inl rfl) (pe_tup (pac (kcomp (cscope (N := ["_law_numbers"]) (src := [none]) (defScope s_law) ["_law_script", "_law_nexts_here", "_law_known_here", "_law_handed", "_law_words", "_law_at", "_law_due"]) (kpl K (cv 1)) (fun _ _ _ => (pg_name' (i := 0) ["_law_numbers"])) (fun _ _ _ => pifs_nil) (fun _ _ _ => (kTy (klist K) bo_list T.list (pac (cv 0) pa_nil)))) (pac (kTy (klist K) bo_list T.list (pac (cv 2) pa_nil)) pa_nil))))
      (pss_cons (ps_set (i := 4) sc_law.nd rfl (Or.inr rfl) (kcall C.worked hr (pac (kix K (cv 3) pe_int) (pac (kix K (cv 3) pe_int) pa_nil))))
      (pss_cons (ps_if (PW.pt (pw_or (ktcmp K hu (kix K (cv 3) pe_int) (cv 1)) (pw_or (ktcmp K hu (kix K (cv 3) pe_int) (cv 2)) (pw_or (pt_not (ct_val (kis .list T.isinstance T.list bo_list (cv 4)))) (pw_or1 (ktcmp K hu (kB (klen K) bo_len T.len (pac (cv 4) pa_nil)) (kB (klen K) bo_len T.len (pac (cv 2) pa_nil)))))))) (pss_one (ps_ret pe_bl)) pss_nil)
      (pss_cons (ps_for PassesOwn.never rfl (kr1 T.range (pac (kB (klen K) bo_len T.len (pac (cv 2) pa_nil)) pa_nil)) (pg_name (i := 5) sc_law.nd rfl (Or.inl rfl)) (pss_cons (ps_if (pt_not (ct_val (kcall C._law_is_word hr (pac (kix K (cv 4) (cv 5)) pa_nil)))) (pss_one (ps_ret pe_bl)) pss_nil)
      (pss_cons (ps_set (i := 6) sc_law.nd rfl (Or.inl rfl) (kix K (cv 2) (cv 5)))
      (pss_cons (ps_if (ktcmp K hu (cv 6) pe_non) (pss_one (ps_set (i := 6) sc_law.nd rfl (Or.inl rfl) (kcall C._law_follows hr (pac (kcomp (cscope (N := ["_law_number", "_law_words"]) (src := [none, some 4]) (defScope s_law) ["_law_script", "_law_nexts_here", "_law_known_here", "_law_handed", "_law_words", "_law_at", "_law_due"]) (kpl K (kix K (cv 1) (cv 5))) (fun _ _ _ => (pg_name' (i := 0) ["_law_number", "_law_words"])) (fun _ _ _ => pifs_nil) (fun _ _ _ => (kix K (cv 1) (cv 0)))) pa_nil)))) pss_nil)
      (pss_one (ps_if (ktcmp K hu (kix K (cv 4) (cv 5)) (cv 6)) (pss_one (ps_ret pe_bl)) pss_nil))))))
      (pss_one (ps_ret pe_bl))))))), ?_⟩
    show tSeq _ _ _ [some (.ref sa), none, none, none, none, none, none] H
    refine tSeq_of (fun σ' H' => ∃ a b m nx kn, σ' = [some (.ref sa), some (.ref a), some (.ref b), none, none, none, none] ∧ NetAt K H' a b nx kn ∧ NetG m nx kn ∧ Same H H') (fun K' hK => ?_) ?_
    · exact asgc_k (av_cons (ev_v rfl) av_nil) ⟨sa, zs, rfl, hS, fun t a b m nx kn H' ht hN hG _ _ s => gpair ht (hK _ _ ⟨a, b, m, nx, kn, rfl, hN, hG, s⟩)⟩
    rintro _ H1 ⟨a, b, m, nx, kn, rfl, hN1, hG, s1⟩
    have hm2 := hG.m2
    have hT1 := hT0.same s1
    obtain ⟨ms, ea, hx⟩ := hN1.nx
    obtain ⟨ks, eb, hk⟩ := hN1.kn
    refine st_asg (fun v H' => ∃ (h a2 b2 : Addr) (ms2 : List Addr), v = .ref h ∧ H' h = some (.tup [.ref a2, .ref b2]) ∧ H' a2 = some (.lst (ms2.map V.ref)) ∧ NxV H' ms2 nx ∧ H' b2 = some (.lst ks) ∧ Same H1 H') (fun Q q => hand_k hG (ev_v rfl) (fun H' => ev_v rfl) rfl ea hx eb fun h a2 b2 ms2 H' e1 e2 e3 e4 e5 => q _ _ ⟨h, a2, b2, ms2, rfl, e1, e2, e3, e4, e5⟩) ?_
    rintro _ H2 ⟨h, a2, b2, ms2, rfl, eh, ea2, hx2, eb2, s2⟩
    show tSeq _ _ _ [some (.ref sa), some (.ref a), some (.ref b), some (.ref h), none, none, none] H2
    have hT2 := hT1.same s2
    obtain ⟨ps2, hP2⟩ := hT2.tbl
    have hNc : NetAt K H2 a2 b2 nx kn := ⟨⟨ms2, ea2, hx2⟩, ⟨ks, eb2, hk.same s2⟩⟩
    have i0 : ∀ {o4 o5 o6 : Option V} H', H' h = some (.tup [.ref a2, .ref b2]) → Ev (cIx K (cVar 3) (tC (.int 0))) [some (.ref sa), some (.ref a), some (.ref b), some (.ref h), o4, o5, o6] H' (.ref a2) := fun H' e => ev_ix (ev_v rfl) ev_c (.inr (SqT.of e)) (atI_nat (j := 0) rfl)
    have i1 : ∀ {o4 o5 o6 : Option V} H', H' h = some (.tup [.ref a2, .ref b2]) → Ev (cIx K (cVar 3) (tC (.int 1))) [some (.ref sa), some (.ref a), some (.ref b), some (.ref h), o4, o5, o6] H' (.ref b2) := fun H' e => ev_ix (ev_v rfl) ev_c (.inr (SqT.of e)) (atI_nat (j := 1) rfl)
    refine st_asg (fun v H' => ∃ (g : Addr) (fw : Nat → W), v = .ref g ∧ WlAt K H' g (finL m fw) ∧ Fol nx kn m fw ∧ SameT Pt H2 H') (fun Q q => cal_k (av_cons (i0 _ eh) (av_cons (i1 _ eh) av_nil)) ⟨a2, b2, m, nx, kn, rfl, hNc, hG, hT2, fun p fw H' c1 c2 c3 c4 c5 => q _ _ ⟨p, fw, rfl, c2, c3, c4⟩⟩) ?_
    rintro _ H3 ⟨g, fw, rfl, ⟨vs, eg, hV⟩, hF, s3⟩
    show tSeq _ _ _ [some (.ref sa), some (.ref a), some (.ref b), some (.ref h), some (.ref g), none, none] H3
    have eh3 : H3 h = some (.tup [.ref a2, .ref b2]) := s3 _ _ eh (ne_of eh hP2 (by simp))
    have l3 : ∀ {x : Addr} {xs : List V}, H2 x = some (.lst xs) → H3 x = some (.lst xs) := fun e => lst_sameT e hP2 s3
    have hx3 : NxV H3 ms nx := (hx.same s2).sameT hP2 s3
    have hx23 : NxV H3 ms2 nx := hx2.sameT hP2 s3
    have hk3 : WsV K H3 ks kn := (hk.same s2).sameT hP2 s3
    have ea3 := l3 (s2 _ _ ea)
    have eb3 := l3 (s2 _ _ eb)
    have hvl : vs.length = m := by rw [hV.1, finL_len]
    have hkl : ks.length = m := by rw [hk.1, hG.lk]
    have hml : ms.length = m := by rw [hx.1, hG.ln]
    refine st_tst (b := false) (tv_or (a := false) (b := false) (tv_e (ev_ner (i0 _ eh3) (ev_v rfl) (eqT_nx (l3 ea2) ea3 hx23 hx3))) (fun _ => tv_or (a := false) (b := false) (tv_e (ev_ner (i1 _ eh3) (ev_v rfl) (eqT_ks (l3 eb2) eb3 hk3))) (fun _ => tv_or (a := false) (b := false) (tv_not (b := true) (tv_e (ev_isl (ev_v rfl) eg))) (fun _ => by
      have := tv_e (ev_ne (K := K) (ev_len (K := K) (ev_v (H := H3) (σ := [some (.ref sa), some (.ref a), some (.ref b), some (.ref h), some (.ref g), none, none]) (n := 4) rfl) (.inl (SqL.of eg))) (ev_len (K := K) (ev_v (n := 2) rfl) (.inl (SqL.of eb3))))
      rw [hvl, hkl] at this
      simpa using this)))) (fun z => by cases z) (fun _ => ?_)
    have word : ∀ {H' : Hp} {i : Nat}, Same H3 H' → i < m → ∃ ta, vs[i]? = some (.ref ta) ∧ OW K H' (.ref ta) (some (fw i)) := fun {H' i} s hi => by
      obtain ⟨v, e, o⟩ := (hV.same s).get (i := i) (by rw [finL_len]; exact hi)
      rw [finL_at hi] at o
      obtain ⟨ta, rfl, ht⟩ := o.som
      exact ⟨ta, e, OW.mk ht⟩
    refine tSeq_of (fun _ _ => True) (fun K' hK => ?_) ?_
    · have lenB : Ev (cB (lenA K) (tCons (cVar 2) tNil)) [some (.ref sa), some (.ref a), some (.ref b), some (.ref h), some (.ref g), none, none] H3 (.int (m : Int)) := by
        have := ev_len (K := K) (ev_v (H := H3) (σ := [some (.ref sa), some (.ref a), some (.ref b), some (.ref h), some (.ref g), none, none]) (n := 2) rfl) (.inl (SqL.of eb3))
        rw [hkl] at this
        exact this
      refine for_rng1 (m : Int) (fun Q q => (av_cons lenB av_nil) _ q) (by omega) (by omega) (fun i σ' H' => Same H3 H' ∧ ∃ o5 o6, σ' = [some (.ref sa), some (.ref a), some (.ref b), some (.ref h), some (.ref g), o5, o6]) ⟨Same.refl H3, _, _, rfl⟩ ?_ (fun σ' H' h => hK _ _ trivial)
      rintro i _ H4 hi ⟨s4, o5, o6, rfl⟩
      rw [Int.toNat_natCast] at hi
      rw [Int.zero_add]
      show tSeq _ _ _ [some (.ref sa), some (.ref a), some (.ref b), some (.ref h), some (.ref g), some (.int (i : Int)), o6] H4
      obtain ⟨ta, eta, ota⟩ := word s4 hi
      refine st_ifH (fun c H' => c = false ∧ Same H4 H') (fun Q q => ?_) (fun H' z => by cases z.1) ?_
      · exact calN_k (av_cons (ev_at (ev_v rfl) (ev_v rfl) (s4 _ _ eg) eta) av_nil) ⟨_, _, rfl, ota, fun H' s => q _ _ ⟨rfl, s⟩⟩
      rintro H5 ⟨_, s5⟩
      have s35 := s4.trans s5
      obtain ⟨vk, evk, ok⟩ := (hk3.same s35).get (i := i) (by rw [hG.lk]; exact hi)
      refine st_set (ev_at (ev_v rfl) (ev_v rfl) (s35 _ _ eb3) evk) ?_
      show tSeq _ _ _ [some (.ref sa), some (.ref a), some (.ref b), some (.ref h), some (.ref g), some (.int (i : Int)), some vk] H5
      refine st_midH (fun σ' H' => ∃ v, σ' = [some (.ref sa), some (.ref a), some (.ref b), some (.ref h), some (.ref g), some (.int (i : Int)), some v] ∧ OW K H' v (some (fw i)) ∧ Same H5 H') ?_ (fun go => ?_)
      rotate_left
      · refine st_tst (tv_e (ev_isO (ev_v rfl) ev_c ok)) (fun hn => ?_) (fun hn => ?_)
        · rw [Option.isNone_iff_eq_none] at hn
          obtain ⟨mi, emi, hmi⟩ := (hx3.same s35).get (i := i) (by rw [hG.ln]; exact hi)
          refine asg1_k (callx_k (consx_k ?_))
          refine comp_ev (d := mi) (xs := (nx.getD i []).map natV) (rest := [some (.ref g)]) (ev_ix (ev_v rfl) (ev_v rfl) (.inl (SqL.of (s35 _ _ ea3))) (atI_nat (j := i) (by rw [List.getElem?_map, emi]; rfl))) (SqL.of hmi) (by have := hG.few i; rw [List.length_map, sizeLine_eq]; omega) rfl (fun _ => true) (pickW vs) (fun x hx => tv_noif) (fun x hx _ => ?_) (fun d hd => ?_)
          · obtain ⟨n, hn', rfl⟩ := List.mem_map.mp hx
            have hnm := hG.lt i n hn'
            obtain ⟨tn, etn, _⟩ := word s35 hnm
            have e1 : pickW vs (natV n) = .ref tn := by
              show vs.getD ((n : Int).toNat) .non = _
              rw [Int.toNat_natCast, List.getD_eq_getElem?_getD, etn]; rfl
            rw [e1]
            exact ev_at (ev_v rfl) (ev_v rfl) (s35 _ _ eg) etn
          · have sd : Same H5 (upd H5 d (.lst ((((nx.getD i []).map natV).filter fun _ => true).map (pickW vs)))) := (Same.refl H5).upd hd
            refine nil_k ⟨d, _, (nx.getD i []).map fw, rfl, upd_same, by rw [List.filter_eq_self.mpr (fun _ _ => rfl), List.length_map, List.length_map, List.length_map], fun j u e e1 e2 => ?_, fun v H' ov s' => go _ _ ⟨v, rfl, ?_, sd.trans s'⟩⟩
            · rw [List.filter_eq_self.mpr (fun _ _ => rfl), List.map_map, List.getElem?_map] at e1
              rw [List.getElem?_map] at e2
              obtain ⟨n, en, rfl⟩ := Option.map_eq_some_iff.mp e1
              rw [en] at e2
              have e2 : some (fw n) = some e := e2
              cases e2
              have hnm := hG.lt i n (List.mem_of_getElem? en)
              obtain ⟨tn, etn, otn⟩ := word (s35.trans sd) hnm
              have e3 : (pickW vs ∘ natV) n = .ref tn := by
                show vs.getD ((n : Int).toNat) .non = _
                rw [Int.toNat_natCast, List.getD_eq_getElem?_getD, etn]; rfl
              rw [e3]
              exact otn
            · rw [fol_end (hF.folw i hi hn) (hF.pos i hi) (fun x hx => hF.pos x (hG.lt i x hx)) (hG.ne i hi hn)] at ov
              exact ov
        · obtain ⟨e, he⟩ : ∃ e, wAt kn i = some e := by
            cases z : wAt kn i with
            | none => rw [z] at hn; cases hn
            | some u => exact ⟨u, rfl⟩
          rw [he] at ok
          rw [← hF.known i e hi he] at ok
          exact go _ _ ⟨vk, rfl, ok, Same.refl H5⟩
      rintro _ H6 ⟨v, rfl, ov, s6⟩
      have s36 := s35.trans s6
      obtain ⟨tv, rfl, htv⟩ := ov.som
      obtain ⟨ta', eta', ota'⟩ := word s36 hi
      obtain ⟨ta2, e9, hta'⟩ := ota'.som
      cases e9
      refine st_tst1 (b := false) (by
        have := tv_e (ev_ner (K := K) (ev_at (K := K) (ev_v (H := H6) (σ := [some (.ref sa), some (.ref a), some (.ref b), some (.ref h), some (.ref g), some (.int (i : Int)), some (.ref tv)]) (n := 4) rfl) (ev_v (n := 5) rfl) (s36 _ _ eg) eta') (ev_v (n := 6) rfl) (eqT_wd (n := 19) hta' htv))
        rw [decide_eq_true ⟨rfl, rfl⟩] at this
        exact this) (fun z => by cases z) (fun _ => ⟨s36, _, _, rfl⟩)
    rintro σ' H' _
    exact st_ret ev_c (q _)
end
end K23
local macro_rules | `(tactic| walk_at "rd") => `(tactic| simp only [L2.tSeq, L2.tIfS, L2.tRet, L2.tAsg, L2.gName, L2.tNext, L2.tDrop, L2.cVar, L2.tC, L2.cBin, L2.cCmp, L2.cTest, L2.cAndV, L2.cOrV, L2.cNotV, L2.cNeg, L2.cIs, L2.cIx, L2.cSl, L2.cPart, L2.tNoPart, L2.cB, L2.tCons, L2.cCs, L2.tNil, L2.cSM, L2.cSM0, L2.cCall, L2.tNot, L2.tAnd, L2.tOr, L2.tIf, L2.cChain, L2.cChainT, L2.r_eq_int, L2.r_ne_int, L2.r_eq_str, L2.r_ne_str, L2.r_eq_bl, L2.r_ne_bl, L2.r_eq_nn, L2.r_ne_nn, L2.r_eq_int_str, L2.r_ne_int_str, L2.r_eq_int_non, L2.r_ne_int_non, L2.r_eq_str_int, L2.r_ne_str_int, L2.r_eq_str_bl, L2.r_ne_str_bl, L2.r_eq_str_non, L2.r_ne_str_non, L2.r_eq_bl_str, L2.r_ne_bl_str, L2.r_eq_bl_non, L2.r_ne_bl_non, L2.r_eq_non_int, L2.r_ne_non_int, L2.r_eq_non_str, L2.r_ne_non_str, L2.r_eq_non_bl, L2.r_ne_non_bl, L2.r_eq_rr, L2.r_ne_rr, L2.r_lt_int, L2.r_lte_int, L2.r_gt_int, L2.r_gte_int, L2.r_lt_str, L2.r_lte_str, L2.r_in_str, L2.r_notin_str, L2.r_in_int_ref, L2.r_notin_int_ref, L2.r_is_int, L2.r_isnot_int, L2.r_in_str_ref, L2.r_notin_str_ref, L2.r_is_str, L2.r_isnot_str, L2.r_in_bl_ref, L2.r_notin_bl_ref, L2.r_is_bl, L2.r_isnot_bl, L2.r_in_non_ref, L2.r_notin_non_ref, L2.r_is_non, L2.r_isnot_non, L2.r_in_ref_ref, L2.r_notin_ref_ref, L2.r_is_ref, L2.r_isnot_ref, L2.r_add, L2.r_adds, L2.r_addr, L2.r_sub, L2.r_mul, L2.r_fdiv, L2.r_mod, L2.r_pow, L2.r_ixs, L2.r_ixr, L2.r_sls, L2.r_slr, L2.r_lens, L2.r_lenr, L2.r_min, L2.r_str, L2.r_ints, L2.r_intb, L2.r_all, L2.r_sw, L2.r_join, L2.r_up, L2.r_isa_non, L2.r_isa_bl, L2.r_isa_int, L2.r_isa_str, L2.r_b, List.getElem?_cons_zero, List.getElem?_cons_succ, List.set_cons_zero, List.set_cons_succ, List.length_map, Bool.not_true, Bool.not_false, Bool.false_eq_true, if_true, if_false, decide_true, decide_false])
namespace K23
open PySem L2
theorem all_mk {l : PySem.W.OpenLaw} {w : World} {K : PySem.W.Frag} {h : Heap} {mg : Str → Option Value} {fa f1 f2 f3 f4 f5 f6 f7 f8 f9 f10 f11 aE : Addr} (X : K.In h) (G : h.Ns mainGlobals mg) (hfa : mg "law" = some (.ref fa))
    {od1 an1 od2 an2 od3 an3 od4 an4 od5 an5 od6 an6 od7 an7 od8 an8 od9 an9 od10 an10 od11 an11 : Option Addr} {sl1 sl2 sl3 sl4 sl5 sl6 sl7 sl8 sl9 sl10 sl11 : Array (Option Value)} {oc1 kV1 dc1 pm1 cd1 ct1 oc2 kV2 dc2 pm2 cd2 ct2 oc3 kV3 dc3 pm3 cd3 ct3 oc4 kV4 dc4 pm4 cd4 ct4 oc5 kV5 dc5 pm5 cd5 ct5 oc6 kV6 dc6 pm6 cd6 ct6 oc7 kV7 dc7 pm7 cd7 ct7 oc8 kV8 dc8 pm8 cd8 ct8 oc9 kV9 dc9 pm9 cd9 ct9 oc10 kV10 dc10 pm10 cd10 ct10 oc11 kV11 dc11 pm11 cd11 ct11 : Value}
    (a1 : PySem.W.nsIn K mainGlobals "ways_back" = some (some (.ref f1)))
    (l1 : K.lookup f1 = some ⟨oc1, od1, .func (PySem.W.fnOf "ways_back" "ways_back" (defArgs s_ways_back) (defBody s_ways_back) (defScope s_ways_back) .none kV1 dc1 pm1 an1 cd1 ct1), sl1⟩) (c1 : PySem.W.codeIn K cd1 "ways_back" = true) (k1 : PySem.W.keepIn K (.ref f1) = true)
    (a2 : PySem.W.nsIn K mainGlobals "latest_first" = some (some (.ref f2)))
    (l2 : K.lookup f2 = some ⟨oc2, od2, .func (PySem.W.fnOf "latest_first" "latest_first" (defArgs s_latest_first) (defBody s_latest_first) (defScope s_latest_first) .none kV2 dc2 pm2 an2 cd2 ct2), sl2⟩) (c2 : PySem.W.codeIn K cd2 "latest_first" = true) (k2 : PySem.W.keepIn K (.ref f2) = true)
    (a3 : PySem.W.nsIn K mainGlobals "next_wave" = some (some (.ref f3)))
    (l3 : K.lookup f3 = some ⟨oc3, od3, .func (PySem.W.fnOf "next_wave" "next_wave" (defArgs s_next_wave) (defBody s_next_wave) (defScope s_next_wave) .none kV3 dc3 pm3 an3 cd3 ct3), sl3⟩) (c3 : PySem.W.codeIn K cd3 "next_wave" = true) (k3 : PySem.W.keepIn K (.ref f3) = true)
    (a4 : PySem.W.nsIn K mainGlobals "worked" = some (some (.ref f4)))
    (l4 : K.lookup f4 = some ⟨oc4, od4, .func (PySem.W.fnOf "worked" "worked" (defArgs s_worked) (defBody s_worked) (defScope s_worked) .none kV4 dc4 pm4 an4 cd4 ct4), sl4⟩) (c4 : PySem.W.codeIn K cd4 "worked" = true) (k4 : PySem.W.keepIn K (.ref f4) = true)
    (a5 : PySem.W.nsIn K mainGlobals "_law_cell_at" = some (some (.ref f5)))
    (l5 : K.lookup f5 = some ⟨oc5, od5, .func (PySem.W.fnOf "_law_cell_at" "_law_cell_at" (defArgs s__law_cell_at) (defBody s__law_cell_at) (defScope s__law_cell_at) .none kV5 dc5 pm5 an5 cd5 ct5), sl5⟩) (c5 : PySem.W.codeIn K cd5 "_law_cell_at" = true) (k5 : PySem.W.keepIn K (.ref f5) = true)
    (a6 : PySem.W.nsIn K mainGlobals "_law_known" = some (some (.ref f6)))
    (l6 : K.lookup f6 = some ⟨oc6, od6, .func (PySem.W.fnOf "_law_known" "_law_known" (defArgs s__law_known) (defBody s__law_known) (defScope s__law_known) .none kV6 dc6 pm6 an6 cd6 ct6), sl6⟩) (c6 : PySem.W.codeIn K cd6 "_law_known" = true) (k6 : PySem.W.keepIn K (.ref f6) = true)
    (a7 : PySem.W.nsIn K mainGlobals "_law_nexts" = some (some (.ref f7)))
    (l7 : K.lookup f7 = some ⟨oc7, od7, .func (PySem.W.fnOf "_law_nexts" "_law_nexts" (defArgs s__law_nexts) (defBody s__law_nexts) (defScope s__law_nexts) .none kV7 dc7 pm7 an7 cd7 ct7), sl7⟩) (c7 : PySem.W.codeIn K cd7 "_law_nexts" = true) (k7 : PySem.W.keepIn K (.ref f7) = true)
    (a8 : PySem.W.nsIn K mainGlobals "_law_net" = some (some (.ref f8)))
    (l8 : K.lookup f8 = some ⟨oc8, od8, .func (PySem.W.fnOf "_law_net" "_law_net" (defArgs s__law_net) (defBody s__law_net) (defScope s__law_net) .none kV8 dc8 pm8 an8 cd8 ct8), sl8⟩) (c8 : PySem.W.codeIn K cd8 "_law_net" = true) (k8 : PySem.W.keepIn K (.ref f8) = true)
    (a9 : PySem.W.nsIn K mainGlobals "_law_follows" = some (some (.ref f9)))
    (l9 : K.lookup f9 = some ⟨oc9, od9, .func (PySem.W.fnOf "_law_follows" "_law_follows" (defArgs s__law_follows) (defBody s__law_follows) (defScope s__law_follows) .none kV9 dc9 pm9 an9 cd9 ct9), sl9⟩) (c9 : PySem.W.codeIn K cd9 "_law_follows" = true) (k9 : PySem.W.keepIn K (.ref f9) = true)
    (a10 : PySem.W.nsIn K mainGlobals "_law_is_word" = some (some (.ref f10)))
    (l10 : K.lookup f10 = some ⟨oc10, od10, .func (PySem.W.fnOf "_law_is_word" "_law_is_word" (defArgs s__law_is_word) (defBody s__law_is_word) (defScope s__law_is_word) .none kV10 dc10 pm10 an10 cd10 ct10), sl10⟩) (c10 : PySem.W.codeIn K cd10 "_law_is_word" = true) (k10 : PySem.W.keepIn K (.ref f10) = true)
    (a11 : PySem.W.nsIn K mainGlobals "law" = some (some (.ref f11)))
    (l11 : K.lookup f11 = some ⟨oc11, od11, .func (PySem.W.fnOf "law" "law" (defArgs s_law) (defBody s_law) (defScope s_law) .none kV11 dc11 pm11 an11 cd11 ct11), sl11⟩) (c11 : PySem.W.codeIn K cd11 "law" = true) (k11 : PySem.W.keepIn K (.ref f11) = true)
    (z0 : PySem.W.nsIn K mainGlobals "len" = some none)
    (z1 : PySem.W.nsIn K mainGlobals "range" = some none)
    (z2 : PySem.W.nsIn K mainGlobals "enumerate" = some none)
    (z3 : PySem.W.nsIn K mainGlobals "sorted" = some none)
    (z4 : PySem.W.nsIn K mainGlobals "max" = some none)
    (z5 : PySem.W.nsIn K mainGlobals "list" = some none)
    (z6 : PySem.W.nsIn K mainGlobals "isinstance" = some none)
    (z7 : PySem.W.nsIn K mainGlobals "int" = some none)
    (z8 : PySem.W.nsIn K mainGlobals "bool" = some none)
    (z9 : PySem.W.nsIn K mainGlobals "tuple" = some none)
    {tO0 : Value} {tD0 : Option Addr} {tI0 : Array Value} {tN0 : Nat} {tS0 : Array (Option Value)} (kt0 : PySem.W.nsIn K mainGlobals "EVEN" = some (some (.ref aE))) (lt0 : K.lookup aE = some ⟨tO0, tD0, .seq tI0 tN0, tS0⟩) (ctp0 : tO0 = .type "tuple") (zt0 : tI0.size ≤ sizeLine) (vt0 : Vals ([V.str "even", V.int 0]) tI0.toList)
    {cT Pt : Addr} (hcdE : cd2 = .ref cT) (hCT : PySem.W.codeHdIn K cT Pt = true) (hKT : K.lookup Pt = none) :
    ∃ fd : FuncData, (∀ (s : Shared) (v : Value), BindsTo s fd ⟨[v], []⟩ [("_law_script", v)]) ∧ (∃ c, PySem.W.codeHdIn K c Pt = true) ∧ K.lookup Pt = none ∧ ∀ base : Heap, K.In base → base.Ns mainGlobals mg → BM mg base → FnOk l.prog w K mg base CX0 4 fa fd ["_law_script"] (spLaw K Pt) := by
  subst hcdE
  have e := hfa.symm.trans (PySem.W.mg_of X G a11)
  cases e
  have T : Txt mg aE := ⟨PySem.W.mg_none_of X G z0, PySem.W.mg_none_of X G z1, PySem.W.mg_none_of X G z2, PySem.W.mg_none_of X G z3, PySem.W.mg_none_of X G z4, PySem.W.mg_none_of X G z5, PySem.W.mg_none_of X G z6, PySem.W.mg_none_of X G z7, PySem.W.mg_none_of X G z8, PySem.W.mg_none_of X G z9, ⟨_, PySem.W.mg_of X G kt0, rfl⟩⟩
  have hT_EVEN : ∀ H, SqT K H aE [V.str "even", V.int 0] := fun H => .inr ⟨_, tI0, tN0, lt0, ctp0, rfl, zt0, vt0⟩
  have F1 := fun_mk (st := s_ways_back) l1 c1 k1
  have b1 := F1.binds (ps := ["nexts", "known"]) fun _ _ _ _ _ _ us hl => match us, hl with | [_, _], _ => rfl
  have F2 := fun_mk (st := s_latest_first) l2 c2 k2
  have b2 := F2.binds (ps := ["known"]) fun _ _ _ _ _ _ us hl => match us, hl with | [_], _ => rfl
  have F3 := fun_mk (st := s_next_wave) l3 c3 k3
  have b3 := F3.binds (ps := ["wave", "words", "back", "left"]) fun _ _ _ _ _ _ us hl => match us, hl with | [_, _, _, _], _ => rfl
  have F4 := fun_mk (st := s_worked) l4 c4 k4
  have b4 := F4.binds (ps := ["nexts", "known"]) fun _ _ _ _ _ _ us hl => match us, hl with | [_, _], _ => rfl
  have F5 := fun_mk (st := s__law_cell_at) l5 c5 k5
  have b5 := F5.binds (ps := ["_law_script", "_law_k"]) fun _ _ _ _ _ _ us hl => match us, hl with | [_, _], _ => rfl
  have F6 := fun_mk (st := s__law_known) l6 c6 k6
  have b6 := F6.binds (ps := ["_law_cell"]) fun _ _ _ _ _ _ us hl => match us, hl with | [_], _ => rfl
  have F7 := fun_mk (st := s__law_nexts) l7 c7 k7
  have b7 := F7.binds (ps := ["_law_cell", "_law_at", "_law_many", "_law_is_near"]) fun _ _ _ _ _ _ us hl => match us, hl with | [_, _, _, _], _ => rfl
  have F8 := fun_mk (st := s__law_net) l8 c8 k8
  have b8 := F8.binds (ps := ["_law_script"]) fun _ _ _ _ _ _ us hl => match us, hl with | [_], _ => rfl
  have F9 := fun_mk (st := s__law_follows) l9 c9 k9
  have b9 := F9.binds (ps := ["_law_words"]) fun _ _ _ _ _ _ us hl => match us, hl with | [_], _ => rfl
  have F10 := fun_mk (st := s__law_is_word) l10 c10 k10
  have b10 := F10.binds (ps := ["_law_word"]) fun _ _ _ _ _ _ us hl => match us, hl with | [_], _ => rfl
  have F11 := fun_mk (st := s_law) l11 c11 k11
  have b11 := F11.binds (ps := ["_law_script"]) fun _ _ _ _ _ _ us hl => match us, hl with | [_], _ => rfl
  refine ⟨PySem.W.fnOf "law" "law" (defArgs s_law) (defBody s_law) (defScope s_law) .none kV11 dc11 pm11 an11 cd11 ct11, fun s v => .of_eq rfl, ⟨cT, hCT⟩, hKT, fun base _ _ hB => ?_⟩
  have C_ways_back : Cal l.prog w K mg base "ways_back" _ _ _ := ⟨f1, _, ok_ways_back F1 T, PySem.W.mg_of X G a1, F1.kp, b1⟩
  have C_latest_first : Cal l.prog w K mg base "latest_first" _ _ _ := ⟨f2, _, ok_latest_first l2 c2 hCT hB T, PySem.W.mg_of X G a2, F2.kp, b2⟩
  have C_next_wave : Cal l.prog w K mg base "next_wave" _ _ _ := ⟨f3, _, ok_next_wave F3 T, PySem.W.mg_of X G a3, F3.kp, b3⟩
  have C_worked : Cal l.prog w K mg base "worked" _ _ _ := ⟨f4, _, ok_worked F4 T ⟨C_ways_back, C_latest_first, C_next_wave⟩ hT_EVEN, PySem.W.mg_of X G a4, F4.kp, b4⟩
  have C__law_cell_at : Cal l.prog w K mg base "_law_cell_at" _ _ _ := ⟨f5, _, ok__law_cell_at F5 T, PySem.W.mg_of X G a5, F5.kp, b5⟩
  have C__law_known : Cal l.prog w K mg base "_law_known" _ _ _ := ⟨f6, _, ok__law_known F6 T, PySem.W.mg_of X G a6, F6.kp, b6⟩
  have C__law_nexts : Cal l.prog w K mg base "_law_nexts" _ _ _ := ⟨f7, _, ok__law_nexts F7 T, PySem.W.mg_of X G a7, F7.kp, b7⟩
  have C__law_net : Cal l.prog w K mg base "_law_net" _ _ _ := ⟨f8, _, ok__law_net F8 T ⟨C__law_cell_at, C__law_known, C__law_nexts⟩, PySem.W.mg_of X G a8, F8.kp, b8⟩
  have C__law_follows : Cal l.prog w K mg base "_law_follows" _ _ _ := ⟨f9, _, ok__law_follows F9 T, PySem.W.mg_of X G a9, F9.kp, b9⟩
  have C__law_is_word : Cal l.prog w K mg base "_law_is_word" _ _ _ := ⟨f10, _, ok__law_is_word F10 T, PySem.W.mg_of X G a10, F10.kp, b10⟩
  have C : CL l.prog w K mg base Pt := ⟨C__law_net, C_worked, C__law_is_word, C__law_follows⟩
  exact ok_law F11 T C
theorem walk {l : PySem.W.OpenLaw} {q : Program} {loose : List Str} {XP : (Str → Option Value) → Heap → Prop} {YP : World → Heap → Prop} {d : DefRec} {K : Params → PySem.W.Frag} {Pt : Addr} (hn : l.most = some 63) (hdf : d.params.defaults = [])
    (hY : ∀ (w : World) (h : Heap), YP w h → (K w.params).In h ∧ h.get? Pt = some (PySem.W.tabObj #[]))
    (F : ∀ (w : World) (mg : Str → Option Value) (fa : Addr) (h : Heap), (K w.params).In h → h.Ns mainGlobals mg → mg d.name = some (.ref fa) →
      ∃ fd : FuncData, (∀ (s : Shared) (u : Value), BindsTo s fd ⟨[u], []⟩ [("_law_script", u)]) ∧ (∃ c, PySem.W.codeHdIn (K w.params) c Pt = true) ∧ (K w.params).lookup Pt = none ∧ ∀ base : Heap, (K w.params).In base → base.Ns mainGlobals mg → BM mg base → FnOk l.prog w (K w.params) mg base CX0 4 fa fd ["_law_script"] (spLaw (K w.params) Pt)) :
    PySem.W.WalkO q loose XP YP l.row.toRowW d [] (fun f vs => PySem.call f vs) :=
  L2.walk_ofT2 (n := 63) (k := 4) (x := "_law_script") (CX := fun _ => CX0) (sp := fun w => spLaw (K w.params) Pt) hn (by decide) hdf ⟨rfl, by decide, by decide⟩ hY F (fun _ _ a ns hl hO hS => ⟨a, ns, rfl, hS, hl, .inl hO.1, fun _ => rfl⟩) fun _ _ _ _ _ z => z
end K23
open PySem PySem.W PyProof.Rows
set_option maxRecDepth 100000 in
set_option maxHeartbeats 0 in
theorem PySem.Challenge.cw_playboard_k23_whole_words_follow_holds : PySem.Challenge.rw_playboard_k23_whole_words_follow.Holds := by
  w_on; o_law; k_head; (case hw => w_witness2)
  k_fill
  refine K23.walk (l := PySem.Challenge.rw_playboard_k23_whole_words_follow) rfl rfl (fun w h Y => ⟨PySem.W.km_in_of Y, PySem.W.km_tabs_of Y _ (List.Mem.head _)⟩) ?F
  case F =>
    intro w mg fa h KX G hmg
    refine' K23.all_mk KX G hmg ?a1 ?l1 ?c1 ?k1 ?a2 ?l2 ?c2 ?k2 ?a3 ?l3 ?c3 ?k3 ?a4 ?l4 ?c4 ?k4 ?a5 ?l5 ?c5 ?k5 ?a6 ?l6 ?c6 ?k6 ?a7 ?l7 ?c7 ?k7 ?a8 ?l8 ?c8 ?k8 ?a9 ?l9 ?c9 ?k9 ?a10 ?l10 ?c10 ?k10 ?a11 ?l11 ?c11 ?k11 ?z0 ?z1 ?z2 ?z3 ?z4 ?z5 ?z6 ?z7 ?z8 ?z9 ?kt0 ?lt0 ?ctp0 ?zt0 ?vt0 ?hcdE ?hCT ?hKT
    (case a1 => k_is)
    (case l1 => k_is)
    (case c1 => k_is)
    (case k1 => k_is)
    (case a2 => k_is)
    (case l2 => k_is)
    (case c2 => k_is)
    (case k2 => k_is)
    (case a3 => k_is)
    (case l3 => k_is)
    (case c3 => k_is)
    (case k3 => k_is)
    (case a4 => k_is)
    (case l4 => k_is)
    (case c4 => k_is)
    (case k4 => k_is)
    (case a5 => k_is)
    (case l5 => k_is)
    (case c5 => k_is)
    (case k5 => k_is)
    (case a6 => k_is)
    (case l6 => k_is)
    (case c6 => k_is)
    (case k6 => k_is)
    (case a7 => k_is)
    (case l7 => k_is)
    (case c7 => k_is)
    (case k7 => k_is)
    (case a8 => k_is)
    (case l8 => k_is)
    (case c8 => k_is)
    (case k8 => k_is)
    (case a9 => k_is)
    (case l9 => k_is)
    (case c9 => k_is)
    (case k9 => k_is)
    (case a10 => k_is)
    (case l10 => k_is)
    (case c10 => k_is)
    (case k10 => k_is)
    (case a11 => k_is)
    (case l11 => k_is)
    (case c11 => k_is)
    (case k11 => k_is)
    (case z0 => k_is)
    (case z1 => k_is)
    (case z2 => k_is)
    (case z3 => k_is)
    (case z4 => k_is)
    (case z5 => k_is)
    (case z6 => k_is)
    (case z7 => k_is)
    (case z8 => k_is)
    (case z9 => k_is)
    (case kt0 => k_is)
    (case lt0 => k_is)
    (case ctp0 => rfl)
    (case zt0 => decide)
    (case vt0 => exact .cons ⟨_, rfl⟩ (.cons ⟨_, rfl⟩ (.nil)))
    (case hcdE => rfl)
    (case hCT => kernel_rfl)
    (case hKT => kernel_rfl)
