import PyProof.Rows.All
import Wide.All
import OpenK.AllK
import Wide.FinOn
import Lean
import PyProof.EqAt
import PyProof.EqKinds
import PyProof.TupleCall
import PySem.Challenge.RW_playboard_k09_rows
set_option Elab.async false
set_option linter.all false
set_option maxRecDepth 100000
set_option maxHeartbeats 4000000
namespace L2
open PySem PySem.Spec PyProof.Rows

/-- a key: an int or a str -/
abbrev Key := Sum Int Str
def keyIs : Key → Value → Bool
  | .inl k, v => Value.isInt k v
  | .inr x, v => Value.isStrOf x v
def keyH (w : World) : Key → Int
  | .inl k => hashInt k
  | .inr x => hashStr w x
theorem keyIs_shape : ∀ {k : Key} {v : Value}, keyIs k v = true → (∃ i t, k = Sum.inl i ∧ v = Value.int i t) ∨ (∃ x t, k = Sum.inr x ∧ v = Value.str x t)
  | .inl i, v, h => by
    obtain ⟨t, e⟩ := Value.isInt_shape (k := i) (v := v) h
    exact .inl ⟨i, t, rfl, e⟩
  | .inr x, v, h => by
    obtain ⟨t, e⟩ := Value.isStrOf_shape (x := x) (v := v) h
    exact .inr ⟨x, t, rfl, e⟩
theorem keyIs_int (i : Int) (t : Tok) : keyIs (.inl i) (.int i t) = true := by simp [keyIs, Value.isInt]
theorem keyIs_str (x : Str) (t : Tok) : keyIs (.inr x) (.str x t) = true := by simp [keyIs, Value.isStrOf]
theorem key_ll (a b : Int) : decide ((Sum.inl a : Key) = Sum.inl b) = (a == b) := by
  by_cases e : a = b
  · subst e; simp
  · have h : ¬ (Sum.inl a : Key) = Sum.inl b := fun q => e (Sum.inl.inj q)
    rw [decide_eq_false h]
    exact (beq_eq_false_iff_ne.mpr e).symm
theorem key_rr (a b : Str) : decide ((Sum.inr a : Key) = Sum.inr b) = decide (a = b) := by
  by_cases e : a = b
  · subst e; simp
  · have h : ¬ (Sum.inr a : Key) = Sum.inr b := fun q => e (Sum.inr.inj q)
    rw [decide_eq_false h, decide_eq_false e]
theorem key_lr (a : Int) (b : Str) : decide ((Sum.inl a : Key) = Sum.inr b) = false := decide_eq_false (fun q => nomatch q)
theorem key_rl (a : Str) (b : Int) : decide ((Sum.inr a : Key) = Sum.inl b) = false := decide_eq_false (fun q => nomatch q)

def mixKind (prog : Program) (w : World) : PySem.KeyKind prog w Key where
  is := keyIs
  hash := keyH w
  inj := fun v a b ha hb => by
    rcases keyIs_shape ha with ⟨i, t, rfl, rfl⟩ | ⟨x, t, rfl, rfl⟩
    · rcases keyIs_shape hb with ⟨j, u, rfl, e⟩ | ⟨y, u, rfl, e⟩
      · injection e with e1 _; rw [e1]
      · exact nomatch e
    · rcases keyIs_shape hb with ⟨j, u, rfl, e⟩ | ⟨y, u, rfl, e⟩
      · exact nomatch e
      · injection e with e1 _; rw [e1]
  byValue := fun k v h => by
    rcases keyIs_shape h with ⟨i, t, rfl, rfl⟩ | ⟨x, t, rfl, rfl⟩ <;> rfl
  pyHash := fun hv h => by
    rcases keyIs_shape hv with ⟨i, t, rfl, rfl⟩ | ⟨x, t, rfl, rfl⟩
    · exact wpAny_pyHash_int h
    · exact wpAny_pyHash_str h
  eqBool := fun hu hv h => by
    rcases keyIs_shape hu with ⟨i, t, rfl, rfl⟩ | ⟨x, t, rfl, rfl⟩
    · rcases keyIs_shape hv with ⟨j, u, rfl, rfl⟩ | ⟨y, u, rfl, rfl⟩
      · rw [key_ll] at h; exact wpAny_eqBool_int h
      · rw [key_lr] at h; exact SeqAt.EqAt.int_str i t y u _ _ _ _ h
    · rcases keyIs_shape hv with ⟨j, u, rfl, rfl⟩ | ⟨y, u, rfl, rfl⟩
      · rw [key_rl] at h; exact SeqAt.EqAt.str_int x t j u _ _ _ _ h
      · rw [key_rr] at h; exact wpAny_eqBool_str h
  «strs» := fun k x t v h => by
    rcases keyIs_shape h with ⟨i, u, rfl, e⟩ | ⟨y, u, rfl, e⟩
    · exact nomatch e
    · injection e with e1 _
      subst e1
      cases v <;> rfl

theorem mixKind_is (prog : Program) (w : World) (k : Key) (v : Value) : (mixKind prog w).is k v = keyIs k v := rfl
theorem mixKind_int (prog : Program) (w : World) (i : Int) (t : Tok) : (mixKind prog w).is (.inl i) (.int i t) = true := keyIs_int i t
theorem mixKind_str (prog : Program) (w : World) (x : Str) (t : Tok) : (mixKind prog w).is (.inr x) (.str x t) = true := keyIs_str x t
end L2

namespace L2
open PySem PySem.Spec PyProof.Rows

/-- a value, without the heap -/
inductive V where
  | non | bl (b : Bool) | int (i : Int) | str (x : Str) | byt (b : Array UInt8) | flt (b : UInt64) | ref (a : Addr) | ty (n : String)
  deriving DecidableEq

def RelV : V → Value → Prop
  | .non, u => u = Value.none
  | .bl b, u => u = Value.bool b
  | .int i, u => ∃ t, u = Value.int i t
  | .str x, u => ∃ t, u = Value.str x t
  | .byt b, u => ∃ t, u = Value.bytes b t
  | .flt b, u => ∃ t, u = Value.float b t
  | .ref a, u => u = Value.ref a
  | .ty n, u => u = Value.type n

abbrev Vals : List V → List Value → Prop := Paired RelV
theorem Vals.length {xs : List V} {us : List Value} (r : Vals xs us) : xs.length = us.length := Paired.length r
theorem Vals.get : ∀ {xs : List V} {us : List Value} {i : Nat} {x : V}, Vals xs us → xs[i]? = some x → ∃ u, us[i]? = some u ∧ RelV x u
  | _, _, _, _, .nil, e => by simp at e
  | _, _, 0, _, .cons r _, e => by simp at e; subst e; exact ⟨_, rfl, r⟩
  | _, _, i + 1, x, .cons _ t, e => by
    obtain ⟨u, h1, h2⟩ := Vals.get (i := i) (x := x) t (by simpa using e)
    exact ⟨u, by simpa using h1, h2⟩
theorem Vals.set {x : V} {u : Value} (r : RelV x u) : ∀ {xs : List V} {us : List Value} (i : Nat), Vals xs us → Vals (xs.set i x) (us.set i u)
  | _, _, _, .nil => .nil
  | _, _, 0, .cons _ t => .cons r t
  | _, _, i + 1, .cons q t => .cons q (Vals.set r i t)
theorem Vals.append : ∀ {xs ys : List V} {us ws : List Value}, Vals xs us → Vals ys ws → Vals (xs ++ ys) (us ++ ws)
  | _, _, _, _, .nil, s => s
  | _, _, _, _, .cons r t, s => .cons r (Vals.append t s)
theorem Vals.take : ∀ {xs : List V} {us : List Value} (n : Nat), Vals xs us → Vals (xs.take n) (us.take n)
  | _, _, 0, _ => .nil
  | _, _, _ + 1, .nil => .nil
  | _, _, n + 1, .cons r t => .cons r (Vals.take n t)
theorem Vals.drop : ∀ {xs : List V} {us : List Value} (n : Nat), Vals xs us → Vals (xs.drop n) (us.drop n)
  | _, _, 0, r => r
  | _, _, _ + 1, .nil => .nil
  | _, _, n + 1, .cons _ t => Vals.drop n t
theorem Vals.none_of : ∀ {xs : List V} {us : List Value} {i : Nat}, Vals xs us → xs[i]? = none → us[i]? = none := fun {xs us i} r e => by
  have h1 := r.length
  have h2 : xs.length ≤ i := List.getElem?_eq_none_iff.mp e
  exact List.getElem?_eq_none_iff.mpr (by omega)

def RelO : Option V → Option Value → Prop
  | some v, some u => RelV v u
  | none, none => True
  | _, _ => False
def KV {κ : Type} : List (κ × V) → List (κ × Value) → Prop := Paired fun (p : κ × V) (q : κ × Value) => p.1 = q.1 ∧ RelV p.2 q.2

/-- a key of a dict (00_mix): an int or a text -/
def kV : Key → V
  | .inl i => .int i
  | .inr x => .str x

/-- what stands at a tracked address -/
inductive HO where
  /-- a list -/
  | lst (xs : List V)
  /-- a tuple (never changes) -/
  | tup (xs : List V)
  /-- a dict whose keys are ints and texts; one whose keys are tuples of ints and texts (the empty one is both) -/
  | dK (kvs : List (Key × V)) | dT (kvs : List (List Key × V))
  /-- a set of ints: its members, its size -/
  | set (S : Int → Bool) (n : Nat)
  /-- an instance of the class at C, its dict at dx, its attributes -/
  | ins (C dx : Addr) (fs : List (Str × V))
  /-- the dict of the instance at x -/
  | own (x : Addr)
  /-- the dict of an exception -/
  | xd (fs : List (Str × V))
  /-- a bound method, f of x -/
  | met (f x : Addr)
  /-- a range object lo, lo + 1, .. below hi -/
  | rng (lo hi : Int)
  /-- a thing that is known to the object (the script; a dict while a loop walks it): read, never written while it is so -/
  | frz (o : Obj) (u : HO)
  /-- a code object's table -/
  | tbl (ps : Array Value)
  /-- any other thing, by what is true of its one object (a def of one's own: SetO a S n := HO.ext fun h => ..) -/
  | ext (φ : Heap → Prop)

abbrev Hp := Addr → Option HO
def upd (H : Hp) (a : Addr) (o : HO) : Hp := fun b => if b = a then some o else H b
theorem upd_same {H : Hp} {a : Addr} {o : HO} : upd H a o a = some o := by unfold upd; rw [if_pos rfl]
theorem upd_ne {H : Hp} {a b : Addr} {o : HO} (h : b ≠ a) : upd H a o b = H b := by unfold upd; rw [if_neg h]
theorem upd_upd {H : Hp} {a : Addr} {o u : HO} : upd (upd H a o) a u = upd H a u := by
  funext b; unfold upd; split <;> rfl
/-- two objects of different content stand apart -/
theorem ne_of {H : Hp} {a b : Addr} {o u : HO} (h : H a = some o) (h' : H b = some u) (d : o ≠ u) : a ≠ b := by
  intro e; subst e; rw [h] at h'; exact d (Option.some.inj h')
theorem ne_of_none {H : Hp} {a b : Addr} {o : HO} (h : H a = some o) (h' : H b = none) : a ≠ b := by
  intro e; subst e; rw [h] at h'; cases h'

section
variable (P : Program) (w : World)
def ObjOk (H : Hp) (h : Heap) (a : Addr) : HO → Prop
  | .lst xs => xs.length ≤ sizeLine ∧ ∃ (its : List Value) (n : Nat), Vals xs its ∧ h.get? a = some { cls := .type "list", data := .seq its.toArray n }
  | .tup xs => xs.length ≤ sizeLine ∧ ∃ its : List Value, Vals xs its ∧ IsTup h a its.toArray
  | .dK kvs => kvs.length ≤ sizeLine ∧ (a == sysModules) = false ∧ ∃ vs, KV kvs vs ∧ h.DictOf (mixKind P w) a vs
  | .dT kvs => kvs.length ≤ sizeLine ∧ (a == sysModules) = false ∧ ∃ xs : List (List Key × Addr × Value),
      Paired (fun (p : List Key × V) (q : List Key × Addr × Value) => p.1 = q.1 ∧ H q.2.1 = some (.tup (p.1.map kV)) ∧ RelV p.2 q.2.2) kvs xs ∧
      ∃ o es ep, h.get? a = some o ∧ o.ExactDict ∧ o.data = .dict es ep ∧ es.toList = xs.map (entryOfKey (tupleKind (mixKind P w))) ∧ (xs.map (·.1)).Nodup
  | .set S n => h.SetOf (intKind P w) a S n
  | .ins C dx fs => H dx = some (.own a) ∧ fs.length ≤ 1000 ∧ dx ≠ a ∧ h.get? a = some (PySem.W.instObj C dx) ∧
      ∃ mA, h.Ns1 dx mA ∧ (∀ f, RelO (fs.lookup f) (mA f)) ∧ PySem.Within mA (fs.map (·.1))
  | .own _ => ∃ o, h.get? a = some o
  | .xd fs => ∃ mA, h.Ns1 a mA ∧ ∀ f, RelO (fs.lookup f) (mA f)
  | .rng lo hi => ∃ t u v, h.get? a = some { cls := .type "range", data := .fields #[.int lo t, .int hi u, .int 1 v] }
  | .frz o u => h.get? a = some o ∧ ObjOk H h a u
  | .tbl ps => h.get? a = some { cls := .none, data := .fields ps }
  | .met f x => h.get? a = some (PySem.W.methodObj (.ref f) (.ref x))
  | .ext φ => φ h ∧ (∃ o, h.get? a = some o) ∧ ∀ h1 h2 : Heap, φ h1 → (∀ o, h1.get? a = some o → h2.get? a = some o) → φ h2
/-- the abstract heap is held -/
def HOk (H : Hp) (h : Heap) : Prop := ∀ a o, H a = some o → ObjOk P w H h a o
end

section
variable {P : Program} {w : World} {H H' : Hp} {h h' : Heap} {a : Addr} {o : HO}
theorem ObjOk.lt (x : ObjOk P w H h a o) : a < h.objs.size := by
  cases o with
  | lst xs => obtain ⟨_, _, _, _, e⟩ := x; exact Heap.lt_size e
  | tup xs => obtain ⟨_, _, _, p⟩ := x; exact p.lt
  | dK kvs => obtain ⟨_, _, _, _, o, _, _, e, _⟩ := x; exact Heap.lt_size e
  | dT kvs => obtain ⟨_, _, _, _, o, _, _, e, _⟩ := x; exact Heap.lt_size e
  | set S n => obtain ⟨o, _, _, _, e, _⟩ := x; exact Heap.lt_size e
  | ins C dx fs => obtain ⟨_, _, _, e, _⟩ := x; exact Heap.lt_size e
  | own y => obtain ⟨_, e⟩ := x; exact Heap.lt_size e
  | xd fs => obtain ⟨_, ⟨_, _, _, e, _⟩, _⟩ := x; exact Heap.lt_size e
  | rng lo hi => obtain ⟨_, _, _, e⟩ := x; exact Heap.lt_size e
  | frz ob u => obtain ⟨e, _⟩ := x; exact Heap.lt_size e
  | tbl ps => exact Heap.lt_size (show h.get? a = some _ from x)
  | met f y => exact Heap.lt_size (show h.get? a = some _ from x)
  | ext φ => obtain ⟨_, ⟨_, e⟩, _⟩ := x; exact Heap.lt_size e
theorem Paired.mapP {α β : Type} {F G : α → β → Prop} : ∀ {l₁ : List α} {l₂ : List β}, Paired F l₁ l₂ → (∀ a b, F a b → G a b) → Paired G l₁ l₂
  | _, _, .nil, _ => .nil
  | _, _, .cons r t, f => .cons (f _ _ r) (Paired.mapP t f)
theorem Paired.imp' {α β : Type} {F G : α → β → Prop} (f : ∀ a b, F a b → G a b) {l₁ : List α} {l₂ : List β} (r : Paired F l₁ l₂) : Paired G l₁ l₂ := Paired.mapP r f
/-- what an object's description leans on: its own object, its own dict, the tuples -/
theorem ObjOk.stay (x : ObjOk P w H h a o) (k : ∀ b u, (b = a ∨ H b = some (.own a)) → h.get? b = some u → h'.get? b = some u)
    (ho : ∀ b, H b = some (.own a) → H' b = some (.own a)) (ht : ∀ b xs, H b = some (.tup xs) → H' b = some (.tup xs)) : ObjOk P w H' h' a o := by
  induction o with
  | lst xs => obtain ⟨z, its, n, r, e⟩ := x; exact ⟨z, its, n, r, k _ _ (.inl rfl) e⟩
  | tup xs => obtain ⟨z, its, r, ob, e, c⟩ := x; exact ⟨z, its, r, ob, k _ _ (.inl rfl) e, c⟩
  | dK kvs => obtain ⟨z, y, vs, r, ob, es, ep, e, c⟩ := x; exact ⟨z, y, vs, r, ob, es, ep, k _ _ (.inl rfl) e, c⟩
  | dT kvs =>
    obtain ⟨z, y, xs, r, ob, es, ep, e, c⟩ := x
    exact ⟨z, y, xs, Paired.mapP r fun p q z => ⟨z.1, ht _ _ z.2.1, z.2.2⟩, ob, es, ep, k _ _ (.inl rfl) e, c⟩
  | set S n => obtain ⟨ob, es, ep, t, e, c⟩ := x; exact ⟨ob, es, ep, t, k _ _ (.inl rfl) e, c⟩
  | ins C dx fs =>
    obtain ⟨d, z, ne, e, mA, ⟨od, es, ep, e2, c⟩, r⟩ := x
    exact ⟨ho _ d, z, ne, k _ _ (.inl rfl) e, mA, ⟨od, es, ep, k _ _ (.inr d) e2, c⟩, r⟩
  | own y => obtain ⟨ob, e⟩ := x; exact ⟨ob, k _ _ (.inl rfl) e⟩
  | xd fs => obtain ⟨mA, ⟨od, es, ep, e, c⟩, r⟩ := x; exact ⟨mA, ⟨od, es, ep, k _ _ (.inl rfl) e, c⟩, r⟩
  | rng lo hi => obtain ⟨t, u, v, e⟩ := x; exact ⟨t, u, v, k _ _ (.inl rfl) e⟩
  | frz ob u ih => obtain ⟨e, q⟩ := x; exact ⟨k _ _ (.inl rfl) e, ih q⟩
  | tbl ps =>
    have e : h.get? a = some { cls := .none, data := .fields ps } := x
    show h'.get? a = some { cls := .none, data := .fields ps }
    exact k a _ (.inl rfl) e
  | met f y =>
    have e : h.get? a = some (PySem.W.methodObj (.ref f) (.ref y)) := x
    show h'.get? a = some (PySem.W.methodObj (.ref f) (.ref y))
    exact k a _ (.inl rfl) e
  | ext φ => obtain ⟨p, ⟨o, e⟩, st⟩ := x; exact ⟨st _ _ p fun o q => k _ _ (.inl rfl) q, ⟨o, k _ _ (.inl rfl) e⟩, st⟩
theorem HOk.lt (x : HOk P w H h) (e : H a = some o) : a < h.objs.size := (x a o e).lt
theorem HOk.fresh (x : HOk P w H h) (e : h.objs.size ≤ a) : H a = none := by
  cases q : H a with
  | none => rfl
  | some u => exact absurd (Nat.lt_of_lt_of_le (x.lt q) e) (Nat.lt_irrefl _)
/-- every object of the heap is kept -/
theorem HOk.kept (x : HOk P w H h) (k : ∀ b u, h.get? b = some u → h'.get? b = some u) : HOk P w H h' := fun a o e =>
  (x a o e).stay (fun b u _ q => k b u q) (fun _ q => q) fun _ _ q => q
/-- a new object is laid and tracked -/
theorem HOk.laid (x : HOk P w H h) (k : ∀ b u, h.get? b = some u → h'.get? b = some u) (hp : h.objs.size ≤ a) (new : ObjOk P w (upd H a o) h' a o) : HOk P w (upd H a o) h' := fun b u e => by
  have hn := x.fresh hp
  by_cases hb : b = a
  · subst hb; rw [upd_same] at e; cases e; exact new
  · rw [upd_ne hb] at e
    exact (x b u e).stay (fun c v _ q => k c v q) (fun c q => by rw [upd_ne (ne_of_none q hn)]; exact q) fun c xs q => by rw [upd_ne (ne_of_none q hn)]; exact q
end

/-- what may be read as u: it is u, or a known u -/
def Rd (H : Hp) (a : Addr) (u : HO) : Prop := H a = some u ∨ ∃ o, H a = some (.frz o u)
theorem Rd.of {H : Hp} {a : Addr} {u : HO} (h : H a = some u) : Rd H a u := .inl h
theorem Rd.ok {P : Program} {w : World} {H : Hp} {h : Heap} {a : Addr} {u : HO} (r : Rd H a u) (x : HOk P w H h) : ObjOk P w H h a u := by
  rcases r with r | ⟨o, r⟩
  · exact x a u r
  · obtain ⟨_, q⟩ := x a _ r
    exact q
/-- what may be written -/
def Mut : Option HO → Prop
  | some (.lst _) => True
  | some (.dK _) => True
  | some (.dT _) => True
  | some (.set _ _) => True
  | some (.ins _ _ _) => True
  | some (.ext _) => True
  | _ => False
section
variable {P : Program} {w : World} {H : Hp} {h h' : Heap} {x e : Addr} {o' : HO}
/-- the object at e is changed: x itself, or the dict of the instance x -/
theorem HOk.write (ok : HOk P w H h) (mu : Mut (H x)) (he : e = x ∨ H e = some (.own x)) (k : ∀ b u, b ≠ e → h.get? b = some u → h'.get? b = some u) (heo : ∃ u, h'.get? e = some u)
    (new : ObjOk P w (upd H x o') h' x o') : HOk P w (upd H x o') h' := fun b u q => by
  have nown : ∀ c y, H c = some (.own y) → c ≠ x := fun c y r z => by subst z; rw [r] at mu; exact mu
  have ntup : ∀ c xs, H c = some (.tup xs) → c ≠ x := fun c xs r z => by subst z; rw [r] at mu; exact mu
  by_cases hb : b = x
  · subst hb; rw [upd_same] at q; cases q; exact new
  · rw [upd_ne hb] at q
    by_cases hbe : b = e
    · have q' : H b = some (.own x) := by
        rcases he with z | z
        · exact absurd (hbe.trans z) hb
        · rw [hbe]; exact z
      rw [q] at q'; cases q'
      obtain ⟨v, hv⟩ := heo
      exact ⟨v, by rw [hbe]; exact hv⟩
    · refine (ok b u q).stay (fun c v hc r => k c v ?_ r) (fun c r => by rw [upd_ne (nown c b r)]; exact r) fun c xs r => by rw [upd_ne (ntup c xs r)]; exact r
      rcases hc with rfl | hc
      · exact hbe
      · rintro rfl
        rcases he with z | z
        · exact nown c b hc z
        · rw [hc] at z; cases z; exact hb rfl
end

/-! ### kept unless tracked; of the frames at fs (the callers') the slots may change (an exception that passes writes there); of the records at ex (iterators) nothing is said -/
structure Un (fs ex : List Addr) (H H' : Hp) (h h' : Heap) : Prop where
  keep : ∀ b o, h.get? b = some o → H b = none → b ∉ fs → b ∉ ex → h'.get? b = some o
  slot : ∀ b o, h.get? b = some o → H b = none → b ∈ fs → b ∉ ex → ∃ sl, h'.get? b = some { o with slots := sl }
  free : ∀ b o, h.get? b = some o → H b = none → b ∉ ex → H' b = none
  there : ∀ b o, h.get? b = some o → b ∉ ex → ∃ o', h'.get? b = some o'
  tups : ∀ b xs, H b = some (.tup xs) → H' b = some (.tup xs)
  frzs : ∀ b o u, H b = some (.frz o u) → H' b = some (.frz o u)
  tbls : ∀ b ps, H b = some (.tbl ps) → ∃ more, H' b = some (.tbl (ps ++ more))
section
variable {fs fs' ex ex' : List Addr} {H H1 H2 : Hp} {h h1 h2 h' : Heap} {a x e : Addr} {o : HO}
theorem Un.any (u : Un fs ex H H1 h h1) {b : Addr} {ob : Obj} (q : h.get? b = some ob) (n : H b = none) (hx : b ∉ ex) : ∃ sl, h1.get? b = some { ob with slots := sl } := by
  by_cases hb : b ∈ fs
  · exact u.slot b ob q n hb hx
  · exact ⟨ob.slots, u.keep b ob q n hb hx⟩
theorem Un.trans (a : Un fs ex H H1 h h1) (b : Un fs ex H1 H2 h1 h2) : Un fs ex H H2 h h2 where
  keep := fun c ob q n hc hx => b.keep c ob (a.keep c ob q n hc hx) (a.free c ob q n hx) hc hx
  slot := fun c ob q n hc hx => by
    obtain ⟨sl, e1⟩ := a.slot c ob q n hc hx
    obtain ⟨sl', e2⟩ := b.slot c _ e1 (a.free c ob q n hx) hc hx
    exact ⟨sl', e2⟩
  free := fun c ob q n hx => by
    obtain ⟨o', e1⟩ := a.there c ob q hx
    exact b.free c o' e1 (a.free c ob q n hx) hx
  there := fun c ob q hx => by
    obtain ⟨o', e1⟩ := a.there c ob q hx
    exact b.there c o' e1 hx
  tups := fun c xs q => b.tups c xs (a.tups c xs q)
  frzs := fun c ob xs q => b.frzs c ob xs (a.frzs c ob xs q)
  tbls := fun c ps q => by
    obtain ⟨m1, e1⟩ := a.tbls c ps q
    obtain ⟨m2, e2⟩ := b.tbls c _ e1
    exact ⟨m1 ++ m2, by rw [e2, Array.append_assoc]⟩
theorem Un.kept (k : ∀ b u, h.get? b = some u → h'.get? b = some u) : Un fs ex H H h h' :=
  ⟨fun b ob q _ _ _ => k b ob q, fun b ob q _ _ _ => ⟨ob.slots, k b ob q⟩, fun _ _ _ n _ => n, fun b ob q _ => ⟨ob, k b ob q⟩, fun _ _ q => q, fun _ _ _ q => q, fun _ ps q => ⟨#[], by rw [q]; simp⟩⟩
theorem Un.refl : Un fs ex H H h h := Un.kept fun _ _ q => q
theorem Un.laid (k : ∀ b u, h.get? b = some u → h'.get? b = some u) (hp : h.objs.size ≤ a) (hn : H a = none) : Un fs ex H (upd H a o) h h' where
  keep := fun b u q _ _ _ => k b u q
  slot := fun b u q _ _ _ => ⟨u.slots, k b u q⟩
  free := fun b u q n _ => by rw [upd_ne (Nat.ne_of_lt (Nat.lt_of_lt_of_le (Heap.lt_size q) hp))]; exact n
  there := fun b u q _ => ⟨u, k b u q⟩
  tups := fun b xs q => by rw [upd_ne (ne_of_none q hn)]; exact q
  frzs := fun b u xs q => by rw [upd_ne (ne_of_none q hn)]; exact q
  tbls := fun b ps q => ⟨#[], by rw [upd_ne (ne_of_none q hn), q]; simp⟩
theorem Un.write (mu : Mut (H x)) (he : e = x ∨ H e = some (.own x)) (k : ∀ b u, b ≠ e → h.get? b = some u → h'.get? b = some u) (heo : ∃ u, h'.get? e = some u) : Un fs ex H (upd H x o) h h' := by
  have hx : ∀ b, H b = none → b ≠ x := fun b n z => by subst z; rw [n] at mu; exact mu
  have hb : ∀ b, H b = none → b ≠ e := fun b n z => by
    subst z
    rcases he with r | r
    · exact hx b n r
    · rw [n] at r; cases r
  have hm : ∀ b u, H b = some u → ¬ Mut (some u) → b ≠ x := fun b u q nm z => by subst z; rw [q] at mu; exact nm mu
  refine ⟨fun b u q n _ _ => k b u (hb b n) q, fun b u q n _ _ => ⟨u.slots, k b u (hb b n) q⟩, fun b u q n _ => by rw [upd_ne (hx b n)]; exact n, fun b u q _ => ?_,
    fun b xs q => by rw [upd_ne (hm b _ q fun z => z)]; exact q, fun b u xs q => by rw [upd_ne (hm b _ q fun z => z)]; exact q, fun b ps q => ⟨#[], by rw [upd_ne (hm b _ q fun z => z), q]; simp⟩⟩
  by_cases hbe : b = e
  · subst hbe; exact heo
  · exact ⟨u, k b u hbe q⟩
theorem Un.mono (u : Un fs ex H H1 h h1) (hs : ∀ b ∈ fs, b ∈ fs') (hx : ∀ b ∈ ex, b ∈ ex') : Un fs' ex' H H1 h h1 :=
  ⟨fun b ob q n hb he => u.keep b ob q n (fun z => hb (hs b z)) fun z => he (hx b z), fun _ _ q n _ he => u.any q n fun z => he (hx _ z), fun b ob q n he => u.free b ob q n fun z => he (hx b z), fun b ob q he => u.there b ob q fun z => he (hx b z), u.tups, u.frzs, u.tbls⟩
end

/-! ### the heap without what is tracked -/
def trk (h : Heap) (H : Hp) : List Addr := (List.range h.objs.size).filter fun a => (H a).isSome
def hidT (h : Heap) (H : Hp) : Heap := PySem.W.hideAll h (trk h H)
theorem hidT_size (h : Heap) (H : Hp) : (hidT h H).objs.size = h.objs.size := PySem.W.hideAll_size _ _
theorem hidT_get {h : Heap} {H : Hp} {b : Addr} {o : Obj} (e : h.get? b = some o) (n : H b = none) : (hidT h H).get? b = some o :=
  PySem.W.hideAll_get _ e fun hm => by
    have q : (H b).isSome = true := (List.mem_filter.mp hm).2
    rw [n] at q; simp at q
theorem of_hidT {h : Heap} {H : Hp} {b : Addr} {o : Obj} (e : (hidT h H).get? b = some o) : h.get? b = some o ∧ H b = none := by
  have e' : h.get? b = some o := PySem.W.of_hideAll (trk h H) e
  refine ⟨e', ?_⟩
  cases q : H b with
  | none => rfl
  | some x =>
    have hm : b ∈ trk h H := List.mem_filter.mpr ⟨List.mem_range.mpr (Heap.lt_size e'), by simp [q]⟩
    have z : (hidT h H).get? b = none := PySem.W.hideAll_none (trk h H) hm
    rw [z] at e; cases e

/-! ### OpenK's ledger, filled with every new object but one -/
def allNews (g h : Heap) (L : Addr) : List (Addr × Obj) := (List.range h.objs.size).filterMap fun a => if a = L ∨ (g.get? a).isSome = true then none else (h.get? a).map fun o => (a, o)
theorem mem_allNews {g h : Heap} {L a : Addr} {o : Obj} (h1 : a ≠ L) (h2 : g.get? a = none) (h3 : h.get? a = some o) : (a, o) ∈ allNews g h L :=
  List.mem_filterMap.mpr ⟨a, List.mem_range.mpr (Heap.lt_size h3), by simp [h1, h2, h3]⟩
theorem of_mem_allNews {g h : Heap} {L : Addr} {p : Addr × Obj} (hp : p ∈ allNews g h L) : p.1 ≠ L ∧ g.get? p.1 = none ∧ h.get? p.1 = some p.2 := by
  obtain ⟨b, _, e⟩ := List.mem_filterMap.mp hp
  split at e
  · cases e
  · rename_i hn
    cases q : h.get? b with
    | none => rw [q] at e; simp at e
    | some u =>
      rw [q] at e
      simp only [Option.map_some, Option.some.injEq] at e
      subst e
      refine ⟨fun z => hn (.inl z), ?_, q⟩
      show g.get? b = none
      cases r : g.get? b with
      | none => rfl
      | some v => exact (hn (.inr (by simp [r]))).elim
def rest (g h : Heap) (L d : Addr) : List (Addr × Obj) := (allNews g h L).filter fun p => decide (p.1 ≠ d)
theorem rest_ne {g h : Heap} {L d : Addr} : ∀ p ∈ rest g h L d, p.1 ≠ d := fun p hp => of_decide_eq_true (List.mem_filter.mp hp).2
theorem mem_rest {g h : Heap} {L d a : Addr} {o : Obj} (h1 : a ≠ L) (h2 : g.get? a = none) (h3 : h.get? a = some o) (h4 : a ≠ d) : (a, o) ∈ rest g h L d :=
  List.mem_filter.mpr ⟨mem_allNews h1 h2 h3, decide_eq_true h4⟩
theorem news_all {g h : Heap} {L : Addr} : News g L h (allNews g h L) := fun p hp => let ⟨a, b, c⟩ := of_mem_allNews hp; ⟨c, a, b⟩
theorem news_at {g h : Heap} {L d : Addr} {o : Obj} (h1 : d ≠ L) (h2 : g.get? d = none) (h3 : h.get? d = some o) : News g L h ((d, o) :: rest g h L d) := fun p hp => by
  rcases List.mem_cons.mp hp with rfl | hp
  · exact ⟨h3, h1, h2⟩
  · exact news_all p (List.mem_filter.mp hp).1
/-- behind a rule that changed d alone: all else but the frame is kept -/
theorem kept_of_news {g h h' : Heap} {L d : Addr} {m : Str → Option Value} (k : ∀ b o, g.get? b = some o → h.get? b = some o) (F : Fr g L h' m) (N : News g L h' (rest g h L d)) :
    ∀ b o, b ≠ L → b ≠ d → h.get? b = some o → h'.get? b = some o := fun b o h1 h2 e => by
  cases q : g.get? b with
  | some u =>
    have := k b u q
    rw [e] at this; cases this
    exact F.keep b _ q
  | none => exact (N (b, o) (mem_rest h1 q e h2)).1
end L2

namespace L2
open PySem PySem.Spec PyProof.Rows

/-- the module's facts, over the base: the heap at the law's entry without what is tracked there -/
structure Mod (K : PySem.W.Frag) (mg : Str → Option Value) (base : Heap) : Prop where
  kin : K.In base
  glob : base.Ns mainGlobals mg
  blt : ∃ mb, base.Ns builtinsNs mb ∧ ∀ x : Str, x ≠ "__name__" → mb x = bootBuiltins x
  nolimit : base.NoLimit

/-- the context: a def's body (or a comprehension's block) running. base: fixed through the whole law; s₀, H₀: the entry; outer: the frames whose slots others may change (a def's callers); stack: all frames that run;
   ex: iterators that were made ahead of the entry and are walked here (a comprehension's); fn: the names whose cells were made at the entry (a def: all; a comprehension's block: its own); calm: not within an except suite; pn: pins that every state bears; xe: what is wanted of an exception that leaves the code -/
structure Cx where
  prog : Program
  w : World
  K : PySem.W.Frag
  mg : Str → Option Value
  base : Heap
  A : Around
  N : List Str
  s₀ : Shared
  H₀ : Hp
  env : Env
  outer : List Env
  stack : List Env
  ex : List Addr
  fn : Str → Bool
  calm : Bool
  pn : List (Addr × Obj)
  xe : Value → Shared → Prop
/-- the callers' frames -/
def frs (l : List Env) : List Addr := l.filterMap (·.frame)
abbrev Cx.fs (X : Cx) : List Addr := frs X.outer

def Vis (sc : Scope) (x : Str) : Prop := sc.names.lookup x = some .local ∨ sc.names.lookup x = some .cell ∨ sc.names.lookup x = some .free
def Loc (sc : Scope) (x : Str) : Prop := sc.names.lookup x = some .local ∨ sc.names.lookup x = some .cell
def Look (env : Env) (h : Heap) (m : Str → Option Value) (x : Str) (u : Value) : Prop :=
  (env.kindOf x = some .local ∧ m x = some u) ∨ ((env.kindOf x = some .cell ∨ env.kindOf x = some .free) ∧ ∃ c, env.cells.lookup x = some c ∧ h.IsCell c (some u))

structure Cx.Ok (X : Cx) : Prop where
  mod : Mod X.K X.mg X.base
  kind : X.env.scope.kind = .function
  glob : X.env.globals = mainGlobals
  blt : X.env.builtins = builtinsNs
  above : X.s₀.heap.objs.size ≤ X.env.locals
  inj : ∀ x y c, X.env.cells.lookup x = some c → X.env.cells.lookup y = some c → x = y
  has : ∀ x, (X.env.kindOf x = some .cell ∨ X.env.kindOf x = some .free) → ∃ c, X.env.cells.lookup x = some c
  cab : ∀ x c, X.fn x = true → X.env.cells.lookup x = some c → X.s₀.heap.objs.size ≤ c
  hd : X.calm = true → X.A.handled = none
  frames : X.A.frames = some X.stack
  stk : X.stack = X.outer ∨ (X.stack = X.env :: X.outer ∧ X.env.frame = some X.env.locals)
  exf : ∀ b ∈ X.ex, b ≠ X.env.locals ∧ ∀ x c, X.env.cells.lookup x = some c → c ≠ b
  bs : ∀ b o, X.base.get? b = some o → X.s₀.heap.get? b = some o ∧ X.H₀ b = none
  bsz : X.base.objs.size ≤ X.s₀.heap.objs.size
  noex : ∀ b o, X.base.get? b = some o → b ∉ X.ex
  exfs : ∀ b ∈ X.ex, b ∉ X.fs
  funs : X.s₀.heap.FunFrames X.base X.outer
  frf : ∀ b ∈ X.fs, X.H₀ b = none

structure Inv (X : Cx) (pins : List (Addr × Obj)) (σ : List (Option V)) (H : Hp) (s : Shared) : Prop where
  ok : X.Ok
  os : s.os = X.s₀.os
  bare : AllBare s.gens
  base : Un X.fs X.ex X.H₀ H X.s₀.heap s.heap
  loc : ∃ m, s.heap.Ns X.env.locals m ∧ ∀ (i : Nat) (x : Str) (v : V), X.N[i]? = some x → σ[i]? = some (some v) → Vis X.env.scope x → ∃ u, RelV v u ∧ Look X.env s.heap m x u
  cell : ∀ x c, X.env.cells.lookup x = some c → ∃ v, s.heap.IsCell c v
  free : H X.env.locals = none
  freeC : ∀ x c, X.env.cells.lookup x = some c → H c = none
  pin : ∀ p ∈ X.pn ++ pins, s.heap.get? p.1 = some p.2 ∧ H p.1 = none ∧ p.1 ≠ X.env.locals ∧ p.1 ∉ X.fs ∧ ∀ v, p.2.data ≠ .cell v
  hok : HOk X.prog X.w H s.heap
  len : σ.length = X.N.length

section
variable {X : Cx} {pins : List (Addr × Obj)} {σ : List (Option V)} {H H' : Hp} {s : Shared} {h' : Heap}

theorem Cx.Ok.nofr (ok : X.Ok) {b : Addr} {o : Obj} (e : X.base.get? b = some o) : b ∉ X.fs := fun hb => by
  have := (ok.funs.mem hb).1
  rw [e] at this; cases this
theorem Inv.bs (I : Inv X pins σ H s) : ∀ b o, X.base.get? b = some o → s.heap.get? b = some o ∧ H b = none := fun b o e =>
  ⟨I.base.keep b o (I.ok.bs b o e).1 (I.ok.bs b o e).2 (I.ok.nofr e) (I.ok.noex b o e), I.base.free b o (I.ok.bs b o e).1 (I.ok.bs b o e).2 (I.ok.noex b o e)⟩
theorem Inv.bk (I : Inv X pins σ H s) : ∀ b o, X.base.get? b = some o → s.heap.get? b = some o := fun b o e => (I.bs b o e).1
theorem Inv.mod (I : Inv X pins σ H s) : Mod X.K X.mg X.base := I.ok.mod
theorem Inv.kIn (I : Inv X pins σ H s) : X.K.In s.heap := I.ok.mod.kin.keeps I.bk
theorem Inv.nolimit (I : Inv X pins σ H s) : s.heap.NoLimit := I.ok.mod.nolimit.keeps I.bk
/-- the frame over the base: for OpenK's rules (K.In X.base is I.mod.kin) -/
theorem Inv.fr (I : Inv X pins σ H s) : ∃ m, Fr X.base X.env.locals s.heap m :=
  let ⟨m, hn, _⟩ := I.loc
  ⟨m, hn, I.bk, Nat.le_trans I.ok.bsz I.ok.above⟩
theorem Inv.lt (I : Inv X pins σ H s) : X.env.locals < s.heap.objs.size := let ⟨_, hn, _⟩ := I.loc; hn.lt
theorem Inv.sz (I : Inv X pins σ H s) : X.s₀.heap.objs.size ≤ s.heap.objs.size := Nat.le_trans I.ok.above (Nat.le_of_lt I.lt)
theorem Inv.nofs (I : Inv X pins σ H s) {a : Addr} (h : s.heap.objs.size ≤ a) : a ∉ X.fs := fun hb => by
  obtain ⟨_, o, ho, _⟩ := I.ok.funs.mem hb
  exact absurd (Nat.lt_of_lt_of_le (Heap.lt_size ho) (Nat.le_trans I.sz h)) (Nat.lt_irrefl _)
theorem Inv.cne (I : Inv X pins σ H s) : ∀ x c, X.env.cells.lookup x = some c → c ≠ X.env.locals := fun x c e z => by
  obtain ⟨v, o, ho, hd⟩ := I.cell x c e
  obtain ⟨m, ⟨o', es, ep, ho', hd', _⟩, _⟩ := I.loc
  rw [z, ho'] at ho; cases ho; rw [hd'] at hd; cases hd
theorem Inv.funs (I : Inv X pins σ H s) : s.heap.FunFrames X.base X.outer := by
  have all : ∀ (l : List Env), (∀ b ∈ frs l, b ∈ X.fs) → X.s₀.heap.FunFrames X.base l → s.heap.FunFrames X.base l := by
    intro l
    induction l with
    | nil => intro _ _; trivial
    | cons env r ih =>
      intro hs hl
      obtain ⟨hk, ⟨L, o, hf, hn, ho, hd⟩, hr⟩ := hl
      have hL : L ∈ X.fs := hs L (by unfold frs; rw [List.filterMap_cons, hf]; exact List.mem_cons_self)
      obtain ⟨sl, e⟩ := I.base.slot L o ho (I.ok.frf L hL) hL fun z => I.ok.exfs L z hL
      exact ⟨hk, ⟨L, _, hf, hn, e, hd⟩, ih (fun b hb => hs b (by unfold frs; rw [List.filterMap_cons, hf]; exact List.mem_cons_of_mem _ hb)) hr⟩
  exact all X.outer (fun _ hb => hb) I.ok.funs

/-- the frames that run, for a call -/
theorem Inv.stack (I : Inv X pins σ H s) : s.heap.FunFrames X.base X.stack := by
  rcases I.ok.stk with e | ⟨e, hf⟩
  · rw [e]; exact I.funs
  · rw [e]
    obtain ⟨m, hn, _⟩ := I.loc
    refine .cons (by rw [I.ok.kind]; decide) hf hn ?_ I.funs
    exact Heap.get?_none_of_le (Nat.le_trans I.ok.bsz I.ok.above)
theorem Inv.stkSub (I : Inv X pins σ H s) : ∀ b ∈ frs X.stack, b ∈ X.env.locals :: X.fs := fun b hb => by
  rcases I.ok.stk with e | ⟨e, hf⟩
  · rw [e] at hb; exact List.mem_cons_of_mem _ hb
  · rw [e] at hb
    unfold frs at hb
    rw [List.filterMap_cons, hf] at hb
    exact hb
theorem Inv.stkFree (I : Inv X pins σ H s) : ∀ b ∈ frs X.stack, H b = none := fun b hb => by
  rcases List.mem_cons.mp (I.stkSub b hb) with e | hb
  · rw [e]; exact I.free
  · obtain ⟨_, o, ho, _⟩ := I.ok.funs.mem hb
    exact I.base.free b o ho (I.ok.frf b hb) fun z => I.ok.exfs b z hb

/-- THE STEP: the untracked objects but the frame and the records at ch are kept (the callers' frames up to slots), the frame's map is kept, the new abstract heap is held -/
theorem Inv.step {g' : Array GenState} {t' : Nat} {d' : Drawn} {ch : List Addr} (I : Inv X pins σ H s)
    (hch : ∀ b ∈ ch, (b ∈ X.ex ∨ X.s₀.heap.objs.size ≤ b) ∧ b ≠ X.env.locals ∧ (∀ x c, X.env.cells.lookup x = some c → c ≠ b) ∧ ∀ p ∈ X.pn ++ pins, p.1 ≠ b)
    (keep : ∀ b o, b ≠ X.env.locals → b ∉ X.fs → b ∉ ch → s.heap.get? b = some o → H b = none → h'.get? b = some o)
    (slot : ∀ b o, b ≠ X.env.locals → b ∈ X.fs → b ∉ ch → s.heap.get? b = some o → H b = none → ∃ sl, h'.get? b = some { o with slots := sl }) (free : ∀ b o, b ∉ ch → s.heap.get? b = some o → H b = none → H' b = none)
    (there : ∀ b o, b ∉ ch → s.heap.get? b = some o → ∃ o', h'.get? b = some o')
    (tups : ∀ b xs, H b = some (.tup xs) → H' b = some (.tup xs)) (frzs : ∀ b o u, H b = some (.frz o u) → H' b = some (.frz o u)) (tbls : ∀ b ps, H b = some (.tbl ps) → ∃ more, H' b = some (.tbl (ps ++ more)))
    (ns : ∀ m, s.heap.Ns X.env.locals m → h'.Ns X.env.locals m) (hok : HOk X.prog X.w H' h') (hg : AllBare g') :
    Inv X pins σ H' { s with heap := h', gens := g', drawn := d', toks := t' } := by
  have neL : ∀ b o, X.s₀.heap.get? b = some o → b ≠ X.env.locals := fun b o e => Nat.ne_of_lt (Nat.lt_of_lt_of_le (Heap.lt_size e) I.ok.above)
  have neC : ∀ b o, X.s₀.heap.get? b = some o → b ∉ X.ex → b ∉ ch := fun b o e hx hb => by
    rcases (hch b hb).1 with z | z
    · exact hx z
    · exact absurd (Nat.lt_of_lt_of_le (Heap.lt_size e) z) (Nat.lt_irrefl _)
  have cellK : ∀ x c, X.env.cells.lookup x = some c → ∀ v, s.heap.IsCell c v → h'.IsCell c v := fun x c e v ⟨o, ho, hd⟩ => by
    have nch : c ∉ ch := fun z => (hch c z).2.2.1 x c e rfl
    by_cases hc : c ∈ X.fs
    · obtain ⟨sl, q⟩ := slot c o (I.cne x c e) hc nch ho (I.freeC x c e)
      exact ⟨_, q, hd⟩
    · exact ⟨o, keep c o (I.cne x c e) hc nch ho (I.freeC x c e), hd⟩
  refine ⟨I.ok, I.os, hg, ⟨fun b o e n hb hx => ?_, fun b o e n hb hx => ?_, fun b o e n hx => ?_, fun b o e hx => ?_, fun b xs e => tups b xs (I.base.tups b xs e), fun b o xs e => frzs b o xs (I.base.frzs b o xs e), fun b ps e => ?_⟩, ?_, fun x c e => ?_, ?_, fun x c e => ?_, fun p hp => ?_, hok, I.len⟩
  · exact keep b o (neL b o e) hb (neC b o e hx) (I.base.keep b o e n hb hx) (I.base.free b o e n hx)
  · obtain ⟨sl, e1⟩ := I.base.slot b o e n hb hx
    obtain ⟨sl', e2⟩ := slot b _ (neL b o e) hb (neC b o e hx) e1 (I.base.free b o e n hx)
    exact ⟨sl', e2⟩
  · obtain ⟨o', e1⟩ := I.base.there b o e hx
    exact free b o' (neC b o e hx) e1 (I.base.free b o e n hx)
  · obtain ⟨o', e1⟩ := I.base.there b o e hx
    exact there b o' (neC b o e hx) e1
  · obtain ⟨m1, e1⟩ := I.base.tbls b ps e
    obtain ⟨m2, e2⟩ := tbls b _ e1
    exact ⟨m1 ++ m2, by rw [e2, Array.append_assoc]⟩
  · obtain ⟨m, hn, hl⟩ := I.loc
    refine ⟨m, ns m hn, fun i x v e1 e2 e3 => ?_⟩
    obtain ⟨u, r, l⟩ := hl i x v e1 e2 e3
    refine ⟨u, r, ?_⟩
    rcases l with l | ⟨k, c, e, z⟩
    · exact .inl l
    · exact .inr ⟨k, c, e, cellK x c e _ z⟩
  · obtain ⟨v, z⟩ := I.cell x c e
    exact ⟨v, cellK x c e v z⟩
  · obtain ⟨m, ⟨o, _, _, ho, _⟩, _⟩ := I.loc
    exact free _ o (fun z => (hch _ z).2.1 rfl) ho I.free
  · obtain ⟨v, o, ho, hd⟩ := I.cell x c e
    exact free c o (fun z => (hch c z).2.2.1 x c e rfl) ho (I.freeC x c e)
  · obtain ⟨e, n, ne, nf, d⟩ := I.pin p hp
    have nch : p.1 ∉ ch := fun z => (hch p.1 z).2.2.2 p hp rfl
    exact ⟨keep p.1 p.2 ne nf nch e n, free p.1 p.2 nch e n, ne, nf, d⟩
/-- .. where the frame's own object is kept too -/
theorem Inv.un {t' : Nat} (I : Inv X pins σ H s) (u : Un X.fs [] H H' s.heap h') (hok : HOk X.prog X.w H' h') : Inv X pins σ H' { s with heap := h', toks := t' } := by
  obtain ⟨m, ⟨o, es, ep, ho, r⟩, _⟩ := id I.loc
  obtain ⟨sl, hL⟩ := u.any ho I.free (by simp)
  exact I.step (g' := s.gens) (d' := s.drawn) (ch := []) (fun _ z => nomatch z) (fun b o _ hb _ e n => u.keep b o e n hb (by simp)) (fun b o _ hb _ e n => u.slot b o e n hb (by simp)) (fun b o _ e n => u.free b o e n (by simp)) (fun b o _ e => u.there b o e (by simp)) u.tups u.frzs u.tbls (fun m' hm => by
    obtain ⟨o', es', ep', ho', r'⟩ := hm
    rw [ho] at ho'; cases ho'
    exact ⟨_, es', ep', hL, r'⟩) hok I.bare
/-- behind a call (or a comprehension's block): the slots of this frame may have changed too, the records at ch may have turned -/
theorem Inv.call {g' : Array GenState} {t' : Nat} {d' : Drawn} {ch : List Addr} (I : Inv X pins σ H s) (u : Un (frs X.stack) ch H H' s.heap h') (hok : HOk X.prog X.w H' h') (hg : AllBare g')
    (hch : ∀ b ∈ ch, (b ∈ X.ex ∨ X.s₀.heap.objs.size ≤ b) ∧ b ≠ X.env.locals ∧ (∀ x c, X.env.cells.lookup x = some c → c ≠ b) ∧ ∀ p ∈ X.pn ++ pins, p.1 ≠ b) :
    Inv X pins σ H' { s with heap := h', gens := g', drawn := d', toks := t' } := by
  obtain ⟨m, ⟨o, es, ep, ho, r⟩, _⟩ := id I.loc
  obtain ⟨sl, hL⟩ := u.any ho I.free fun z => (hch _ z).2.1 rfl
  exact I.step (ch := ch) hch (fun b o hL hb hc e n => u.keep b o e n (fun z => (List.mem_cons.mp (I.stkSub b z)).elim hL hb) hc) (fun b o _ _ hc e n => u.any e n hc) (fun b o hc e n => u.free b o e n hc) (fun b o hc e => u.there b o e hc) u.tups u.frzs u.tbls (fun m' hm => by
    obtain ⟨o', es', ep', ho', r'⟩ := hm
    rw [ho] at ho'; cases ho'
    exact ⟨_, es', ep', hL, r'⟩) hok hg
/-- an untracked record of ours (an iterator) has turned -/
theorem Inv.turned {t' : Nat} {it : Addr} (I : Inv X pins σ H s) (k : ∀ b o, b ≠ it → s.heap.get? b = some o → h'.get? b = some o) (hn : H it = none) (hL : it ≠ X.env.locals)
    (h1 : it ∈ X.ex ∨ X.s₀.heap.objs.size ≤ it) (h2 : ∀ x c, X.env.cells.lookup x = some c → c ≠ it) (h3 : ∀ p ∈ X.pn ++ pins, p.1 ≠ it) : Inv X pins σ H { s with heap := h', toks := t' } := by
  have nit : ∀ b u, H b = some u → b ≠ it := fun b u e z => by rw [z, hn] at e; cases e
  refine I.step (g' := s.gens) (d' := s.drawn) (ch := [it]) (fun b hb => ?_) (fun b o _ _ hc e _ => k b o (fun z => hc (by simp [z])) e) (fun b o _ _ hc e _ => ⟨o.slots, k b o (fun z => hc (by simp [z])) e⟩) (fun _ _ _ _ n => n)
    (fun b o hc e => ⟨o, k b o (fun z => hc (by simp [z])) e⟩) (fun _ _ e => e) (fun _ _ _ e => e) (fun b ps e => ⟨#[], by rw [e]; simp⟩) (fun m hm => ?_) (fun b u e => ?_) I.bare
  · have e : b = it := by simpa using hb
    subst e
    exact ⟨h1, hL, h2, h3⟩
  · obtain ⟨o, es, ep, ho, r⟩ := hm
    exact ⟨o, es, ep, k _ o (Ne.symm hL) ho, r⟩
  · refine (I.hok b u e).stay (fun c v hc q => k c v ?_ q) (fun _ q => q) fun _ _ q => q
    rcases hc with z | z
    · rw [z]; exact nit b u e
    · exact nit c _ z
theorem Inv.tok (I : Inv X pins σ H s) (t : Nat) : Inv X pins σ H { s with toks := t } := I.un (h' := s.heap) (t' := t) Un.refl I.hok
/-- all objects kept -/
theorem Inv.kept {t' : Nat} (I : Inv X pins σ H s) (k : ∀ b u, s.heap.get? b = some u → h'.get? b = some u) : Inv X pins σ H { s with heap := h', toks := t' } := I.un (Un.kept k) (I.hok.kept k)
/-- a new object laid and tracked -/
theorem Inv.laid {a : Addr} {o : HO} {t' : Nat} (I : Inv X pins σ H s) (k : ∀ b u, s.heap.get? b = some u → h'.get? b = some u) (hp : s.heap.objs.size ≤ a) (new : ObjOk X.prog X.w (upd H a o) h' a o) :
    Inv X pins σ (upd H a o) { s with heap := h', toks := t' } := I.un (Un.laid k hp (I.hok.fresh hp)) (I.hok.laid k hp new)
/-- an object written -/
theorem Inv.write {x e : Addr} {o : HO} {t' : Nat} (I : Inv X pins σ H s) (mu : Mut (H x)) (he : e = x ∨ H e = some (.own x)) (k : ∀ b u, b ≠ e → s.heap.get? b = some u → h'.get? b = some u) (heo : ∃ u, h'.get? e = some u)
    (new : ObjOk X.prog X.w (upd H x o) h' x o) : Inv X pins σ (upd H x o) { s with heap := h', toks := t' } := I.un (Un.write mu he k heo) (I.hok.write mu he k heo new)
/-- forgetting slots, pins -/
theorem Inv.weak {σ' : List (Option V)} (I : Inv X pins σ H s) (hl : σ'.length = σ.length) (w : ∀ (i : Nat) v, σ'[i]? = some (some v) → σ[i]? = some (some v)) : Inv X pins σ' H s :=
  ⟨I.ok, I.os, I.bare, I.base, let ⟨m, hn, hl'⟩ := I.loc; ⟨m, hn, fun i x v e1 e2 e3 => hl' i x v e1 (w i v e2) e3⟩, I.cell, I.free, I.freeC, I.pin, I.hok, hl.trans I.len⟩
theorem Inv.pins_of {pins' : List (Addr × Obj)} (I : Inv X pins σ H s) (h : ∀ p ∈ pins', s.heap.get? p.1 = some p.2 ∧ H p.1 = none ∧ p.1 ≠ X.env.locals ∧ p.1 ∉ X.fs ∧ ∀ v, p.2.data ≠ .cell v) : Inv X pins' σ H s :=
  ⟨I.ok, I.os, I.bare, I.base, I.loc, I.cell, I.free, I.freeC, fun p hp => (List.mem_append.mp hp).elim (fun z => I.pin p (List.mem_append_left _ z)) (h p), I.hok, I.len⟩

theorem nodup_ix {N : List Str} (hN : N.Nodup) {i j : Nat} {x : Str} (a : N[i]? = some x) (b : N[j]? = some x) : i = j := by
  obtain ⟨h1, e1⟩ := List.getElem?_eq_some_iff.mp a
  obtain ⟨h2, e2⟩ := List.getElem?_eq_some_iff.mp b
  exact (List.getElem_inj hN).mp (e1.trans e2.symm)

/-- a name is stored; what changed -/
theorem store_ok2 {M : Model} {A : Around} {E : Value → Shared → Prop} {i : Nat} {x : Str} {v : V} {u : Value} {Q : Unit → Shared → Prop} (I : Inv X pins σ H s) (hN : X.N.Nodup) (hi : X.N[i]? = some x) (hx : Loc X.env.scope x) (r : RelV v u)
    (h : ∀ s', Inv X pins (σ.set i (some v)) H s' → (∃ a, Heap.SameBut a s.heap s'.heap ∧ (a = X.env.locals ∨ X.env.cells.lookup x = some a)) → Q () s') (hf : X.fn x = true ∨ X.env.scope.names.lookup x = some .local := by first | exact .inl rfl | exact .inr rfl | assumption) : wpAny M A (storeName X.env x u) Q E s := by
  obtain ⟨m, hn, hl⟩ := id I.loc
  have hcls : (X.env.scope.kind == .class || (X.env.scope.kind == .module && X.env.locals != X.env.globals)) = false := by rw [I.ok.kind]; rfl
  have hiσ : i < σ.length := by rw [I.len]; exact (List.getElem?_eq_some_iff.mp hi).1
  have cne := I.cne
  have tracked : ∀ {a : Addr} {h' : Heap}, (∃ o, s.heap.get? a = some o ∧ H a = none) → Heap.SameBut a s.heap h' → HOk X.prog X.w H h' := fun {a h'} ha hs b ob e => by
    obtain ⟨_, _, hfree⟩ := ha
    refine (I.hok b ob e).stay (fun c w' hc q => (hs.2 c ?_).trans q) (fun _ q => q) fun _ _ q => q
    rintro rfl
    rcases hc with rfl | hc
    · rw [hfree] at e; cases e
    · rw [hfree] at hc; cases hc
  rcases hx with hk | hk
  · refine wpAny_storeName_local hk hn (fun h' hn' hs => ?_) hcls
    obtain ⟨oL, _, _, hoL, _⟩ := id hn
    refine h _ ⟨I.ok, I.os, I.bare, ⟨fun b o e n hb hx => ?_, fun b o e n hb hx => ?_, I.base.free, fun b o e hx => ?_, I.base.tups, I.base.frzs, I.base.tbls⟩, ⟨_, hn', fun j y v' e1 e2 e3 => ?_⟩, fun y c e => ?_, I.free, I.freeC, fun p hp => ?_, tracked ⟨oL, hoL, I.free⟩ hs, by simpa using I.len⟩ ⟨_, hs, .inl rfl⟩
    · exact (hs.2 b (Nat.ne_of_lt (Nat.lt_of_lt_of_le (Heap.lt_size e) I.ok.above))).trans (I.base.keep b o e n hb hx)
    · obtain ⟨sl, e1⟩ := I.base.slot b o e n hb hx
      exact ⟨sl, (hs.2 b (Nat.ne_of_lt (Nat.lt_of_lt_of_le (Heap.lt_size e) I.ok.above))).trans e1⟩
    · obtain ⟨o', e1⟩ := I.base.there b o e hx
      exact ⟨o', (hs.2 b (Nat.ne_of_lt (Nat.lt_of_lt_of_le (Heap.lt_size e) I.ok.above))).trans e1⟩
    · by_cases hj : j = i
      · subst hj
        rw [hi] at e1; cases e1
        rw [List.getElem?_set_self hiσ] at e2
        cases e2
        exact ⟨u, r, .inl ⟨hk, by simp⟩⟩
      · rw [List.getElem?_set_ne (Ne.symm hj)] at e2
        obtain ⟨u', r', q⟩ := hl j y v' e1 e2 e3
        refine ⟨u', r', ?_⟩
        rcases q with ⟨k, e⟩ | ⟨k, c, e, z⟩
        · refine .inl ⟨k, ?_⟩
          have : y ≠ x := fun e => hj (nodup_ix hN e1 (e ▸ hi))
          simp [this, e]
        · exact .inr ⟨k, c, e, z.sameBut hs (cne y c e)⟩
    · obtain ⟨w', z⟩ := I.cell y c e
      exact ⟨w', z.sameBut hs (cne y c e)⟩
    · obtain ⟨e, n, ne, nf, d⟩ := I.pin p hp
      exact ⟨(hs.2 p.1 ne).trans e, n, ne, nf, d⟩
  · have hfn : X.fn x = true := by
      rcases hf with z | z
      · exact z
      · rw [z] at hk; cases hk
    obtain ⟨c, hc⟩ := I.ok.has x (.inl hk)
    obtain ⟨w', z⟩ := I.cell x c hc
    refine wpAny_storeName_cell I.ok.kind hk hc z (fun h' hc' hs => ?_)
    obtain ⟨oc, hoc, hocd⟩ := id z
    refine h { s with heap := h' } ⟨I.ok, I.os, I.bare, ⟨fun b o e n hb hx => ?_, fun b o e n hb hx => ?_, I.base.free, fun b o e hx => ?_, I.base.tups, I.base.frzs, I.base.tbls⟩, ⟨m, hn.sameBut hs (Ne.symm (cne x c hc)), fun j y v' e1 e2 e3 => ?_⟩, fun y c' e => ?_, I.free, I.freeC, fun p hp => ?_, tracked ⟨oc, hoc, I.freeC x c hc⟩ hs, by simpa using I.len⟩ ⟨c, hs, .inr hc⟩
    · exact (hs.2 b (Nat.ne_of_lt (Nat.lt_of_lt_of_le (Heap.lt_size e) (I.ok.cab x c hfn hc)))).trans (I.base.keep b o e n hb hx)
    · obtain ⟨sl, e1⟩ := I.base.slot b o e n hb hx
      exact ⟨sl, (hs.2 b (Nat.ne_of_lt (Nat.lt_of_lt_of_le (Heap.lt_size e) (I.ok.cab x c hfn hc)))).trans e1⟩
    · obtain ⟨o', e1⟩ := I.base.there b o e hx
      exact ⟨o', (hs.2 b (Nat.ne_of_lt (Nat.lt_of_lt_of_le (Heap.lt_size e) (I.ok.cab x c hfn hc)))).trans e1⟩
    · by_cases hj : j = i
      · subst hj
        rw [hi] at e1; cases e1
        rw [List.getElem?_set_self hiσ] at e2
        cases e2
        exact ⟨u, r, .inr ⟨.inl hk, c, hc, hc'⟩⟩
      · rw [List.getElem?_set_ne (Ne.symm hj)] at e2
        obtain ⟨u', r', q⟩ := hl j y v' e1 e2 e3
        refine ⟨u', r', ?_⟩
        rcases q with q | ⟨k, c', e, z'⟩
        · exact .inl q
        · refine .inr ⟨k, c', e, z'.sameBut hs ?_⟩
          rintro rfl
          exact hj (nodup_ix hN e1 (I.ok.inj _ _ _ e hc ▸ hi))
    · by_cases hcc : c' = c
      · subst hcc; exact ⟨_, hc'⟩
      · obtain ⟨w2, z2⟩ := I.cell y c' e
        exact ⟨w2, z2.sameBut hs hcc⟩
    · obtain ⟨e, n, ne, nf, d⟩ := I.pin p hp
      refine ⟨(hs.2 p.1 ?_).trans e, n, ne, nf, d⟩
      intro q
      rw [q, hoc] at e
      have q' : oc = p.2 := Option.some.inj e
      exact d w' (by rw [← q']; exact hocd)
theorem store_ok {M : Model} {A : Around} {E : Value → Shared → Prop} {i : Nat} {x : Str} {v : V} {u : Value} {Q : Unit → Shared → Prop} (I : Inv X pins σ H s) (hN : X.N.Nodup) (hi : X.N[i]? = some x) (hx : Loc X.env.scope x) (r : RelV v u)
    (h : ∀ s', Inv X pins (σ.set i (some v)) H s' → Q () s') (hf : X.fn x = true ∨ X.env.scope.names.lookup x = some .local := by first | exact .inl rfl | exact .inr rfl | assumption) : wpAny M A (storeName X.env x u) Q E s :=
  store_ok2 I hN hi hx r (fun s' I' _ => h s' I') hf
/-- behind a call or a block, the state as it is -/
theorem Inv.call' {s' : Shared} {ch : List Addr} (I : Inv X pins σ H s) (ho : s'.os = s.os) (u : Un (frs X.stack) ch H H' s.heap s'.heap) (hok : HOk X.prog X.w H' s'.heap) (hg : AllBare s'.gens)
    (hch : ∀ b ∈ ch, (b ∈ X.ex ∨ X.s₀.heap.objs.size ≤ b) ∧ b ≠ X.env.locals ∧ (∀ x c, X.env.cells.lookup x = some c → c ≠ b) ∧ ∀ p ∈ X.pn ++ pins, p.1 ≠ b) : Inv X pins σ H' s' := by
  obtain ⟨h', g', d', t', o'⟩ := s'
  have e : o' = s.os := ho
  subst e
  exact I.call (g' := g') (t' := t') (d' := d') u hok hg hch
end

/-! ### the judgements -/
/-- an exception: its class, its own dict's address (where it has one), the abstract heap behind it -/
abbrev XK := Value → Option Addr → Hp → Prop
abbrev St := List (Option V)
abbrev VK := V → Hp → Prop
/-- an expression's reading; a test's; an argument list's -/
abbrev TE := St → Hp → VK → Prop
abbrev TT := St → Hp → (Bool → Hp → Prop) → Prop
abbrev TA := St → Hp → (List V → Hp → Prop) → Prop
/-- what is wanted behind a statement -/
structure Ends where
  nx : St → Hp → Prop
  rt : VK
  bk : St → Hp → Prop := fun _ _ => False
  ct : St → Hp → Prop := fun _ _ => False
abbrev TS := Ends → St → Hp → Prop

def EP (X : Cx) (pins : List (Addr × Obj)) (σ : St) (Q : VK) (u : Value) (s' : Shared) : Prop := ∃ v H', Inv X pins σ H' s' ∧ RelV v u ∧ Q v H'
def TP (X : Cx) (pins : List (Addr × Obj)) (σ : St) (Q : Bool → Hp → Prop) (b : Bool) (s' : Shared) : Prop := ∃ H', Inv X pins σ H' s' ∧ Q b H'
def AP (X : Cx) (pins : List (Addr × Obj)) (σ : St) (Q : List V → Hp → Prop) (us : List Value) (s' : Shared) : Prop := ∃ vs H', Inv X pins σ H' s' ∧ Vals vs us ∧ Q vs H'
def SP (X : Cx) (pins : List (Addr × Obj)) (D : Ends) (f : Flow) (s' : Shared) : Prop :=
  match f with
  | .next => ∃ σ' H', Inv X pins σ' H' s' ∧ D.nx σ' H'
  | .brk => ∃ σ' H', Inv X pins σ' H' s' ∧ D.bk σ' H'
  | .cont => ∃ σ' H', Inv X pins σ' H' s' ∧ D.ct σ' H'
  | .ret u => ∃ v σ' H', Inv X pins σ' H' s' ∧ RelV v u ∧ D.rt v H'

def PE (X : Cx) (e : Expr) (t : TE) : Prop :=
  ∀ (pins : List (Addr × Obj)) (s : Shared) (σ : St) (H : Hp) (Q : VK), Inv X pins σ H s → t σ H Q → wpAny (model X.prog X.w) X.A (eval e X.env) (EP X pins σ Q) X.xe s
def PT (X : Cx) (e : Expr) (t : TT) : Prop :=
  ∀ (pins : List (Addr × Obj)) (s : Shared) (σ : St) (H : Hp) (Q : Bool → Hp → Prop), Inv X pins σ H s → t σ H Q → wpAny (model X.prog X.w) X.A (isTrue e X.env (eval e X.env)) (TP X pins σ Q) X.xe s
/-- a test whatever its 'whole' is (and, or) -/
def PW (X : Cx) (e : Expr) (t : TT) : Prop :=
  ∀ (whole : Sem Value) (pins : List (Addr × Obj)) (s : Shared) (σ : St) (H : Hp) (Q : Bool → Hp → Prop), Inv X pins σ H s → t σ H Q → wpAny (model X.prog X.w) X.A (isTrue e X.env whole) (TP X pins σ Q) X.xe s
theorem PW.pt {X : Cx} {e : Expr} {t : TT} (h : PW X e t) : PT X e t := h _
/-- an argument list (no star), from the left -/
def PA (X : Cx) (es : List Expr) (t : TA) : Prop :=
  ∀ (pos : Pos) (pins : List (Addr × Obj)) (s : Shared) (σ : St) (H : Hp) (Q : List V → Hp → Prop), Inv X pins σ H s → t σ H Q → wpAny (model X.prog X.w) X.A (spliced (backTo pos (starEach es X.env))) (AP X pins σ Q) X.xe s
def PS (X : Cx) (st : Stmt) (t : TS) : Prop :=
  ∀ (pins : List (Addr × Obj)) (s : Shared) (σ : St) (H : Hp) (D : Ends), Inv X pins σ H s → t D σ H → wpAny (model X.prog X.w) X.A (exec st X.env) (SP X pins D) X.xe s
def PSs (X : Cx) (st : List Stmt) (t : TS) : Prop :=
  ∀ (pins : List (Addr × Obj)) (s : Shared) (σ : St) (H : Hp) (D : Ends), Inv X pins σ H s → t D σ H → wpAny (model X.prog X.w) X.A (execs st X.env) (SP X pins D) X.xe s
/-- weaken the end -/
theorem thn {α : Type} {t : Sem α} {Q Q' : α → Shared → Prop} {M : Model} {A : Around} {E : Value → Shared → Prop} {s : Shared} (h : wpAny M A t Q E s) (hQ : ∀ a s, Q a s → Q' a s) : wpAny M A t Q' E s := wpAny_mono h hQ fun _ _ x => x
end L2

namespace L2
open PySem PySem.Spec PyProof.Rows
section
variable {X : Cx}

/-- two expressions in a row -/
theorem bin {a b : Expr} {ta tb : TE} (ha : PE X a ta) (hb : PE X b tb) {pins : List (Addr × Obj)} {s : Shared} {σ : St} {H : Hp} {R : V → V → Hp → Prop} (I : Inv X pins σ H s) (h : ta σ H fun x H1 => tb σ H1 fun y H2 => R x y H2)
    {α : Type} {Q : α → Shared → Prop} {f : Value → Value → Sem α}
    (hf : ∀ v u s2 x y H2, Inv X pins σ H2 s2 → RelV x v → RelV y u → R x y H2 → wpAny (model X.prog X.w) X.A (f v u) Q X.xe s2) :
    wpAny (model X.prog X.w) X.A (eval a X.env) (fun v s₁ => wpAny (model X.prog X.w) X.A (eval b X.env) (fun u s₂ => wpAny (model X.prog X.w) X.A (f v u) Q X.xe s₂) X.xe s₁) X.xe s := by
  refine thn (ha pins s σ H _ I h) fun v s1 ⟨x, H1, I1, r1, q1⟩ => ?_
  refine thn (hb pins s1 σ H1 _ I1 q1) fun u s2 ⟨y, H2, I2, r2, q2⟩ => ?_
  exact hf v u s2 x y H2 I2 r1 r2 q2

/-! ### names and constants -/
def tVar (i : Nat) : TE := fun σ H Q => ∃ v, σ[i]? = some (some v) ∧ Q v H
def tC (v : V) : TE := fun _ H Q => Q v H
theorem pe_var {i : Nat} {x : Str} {pos : Pos} (hN : X.N[i]? = some x) (hv : Vis X.env.scope x) (hd : (x == ("__debug__" : Str)) = false := by decide) (hcd : (x == ("__classdict__" : Str)) = false := by decide) : PE X (.Name x pos) (tVar i) := by
  intro pins s σ H Q I h
  obtain ⟨v, e, h⟩ := h
  obtain ⟨m, hn, hl⟩ := I.loc
  obtain ⟨u, r, l⟩ := hl i x v hN e hv
  have fin : EP X pins σ Q u s := ⟨v, H, I, r, h⟩
  rcases l with ⟨hk, hm⟩ | ⟨hk, c, hc, hcell⟩
  · exact wpAny_Name (wpAny_loadName_local I.ok.kind hk hn hm fin) hd
  · rcases hk with hk | hk
    · exact wpAny_Name (wpAny_loadName_cell I.ok.kind hk hc hcell fin) hd
    · exact wpAny_Name (wpAny_loadName_free I.ok.kind hk hc hcell fin hcd) hd
theorem pe_int {i j pos} : PE X (.Constant (.int i) j pos) (tC (.int i)) := fun _ _ _ H _ I h => wpAny_Constant_int ⟨.int i, H, I.tok _, ⟨_, rfl⟩, h⟩
theorem pe_bl {b j pos} : PE X (.Constant (.bool b) j pos) (tC (.bl b)) := fun _ _ _ H _ I h => Constant_bool ⟨.bl b, H, I, rfl, h⟩
theorem pe_non {j pos} : PE X (.Constant .none j pos) (tC .non) := fun _ _ _ H _ I h => Constant_none ⟨.non, H, I, rfl, h⟩
theorem pe_str {x j pos} : PE X (.Constant (.str x) j pos) (tC (.str x)) := fun _ _ _ H _ I h => Calls.Constant_str ⟨.str x, H, I.tok _, ⟨_, rfl⟩, h⟩

/-- a global name of the def -/
def Gl (X : Cx) (x : Str) : Prop := X.env.kindOf x = some .globalImplicit
theorem ld_glob {E : Value → Shared → Prop} {pins : List (Addr × Obj)} {s : Shared} {σ : St} {H : Hp} {x : Str} {u : Value} {pos : Pos} {Q : Value → Shared → Prop} (I : Inv X pins σ H s) (hg : Gl X x) (hm : X.mg x = some u) (h : Q u s)
    (hd : (x == ("__debug__" : Str)) = false := by decide) : wpAny (model X.prog X.w) X.A (eval (.Name x pos) X.env) Q E s :=
  Calls.Name_function_global I.ok.kind hg (Calls.loadGlobal_global (by rw [I.ok.glob]; exact I.mod.glob.keeps I.bk) hm h) hd
theorem ld_blt {E : Value → Shared → Prop} {pins : List (Addr × Obj)} {s : Shared} {σ : St} {H : Hp} {x : Str} {u : Value} {pos : Pos} {Q : Value → Shared → Prop} (I : Inv X pins σ H s) (hg : Gl X x) (hm : X.mg x = none) (hv : bootBuiltins x = some u) (h : Q u s)
    (hn : x ≠ "__name__" := by decide) (hd : (x == ("__debug__" : Str)) = false := by decide) : wpAny (model X.prog X.w) X.A (eval (.Name x pos) X.env) Q E s := by
  obtain ⟨mb, h1, h2⟩ := I.mod.blt
  exact Calls.Name_function_global I.ok.kind hg (Calls.loadGlobal_builtin (by rw [I.ok.glob]; exact I.mod.glob.keeps I.bk) hm (by rw [I.ok.blt]; exact h1.keeps I.bk) ((h2 x hn).trans hv) h) hd
/-- a module's constant, a class, a function, as a value -/
theorem pe_glob {x : Str} {v : V} {u : Value} {pos : Pos} (hg : Gl X x) (hm : X.mg x = some u) (r : RelV v u) (hd : (x == ("__debug__" : Str)) = false := by decide) : PE X (.Name x pos) (tC v) :=
  fun _ _ _ H _ I h => ld_glob I hg hm ⟨v, H, I, r, h⟩ hd
theorem pe_bltn {x : Str} {v : V} {u : Value} {pos : Pos} (hg : Gl X x) (hm : X.mg x = none) (hv : bootBuiltins x = some u) (r : RelV v u) (hn : x ≠ "__name__" := by decide) (hd : (x == ("__debug__" : Str)) = false := by decide) : PE X (.Name x pos) (tC v) :=
  fun _ _ _ H _ I h => ld_blt I hg hm hv ⟨v, H, I, r, h⟩ hn hd

/-! ### arithmetic -/
/-- two ints -/
def t2I (ta tb : TE) (k : Int → Int → Hp → Prop) : St → Hp → Prop := fun σ H => ta σ H fun x H1 => tb σ H1 fun y H2 => ∃ i j, x = .int i ∧ y = .int j ∧ k i j H2
def tAdd (ta tb : TE) : TE := fun σ H Q => t2I ta tb (fun i j H2 => Q (.int (i + j)) H2) σ H
def tSub (ta tb : TE) : TE := fun σ H Q => t2I ta tb (fun i j H2 => Q (.int (i - j)) H2) σ H
/-- the left factor below 2^64 -/
def tMul (ta tb : TE) : TE := fun σ H Q => t2I ta tb (fun i j H2 => (-(2 ^ 64) < i ∧ i < 2 ^ 64) ∧ Q (.int (i * j)) H2) σ H
variable {a b : Expr} {ta tb : TE} {pos : Pos}
theorem pe_add (ha : PE X a ta) (hb : PE X b tb) : PE X (.BinOp a .Add b pos) (tAdd ta tb) := by
  intro pins s σ H Q I h
  refine wpAny_BinOp (bin ha hb I h fun v u s2 x y H2 I2 rx ry q => ?_)
  obtain ⟨i, j, rfl, rfl, q⟩ := q
  obtain ⟨t, rfl⟩ := rx
  obtain ⟨t', rfl⟩ := ry
  exact add_int ⟨.int _, H2, I2.tok _, ⟨_, rfl⟩, q⟩
theorem pe_sub (ha : PE X a ta) (hb : PE X b tb) : PE X (.BinOp a .Sub b pos) (tSub ta tb) := by
  intro pins s σ H Q I h
  refine wpAny_BinOp (bin ha hb I h fun v u s2 x y H2 I2 rx ry q => ?_)
  obtain ⟨i, j, rfl, rfl, q⟩ := q
  obtain ⟨t, rfl⟩ := rx
  obtain ⟨t', rfl⟩ := ry
  exact sub_int ⟨.int _, H2, I2.tok _, ⟨_, rfl⟩, q⟩
theorem pe_mul (ha : PE X a ta) (hb : PE X b tb) : PE X (.BinOp a .Mult b pos) (tMul ta tb) := by
  intro pins s σ H Q I h
  refine wpAny_BinOp (bin ha hb I h fun v u s2 x y H2 I2 rx ry q => ?_)
  obtain ⟨i, j, rfl, rfl, ⟨q1, q2⟩, q⟩ := q
  obtain ⟨t, rfl⟩ := rx
  obtain ⟨t', rfl⟩ := ry
  exact mul_int ⟨.int _, H2, I2.tok _, ⟨_, rfl⟩, q⟩ (.of_left (intBits_le_64 q1 q2))

/-! ### comparisons -/
def PC (X : Cx) (op : CmpOp) (a b : Expr) (t : TE) : Prop :=
  ∀ (pins : List (Addr × Obj)) (s : Shared) (σ : St) (H : Hp) (Q : VK), Inv X pins σ H s → t σ H Q →
    wpAny (model X.prog X.w) X.A (eval a X.env) (fun v s₁ => wpAny (model X.prog X.w) X.A (eval b X.env) (fun u s₂ => wpAny (model X.prog X.w) X.A (compareOp op v u) (EP X pins σ Q) X.xe s₂) X.xe s₁) X.xe s
theorem nobehind (b : Expr) {op : CmpOp} (h : op ≠ .In) (h2 : op ≠ .NotIn) : behindInMarks op b = false := by
  have e1 : (op == CmpOp.In) = false := by cases op <;> first | rfl | exact absurd rfl h
  have e2 : (op == CmpOp.NotIn) = false := by cases op <;> first | rfl | exact absurd rfl h2
  cases b <;> simp [behindInMarks, e1, e2]
def tCmp (p : Int → Int → Bool) (ta tb : TE) : TE := fun σ H Q => t2I ta tb (fun i j H2 => Q (.bl (p i j)) H2) σ H
abbrev tLt : TE → TE → TE := tCmp fun i j => decide (i < j)
abbrev tLe : TE → TE → TE := tCmp fun i j => decide (i ≤ j)
abbrev tGt : TE → TE → TE := tCmp fun i j => decide (j < i)
abbrev tGe : TE → TE → TE := tCmp fun i j => decide (j ≤ i)
abbrev tEqI : TE → TE → TE := tCmp fun i j => decide (i = j)
abbrev tNeI : TE → TE → TE := tCmp fun i j => !decide (i = j)
/-- a comparison of two ints, by its rule -/
theorem pc_int {op : CmpOp} {p : Int → Int → Bool} (ha : PE X a ta) (hb : PE X b tb)
    (rule : ∀ (i j : Int) (t u : Tok) (Q : Value → Shared → Prop) (s : Shared), Q (.bool (p i j)) s → wpAny (model X.prog X.w) X.A (compareOp op (.int i t) (.int j u)) Q X.xe s) : PC X op a b (tCmp p ta tb) := by
  intro pins s σ H Q I h
  refine bin ha hb I h fun v u s2 x y H2 I2 rx ry q => ?_
  obtain ⟨i, j, rfl, rfl, q⟩ := q
  obtain ⟨t, rfl⟩ := rx
  obtain ⟨t', rfl⟩ := ry
  exact rule i j t t' _ s2 ⟨.bl _, H2, I2, rfl, q⟩
theorem pc_lt (ha : PE X a ta) (hb : PE X b tb) : PC X .Lt a b (tLt ta tb) := pc_int ha hb fun _ _ _ _ _ _ h => lt_int h
theorem pc_le (ha : PE X a ta) (hb : PE X b tb) : PC X .LtE a b (tLe ta tb) := pc_int ha hb fun _ _ _ _ _ _ h => le_int h
theorem pc_gt (ha : PE X a ta) (hb : PE X b tb) : PC X .Gt a b (tGt ta tb) := pc_int ha hb fun _ _ _ _ _ _ h => gt_int h
theorem pc_ge (ha : PE X a ta) (hb : PE X b tb) : PC X .GtE a b (tGe ta tb) := pc_int ha hb fun _ _ _ _ _ _ h => ge_int h
theorem pc_eqI (ha : PE X a ta) (hb : PE X b tb) : PC X .Eq a b (tEqI ta tb) := pc_int ha hb fun _ _ _ _ _ _ h => eq_int (by rw [Bool.beq_eq_decide_eq]; exact h)
theorem pc_neI (ha : PE X a ta) (hb : PE X b tb) : PC X .NotEq a b (tNeI ta tb) := pc_int ha hb fun _ _ _ _ _ _ h => ne_int (by rw [bne, Bool.beq_eq_decide_eq]; exact h)
/-- is None -/
def tIsN (ta : TE) : TE := fun σ H Q => ta σ H fun x H1 => Q (.bl (decide (x = .non))) H1
def tNotN (ta : TE) : TE := fun σ H Q => ta σ H fun x H1 => Q (.bl (!decide (x = .non))) H1
theorem RelV.none_iff {x : V} {v : Value} (r : RelV x v) : (v == Value.none) = decide (x = .non) := by
  cases x with
  | non => cases r; rfl
  | bl _ => cases r; rfl
  | int _ => obtain ⟨t, rfl⟩ := r; rfl
  | str _ => obtain ⟨t, rfl⟩ := r; rfl
  | byt _ => obtain ⟨t, rfl⟩ := r; rfl
  | flt _ => obtain ⟨t, rfl⟩ := r; rfl
  | ref _ => cases r; rfl
  | ty _ => cases r; rfl
theorem pc_isN {j pos'} (ha : PE X a ta) : PC X .Is a (.Constant .none j pos') (tIsN ta) := by
  intro pins s σ H Q I h
  refine thn (ha pins s σ H _ I h) fun v s1 ⟨x, H1, I1, r1, q1⟩ => ?_
  exact Constant_none (is_none_gen ⟨.bl _, H1, I1, by rw [r1.none_iff]; rfl, q1⟩)
theorem pc_notN {j pos'} (ha : PE X a ta) : PC X .IsNot a (.Constant .none j pos') (tNotN ta) := by
  intro pins s σ H Q I h
  refine thn (ha pins s σ H _ I h) fun v s1 ⟨x, H1, I1, r1, q1⟩ => ?_
  exact Constant_none (isnot_none_gen ⟨.bl _, H1, I1, by rw [r1.none_iff]; rfl, q1⟩)
/-- a comparison as a value, as a test -/
def tB (t : TE) : TT := fun σ H Q => t σ H fun x H1 => ∃ c, x = .bl c ∧ Q c H1
theorem pe_cmp {op : CmpOp} {t : TE} (h : PC X op a b t) (h1 : behindInMarks op b = false := by first | exact nobehind _ (by decide) (by decide) | rfl) : PE X (.Compare a [op] [b] pos) t := fun pins s σ H Q I hw => wpAny_Compare1 (h pins s σ H Q I hw) h1
theorem pt_cmp {op : CmpOp} {t : TE} (h : PC X op a b t) (h1 : behindInMarks op b = false := by first | exact nobehind _ (by decide) (by decide) | rfl) : PT X (.Compare a [op] [b] pos) (tB t) := by
  intro pins s σ H Q I hw
  refine wpAny_isTrue_Compare1 (thn (h pins s σ H _ I hw) fun v s1 h1 => thn h1 fun u s2 h2 => thn h2 fun c s3 ⟨x, H1, I1, r1, q1⟩ => ?_) h1
  obtain ⟨d, rfl, q⟩ := q1
  cases r1
  exact wpAny_truthy_bool ⟨H1, I1, q⟩
/-- an expression whose value is a bool, as a test -/
theorem pt_val {e : Expr} {t : TE} (h : PE X e t) (he : ∀ whole, isTrue e X.env whole = (do let v ← whole; standAt e.pos; holding [v] (truthy v)) := by intro _; rfl) : PT X e (tB t) := by
  intro pins s σ H Q I hw
  refine isTrue_plain (thn (h pins s σ H _ I hw) fun v s1 ⟨x, H1, I1, r1, q1⟩ => ?_) (he _)
  obtain ⟨d, rfl, q⟩ := q1
  cases r1
  exact wpAny_truthy_bool ⟨H1, I1, q⟩

/-! ### and, or, not -/
variable {tA tB' : TT} {rest : List Expr}
def tAnd (t u : TT) : TT := fun σ H Q => t σ H fun c H1 => if c = true then u σ H1 Q else Q false H1
def tOr (t u : TT) : TT := fun σ H Q => t σ H fun c H1 => if c = true then Q true H1 else u σ H1 Q
def tNot (t : TT) : TT := fun σ H Q => t σ H fun c H1 => Q (!c) H1
theorem pw_and1 (ha : PT X a tA) : PW X (.BoolOp .And [a] pos) tA := by
  intro wh pins s σ H Q I h
  refine isTrue_and (thn (ha pins s σ H Q I h) fun c s1 e => ?_)
  cases c with
  | true => exact isTrue_and_nil e
  | false => exact e
theorem pw_or1 (ha : PT X a tA) : PW X (.BoolOp .Or [a] pos) tA := by
  intro wh pins s σ H Q I h
  refine isTrue_or (thn (ha pins s σ H Q I h) fun c s1 e => ?_)
  cases c with
  | false => exact isTrue_or_nil e
  | true => exact e
theorem pw_and (ha : PT X a tA) (hb : PW X (.BoolOp .And (b :: rest) pos) tB') : PW X (.BoolOp .And (a :: b :: rest) pos) (tAnd tA tB') := by
  intro wh pins s σ H Q I h
  refine isTrue_and (thn (ha pins s σ H _ I h) fun c s1 ⟨H1, I1, q1⟩ => ?_)
  cases c with
  | true => exact hb wh pins s1 σ H1 Q I1 q1
  | false => exact ⟨H1, I1, q1⟩
theorem pw_or (ha : PT X a tA) (hb : PW X (.BoolOp .Or (b :: rest) pos) tB') : PW X (.BoolOp .Or (a :: b :: rest) pos) (tOr tA tB') := by
  intro wh pins s σ H Q I h
  refine isTrue_or (thn (ha pins s σ H _ I h) fun c s1 ⟨H1, I1, q1⟩ => ?_)
  cases c with
  | true => exact ⟨H1, I1, q1⟩
  | false => exact hb wh pins s1 σ H1 Q I1 q1
theorem pt_not (ha : PT X a tA) : PT X (.UnaryOp .Not a pos) (tNot tA) := by
  intro pins s σ H Q I h
  exact isTrue_not (ha pins s σ H (fun c H1 => Q (!c) H1) I h)
/-- .. as values (bools) -/
def tAndV (ta tb : TE) : TE := fun σ H Q => ta σ H fun x H1 => ∃ c, x = .bl c ∧ if c = true then tb σ H1 Q else Q (.bl false) H1
def tOrV (ta tb : TE) : TE := fun σ H Q => ta σ H fun x H1 => ∃ c, x = .bl c ∧ if c = true then Q (.bl true) H1 else tb σ H1 Q
def tNotV (ta : TE) : TE := fun σ H Q => ta σ H fun x H1 => ∃ c, x = .bl c ∧ Q (.bl (!c)) H1
theorem pe_one {op} {t : TE} (h : PE X a t) : PE X (.BoolOp op [a] pos) t := fun pins s σ H Q I hw => BoolOp_one (h pins s σ H Q I hw)
theorem pe_and (ha : PE X a ta) (hb : PE X (.BoolOp .And (b :: rest) pos) tb) : PE X (.BoolOp .And (a :: b :: rest) pos) (tAndV ta tb) := by
  intro pins s σ H Q I h
  refine BoolOp_and (thn (ha pins s σ H _ I h) fun v s1 ⟨x, H1, I1, r1, q1⟩ => ?_)
  obtain ⟨c, rfl, q1⟩ := q1
  cases r1
  refine wpAny_truthy_bool ?_
  cases c with
  | true => exact hb pins s1 σ H1 Q I1 q1
  | false => exact ⟨.bl false, H1, I1, rfl, q1⟩
theorem pe_or (ha : PE X a ta) (hb : PE X (.BoolOp .Or (b :: rest) pos) tb) : PE X (.BoolOp .Or (a :: b :: rest) pos) (tOrV ta tb) := by
  intro pins s σ H Q I h
  refine BoolOp_or (thn (ha pins s σ H _ I h) fun v s1 ⟨x, H1, I1, r1, q1⟩ => ?_)
  obtain ⟨c, rfl, q1⟩ := q1
  cases r1
  refine wpAny_truthy_bool ?_
  cases c with
  | false => exact hb pins s1 σ H1 Q I1 q1
  | true => exact ⟨.bl true, H1, I1, rfl, q1⟩
theorem pe_not (ha : PE X a ta) : PE X (.UnaryOp .Not a pos) (tNotV ta) := by
  intro pins s σ H Q I h
  refine UnaryOp_ (thn (ha pins s σ H _ I h) fun v s1 ⟨x, H1, I1, r1, q1⟩ => ?_)
  obtain ⟨c, rfl, q1⟩ := q1
  cases r1
  exact not_of (wpAny_truthy_bool ⟨.bl (!c), H1, I1, rfl, q1⟩)
/-- a if t else b -/
def tIf (t : TT) (ta tb : TE) : TE := fun σ H Q => t σ H fun c H1 => if c = true then ta σ H1 Q else tb σ H1 Q
theorem pe_ifExp {c : Expr} (hc : PT X c tA) (ha : PE X a ta) (hb : PE X b tb) : PE X (.IfExp c a b pos) (tIf tA ta tb) := by
  intro pins s σ H Q I h
  refine wpAny_IfExp (thn (hc pins s σ H _ I h) fun d s1 ⟨H1, I1, q1⟩ => ?_)
  cases d with
  | true => exact ha pins s1 σ H1 Q I1 q1
  | false => exact hb pins s1 σ H1 Q I1 q1
end
end L2

namespace L2
open PySem PySem.Spec PyProof.Rows

/-! ### a list, a tuple that is read: tracked, frozen, or an object of the module -/
def SqL (K : PySem.W.Frag) (H : Hp) (a : Addr) (xs : List V) : Prop :=
  Rd H a (.lst xs) ∨
    ∃ (o : Obj) (its : Array Value) (n : Nat), K.lookup a = some o ∧ o.cls = .type "list" ∧ o.dict = none ∧ o.data = .seq its n ∧ its.size ≤ sizeLine ∧ Vals xs its.toList
def SqT (K : PySem.W.Frag) (H : Hp) (a : Addr) (xs : List V) : Prop :=
  Rd H a (.tup xs) ∨
    ∃ (o : Obj) (its : Array Value) (n : Nat), K.lookup a = some o ∧ o.cls = .type "tuple" ∧ o.data = .seq its n ∧ its.size ≤ sizeLine ∧ Vals xs its.toList
def absV : Value → Option V
  | .none => some .non
  | .bool b => some (.bl b)
  | .int i _ => some (.int i)
  | .str x _ => some (.str x)
  | .bytes b _ => some (.byt b)
  | .float b _ => some (.flt b)
  | .ref a => some (.ref a)
  | .type n => some (.ty n)
  | _ => none
theorem RelV.abs {x : V} {u : Value} (r : RelV x u) : absV u = some x := by
  cases x with
  | non => cases r; rfl
  | bl _ => cases r; rfl
  | int _ => obtain ⟨t, rfl⟩ := r; rfl
  | str _ => obtain ⟨t, rfl⟩ := r; rfl
  | byt _ => obtain ⟨t, rfl⟩ := r; rfl
  | flt _ => obtain ⟨t, rfl⟩ := r; rfl
  | ref _ => cases r; rfl
  | ty _ => cases r; rfl
theorem RelV.inj {x y : V} {u : Value} (r : RelV x u) (q : RelV y u) : x = y := Option.some.inj (r.abs.symm.trans q.abs)
theorem Vals.inj : ∀ {xs ys : List V} {us : List Value}, Vals xs us → Vals ys us → xs = ys
  | _, _, _, .nil, .nil => rfl
  | _, _, _, .cons r t, .cons r' t' => by rw [r.inj r', Vals.inj t t']
section
variable {X : Cx} {pins : List (Addr × Obj)} {σ : St} {H : Hp} {s : Shared} {a : Addr} {xs ys : List V}
theorem SqL.of {K : PySem.W.Frag} (h : H a = some (.lst xs)) : SqL K H a xs := .inl (.inl h)
theorem SqT.of {K : PySem.W.Frag} (h : H a = some (.tup xs)) : SqT K H a xs := .inl (.inl h)
theorem Inv.list (I : Inv X pins σ H s) (h : SqL X.K H a xs) : ∃ its : List Value, Vals xs its ∧ PlainL s.heap a its.toArray ∧ xs.length ≤ sizeLine := by
  rcases h with h | ⟨o, its, n, hk, hc, hd, hs, hz, r⟩
  · obtain ⟨z, its, n, r, e⟩ := h.ok I.hok
    exact ⟨its, r, ⟨_, n, e, rfl, rfl, rfl⟩, z⟩
  · refine ⟨its.toList, r, ⟨o, n, I.kIn a o hk, hc, hd, by simpa using hs⟩, ?_⟩
    have e := r.length
    simp only [Array.length_toList] at e
    omega
theorem Inv.tuple (I : Inv X pins σ H s) (h : SqT X.K H a xs) : ∃ its : List Value, Vals xs its ∧ IsTup s.heap a its.toArray ∧ xs.length ≤ sizeLine := by
  rcases h with h | ⟨o, its, n, hk, hc, hs, hz, r⟩
  · obtain ⟨z, its, r, p⟩ := h.ok I.hok
    exact ⟨its, r, p, z⟩
  · refine ⟨its.toList, r, ⟨o, I.kIn a o hk, hc, n, by simpa using hs⟩, ?_⟩
    have e := r.length
    simp only [Array.length_toList] at e
    omega
theorem Inv.list_inj (I : Inv X pins σ H s) (h : SqL X.K H a xs) (h' : SqL X.K H a ys) : xs = ys := by
  obtain ⟨its, r, ⟨o, n, e, _, _, d⟩, _⟩ := I.list h
  obtain ⟨its', r', ⟨o', n', e', _, _, d'⟩, _⟩ := I.list h'
  rw [e] at e'; cases e'
  rw [d] at d'
  injection d' with d1 _
  have : its = its' := by simpa using congrArg Array.toList d1
  subst this
  exact r.inj r'
theorem Inv.tuple_inj (I : Inv X pins σ H s) (h : SqT X.K H a xs) (h' : SqT X.K H a ys) : xs = ys := by
  obtain ⟨its, r, ⟨o, e, _, n, d⟩, _⟩ := I.tuple h
  obtain ⟨its', r', ⟨o', e', _, n', d'⟩, _⟩ := I.tuple h'
  rw [e] at e'; cases e'
  rw [d] at d'
  injection d' with d1 _
  have : its = its' := by simpa using congrArg Array.toList d1
  subst this
  exact r.inj r'
end

/-! ### another wish about exceptions -/
abbrev Cx.wish (X : Cx) (E : Value → Shared → Prop) : Cx := { X with xe := E }
/-- no exception leaves -/
abbrev Cx.nox (X : Cx) : Cx := X.wish fun _ _ => False
theorem Cx.Ok.wish {X : Cx} (ok : X.Ok) (E : Value → Shared → Prop) : (X.wish E).Ok :=
  ⟨ok.mod, ok.kind, ok.glob, ok.blt, ok.above, ok.inj, ok.has, ok.cab, ok.hd, ok.frames, ok.stk, ok.exf, ok.bs, ok.bsz, ok.noex, ok.exfs, ok.funs, ok.frf⟩
theorem Cx.Ok.unwish {X : Cx} {E : Value → Shared → Prop} (ok : (X.wish E).Ok) : X.Ok :=
  ⟨ok.mod, ok.kind, ok.glob, ok.blt, ok.above, ok.inj, ok.has, ok.cab, ok.hd, ok.frames, ok.stk, ok.exf, ok.bs, ok.bsz, ok.noex, ok.exfs, ok.funs, ok.frf⟩
section
variable {X : Cx} {pins : List (Addr × Obj)} {σ : St} {H : Hp} {s : Shared} {E : Value → Shared → Prop}
theorem Inv.wish (I : Inv X pins σ H s) (E : Value → Shared → Prop) : Inv (X.wish E) pins σ H s := ⟨I.ok.wish E, I.os, I.bare, I.base, I.loc, I.cell, I.free, I.freeC, I.pin, I.hok, I.len⟩
theorem Inv.unwish (I : Inv (X.wish E) pins σ H s) : Inv X pins σ H s := ⟨I.ok.unwish, I.os, I.bare, I.base, I.loc, I.cell, I.free, I.freeC, I.pin, I.hok, I.len⟩
theorem SP.unwish {D : Ends} {f : Flow} {s' : Shared} (h : SP (X.wish E) pins D f s') : SP X pins D f s' := by
  cases f with
  | next => obtain ⟨σ', H', I, q⟩ := h; exact ⟨σ', H', I.unwish, q⟩
  | brk => obtain ⟨σ', H', I, q⟩ := h; exact ⟨σ', H', I.unwish, q⟩
  | cont => obtain ⟨σ', H', I, q⟩ := h; exact ⟨σ', H', I.unwish, q⟩
  | ret u => obtain ⟨v, σ', H', I, r, q⟩ := h; exact ⟨v, σ', H', I.unwish, r, q⟩
theorem PE.nox {e : Expr} {t : TE} (h : PE X.nox e t) : PE X e t := fun pins s σ H Q I hw =>
  wpAny_mono (h pins s σ H Q (I.wish _) hw) (fun _ _ ⟨v, H', I', r, q⟩ => ⟨v, H', I'.unwish, r, q⟩) fun _ _ z => False.elim z
theorem PT.nox {e : Expr} {t : TT} (h : PT X.nox e t) : PT X e t := fun pins s σ H Q I hw =>
  wpAny_mono (h pins s σ H Q (I.wish _) hw) (fun _ _ ⟨H', I', q⟩ => ⟨H', I'.unwish, q⟩) fun _ _ z => False.elim z
theorem PSs.nox {st : List Stmt} {t : TS} (h : PSs X.nox st t) : PSs X st t := fun pins s σ H D I hw =>
  wpAny_mono (h pins s σ H D (I.wish _) hw) (fun _ _ q => q.unwish) fun _ _ z => False.elim z
end

/-! ### blocks and small statements -/
section
variable {X : Cx} {st : Stmt} {rest : List Stmt} {t u : TS} {e : Expr} {te : TE} {pos : Pos}
def tNext : TS := fun D σ H => D.nx σ H
def tSeq (t u : TS) : TS := fun D σ H => t { D with nx := u D } σ H
theorem pss_nil : PSs X [] tNext := fun _ _ σ H _ I h => wpAny_execs_nil ⟨σ, H, I, h⟩
theorem pss_cons (h1 : PS X st t) (h2 : PSs X rest u) : PSs X (st :: rest) (tSeq t u) := by
  intro pins s σ H D I h
  refine wpAny_execs_cons (thn (h1 pins s σ H { D with nx := u D } I h) fun f s1 q => ?_)
  cases f with
  | next =>
    obtain ⟨σ', H', I', q⟩ := q
    exact h2 pins s1 σ' H' D I' q
  | ret v => exact q
  | brk => exact q
  | cont => exact q
theorem pss_one (h1 : PS X st t) : PSs X [st] t := by
  intro pins s σ H D I h
  refine wpAny_execs_cons (thn (h1 pins s σ H D I h) fun f s1 q => ?_)
  cases f with
  | next => exact wpAny_execs_nil q
  | ret v => exact q
  | brk => exact q
  | cont => exact q
def tBreak : TS := fun D σ H => D.bk σ H
def tCont : TS := fun D σ H => D.ct σ H
theorem ps_pass : PS X (.Pass pos) tNext := fun _ _ σ H _ I h => wpAny_Pass ⟨σ, H, I, h⟩
theorem ps_break : PS X (.Break pos) tBreak := fun _ _ σ H _ I h => wpAny_Break ⟨σ, H, I, h⟩
theorem ps_continue : PS X (.Continue pos) tCont := fun _ _ σ H _ I h => wpAny_Continue ⟨σ, H, I, h⟩
/-- in a def's body nothing is shown -/
theorem Inv.quiet {pins : List (Addr × Obj)} {σ : St} {H : Hp} {s : Shared} (I : Inv X pins σ H s) : interactive X.env = false := by simp [interactive, I.ok.kind]
/-- a docstring -/
theorem ps_doc {x j pos pos'} : PS X (.Expr (.Constant (.str x) j pos) pos') tNext := fun _ s σ H _ I h => wpAny_Expr (Calls.Constant_str (show SP X _ _ .next { s with toks := s.toks + 1 } from ⟨σ, H, I.tok _, h⟩)) I.quiet
/-- an expression whose value is dropped -/
def tDrop (te : TE) : TS := fun D σ H => te σ H fun _ H1 => D.nx σ H1
theorem ps_expr (he : PE X e te) (hs : swapsWith e none pos.line X.env = pure false := by rfl) : PS X (.Expr e pos) (tDrop te) := by
  intro pins s σ H D I h
  exact wpAny_Expr_any (thn (he pins s σ H _ I h) fun v s1 ⟨x, H1, I1, r1, q1⟩ => ⟨σ, H1, I1, q1⟩) I.quiet hs
def tRet (te : TE) : TS := fun D σ H => te σ H D.rt
theorem ps_ret (he : PE X e te) : PS X (.Return (some e) pos) (tRet te) := by
  intro pins s σ H D I h
  exact wpAny_Return_some (thn (he pins s σ H _ I h) fun v s1 ⟨x, H1, I1, r1, q1⟩ => ⟨x, σ, H1, I1, r1, q1⟩)
def tRetN : TS := fun D _ H => D.rt .non H
theorem ps_retN : PS X (.Return none pos) tRetN := fun _ _ σ H _ I h => wpAny_Return_none ⟨.non, σ, H, I, rfl, h⟩
def tIfS (c : TT) (t u : TS) : TS := fun D σ H => c σ H fun b H1 => if b = true then t D σ H1 else u D σ H1
theorem ps_if {c : Expr} {a b : List Stmt} {tc : TT} (hc : PT X c tc) (ha : PSs X a t) (hb : PSs X b u) : PS X (.If c a b pos) (tIfS tc t u) := by
  intro pins s σ H D I h
  refine wpAny_If (thn (hc pins s σ H _ I h) fun d s1 ⟨H1, I1, q1⟩ => ?_)
  cases d with
  | true => exact ha pins s1 σ H1 D I1 q1
  | false => exact hb pins s1 σ H1 D I1 q1
/-- code that the proof never comes to -/
def tNever : TS := fun _ _ _ => False
theorem ps_never : PS X st tNever := fun _ _ _ _ _ _ h => h.elim
theorem pss_never {sts : List Stmt} : PSs X sts tNever := fun _ _ _ _ _ _ h => h.elim
end

/-! ### targets -/
abbrev TG := V → St → Hp → (St → Hp → Prop) → Prop
abbrev TGs := List V → St → Hp → (St → Hp → Prop) → Prop
def PG (X : Cx) (target : Expr) (t : TG) : Prop :=
  ∀ (pins : List (Addr × Obj)) (s : Shared) (σ : St) (H : Hp) (v : V) (u : Value) (Q : St → Hp → Prop), Inv X pins σ H s → RelV v u → t v σ H Q →
    wpAny (model X.prog X.w) X.A (assign target X.env u) (fun _ s' => ∃ σ' H', Inv X pins σ' H' s' ∧ Q σ' H') X.xe s
/-- several targets, one after another -/
def PGs (X : Cx) (ts : List Expr) (t : TGs) : Prop :=
  ∀ (pins : List (Addr × Obj)) (s : Shared) (σ : St) (H : Hp) (vs : List V) (us : List Value) (Q : St → Hp → Prop), Inv X pins σ H s → Vals vs us → t vs σ H Q →
    wpAny (model X.prog X.w) X.A (assignInOrder ((assignEach ts X.env).map (·.2)) us) (fun _ s' => ∃ σ' H', Inv X pins σ' H' s' ∧ Q σ' H') X.xe s
/-- o[i] = v, by values -/
abbrev TSet := V → V → V → Hp → (Hp → Prop) → Prop
def PSet (X : Cx) (t : TSet) : Prop :=
  ∀ (pins : List (Addr × Obj)) (s : Shared) (σ : St) (H : Hp) (o i v : V) (ov iv u : Value) (Q : Hp → Prop), Inv X pins σ H s → RelV o ov → RelV i iv → RelV v u → t o i v H Q →
    wpAny (model X.prog X.w) X.A (setItem ov iv u) (fun _ s' => ∃ H', Inv X pins σ H' s' ∧ Q H') X.xe s
/-- a op= b, by values -/
abbrev TIp := V → V → Hp → VK → Prop
def PIp (X : Cx) (op : Operator) (t : TIp) : Prop :=
  ∀ (pins : List (Addr × Obj)) (s : Shared) (σ : St) (H : Hp) (x y : V) (v u : Value) (Q : VK), Inv X pins σ H s → RelV x v → RelV y u → t x y H Q →
    wpAny (model X.prog X.w) X.A (inplaceOp op v u) (EP X pins σ Q) X.xe s
section
variable {X : Cx} {pos : Pos}
def gName (i : Nat) : TG := fun v σ H Q => Q (σ.set i (some v)) H
theorem pg_name {i : Nat} {x : Str} (hN : X.N.Nodup) (hi : X.N[i]? = some x) (hx : Loc X.env.scope x) (hf : X.fn x = true ∨ X.env.scope.names.lookup x = some .local := by first | exact .inl rfl | exact .inr rfl | assumption) : PG X (.Name x pos) (gName i) := by
  intro pins s σ H v u Q I r h
  exact wpAny_assign_Name (store_ok I hN hi hx r (fun s' I' => ⟨_, H, I', h⟩) hf)
def gNil : TGs := fun vs σ H Q => vs = [] ∧ Q σ H
def gCons (t : TG) (u : TGs) : TGs := fun vs σ H Q => ∃ v r, vs = v :: r ∧ t v σ H fun σ' H' => u r σ' H' Q
theorem pgs_nil : PGs X [] gNil := by
  intro pins s σ H vs us Q I r h
  obtain ⟨e, h⟩ := h
  subst e
  cases r
  exact assignInOrder_nil ⟨σ, H, I, h⟩
theorem pgs_cons {e : Expr} {es : List Expr} {t : TG} {u : TGs} (h1 : PG X e t) (h2 : PGs X es u)
    (hs : (assignEach (e :: es) X.env).map (·.2) = assign e X.env :: (assignEach es X.env).map (·.2) := by rfl) : PGs X (e :: es) (gCons t u) := by
  intro pins s σ H vs us Q I r h
  obtain ⟨v, vr, e1, h⟩ := h
  subst e1
  cases r with
  | cons r rr =>
    rw [hs]
    refine assignInOrder_cons (thn (h1 pins s σ H _ _ _ I r h) fun _ s1 ⟨σ1, H1, I1, q1⟩ => ?_)
    exact h2 pins s1 σ1 H1 _ _ Q I1 rr q1
/-- (a, b, ..) = a tuple of that length -/
def gTup (K : PySem.W.Frag) (n : Nat) (t : TGs) : TG := fun v σ H Q => ∃ a xs, v = .ref a ∧ SqT K H a xs ∧ xs.length = n ∧ t xs σ H Q
theorem pg_tup {es : List Expr} {k : Nat} {t : TGs} {n : Nat} (hc : X.calm = true) (h : PGs X es t)
    (hn : (assignEach es X.env).length = n := by rfl) (hst : (assignEach es X.env).findIdx? (·.1) = none := by rfl) : PG X (.Tuple es k pos) (gTup X.K n t) := by
  intro pins s σ H v u Q I r hw
  obtain ⟨a, xs, e1, hq, hl, hw⟩ := hw
  subst e1
  cases r
  obtain ⟨its, rv, ht, hz⟩ := I.tuple hq
  refine assign_Tuple_tuple (I.ok.hd hc) ht (by simp [hn, ← hl, rv.length]) hst fun h' hx => ?_
  have I1 : Inv X pins σ H { s with heap := h' } := I.kept (t' := s.toks) fun b o e => hx b o (Nat.ne_of_lt (Heap.lt_size e)) e
  exact h pins _ σ H xs _ Q I1 (by simpa using rv) hw
/-- o[i] = .. -/
def gSub (to ti : TE) (t : TSet) : TG := fun v σ H Q => to σ H fun o H1 => ti σ H1 fun i H2 => t o i v H2 fun H3 => Q σ H3
theorem pg_sub {o i : Expr} {to ti : TE} {t : TSet} (ho : PE X o to) (hi : PE X i ti) (hs : PSet X t)
    (ha : ∀ v, assign (.Subscript o i pos) X.env v = (do
      let ov ← holding [v] (eval o X.env)
      let iv ← holding [v, ov] (eval i X.env)
      standAt pos
      holding [v, ov, iv] (setItem ov iv v)
      release [v, ov, iv] []) := by intro _; rfl) : PG X (.Subscript o i pos) (gSub to ti t) := by
  intro pins s σ H v u Q I r h
  rw [ha]
  refine wpAny_bind (wpAny_holding (thn (ho pins s σ H _ I h) fun ov s1 ⟨x, H1, I1, r1, q1⟩ => ?_))
  refine wpAny_bind (wpAny_holding (thn (hi pins s1 σ H1 _ I1 q1) fun iv s2 ⟨y, H2, I2, r2, q2⟩ => ?_))
  refine wpAny_bind (wpAny_standAt (wpAny_bind (wpAny_holding (thn (hs pins s2 σ H2 x y v ov iv u _ I2 r1 r2 r q2) fun _ s3 ⟨H3, I3, q3⟩ => ?_))))
  exact wpAny_release ⟨σ, H3, I3, q3⟩
/-- target = value -/
def tAsg (te : TE) (g : TG) : TS := fun D σ H => te σ H fun x H1 => g x σ H1 D.nx
theorem ps_asg {tg e : Expr} {te : TE} {g : TG} (he : PE X e te) (hg : PG X tg g) (hs : swapsWithSole [tg] e pos.line X.env = pure false := by rfl) (hw : swappedStores [tg] e X.env = pure none := by rfl)
    (h1 : (assignEach [tg] X.env).map (·.2) = [assign tg X.env] := by rfl) : PS X (.Assign [tg] e pos) (tAsg te g) := by
  intro pins s σ H D I h
  refine wpAny_Assign_stores (thn (he pins s σ H _ I h) fun v s1 ⟨x, H1, I1, r1, q1⟩ => ?_) hs hw
  rw [h1]
  exact thn (hg pins s1 σ H1 x v _ I1 r1 q1) fun _ s2 q => q
/-- name = value -/
theorem ps_set {i : Nat} {x : Str} {e : Expr} {te : TE} {pos' : Pos} (hN : X.N.Nodup) (hi : X.N[i]? = some x) (hx : Loc X.env.scope x) (he : PE X e te) (hs : swapsWith e (some (.Name x pos')) pos.line X.env = pure false := by rfl) (hf : X.fn x = true ∨ X.env.scope.names.lookup x = some .local := by first | exact .inl rfl | exact .inr rfl | assumption) :
    PS X (.Assign [.Name x pos'] e pos) (tAsg te (gName i)) := by
  intro pins s σ H D I h
  refine wpAny_Assign_Name (thn (he pins s σ H _ I h) fun v s1 ⟨y, H1, I1, r1, q1⟩ => ?_) hs
  exact store_ok I1 hN hi hx r1 (fun s2 I2 => ⟨_, H1, I2, q1⟩) hf
/-- a, b = x, y with plain local names: stored from the right; the pair itself is not tracked (the opening rows as in PyProof/Rows/TupAssign.lean:23) -/
def tPar (i j : Nat) (ta : TA) : TS := fun D σ H => ta σ H fun vs H1 => ∃ v w, vs = [v, w] ∧ D.nx ((σ.set i (some v)).set j (some w)) H1
theorem ps_par {i j : Nat} {x y : Str} {a b : Expr} {ta : TA} {px py pt : Pos} {kt k2 pt2} (hc : X.calm = true) (hN : X.N.Nodup) (hi : X.N[i]? = some x) (hj : X.N[j]? = some y) (hij : i ≠ j)
    (hx : X.env.scope.names.lookup x = some .local) (hy : X.env.scope.names.lookup y = some .local) (ha : PA X [a, b] ta)
    (hw : swappedStores [.Tuple [.Name x px, .Name y py] kt pt] (.Tuple [a, b] k2 pt2) X.env = pure (some [x, y]))
    (hs : swapsWithSole [.Tuple [.Name x px, .Name y py] kt pt] (.Tuple [a, b] k2 pt2) pos.line X.env = pure false := by rfl) :
    PS X (.Assign [.Tuple [.Name x px, .Name y py] kt pt] (.Tuple [a, b] k2 pt2) pos) (tPar i j ta) := by
  intro pins s σ H D I h
  rw [exec_Assign_arm]
  refine wpAny_bind (wpAny_standAt ?_)
  rw [hs]
  refine wpAny_bind (wpAny_pure ?_)
  rw [if_neg (by decide)]
  refine wpAny_bind (Tuple_ (thn (ha _ pins s σ H _ I h) fun us s1 ⟨vs, H1, I1, r1, q1⟩ => ?_))
  obtain ⟨v, w, e1, q1⟩ := q1
  subst e1
  obtain ⟨u1, u2, rfl, rv, rw'⟩ : ∃ u1 u2, us = [u1, u2] ∧ RelV v u1 ∧ RelV w u2 := by
    cases r1 with
    | cons p q =>
      cases q with
      | cons p' q' =>
        cases q'
        exact ⟨_, _, rfl, p, p'⟩
  refine wpAny_newObj_type ?_ (by show 2 ≤ sizeLine; decide)
  have I2 : Inv X pins σ H1 { s1 with heap := s1.heap.push { cls := .type "tuple", data := .seq [u1, u2].toArray } } := I1.kept (t' := s1.toks) fun b o e => Heap.get?_push_of_some _ e
  rw [hw]
  refine wpAny_bind (wpAny_pure ?_)
  show wpAny (model X.prog X.w) X.A (do rule "assign.swapped-stores"; let items ← unpackItems (.ref s1.heap.objs.size) 2 none; assignInOrder [fun v => bindName X.env y v, fun v => bindName X.env x v] items.reverse; pure Flow.next) _ _ _
  refine wpAny_bind (wpAny_rule (wpAny_bind (unpackItems_tuple (items := #[u1, u2]) (I.ok.hd hc) (IsTup.new s1.heap _) fun h' hx' => ?_)))
  have I3 := I2.kept (h' := h') (t' := s1.toks) fun b o e => hx' b o (Nat.ne_of_lt (Heap.lt_size e)) e
  show wpAny _ _ (assignInOrder [fun v => bindName X.env y v, fun v => bindName X.env x v] [u2, u1] >>= fun _ => pure Flow.next) _ _ _
  refine wpAny_bind (assignInOrder_cons (wpAny_bindName (store_ok I3 hN hj (.inl hy) rw' (fun s2 I4 => ?_) (.inr hy))))
  refine assignInOrder_cons (wpAny_bindName (store_ok I4 hN hi (.inl hx) rv (fun s3 I5 => assignInOrder_nil (wpAny_pure ?_)) (.inr hx)))
  rw [List.set_comm _ _ (Ne.symm hij)] at I5
  exact ⟨_, H1, I5, q1⟩
/-- name op= e -/
def tAug (i : Nat) (te : TE) (ti : TIp) : TS := fun D σ H => ∃ x, σ[i]? = some (some x) ∧ te σ H fun y H1 => ti x y H1 fun z H2 => D.nx (σ.set i (some z)) H2
theorem ps_aug {i : Nat} {x : Str} {e : Expr} {te : TE} {op : Operator} {ti : TIp} {pos' : Pos} (hN : X.N.Nodup) (hi : X.N[i]? = some x) (hx : Loc X.env.scope x) (he : PE X e te) (ho : PIp X op ti) (hf : X.fn x = true ∨ X.env.scope.names.lookup x = some .local := by first | exact .inl rfl | exact .inr rfl | assumption) :
    PS X (.AugAssign (.Name x pos') op e pos) (tAug i te ti) := by
  intro pins s σ H D I h
  obtain ⟨v, e1, h⟩ := h
  obtain ⟨m, hn, hl⟩ := I.loc
  have vis : Vis X.env.scope x := by rcases hx with k | k; exact .inl k; exact .inr (.inl k)
  obtain ⟨u, r, l⟩ := hl i x v hi e1 vis
  refine wpAny_AugAssign_Name ?_
  have go : wpAny (model X.prog X.w) X.A (eval e X.env) (fun w s₂ => wpAny (model X.prog X.w) X.A (inplaceOp op u w) (fun r s₃ => wpAny (model X.prog X.w) X.A (storeName X.env x r) (fun _ => SP X pins D .next) X.xe s₃) X.xe s₂) X.xe s := by
    refine thn (he pins s σ H _ I h) fun w s1 ⟨y, H1, I1, r1, q1⟩ => ?_
    refine thn (ho pins s1 σ H1 v y u w _ I1 r r1 q1) fun z s2 ⟨zv, H2, I2, r2, q2⟩ => ?_
    exact store_ok I2 hN hi hx r2 (fun s3 I3 => ⟨_, H2, I3, q2⟩) hf
  rcases l with ⟨hk, hm⟩ | ⟨hk, c, hc, hcell⟩
  · exact wpAny_loadName_local I.ok.kind hk hn hm go
  · rcases hk with hk | hk
    · exact wpAny_loadName_cell I.ok.kind hk hc hcell go
    · rcases hx with k | k
      · have : X.env.scope.names.lookup x = some .free := hk
        rw [k] at this; cases this
      · have : X.env.scope.names.lookup x = some .free := hk
        rw [k] at this; cases this
/-- o[i] op= e -/
def tAugS (to ti te : TE) (tget : V → V → Hp → VK → Prop) (tip : TIp) (tset : TSet) : TS := fun D σ H => to σ H fun o H1 => ti σ H1 fun i H2 => tget o i H2 fun x H3 => te σ H3 fun y H4 => tip x y H4 fun z H5 => tset o i z H5 fun H6 => D.nx σ H6
/-- o[i], by values -/
def PGet (X : Cx) (t : V → V → Hp → VK → Prop) : Prop :=
  ∀ (pins : List (Addr × Obj)) (s : Shared) (σ : St) (H : Hp) (o i : V) (ov iv : Value) (Q : VK), Inv X pins σ H s → RelV o ov → RelV i iv → t o i H Q →
    wpAny (model X.prog X.w) X.A (getItem ov iv) (EP X pins σ Q) X.xe s
theorem ps_augS {o i e : Expr} {to ti te : TE} {tget : V → V → Hp → VK → Prop} {tip : TIp} {tset : TSet} {op : Operator} {tpos : Pos} (ho : PE X o to) (hi : PE X i ti) (hg : PGet X tget) (he : PE X e te) (hp : PIp X op tip) (hs : PSet X tset)
    (ha : ∀ ov iv new, augStore i ov iv new = (do holding [new, ov, iv] (setItem ov iv new); release [new, ov, iv] []; pure .next) := by intros; rfl) : PS X (.AugAssign (.Subscript o i tpos) op e pos) (tAugS to ti te tget tip tset) := by
  intro pins s σ H D I h
  refine wpAny_AugAssign_SubscriptAny (thn (ho pins s σ H _ I h) fun ov s1 ⟨x1, H1, I1, r1, q1⟩ => ?_) ha
  refine thn (hi pins s1 σ H1 _ I1 q1) fun iv s2 ⟨x2, H2, I2, r2, q2⟩ => ?_
  refine thn (hg pins s2 σ H2 x1 x2 ov iv _ I2 r1 r2 q2) fun old s3 ⟨x3, H3, I3, r3, q3⟩ => ?_
  refine thn (he pins s3 σ H3 _ I3 q3) fun v s4 ⟨x4, H4, I4, r4, q4⟩ => ?_
  refine thn (hp pins s4 σ H4 x3 x4 old v _ I4 r3 r4 q4) fun new s5 ⟨x5, H5, I5, r5, q5⟩ => ?_
  exact thn (hs pins s5 σ H5 x1 x2 x5 ov iv new _ I5 r1 r2 r5 q5) fun _ s6 ⟨H6, I6, q6⟩ => ⟨σ, H6, I6, q6⟩
/-- ints -/
def ipI (f : Int → Int → Int) : TIp := fun x y H Q => ∃ i j, x = .int i ∧ y = .int j ∧ Q (.int (f i j)) H
theorem ip_add : PIp X .Add (ipI fun i j => i + j) := by
  intro pins s σ H x y v u Q I r1 r2 h
  obtain ⟨i, j, e1, e2, q⟩ := h
  subst e1; subst e2
  obtain ⟨t, rfl⟩ := r1
  obtain ⟨t', rfl⟩ := r2
  exact iadd_int ⟨.int _, H, I.tok _, ⟨_, rfl⟩, q⟩
theorem ip_sub : PIp X .Sub (ipI fun i j => i - j) := by
  intro pins s σ H x y v u Q I r1 r2 h
  obtain ⟨i, j, e1, e2, q⟩ := h
  subst e1; subst e2
  obtain ⟨t, rfl⟩ := r1
  obtain ⟨t', rfl⟩ := r2
  exact isub_int ⟨.int _, H, I.tok _, ⟨_, rfl⟩, q⟩
end

/-! ### while -/
section
variable {X : Cx} {pos : Pos}
/-- the invariant W with its measure -/
def tWhile (c : TT) (tb : TS) : TS := fun D σ H => ∃ W : Nat → St → Hp → Prop, (∃ m, W m σ H) ∧ ∀ m σ H, W m σ H →
  c σ H fun b H1 => if b = true then ∃ N : St → Hp → Prop, (∀ σ' H', N σ' H' → ∃ m', m' < m ∧ W m' σ' H') ∧ tb { D with nx := N, ct := N, bk := D.nx } σ H1 else D.nx σ H1
theorem ps_while {c : Expr} {body : List Stmt} {tc : TT} {tb : TS} (hp : PassesOwn (model X.prog X.w) X.A X.env X.xe) (hc : PT X c tc) (hb : PSs X body tb) : PS X (.While c body [] pos) (tWhile tc tb) := by
  intro pins s σ H D I h
  obtain ⟨W, ⟨m0, w0⟩, turn⟩ := h
  refine wpAny_While (codeAny_whileLoop (fun n s' => ∃ σ' H', Inv X pins σ' H' s' ∧ W n σ' H') ?_ m0 ⟨σ, H, I, w0⟩)
  rintro n s1 ⟨σ1, H1, I1, w1⟩
  refine wpAny_passesOwn hp (thn (hc pins s1 σ1 H1 _ I1 (turn n σ1 H1 w1)) fun b s2 ⟨H2, I2, q2⟩ => ?_)
  cases b with
  | true =>
    obtain ⟨N, hN, q2⟩ := q2
    rw [if_pos rfl]
    refine wpAny_passesOwn hp (thn (hb pins s2 σ1 H2 _ I2 q2) fun f s3 q3 => ?_)
    cases f with
    | next =>
      obtain ⟨σ3, H3, I3, n3⟩ := q3
      obtain ⟨m', hm, w3⟩ := hN σ3 H3 n3
      exact ⟨m', hm, σ3, H3, I3, w3⟩
    | cont =>
      obtain ⟨σ3, H3, I3, n3⟩ := q3
      obtain ⟨m', hm, w3⟩ := hN σ3 H3 n3
      exact ⟨m', hm, σ3, H3, I3, w3⟩
    | brk => exact q3
    | ret v => exact q3
  | false =>
    rw [if_neg Bool.false_ne_true]
    exact wpAny_execs_nil ⟨σ1, H2, I2, q2⟩
end

/-! ### what a loop or a comprehension walks -/
/-- at turn i: it yields x (the heap may grow), or it stops -/
structure It where
  go : Nat → Hp → Prop
  yld : Nat → Hp → V → Hp → Prop
  stop : Nat → Hp → Prop
/-- the iterator's own objects may turn: they are not the frame's, not pinned, younger than the entry (or a comprehension's own) -/
def FpOk (X : Cx) (pins : List (Addr × Obj)) (H : Hp) (b : Addr) : Prop :=
  H b = none ∧ b ≠ X.env.locals ∧ b ∉ X.fs ∧ (b ∈ X.ex ∨ X.s₀.heap.objs.size ≤ b) ∧ (∀ x c, X.env.cells.lookup x = some c → c ≠ b) ∧ ∀ p ∈ X.pn ++ pins, p.1 ≠ b
theorem Inv.fpOk {X : Cx} {pins : List (Addr × Obj)} {σ : St} {H H' : Hp} {s : Shared} {b : Addr} (I : Inv X pins σ H s) (hb : s.heap.objs.size ≤ b) (hn : H' b = none) : FpOk X pins H' b := by
  refine ⟨hn, Nat.ne_of_gt (Nat.lt_of_lt_of_le I.lt hb), I.nofs hb, .inr (Nat.le_trans I.sz hb), fun x c e z => ?_, fun p hp z => ?_⟩
  · obtain ⟨v, q⟩ := I.cell x c e
    exact absurd (Nat.lt_of_lt_of_le q.lt (by rw [z]; exact hb)) (Nat.lt_irrefl _)
  · exact absurd (Nat.lt_of_lt_of_le (Heap.lt_size (I.pin p hp).1) (by rw [z]; exact hb)) (Nat.lt_irrefl _)
structure Turn (P : Program) (w : World) (K : PySem.W.Frag) (tg : Expr) (J : It) (fp : List Addr) (it : Addr) (tn : Nat → Heap → Prop) : Prop where
  mem : it ∈ fp
  obj : ∀ i h, tn i h → ∀ b ∈ fp, ∃ o, h.get? b = some o ∧ ∀ v, o.data ≠ .cell v
  keep : ∀ i h h', tn i h → (∀ b ∈ fp, ∀ o, h.get? b = some o → h'.get? b = some o) → tn i h'
  item : ∀ (X : Cx), X.prog = P → X.w = w → X.K = K → X.calm = true → ∀ (i : Nat) (pins : List (Addr × Obj)) (s : Shared) (σ : St) (H : Hp) (E : Value → Shared → Prop), Inv X pins σ H s → (∀ b ∈ fp, FpOk X pins H b) → tn i s.heap → J.go i H →
    wpAny (model P w) X.A (pyNext (.ref it)) (fun r s1 => ∃ u, r = some u ∧
      wpAny (model P w) X.A (letOwnedTupleGo tg (.ref it) u) (fun _ s2 => ∃ x H', Inv X pins σ H' s2 ∧ RelV x u ∧ J.yld i H x H' ∧ tn (i + 1) s2.heap ∧ ∀ b ∈ fp, H' b = none) E s1) E s
  done : ∀ (X : Cx), X.prog = P → X.w = w → X.K = K → X.calm = true → ∀ (i : Nat) (pins : List (Addr × Obj)) (s : Shared) (σ : St) (H : Hp) (E : Value → Shared → Prop), Inv X pins σ H s → (∀ b ∈ fp, FpOk X pins H b) → tn i s.heap → J.stop i H →
    wpAny (model P w) X.A (pyNext (.ref it)) (fun r s1 => r = none ∧ Inv X pins σ H s1) E s
  self : ∀ (A : Around) (i : Nat) (s : Shared) (Q : Value → Shared → Prop) (E : Value → Shared → Prop), tn i s.heap → Q (.ref it) s → wpAny (model P w) A (pyIter (.ref it)) Q E s
abbrev TI := St → Hp → (It → Hp → Prop) → Prop
/-- an iterator has come -/
def PIE (X : Cx) (pins : List (Addr × Obj)) (σ : St) (tg : Expr) (R : It → Hp → Prop) (itv : Value) (s2 : Shared) : Prop :=
  ∃ (it : Addr) (fp : List Addr) (tn : Nat → Heap → Prop) (J : It) (H' : Hp), itv = .ref it ∧ Inv X pins σ H' s2 ∧ Turn X.prog X.w X.K tg J fp it tn ∧ tn 0 s2.heap ∧ (∀ b ∈ fp, FpOk X pins H' b) ∧ R J H'
def PI (X : Cx) (tg iter : Expr) (wi : TI) : Prop :=
  ∀ (pins : List (Addr × Obj)) (s : Shared) (σ : St) (H : Hp) (R : It → Hp → Prop), Inv X pins σ H s → wi σ H R →
    wpAny (model X.prog X.w) X.A (eval iter X.env) (fun v s1 => wpAny (model X.prog X.w) X.A (pyIter v) (PIE X pins σ tg R) X.xe s1) X.xe s

/-- the step ahead of the store is nothing for an iterator that keeps no tuple -/
theorem go_of {M : Model} {A : Around} {E : Value → Shared → Prop} {s : Shared} {tg : Expr} {it : Addr} {u : Value} {o : Obj} {n : String} {vs : Array Value} {Q : Unit → Shared → Prop} (ho : s.heap.get? it = some o) (hc : o.cls = .type n) (hd : o.data = .fields vs)
    (hn : ["enumerate", "zip", "dict_itemiterator", "dict_reverseitemiterator", "odict_iterator", "itertools.zip_longest", "itertools.pairwise"].contains n = false) (hQ : Q () s) : wpAny M A (letOwnedTupleGo tg (.ref it) u) Q E s := by
  unfold letOwnedTupleGo
  cases tg <;> first
    | exact wpAny_pure hQ
    | (cases u <;> first
        | exact wpAny_pure hQ
        | (refine wpAny_bind (wpAny_load ho ?_)
           rw [hc, hd]
           show wpAny M A (if (["enumerate", "zip", "dict_itemiterator", "dict_reverseitemiterator", "odict_iterator", "itertools.zip_longest", "itertools.pairwise"].contains n && vs[0]? == some (rawInt _)) = true then _ else _) Q E s
           rw [if_neg (by intro h; rw [hn, Bool.false_and] at h; cases h)]
           exact wpAny_pure hQ))

/-- the list at a, as it stands at each turn (a loop may append to it) -/
def Itl (K : PySem.W.Frag) (a : Addr) : It :=
  ⟨fun i H => ∃ xs x, SqL K H a xs ∧ xs[i]? = some x, fun i H x H' => H' = H ∧ ∀ xs, SqL K H a xs → xs[i]? = some x, fun i H => ∃ xs, SqL K H a xs ∧ xs.length ≤ i⟩
def Itt (K : PySem.W.Frag) (a : Addr) : It :=
  ⟨fun i H => ∃ xs x, SqT K H a xs ∧ xs[i]? = some x, fun i H x H' => H' = H ∧ ∀ xs, SqT K H a xs → xs[i]? = some x, fun i H => ∃ xs, SqT K H a xs ∧ xs.length ≤ i⟩
/-- lo, lo + 1, .. (n of them) -/
def Itr (lo : Int) (n : Nat) : It := ⟨fun i _ => i < n, fun i H x H' => H' = H ∧ x = .int (lo + i), fun i _ => n ≤ i⟩
theorem turn_list {P : Program} {w : World} {K : PySem.W.Frag} {tg : Expr} (a it : Addr) : Turn P w K tg (Itl K a) [it] it (fun i h => h.IsListIter it a i) where
  mem := by simp
  obj := fun i h st b hb => by
    have e : b = it := by simpa using hb
    subst e
    obtain ⟨o, e, c, d⟩ := st
    exact ⟨o, e, fun v z => by rw [d] at z; cases z⟩
  keep := fun i h h' st k => st.at fun o e => k it (by simp) o e
  item := by
    intro X hP hw hK hc i pins s σ H E I hf st hg
    subst hP hw hK
    obtain ⟨xs, x, hq, hx⟩ := hg
    obtain ⟨its, rv, p, hz⟩ := I.list hq
    obtain ⟨u, hu, ru⟩ := rv.get hx
    obtain ⟨f0, f1, f2, f3, f4, f5⟩ := hf it (by simp)
    refine wpAny_pyNext_list_item st p.isList (x := u) (by simpa using hu) fun h' st' sb => ?_
    have I1 : Inv X pins σ H { s with heap := h' } := I.turned (t' := s.toks) (fun b o hb e => (sb.2 b hb).trans e) f0 f1 f3 f4 f5
    obtain ⟨o, e, c, d⟩ := id st'
    exact ⟨u, rfl, go_of (s := { s with heap := h' }) e c d (by decide) ⟨x, H, I1, ru, ⟨rfl, fun ys hy => by rw [I.list_inj hy hq]; exact hx⟩, st', fun b hb => (hf b hb).1⟩⟩
  done := by
    intro X hP hw hK hc i pins s σ H E I hf st hg
    subst hP hw hK
    obtain ⟨xs, hq, hx⟩ := hg
    obtain ⟨its, rv, p, hz⟩ := I.list hq
    obtain ⟨f0, f1, f2, f3, f4, f5⟩ := hf it (by simp)
    have hl := rv.length
    exact wpAny_pyNext_list_end (I.ok.hd hc) st p.isList (by simp; omega) fun h' eb => ⟨rfl, I.turned (t' := s.toks) (fun b o hb e => eb b o hb e) f0 f1 f3 f4 f5⟩
  self := fun _ _ _ _ _ st h => wpAny_pyIter_listiter st h
theorem turn_tuple {P : Program} {w : World} {K : PySem.W.Frag} {tg : Expr} (a it : Addr) : Turn P w K tg (Itt K a) [it] it (fun i h => h.IsTupleIter it a i) where
  mem := by simp
  obj := fun i h st b hb => by
    have e : b = it := by simpa using hb
    subst e
    obtain ⟨o, e, c, d⟩ := st
    exact ⟨o, e, fun v z => by rw [d] at z; cases z⟩
  keep := fun i h h' st k => st.at fun o e => k it (by simp) o e
  item := by
    intro X hP hw hK hc i pins s σ H E I hf st hg
    subst hP hw hK
    obtain ⟨xs, x, hq, hx⟩ := hg
    obtain ⟨its, rv, p, hz⟩ := I.tuple hq
    obtain ⟨u, hu, ru⟩ := rv.get hx
    obtain ⟨f0, f1, f2, f3, f4, f5⟩ := hf it (by simp)
    refine wpAny_pyNext_tuple_item st (show s.heap.IsTuple a its.toArray from p) (x := u) (by simpa using hu) fun h' st' sb => ?_
    have I1 : Inv X pins σ H { s with heap := h' } := I.turned (t' := s.toks) (fun b o hb e => (sb.2 b hb).trans e) f0 f1 f3 f4 f5
    obtain ⟨o, e, c, d⟩ := id st'
    exact ⟨u, rfl, go_of (s := { s with heap := h' }) e c d (by decide) ⟨x, H, I1, ru, ⟨rfl, fun ys hy => by rw [I.tuple_inj hy hq]; exact hx⟩, st', fun b hb => (hf b hb).1⟩⟩
  done := by
    intro X hP hw hK hc i pins s σ H E I hf st hg
    subst hP hw hK
    obtain ⟨xs, hq, hx⟩ := hg
    obtain ⟨its, rv, p, hz⟩ := I.tuple hq
    obtain ⟨f0, f1, f2, f3, f4, f5⟩ := hf it (by simp)
    have hl := rv.length
    exact wpAny_pyNext_tuple_end (I.ok.hd hc) st (show s.heap.IsTuple a its.toArray from p) (by simp; omega) fun h' eb => ⟨rfl, I.turned (t' := s.toks) (fun b o hb e => eb b o hb e) f0 f1 f3 f4 f5⟩
  self := fun _ _ _ _ _ st h => wpAny_pyIter_tupleiter st h
theorem turn_range {P : Program} {w : World} {K : PySem.W.Frag} {tg : Expr} (it : Addr) (lo : Int) (n : Nat) : Turn P w K tg (Itr lo n) [it] it (fun i h => IsRangeIter h it (lo + (i : Nat) * 1) ((n : Int) - (i : Nat)) 1) where
  mem := by simp
  obj := fun i h st b hb => by
    have e : b = it := by simpa using hb
    subst e
    exact ⟨_, st, fun v z => by
      have z' : Data.fields _ = Data.cell v := z
      cases z'⟩
  keep := fun i h h' st k => k it (by simp) _ st
  item := by
    intro X hP hw hK hc i pins s σ H E I hf st hg
    subst hP hw hK
    obtain ⟨f0, f1, f2, f3, f4, f5⟩ := hf it (by simp)
    have W := Walks.range (prog := X.prog) (w := X.w) (I.ok.hd hc) it lo 1 n
    refine W.item i s _ _ hg st fun v h' tk hv st' kk => ?_
    obtain ⟨t, rfl⟩ := hv
    have I1 : Inv X pins σ H { s with heap := h', toks := tk } := I.turned (fun b o hb e => kk b o (by simpa using hb) e) f0 f1 f3 f4 f5
    refine ⟨_, rfl, go_of (s := { s with heap := h', toks := tk }) (n := "range_iterator") st' rfl rfl (by decide) ⟨.int (lo + i), H, I1, ⟨t, ?_⟩, ⟨rfl, rfl⟩, st', fun b hb => (hf b hb).1⟩⟩
    rw [Int.mul_one]
  done := by
    intro X hP hw hK hc i pins s σ H E I hf st hg
    subst hP hw hK
    obtain ⟨f0, f1, f2, f3, f4, f5⟩ := hf it (by simp)
    exact wpAny_pyNext_range_end (I.ok.hd hc) st (by have : n ≤ i := hg; omega) fun h' eb => ⟨rfl, I.turned (t' := s.toks) (fun b o hb e => eb b o hb e) f0 f1 f3 f4 f5⟩
  self := fun _ _ _ _ _ st h => wpAny_pyIter_rangeiter st h
end L2

namespace L2
open PySem PySem.Spec PyProof.Rows
section
variable {X : Cx} {tg : Expr}
def iList (K : PySem.W.Frag) (tl : TE) : TI := fun σ H R => tl σ H fun x H1 => ∃ a, x = .ref a ∧ (∃ xs, SqL K H1 a xs) ∧ R (Itl K a) H1
def iTup (K : PySem.W.Frag) (tl : TE) : TI := fun σ H R => tl σ H fun x H1 => ∃ a, x = .ref a ∧ (∃ xs, SqT K H1 a xs) ∧ R (Itt K a) H1
theorem pi_list {l : Expr} {tl : TE} (hl : PE X l tl) : PI X tg l (iList X.K tl) := by
  intro pins s σ H R I h
  refine thn (hl pins s σ H _ I h) fun v s1 ⟨x, H1, I1, r1, q1⟩ => ?_
  obtain ⟨a, e, ⟨xs, hq⟩, q⟩ := q1
  subst e
  cases r1
  obtain ⟨its, rv, p, hz⟩ := I1.list hq
  refine wpAny_pyIter_list p.isList ?_
  refine ⟨s1.heap.objs.size, [s1.heap.objs.size], _, _, H1, rfl, I1.kept (t' := s1.toks) fun b o e => Heap.get?_push_of_some _ e, turn_list a _, ⟨_, Heap.get?_push_size _ rfl, rfl, rfl⟩, fun b hb => ?_, q⟩
  have e : b = s1.heap.objs.size := by simpa using hb
  subst e
  exact I1.fpOk (Nat.le_refl _) (I1.hok.fresh (Nat.le_refl _))
theorem pi_tup {l : Expr} {tl : TE} (hl : PE X l tl) : PI X tg l (iTup X.K tl) := by
  intro pins s σ H R I h
  refine thn (hl pins s σ H _ I h) fun v s1 ⟨x, H1, I1, r1, q1⟩ => ?_
  obtain ⟨a, e, ⟨xs, hq⟩, q⟩ := q1
  subst e
  cases r1
  obtain ⟨its, rv, p, hz⟩ := I1.tuple hq
  refine wpAny_pyIter_tuple (show s1.heap.IsTuple a its.toArray from p) ?_
  refine ⟨s1.heap.objs.size, [s1.heap.objs.size], _, _, H1, rfl, I1.kept (t' := s1.toks) fun b o e => Heap.get?_push_of_some _ e, turn_tuple a _, ⟨_, Heap.get?_push_size _ rfl, rfl, rfl⟩, fun b hb => ?_, q⟩
  have e : b = s1.heap.objs.size := by simpa using hb
  subst e
  exact I1.fpOk (Nat.le_refl _) (I1.hok.fresh (Nat.le_refl _))
/-- a range object just made, walked -/
theorem range_it {pins : List (Addr × Obj)} {σ : St} {H : Hp} {s : Shared} {R : It → Hp → Prop} {E : Value → Shared → Prop} {lo hi : Int} {t u v : Tok} {tk : Nat} (I : Inv X pins σ H s) (h1 : -(2 ^ 62) ≤ lo) (h2 : lo < 2 ^ 62) (h3 : -(2 ^ 62) ≤ hi) (h4 : hi < 2 ^ 62)
    (q : R (Itr lo (hi - lo).toNat) H) : wpAny (model X.prog X.w) X.A (pyIter (.ref s.heap.objs.size)) (PIE X pins σ tg R) E { s with heap := s.heap.push { cls := .type "range", data := .fields #[.int lo t, .int hi u, .int 1 v] }, toks := tk } := by
  refine wpAny_pyIter_range (IsRange.new ..) (small_one h1 h2 h3 h4) ?_
  have I1 : Inv X pins σ H { s with heap := s.heap.push { cls := .type "range", data := .fields #[.int lo t, .int hi u, .int 1 v] }, toks := tk } := I.kept fun b o e => Heap.get?_push_of_some _ e
  refine ⟨(s.heap.push { cls := .type "range", data := .fields #[.int lo t, .int hi u, .int 1 v] }).objs.size, [(s.heap.push { cls := .type "range", data := .fields #[.int lo t, .int hi u, .int 1 v] }).objs.size], _, _, H, rfl,
    I1.kept (t' := tk) fun b o e => Heap.get?_push_of_some _ e, turn_range _ lo (hi - lo).toNat, ?_, fun b hb => ?_, q⟩
  · have e1 : lo + ((0 : Nat) : Int) * 1 = lo := by simp
    have e2 : (((hi - lo).toNat : Nat) : Int) - ((0 : Nat) : Int) = Builtin.Range.rangeSize lo hi 1 := by rw [rangeSize_one]; split <;> omega
    show IsRangeIter _ _ (lo + ((0 : Nat) : Int) * 1) ((((hi - lo).toNat : Nat) : Int) - ((0 : Nat) : Int)) 1
    rw [e1, e2]
    exact Heap.get?_push_size _ rfl
  · have e : b = (s.heap.push { cls := .type "range", data := .fields #[.int lo t, .int hi u, .int 1 v] }).objs.size := by simpa using hb
    subst e
    exact I1.fpOk (Nat.le_refl _) (I1.hok.fresh (Nat.le_refl _))
def iRng1 (ta : TA) : TI := fun σ H R => ta σ H fun vs H1 => ∃ j : Int, vs = [.int j] ∧ -(2 ^ 62) ≤ j ∧ j < 2 ^ 62 ∧ R (Itr 0 j.toNat) H1
def iRng2 (ta : TA) : TI := fun σ H R => ta σ H fun vs H1 => ∃ i j : Int, vs = [.int i, .int j] ∧ (-(2 ^ 62) ≤ i ∧ i < 2 ^ 62 ∧ -(2 ^ 62) ≤ j ∧ j < 2 ^ 62) ∧ R (Itr i (j - i).toNat) H1
theorem pi_range1 {a : Expr} {ta : TA} {p pos : Pos} (hg : Gl X "range") (hm : X.mg "range" = none) (ha : PA X [a] ta) (hs : starEach [a] X.env = [(false, eval a X.env)] := by rfl) : PI X tg (.Call (.Name "range" p) [a] [] pos) (iRng1 ta) := by
  intro pins s σ H R I h
  refine Call_ (ld_blt I hg hm boot_range (PyProof.Rows.callWith_type1 (thn (ha pos pins s σ H _ I h) fun us s1 ⟨vs, H1, I1, r1, q1⟩ => ?_) hs rfl))
  obtain ⟨j, e, q1, q2, q⟩ := q1
  subst e
  cases r1 with
  | cons r rr =>
    cases rr
    obtain ⟨t, rfl⟩ := r
    exact call_range_1 (range_it I1 (by omega) (by omega) q1 q2 (by simpa using q))
theorem pi_range2 {a b : Expr} {ta : TA} {p pos : Pos} (hg : Gl X "range") (hm : X.mg "range" = none) (ha : PA X [a, b] ta) (hs : starEach [a, b] X.env = [(false, eval a X.env), (false, eval b X.env)] := by rfl) (hs2 : starEach [b] X.env = [(false, eval b X.env)] := by rfl) :
    PI X tg (.Call (.Name "range" p) [a, b] [] pos) (iRng2 ta) := by
  intro pins s σ H R I h
  refine Call_ (ld_blt I hg hm boot_range (PyProof.Rows.callWith_type1 (thn (ha pos pins s σ H _ I h) fun us s1 ⟨vs, H1, I1, r1, q1⟩ => ?_) (by rw [hs, hs2]) (by rw [hs2]; rfl)))
  obtain ⟨i, j, e, ⟨q1, q2, q3, q4⟩, q⟩ := q1
  subst e
  cases r1 with
  | cons r rr =>
    cases rr with
    | cons r' rr =>
      cases rr
      obtain ⟨t, rfl⟩ := r
      obtain ⟨t', rfl⟩ := r'
      exact call_range_2 (range_it I1 q1 q2 q3 q4 q)

/-! ### for -/
/-- W: the invariant by the turn and a measure; N: what the body is to reach -/
def tFor (wi : TI) (g : TG) (tb : TS) : TS := fun D σ H => wi σ H fun J H1 => ∃ W : Nat → Nat → St → Hp → Prop, (∃ m, W 0 m σ H1) ∧ ∀ i m σ H, W i m σ H →
  (J.stop i H ∧ D.nx σ H) ∨ (J.go i H ∧ ∃ N : St → Hp → Prop, (∀ σ' H', N σ' H' → ∃ m', m' < m ∧ W (i + 1) m' σ' H') ∧ ∀ x H', J.yld i H x H' → g x σ H' fun σ2 H2 => tb { D with nx := N, ct := N, bk := D.nx } σ2 H2)
/-- the records at fp as they stand -/
def pinsAt (fp : List Addr) (h : Heap) : List (Addr × Obj) := fp.filterMap fun b => (h.get? b).map fun o => (b, o)
theorem mem_pinsAt {fp : List Addr} {h : Heap} {b : Addr} {o : Obj} (hb : b ∈ fp) (e : h.get? b = some o) : (b, o) ∈ pinsAt fp h := List.mem_filterMap.mpr ⟨b, hb, by rw [e]; rfl⟩
theorem of_pinsAt {fp : List Addr} {h : Heap} {p : Addr × Obj} (hp : p ∈ pinsAt fp h) : p.1 ∈ fp ∧ h.get? p.1 = some p.2 := by
  obtain ⟨b, hb, e⟩ := List.mem_filterMap.mp hp
  cases q : h.get? b with
  | none => rw [q] at e; cases e
  | some o =>
    rw [q] at e
    have e' : (b, o) = p := Option.some.inj e
    subst e'
    exact ⟨hb, q⟩
theorem Inv.pinned {pins : List (Addr × Obj)} {σ : St} {H : Hp} {s : Shared} {fp : List Addr} (I : Inv X pins σ H s) (hf : ∀ b ∈ fp, FpOk X pins H b) (ho : ∀ b ∈ fp, ∃ o, s.heap.get? b = some o ∧ ∀ v, o.data ≠ .cell v) : Inv X (pins ++ pinsAt fp s.heap) σ H s :=
  I.pins_of fun p hp => (List.mem_append.mp hp).elim (fun z => I.pin p (List.mem_append_right _ z)) fun z => by
    obtain ⟨hb, e⟩ := of_pinsAt z
    obtain ⟨f0, f1, f2, _⟩ := hf p.1 hb
    obtain ⟨o, e', d⟩ := ho p.1 hb
    rw [e] at e'; cases e'
    exact ⟨e, f0, f1, f2, d⟩
theorem Inv.unpinned {pins pl : List (Addr × Obj)} {σ : St} {H : Hp} {s : Shared} (I : Inv X (pins ++ pl) σ H s) : Inv X pins σ H s := I.pins_of fun p hp => I.pin p (List.mem_append_right _ (List.mem_append_left _ hp))
theorem ps_for {iter : Expr} {body : List Stmt} {wi : TI} {g : TG} {tb : TS} {pos : Pos} (hp : PassesOwn (model X.prog X.w) X.A X.env X.xe) (hc : X.calm = true) (hi : PI X tg iter wi) (hg : PG X tg g) (hb : PSs X body tb)
    (hs : ∀ x, foldedSetIterable iter X.env x = pure x := by intro _; rfl) : PS X (.For tg iter body [] pos) (tFor wi g tb) := by
  intro pins s σ H D I h
  refine wpAny_For (thn (hi pins s σ H _ I h) fun v s1 h1 => thn h1 fun itv s2 h2 => ?_) hs
  obtain ⟨it, fp, tn, J, H2, e, I2, T, st2, f2, W, ⟨m0, w0⟩, turn⟩ := h2
  subst e
  -- what stays true of the iterator's objects through the loop
  have stat : ∀ {H' : Hp}, (∀ b ∈ fp, H' b = none) → ∀ b ∈ fp, FpOk X pins H' b := fun hn b hb => ⟨hn b hb, (f2 b hb).2⟩
  refine codeAny_forLoop_any (fun n s' => ∃ i σ' H', Inv X pins σ' H' s' ∧ tn i s'.heap ∧ (∀ b ∈ fp, H' b = none) ∧ W i n σ' H') ?_ m0 ⟨0, σ, H2, I2, st2, fun b hb => (f2 b hb).1, w0⟩
  rintro n s3 ⟨i, σ3, H3, I3, st3, fr3, w3⟩
  rcases turn i n σ3 H3 w3 with ⟨stop, qn⟩ | ⟨go, N, hN, step⟩
  · refine wpAny_passesOwn hp (thn (T.done X rfl rfl rfl hc i pins s3 σ3 H3 X.xe I3 (stat fr3) st3 stop) fun r s4 ⟨hr, I4⟩ => ?_)
    subst hr
    exact wpAny_execs_nil ⟨σ3, H3, I4, qn⟩
  · refine wpAny_passesOwn hp (thn (T.item X rfl rfl rfl hc i pins s3 σ3 H3 X.xe I3 (stat fr3) st3 go) fun r s4 ⟨u, hr, h4⟩ => ?_)
    subst hr
    refine wpAny_passesOwn hp (thn h4 fun _ s5 ⟨x, H5, I5, r5, y5, st5, fr5⟩ => ?_)
    have I5' := I5.pinned (stat fr5) (T.obj _ _ st5)
    refine wpAny_passesOwn hp (thn (hg _ s5 σ3 H5 x u _ I5' r5 (step x H5 y5)) fun _ s6 ⟨σ6, H6, I6, q6⟩ => ?_)
    refine wpAny_passesOwn hp (thn (hb _ s6 σ6 H6 _ I6 q6) fun f s7 q7 => ?_)
    have again : ∀ {σ7 : St} {H7 : Hp}, Inv X (pins ++ pinsAt fp s5.heap) σ7 H7 s7 → N σ7 H7 → ∃ m, m < n ∧ ∃ i σ' H', Inv X pins σ' H' s7 ∧ tn i s7.heap ∧ (∀ b ∈ fp, H' b = none) ∧ W i m σ' H' := fun {σ7 H7} I7 n7 => by
      obtain ⟨m', hm, w7⟩ := hN σ7 H7 n7
      refine ⟨m', hm, i + 1, σ7, H7, I7.unpinned, T.keep _ _ _ st5 fun b hb o e => (I7.pin (b, o) (List.mem_append_right _ (List.mem_append_right _ (mem_pinsAt hb e)))).1, fun b hb => ?_, w7⟩
      obtain ⟨o, e, d⟩ := T.obj _ _ st5 b hb
      exact (I7.pin (b, o) (List.mem_append_right _ (List.mem_append_right _ (mem_pinsAt hb e)))).2.1
    cases f with
    | next => obtain ⟨σ7, H7, I7, n7⟩ := q7; exact again I7 n7
    | cont => obtain ⟨σ7, H7, I7, n7⟩ := q7; exact again I7 n7
    | brk => obtain ⟨σ7, H7, I7, q7⟩ := q7; exact ⟨σ7, H7, I7.unpinned, q7⟩
    | ret v => obtain ⟨x7, σ7, H7, I7, r7, q7⟩ := q7; exact ⟨x7, σ7, H7, I7.unpinned, r7, q7⟩
end

/-! ### the forms one uses -/
/-- over a list that the body leaves as it is -/
theorem for_list {K : PySem.W.Frag} {a : Addr} {xs : List V} {g : TG} {tb : TS} {D : Ends} {σ : St} {H : Hp} (Pv : Nat → St → Hp → Prop) (h0 : Pv 0 σ H) (hl : ∀ i σ H, i ≤ xs.length → Pv i σ H → SqL K H a xs)
    (hs : ∀ i x σ H, xs[i]? = some x → Pv i σ H → g x σ H fun σ2 H2 => tb { D with nx := Pv (i + 1), ct := Pv (i + 1), bk := D.nx } σ2 H2) (hd : ∀ σ H, Pv xs.length σ H → D.nx σ H) :
    ∃ W : Nat → Nat → St → Hp → Prop, (∃ m, W 0 m σ H) ∧ ∀ i m σ H, W i m σ H →
      ((Itl K a).stop i H ∧ D.nx σ H) ∨ ((Itl K a).go i H ∧ ∃ N : St → Hp → Prop, (∀ σ' H', N σ' H' → ∃ m', m' < m ∧ W (i + 1) m' σ' H') ∧ ∀ x H', (Itl K a).yld i H x H' → g x σ H' fun σ2 H2 => tb { D with nx := N, ct := N, bk := D.nx } σ2 H2) := by
  refine ⟨fun i m σ H => m = xs.length - i ∧ i ≤ xs.length ∧ Pv i σ H, ⟨xs.length, by simp, Nat.zero_le _, h0⟩, ?_⟩
  rintro i m σ H ⟨rfl, hi, p⟩
  have q := hl i σ H hi p
  by_cases hlt : i < xs.length
  · refine .inr ⟨⟨xs, xs[i], q, by simp [hlt]⟩, Pv (i + 1), fun σ' H' p' => ⟨xs.length - (i + 1), by omega, rfl, hlt, p'⟩, fun x H' y => ?_⟩
    obtain ⟨e, y⟩ := y
    subst e
    exact hs i x σ _ (y xs q) p
  · have e : i = xs.length := by omega
    subst e
    exact .inl ⟨⟨xs, q, Nat.le_refl _⟩, hd σ H p⟩
theorem for_tup {K : PySem.W.Frag} {a : Addr} {xs : List V} {g : TG} {tb : TS} {D : Ends} {σ : St} {H : Hp} (Pv : Nat → St → Hp → Prop) (h0 : Pv 0 σ H) (hl : ∀ i σ H, i ≤ xs.length → Pv i σ H → SqT K H a xs)
    (hs : ∀ i x σ H, xs[i]? = some x → Pv i σ H → g x σ H fun σ2 H2 => tb { D with nx := Pv (i + 1), ct := Pv (i + 1), bk := D.nx } σ2 H2) (hd : ∀ σ H, Pv xs.length σ H → D.nx σ H) :
    ∃ W : Nat → Nat → St → Hp → Prop, (∃ m, W 0 m σ H) ∧ ∀ i m σ H, W i m σ H →
      ((Itt K a).stop i H ∧ D.nx σ H) ∨ ((Itt K a).go i H ∧ ∃ N : St → Hp → Prop, (∀ σ' H', N σ' H' → ∃ m', m' < m ∧ W (i + 1) m' σ' H') ∧ ∀ x H', (Itt K a).yld i H x H' → g x σ H' fun σ2 H2 => tb { D with nx := N, ct := N, bk := D.nx } σ2 H2) := by
  refine ⟨fun i m σ H => m = xs.length - i ∧ i ≤ xs.length ∧ Pv i σ H, ⟨xs.length, by simp, Nat.zero_le _, h0⟩, ?_⟩
  rintro i m σ H ⟨rfl, hi, p⟩
  have q := hl i σ H hi p
  by_cases hlt : i < xs.length
  · refine .inr ⟨⟨xs, xs[i], q, by simp [hlt]⟩, Pv (i + 1), fun σ' H' p' => ⟨xs.length - (i + 1), by omega, rfl, hlt, p'⟩, fun x H' y => ?_⟩
    obtain ⟨e, y⟩ := y
    subst e
    exact hs i x σ _ (y xs q) p
  · have e : i = xs.length := by omega
    subst e
    exact .inl ⟨⟨xs, q, Nat.le_refl _⟩, hd σ H p⟩
theorem for_range {lo : Int} {n : Nat} {g : TG} {tb : TS} {D : Ends} {σ : St} {H : Hp} (Pv : Nat → St → Hp → Prop) (h0 : Pv 0 σ H)
    (hs : ∀ i σ H, i < n → Pv i σ H → g (.int (lo + i)) σ H fun σ2 H2 => tb { D with nx := Pv (i + 1), ct := Pv (i + 1), bk := D.nx } σ2 H2) (hd : ∀ σ H, Pv n σ H → D.nx σ H) :
    ∃ W : Nat → Nat → St → Hp → Prop, (∃ m, W 0 m σ H) ∧ ∀ i m σ H, W i m σ H →
      ((Itr lo n).stop i H ∧ D.nx σ H) ∨ ((Itr lo n).go i H ∧ ∃ N : St → Hp → Prop, (∀ σ' H', N σ' H' → ∃ m', m' < m ∧ W (i + 1) m' σ' H') ∧ ∀ x H', (Itr lo n).yld i H x H' → g x σ H' fun σ2 H2 => tb { D with nx := N, ct := N, bk := D.nx } σ2 H2) := by
  refine ⟨fun i m σ H => m = n - i ∧ i ≤ n ∧ Pv i σ H, ⟨n, by simp, Nat.zero_le _, h0⟩, ?_⟩
  rintro i m σ H ⟨rfl, hi, p⟩
  by_cases hlt : i < n
  · refine .inr ⟨hlt, Pv (i + 1), fun σ' H' p' => ⟨n - (i + 1), by omega, rfl, hlt, p'⟩, fun x H' y => ?_⟩
    obtain ⟨e, y⟩ := y
    subst e y
    exact hs i σ _ hlt p
  · have e : i = n := by omega
    subst e
    exact .inl ⟨Nat.le_refl _, hd σ H p⟩
/-- while, by a word and a measure of the state -/
theorem while_by {c : TT} {tb : TS} {D : Ends} {σ : St} {H : Hp} (Pv : St → Hp → Prop) (μ : St → Hp → Nat) (h0 : Pv σ H)
    (hs : ∀ σ H, Pv σ H → c σ H fun b H1 => if b = true then tb { D with nx := fun σ' H' => Pv σ' H' ∧ μ σ' H' < μ σ H, ct := fun σ' H' => Pv σ' H' ∧ μ σ' H' < μ σ H, bk := D.nx } σ H1 else D.nx σ H1)
    (mono : ∀ σ H Q Q', (∀ b H1, Q b H1 → Q' b H1) → c σ H Q → c σ H Q') : tWhile c tb D σ H := by
  refine ⟨fun m σ H => m = μ σ H ∧ Pv σ H, ⟨_, rfl, h0⟩, ?_⟩
  rintro m σ H ⟨rfl, p⟩
  refine mono σ H _ _ (fun b H1 q => ?_) (hs σ H p)
  cases b with
  | true => exact ⟨_, fun σ' H' ⟨p', l⟩ => ⟨_, l, rfl, p'⟩, q⟩
  | false => exact q
end L2

namespace L2
open PySem PySem.Spec PyProof.Rows

abbrev R2 := V → V → Hp → VK → Prop
/-- a two-place operation on values: f is binaryOp op, inplaceOp op or compareOp op -/
def OpR (X : Cx) (f : Value → Value → Sem Value) (r : R2) : Prop :=
  ∀ (pins : List (Addr × Obj)) (s : Shared) (σ : St) (H : Hp) (x y : V) (v u : Value) (Q : VK), Inv X pins σ H s → RelV x v → RelV y u → r x y H Q →
    wpAny (model X.prog X.w) X.A (f v u) (EP X pins σ Q) X.xe s
/-- a one-place operation -/
def UnR (X : Cx) (f : Value → Sem Value) (r : V → Hp → VK → Prop) : Prop :=
  ∀ (pins : List (Addr × Obj)) (s : Shared) (σ : St) (H : Hp) (x : V) (v : Value) (Q : VK), Inv X pins σ H s → RelV x v → r x H Q →
    wpAny (model X.prog X.w) X.A (f v) (EP X pins σ Q) X.xe s
/-- a call of a value that is known (a builtin, a type) with values -/
def CallR (X : Cx) (f : Value) (r : List V → Hp → VK → Prop) : Prop :=
  ∀ (pins : List (Addr × Obj)) (s : Shared) (σ : St) (H : Hp) (xs : List V) (us : List Value) (Q : VK), Inv X pins σ H s → Vals xs us → r xs H Q →
    wpAny (model X.prog X.w) X.A (call f us) (EP X pins σ Q) X.xe s
/-- a value's truth -/
def TruR (X : Cx) (r : V → Hp → (Bool → Hp → Prop) → Prop) : Prop :=
  ∀ (pins : List (Addr × Obj)) (s : Shared) (σ : St) (H : Hp) (x : V) (v : Value) (Q : Bool → Hp → Prop), Inv X pins σ H s → RelV x v → r x H Q →
    wpAny (model X.prog X.w) X.A (truthy v) (TP X pins σ Q) X.xe s

def tOp (r : R2) (ta tb : TE) : TE := fun σ H Q => ta σ H fun x H1 => tb σ H1 fun y H2 => r x y H2 Q
def tUn (r : V → Hp → VK → Prop) (ta : TE) : TE := fun σ H Q => ta σ H fun x H1 => r x H1 Q
/-- ints in, under C, and a value out -/
def rI (C : Int → Int → Prop) (g : Int → Int → V) : R2 := fun x y H Q => ∃ i j, x = .int i ∧ y = .int j ∧ C i j ∧ Q (g i j) H
def rI0 (g : Int → Int → V) : R2 := fun x y H Q => ∃ i j, x = .int i ∧ y = .int j ∧ Q (g i j) H
def rU (g : Int → V) : V → Hp → VK → Prop := fun x H Q => ∃ i, x = .int i ∧ Q (g i) H

section
variable {X : Cx} {a b c : Expr} {ta tb tc : TE} {pos : Pos}

theorem binT (ha : PE X a ta) (hb : PE X b tb) {pins : List (Addr × Obj)} {s : Shared} {σ : St} {H : Hp} {R : V → V → Hp → Prop} (I : Inv X pins σ H s)
    (h : ta σ H fun x H1 => tb σ H1 fun y H2 => R x y H2) {Q : Value → Shared → Prop} {f : Value → Value → Sem Value}
    (hf : ∀ v u s2 x y H2, Inv X pins σ H2 s2 → RelV x v → RelV y u → R x y H2 → wpAny (model X.prog X.w) X.A (f v u) Q X.xe s2) :
    wpAny (model X.prog X.w) X.A (eval a X.env) (fun v s₁ => wpAny (model X.prog X.w) X.A (eval b X.env) (fun u s₂ => wpAny (model X.prog X.w) X.A (f v u) Q X.xe s₂) X.xe s₁) X.xe s := by
  refine thn (ha pins s σ H _ I h) fun v s1 ⟨x, H1, I1, r1, q1⟩ => ?_
  refine thn (hb pins s1 σ H1 _ I1 q1) fun u s2 ⟨y, H2, I2, r2, q2⟩ => ?_
  exact hf v u s2 x y H2 I2 r1 r2 q2

theorem pe_op {op : Operator} {r : R2} (ho : OpR X (binaryOp op) r) (ha : PE X a ta) (hb : PE X b tb) : PE X (.BinOp a op b pos) (tOp r ta tb) := by
  intro pins s σ H Q I h
  exact wpAny_BinOp (binT ha hb I h fun v u s2 x y H2 I2 rx ry q => ho pins s2 σ H2 x y v u Q I2 rx ry q)
theorem pe_un {op : UnaryOp} {r : V → Hp → VK → Prop} (ho : UnR X (unaryOp op) r) (ha : PE X a ta) : PE X (.UnaryOp op a pos) (tUn r ta) := by
  intro pins s σ H Q I h
  exact UnaryOp_ (thn (ha pins s σ H _ I h) fun v s1 ⟨x, H1, I1, r1, q1⟩ => ho pins s1 σ H1 x v Q I1 r1 q1)
/-- a op= e at a name: the name's slot i -/
theorem augR {op : Operator} {r : R2} (ho : OpR X (inplaceOp op) r) {pins : List (Addr × Obj)} {s : Shared} {σ : St} {H : Hp} {x y : V} {v u : Value} {Q : VK} (I : Inv X pins σ H s)
    (rx : RelV x v) (ry : RelV y u) (q : r x y H Q) : wpAny (model X.prog X.w) X.A (inplaceOp op v u) (EP X pins σ Q) X.xe s := ho pins s σ H x y v u Q I rx ry q

/-! ### ints -/
theorem opI {f : Value → Value → Sem Value} {C : Int → Int → Prop} {g : Int → Int → Int}
    (rule : ∀ (i j : Int) (t u : Tok) (s : Shared) (Q : Value → Shared → Prop) (E : Value → Shared → Prop), C i j → Q (.int (g i j) s.toks) { s with toks := s.toks + 1 } → wpAny (model X.prog X.w) X.A (f (.int i t) (.int j u)) Q E s) :
    OpR X f (rI C fun i j => .int (g i j)) := by
  intro pins s σ H x y v u Q I rx ry h
  obtain ⟨i, j, rfl, rfl, hc, q⟩ := h
  obtain ⟨t, rfl⟩ := rx
  obtain ⟨t', rfl⟩ := ry
  exact rule i j t t' s _ _ hc ⟨.int (g i j), H, I.tok _, ⟨_, rfl⟩, q⟩
theorem opI0 {f : Value → Value → Sem Value} {g : Int → Int → Int}
    (rule : ∀ (i j : Int) (t u : Tok) (s : Shared) (Q : Value → Shared → Prop) (E : Value → Shared → Prop), Q (.int (g i j) s.toks) { s with toks := s.toks + 1 } → wpAny (model X.prog X.w) X.A (f (.int i t) (.int j u)) Q E s) :
    OpR X f (rI0 fun i j => .int (g i j)) := by
  intro pins s σ H x y v u Q I rx ry h
  obtain ⟨i, j, rfl, rfl, q⟩ := h
  obtain ⟨t, rfl⟩ := rx
  obtain ⟨t', rfl⟩ := ry
  exact rule i j t t' s _ _ ⟨.int (g i j), H, I.tok _, ⟨_, rfl⟩, q⟩
theorem opB0 {f : Value → Value → Sem Value} {g : Int → Int → Bool}
    (rule : ∀ (i j : Int) (t u : Tok) (s : Shared) (Q : Value → Shared → Prop) (E : Value → Shared → Prop), Q (.bool (g i j)) s → wpAny (model X.prog X.w) X.A (f (.int i t) (.int j u)) Q E s) :
    OpR X f (rI0 fun i j => .bl (g i j)) := by
  intro pins s σ H x y v u Q I rx ry h
  obtain ⟨i, j, rfl, rfl, q⟩ := h
  obtain ⟨t, rfl⟩ := rx
  obtain ⟨t', rfl⟩ := ry
  exact rule i j t t' s _ _ ⟨.bl (g i j), H, I, rfl, q⟩

def CDiv (i j : Int) : Prop := 0 < j ∧ j < 1073741824
def CDivN (i j : Int) : Prop := j ≠ 0 ∧ j.natAbs < 1073741824
def CPow (i j : Int) : Prop := 0 ≤ j ∧ j ≤ 1000000 ∧ i.natAbs < 2 ^ 64
def CMul (i j : Int) : Prop := (-(2 ^ 64) < i ∧ i < 2 ^ 64) ∨ (-(2 ^ 64) < j ∧ j < 2 ^ 64)
theorem CMul.ok {i j : Int} (h : CMul i j) : IntMulOk i j := by
  rcases h with ⟨h1, h2⟩ | ⟨h1, h2⟩
  · exact .of_left (intBits_le_64 h1 h2)
  · exact .of_right (intBits_le_64 h1 h2)
theorem two_pow_nn (k : Nat) : (0 : Int) ≤ 2 ^ k := by
  rw [two_pow_cast]
  exact Int.natCast_nonneg _

theorem op_add : OpR X (binaryOp .Add) (rI0 fun i j => .int (i + j)) := opI0 fun _ _ _ _ _ _ _ q => add_int q
theorem op_sub : OpR X (binaryOp .Sub) (rI0 fun i j => .int (i - j)) := opI0 fun _ _ _ _ _ _ _ q => sub_int q
theorem op_mul : OpR X (binaryOp .Mult) (rI CMul fun i j => .int (i * j)) := opI fun _ _ _ _ _ _ _ hc q => mul_int q hc.ok
/-- // by a positive divisor -/
theorem op_fdiv : OpR X (binaryOp .FloorDiv) (rI CDiv fun i j => .int (i / j)) := opI fun i j _ _ _ _ _ hc q => by
  have h1 : (0 : Int) < j := hc.1
  have h2 : j < 1073741824 := hc.2
  exact floordiv_int (by omega) (by rw [Int.fdiv_eq_ediv_of_nonneg i (by omega)]; exact q) (.inl (PyProof.noPylong_small (by omega)))
theorem op_fdivN : OpR X (binaryOp .FloorDiv) (rI CDivN fun i j => .int (i.fdiv j)) := opI fun _ _ _ _ _ _ _ hc q => floordiv_int hc.1 q (.inl (PyProof.noPylong_small hc.2))
/-- % by a positive divisor of any size -/
theorem op_mod : OpR X (binaryOp .Mod) (rI (fun _ j => 0 < j) fun i j => .int (i % j)) := opI fun i j _ _ _ _ _ hc q => by
  have h1 : (0 : Int) < j := hc
  exact mod_int' (by omega) (by rw [Int.fmod_eq_emod_of_nonneg i (by omega)]; exact q)
theorem op_modN : OpR X (binaryOp .Mod) (rI (fun _ j => j ≠ 0) fun i j => .int (i.fmod j)) := opI fun _ _ _ _ _ _ _ hc q => mod_int' hc q
theorem op_pow : OpR X (binaryOp .Pow) (rI CPow fun i j => .int (i ^ j.toNat)) := opI fun _ _ _ _ _ _ _ hc q => pow_int_small hc.1 hc.2.1 hc.2.2 q
theorem op_shl : OpR X (binaryOp .LShift) (rI CPow fun i j => .int (i * 2 ^ j.toNat)) := opI fun _ _ _ _ _ _ _ hc q => lshift_int_small hc.1 hc.2.1 hc.2.2 q
theorem op_shr : OpR X (binaryOp .RShift) (rI (fun _ j => 0 ≤ j) fun i j => .int (i / 2 ^ j.toNat)) := opI fun i j _ _ _ _ _ hc q =>
  rshift_int hc (by rw [Int.fdiv_eq_ediv_of_nonneg i (two_pow_nn _)]; exact q)
theorem op_and : OpR X (binaryOp .BitAnd) (rI0 fun i j => .int (Builtin.bitAnd i j)) := opI0 fun _ _ _ _ _ _ _ q => and_int q
theorem op_or : OpR X (binaryOp .BitOr) (rI0 fun i j => .int (Builtin.bitOr i j)) := opI0 fun _ _ _ _ _ _ _ q => or_int q
theorem op_xor : OpR X (binaryOp .BitXor) (rI0 fun i j => .int (Builtin.bitXor i j)) := opI0 fun _ _ _ _ _ _ _ q => xor_int q

theorem iop_add : OpR X (inplaceOp .Add) (rI0 fun i j => .int (i + j)) := opI0 fun _ _ _ _ _ _ _ q => iadd_int q
theorem iop_sub : OpR X (inplaceOp .Sub) (rI0 fun i j => .int (i - j)) := opI0 fun _ _ _ _ _ _ _ q => isub_int q
theorem iop_mul : OpR X (inplaceOp .Mult) (rI CMul fun i j => .int (i * j)) := opI fun _ _ _ _ _ _ _ hc q => imul_int q hc.ok
theorem iop_fdiv : OpR X (inplaceOp .FloorDiv) (rI CDiv fun i j => .int (i / j)) := opI fun i j _ _ _ _ _ hc q => by
  have h1 : (0 : Int) < j := hc.1
  have h2 : j < 1073741824 := hc.2
  exact ifloordiv_int (by omega) (by rw [Int.fdiv_eq_ediv_of_nonneg i (by omega)]; exact q) (.inl (PyProof.noPylong_small (by omega)))
theorem iop_mod : OpR X (inplaceOp .Mod) (rI (fun _ j => 0 < j) fun i j => .int (i % j)) := opI fun i j _ _ _ _ _ hc q => by
  have h1 : (0 : Int) < j := hc
  exact imod_int (by omega) (by rw [Int.fmod_eq_emod_of_nonneg i (by omega)]; exact q)
theorem iop_shl : OpR X (inplaceOp .LShift) (rI CPow fun i j => .int (i * 2 ^ j.toNat)) := opI fun _ _ _ _ _ _ _ hc q => ilshift_int_small hc.1 hc.2.1 hc.2.2 q
theorem iop_shr : OpR X (inplaceOp .RShift) (rI (fun _ j => 0 ≤ j) fun i j => .int (i / 2 ^ j.toNat)) := opI fun i j _ _ _ _ _ hc q =>
  irshift_int hc (by rw [Int.fdiv_eq_ediv_of_nonneg i (two_pow_nn _)]; exact q)
theorem iop_and : OpR X (inplaceOp .BitAnd) (rI0 fun i j => .int (Builtin.bitAnd i j)) := opI0 fun _ _ _ _ _ _ _ q => iand_int q
theorem iop_or : OpR X (inplaceOp .BitOr) (rI0 fun i j => .int (Builtin.bitOr i j)) := opI0 fun _ _ _ _ _ _ _ q => ior_int q
theorem iop_xor : OpR X (inplaceOp .BitXor) (rI0 fun i j => .int (Builtin.bitXor i j)) := opI0 fun _ _ _ _ _ _ _ q => ixor_int q

theorem unI {f : Value → Sem Value} {g : Int → Int}
    (rule : ∀ (i : Int) (t : Tok) (s : Shared) (Q : Value → Shared → Prop) (E : Value → Shared → Prop), Q (.int (g i) s.toks) { s with toks := s.toks + 1 } → wpAny (model X.prog X.w) X.A (f (.int i t)) Q E s) :
    UnR X f (rU fun i => .int (g i)) := by
  intro pins s σ H x v Q I rx h
  obtain ⟨i, rfl, q⟩ := h
  obtain ⟨t, rfl⟩ := rx
  exact rule i t s _ _ ⟨.int (g i), H, I.tok _, ⟨_, rfl⟩, q⟩
theorem un_neg : UnR X (unaryOp .USub) (rU fun i => .int (-i)) := unI fun _ _ _ _ _ q => neg_int q
theorem un_inv : UnR X (unaryOp .Invert) (rU fun i => .int (Builtin.bitNot i)) := unI fun _ _ _ _ _ q => invert_int q

/-! ### bools among ints: n += (a < b) -/
theorem op_add_ib : OpR X (binaryOp .Add) (fun x y H Q => ∃ i k, x = .int i ∧ y = .bl k ∧ Q (.int (i + b2i k)) H) := by
  intro pins s σ H x y v u Q I rx ry h
  obtain ⟨i, k, rfl, rfl, q⟩ := h
  obtain ⟨t, rfl⟩ := rx
  cases ry
  exact add_int_bool ⟨.int (i + b2i k), H, I.tok _, ⟨_, rfl⟩, q⟩
end

/-! ### comparisons -/
/-- the scalars that == tells apart as data does -/
def scal : V → V → Bool
  | .non, .non => true | .non, .int _ => true | .int _, .non => true | .non, .bl _ => true | .bl _, .non => true | .non, .str _ => true | .str _, .non => true
  | .int _, .int _ => true | .bl _, .bl _ => true | .str _, .str _ => true | .byt _, .byt _ => true
  | .int _, .str _ => true | .str _, .int _ => true | .bl _, .str _ => true | .str _, .bl _ => true
  | _, _ => false
def rEq : R2 := fun x y H Q => scal x y = true ∧ Q (.bl (decide (x = y))) H
def rNe : R2 := fun x y H Q => scal x y = true ∧ Q (.bl (!decide (x = y))) H

theorem dec_int {i j : Int} : decide (V.int i = V.int j) = (i == j) := by
  rw [Bool.eq_iff_iff]
  simp
theorem dec_bl {i j : Bool} : decide (V.bl i = V.bl j) = (i == j) := by
  rw [Bool.eq_iff_iff]
  simp
theorem dec_str {i j : Str} : decide (V.str i = V.str j) = (i == j) := by
  rw [Bool.eq_iff_iff]
  simp
theorem dec_byt {i j : Array UInt8} : decide (V.byt i = V.byt j) = (i.toList == j.toList) := by
  rw [Bool.eq_iff_iff]
  cases i
  cases j
  simp

section
variable {X : Cx} {a b c : Expr} {ta tb tc : TE} {pos : Pos}
theorem fin_bl {pins : List (Addr × Obj)} {σ : St} {H : Hp} {s : Shared} {Q : VK} {k k' : Bool} (I : Inv X pins σ H s) (q : Q (.bl k) H) (e : k = k') : EP X pins σ Q (.bool k') s := by
  subst e
  exact ⟨.bl k, H, I, rfl, q⟩
theorem op_eq : OpR X (compareOp .Eq) rEq := by
  intro pins s σ H x y v u Q I rx ry h
  obtain ⟨hs, q⟩ := h
  cases x with
  | non =>
    cases rx
    cases y with
    | non => cases ry; exact PySem.EqNone.eq_none_none (fin_bl I q (by simp))
    | bl j => cases ry; exact PySem.EqNone.eq_none_bool (fin_bl I q (by simp))
    | int j => obtain ⟨t', rfl⟩ := ry; exact PySem.EqNone.eq_none_int (fin_bl I q (by simp))
    | str j => obtain ⟨t', rfl⟩ := ry; exact PySem.EqNone.eq_none_str (fin_bl I q (by simp))
    | _ => exact absurd (show false = true from hs) Bool.false_ne_true
  | bl i =>
    cases rx
    cases y with
    | non => cases ry; exact PySem.EqNone.eq_bool_none (fin_bl I q (by simp))
    | bl j => cases ry; exact eq_bool (fin_bl I q dec_bl)
    | str j => obtain ⟨t', rfl⟩ := ry; exact PySem.EqMixed.eq_bool_str (fin_bl I q (by simp))
    | _ => exact absurd (show false = true from hs) Bool.false_ne_true
  | int i =>
    obtain ⟨t, rfl⟩ := rx
    cases y with
    | non => cases ry; exact PySem.EqNone.eq_int_none (fin_bl I q (by simp))
    | int j => obtain ⟨t', rfl⟩ := ry; exact eq_int (fin_bl I q dec_int)
    | str j => obtain ⟨t', rfl⟩ := ry; exact PySem.EqMixed.eq_int_str (fin_bl I q (by simp))
    | _ => exact absurd (show false = true from hs) Bool.false_ne_true
  | str i =>
    obtain ⟨t, rfl⟩ := rx
    cases y with
    | non => cases ry; exact PySem.EqNone.eq_str_none (fin_bl I q (by simp))
    | bl j => cases ry; exact PySem.EqMixed.eq_str_bool (fin_bl I q (by simp))
    | int j => obtain ⟨t', rfl⟩ := ry; exact PySem.EqMixed.eq_str_int (fin_bl I q (by simp))
    | str j => obtain ⟨t', rfl⟩ := ry; exact eq_str (fin_bl I q dec_str)
    | _ => exact absurd (show false = true from hs) Bool.false_ne_true
  | byt i =>
    obtain ⟨t, rfl⟩ := rx
    cases y with
    | byt j => obtain ⟨t', rfl⟩ := ry; exact PySem.W.eq_bytes (fin_bl I q dec_byt)
    | _ => exact absurd (show false = true from hs) Bool.false_ne_true
  | _ => cases y <;> exact absurd (show false = true from hs) Bool.false_ne_true
theorem op_ne : OpR X (compareOp .NotEq) rNe := by
  intro pins s σ H x y v u Q I rx ry h
  obtain ⟨hs, q⟩ := h
  cases x with
  | non =>
    cases rx
    cases y with
    | non => cases ry; exact PySem.EqNone.ne_none_none (fin_bl I q (by simp))
    | bl j => cases ry; exact PySem.EqNone.ne_none_bool (fin_bl I q (by simp))
    | int j => obtain ⟨t', rfl⟩ := ry; exact PySem.EqNone.ne_none_int (fin_bl I q (by simp))
    | str j => obtain ⟨t', rfl⟩ := ry; exact PySem.EqNone.ne_none_str (fin_bl I q (by simp))
    | _ => exact absurd (show false = true from hs) Bool.false_ne_true
  | bl i =>
    cases rx
    cases y with
    | non => cases ry; exact PySem.EqNone.ne_bool_none (fin_bl I q (by simp))
    | bl j => cases ry; exact ne_bool (fin_bl I q (congrArg not dec_bl))
    | str j => obtain ⟨t', rfl⟩ := ry; exact PySem.EqMixed.ne_bool_str (fin_bl I q (by simp))
    | _ => exact absurd (show false = true from hs) Bool.false_ne_true
  | int i =>
    obtain ⟨t, rfl⟩ := rx
    cases y with
    | non => cases ry; exact PySem.EqNone.ne_int_none (fin_bl I q (by simp))
    | int j => obtain ⟨t', rfl⟩ := ry; exact ne_int (fin_bl I q (congrArg not dec_int))
    | str j => obtain ⟨t', rfl⟩ := ry; exact PySem.EqMixed.ne_int_str (fin_bl I q (by simp))
    | _ => exact absurd (show false = true from hs) Bool.false_ne_true
  | str i =>
    obtain ⟨t, rfl⟩ := rx
    cases y with
    | non => cases ry; exact PySem.EqNone.ne_str_none (fin_bl I q (by simp))
    | bl j => cases ry; exact PySem.EqMixed.ne_str_bool (fin_bl I q (by simp))
    | int j => obtain ⟨t', rfl⟩ := ry; exact PySem.EqMixed.ne_str_int (fin_bl I q (by simp))
    | str j => obtain ⟨t', rfl⟩ := ry; exact ne_str (fin_bl I q (congrArg not dec_str))
    | _ => exact absurd (show false = true from hs) Bool.false_ne_true
  | byt i =>
    obtain ⟨t, rfl⟩ := rx
    cases y with
    | byt j => obtain ⟨t', rfl⟩ := ry; exact PySem.W.ne_bytes (fin_bl I q (congrArg not dec_byt))
    | _ => exact absurd (show false = true from hs) Bool.false_ne_true
  | _ => cases y <;> exact absurd (show false = true from hs) Bool.false_ne_true

theorem op_lt : OpR X (compareOp .Lt) (rI0 fun i j => .bl (decide (i < j))) := opB0 fun _ _ _ _ _ _ _ q => lt_int q
theorem op_le : OpR X (compareOp .LtE) (rI0 fun i j => .bl (decide (i ≤ j))) := opB0 fun _ _ _ _ _ _ _ q => le_int q
theorem op_gt : OpR X (compareOp .Gt) (rI0 fun i j => .bl (decide (j < i))) := opB0 fun _ _ _ _ _ _ _ q => gt_int q
theorem op_ge : OpR X (compareOp .GtE) (rI0 fun i j => .bl (decide (j ≤ i))) := opB0 fun _ _ _ _ _ _ _ q => ge_int q
theorem op_lt_str : OpR X (compareOp .Lt) (fun x y H Q => ∃ i j, x = .str i ∧ y = .str j ∧ Q (.bl (decide (i.cps.toList < j.cps.toList))) H) := by
  intro pins s σ H x y v u Q I rx ry h
  obtain ⟨i, j, rfl, rfl, q⟩ := h
  obtain ⟨t, rfl⟩ := rx
  obtain ⟨t', rfl⟩ := ry
  exact lt_str (fin_bl I q rfl)
/-- the one string within the other -/
theorem op_in_str : OpR X (compareOp .In) (fun x y H Q => ∃ i j, x = .str i ∧ y = .str j ∧ Q (.bl (!(Builtin.Str.occurrences j i 0 j.length 1).isEmpty)) H) := by
  intro pins s σ H x y v u Q I rx ry h
  obtain ⟨i, j, rfl, rfl, q⟩ := h
  obtain ⟨t, rfl⟩ := rx
  obtain ⟨t', rfl⟩ := ry
  exact in_str (fin_bl I q rfl)

/-- is None, is not None: the right side a value none -/
theorem op_isN : OpR X (compareOp .Is) (fun x y H Q => y = .non ∧ Q (.bl (decide (x = .non))) H) := by
  intro pins s σ H x y v u Q I rx ry h
  obtain ⟨rfl, q⟩ := h
  cases ry
  refine is_none_gen (fin_bl I q ?_)
  cases x <;> first
    | (cases rx; rfl)
    | (obtain ⟨t, rfl⟩ := rx; rfl)
theorem op_notN : OpR X (compareOp .IsNot) (fun x y H Q => y = .non ∧ Q (.bl (!decide (x = .non))) H) := by
  intro pins s σ H x y v u Q I rx ry h
  obtain ⟨rfl, q⟩ := h
  cases ry
  refine isnot_none_gen (fin_bl I q ?_)
  cases x <;> first
    | (cases rx; rfl)
    | (obtain ⟨t, rfl⟩ := rx; rfl)

theorem op_notin_str : OpR X (compareOp .NotIn) (fun x y H Q => ∃ i j, x = .str i ∧ y = .str j ∧ Q (.bl (!(!(Builtin.Str.occurrences j i 0 j.length 1).isEmpty))) H) := by
  intro pins s σ H x y v u Q I rx ry h
  obtain ⟨i, j, rfl, rfl, q⟩ := h
  obtain ⟨t, rfl⟩ := rx
  obtain ⟨t', rfl⟩ := ry
  exact notIn_str (fin_bl I q rfl)
/-- is, is not of two objects that are tracked lists or instances -/
def isObj : HO → Bool
  | .lst _ => true
  | .ins _ _ _ => true
  | _ => false
theorem obj_there {pins : List (Addr × Obj)} {s : Shared} {σ : St} {H : Hp} {a : Addr} {o : HO} (I : Inv X pins σ H s) (h : H a = some o) (p : isObj o = true) : ∃ ob, s.heap.get? a = some ob ∧ ob.cls ≠ .type "tuple" := by
  cases o with
  | lst xs =>
    obtain ⟨_, its, n, _, e⟩ : xs.length ≤ sizeLine ∧ ∃ (its : List Value) (n : Nat), Vals xs its ∧ s.heap.get? a = some { cls := .type "list", data := .seq its.toArray n } := I.hok a _ h
    exact ⟨_, e, (by show Value.type "list" ≠ .type "tuple"; decide +kernel)⟩
  | ins C dx fs =>
    have x := I.hok a _ h
    obtain ⟨_, _, _, e, _⟩ := x
    exact ⟨_, e, (by show Value.ref C ≠ .type "tuple"; exact fun z => by cases z)⟩
  | _ => exact absurd (show false = true from p) Bool.false_ne_true
theorem op_is_ref : OpR X (compareOp .Is) (fun x y H Q => ∃ a b oa ob, x = .ref a ∧ y = .ref b ∧ H a = some oa ∧ isObj oa = true ∧ H b = some ob ∧ isObj ob = true ∧ Q (.bl (decide (a = b))) H) := by
  intro pins s σ H x y v u Q I rx ry h
  obtain ⟨a, b, oa, ob, rfl, rfl, ha, pa, hb, pb, q⟩ := h
  cases rx
  cases ry
  obtain ⟨o1, e1, n1⟩ := obj_there I ha pa
  obtain ⟨o2, e2, _⟩ := obj_there I hb pb
  by_cases z : a = b
  · subst z
    exact wpAny_is_ref_self (fin_bl I q (by simp))
  · exact wpAny_is_ref_other z e1 e2 n1 (fin_bl I q (by simp [z]))
theorem op_isnot_ref : OpR X (compareOp .IsNot) (fun x y H Q => ∃ a b oa ob, x = .ref a ∧ y = .ref b ∧ H a = some oa ∧ isObj oa = true ∧ H b = some ob ∧ isObj ob = true ∧ Q (.bl (!decide (a = b))) H) := by
  intro pins s σ H x y v u Q I rx ry h
  obtain ⟨a, b, oa, ob, rfl, rfl, ha, pa, hb, pb, q⟩ := h
  cases rx
  cases ry
  obtain ⟨o1, e1, n1⟩ := obj_there I ha pa
  obtain ⟨o2, e2, _⟩ := obj_there I hb pb
  by_cases z : a = b
  · subst z
    exact wpAny_isNot_ref_self (fin_bl I q (by simp))
  · exact wpAny_isNot_ref_other z e1 e2 n1 (fin_bl I q (by simp [z]))

/-- two rules for one operation: by cases -/
theorem OpR.or {f : Value → Value → Sem Value} {r r' : R2} (h : OpR X f r) (h' : OpR X f r') : OpR X f (fun x y H Q => r x y H Q ∨ r' x y H Q) := by
  intro pins s σ H x y v u Q I rx ry q
  rcases q with q | q
  · exact h pins s σ H x y v u Q I rx ry q
  · exact h' pins s σ H x y v u Q I rx ry q

theorem nomark (b : Expr) {op : CmpOp} (h : op ≠ .In := by decide) (h2 : op ≠ .NotIn := by decide) : behindInMarks op b = false := by
  have e1 : (op == CmpOp.In) = false := by cases op <;> first | rfl | exact absurd rfl h
  have e2 : (op == CmpOp.NotIn) = false := by cases op <;> first | rfl | exact absurd rfl h2
  cases b <;> simp [behindInMarks, e1, e2]
/-- a comparison as a value; hm: nomark b, or (for in, not in) by with_unfolding_all rfl -/
theorem pe_cmpR {op : CmpOp} {r : R2} (ho : OpR X (compareOp op) r) (ha : PE X a ta) (hb : PE X b tb) (hm : behindInMarks op b = false) : PE X (.Compare a [op] [b] pos) (tOp r ta tb) := by
  intro pins s σ H Q I h
  exact wpAny_Compare1 (binT ha hb I h fun v u s2 x y H2 I2 rx ry q => ho pins s2 σ H2 x y v u Q I2 rx ry q) hm
/-- a reading of a value as a test -/
def tTest (t : TE) : TT := fun σ H Q => t σ H fun x H' => ∃ k, x = .bl k ∧ Q k H'
theorem pt_cmpR {op : CmpOp} {r : R2} (ho : OpR X (compareOp op) r) (ha : PE X a ta) (hb : PE X b tb) (hm : behindInMarks op b = false) : PT X (.Compare a [op] [b] pos) (tTest (tOp r ta tb)) := by
  intro pins s σ H Q I h
  refine wpAny_isTrue_Compare1 (thn (ha pins s σ H _ I h) fun v s1 ⟨x, H1, I1, r1, q1⟩ => thn (hb pins s1 σ H1 _ I1 q1) fun u s2 ⟨y, H2, I2, r2, q2⟩ =>
    thn (ho pins s2 σ H2 x y v u _ I2 r1 r2 q2) fun c s3 ⟨z, H3, I3, r3, k, e, q3⟩ => ?_) hm
  subst e
  cases r3
  exact wpAny_truthy_bool ⟨H3, I3, q3⟩
/-- a op1 b op2 c -/
def tChain (r r' : R2) (ta tb tc : TE) : TE := fun σ H Q => ta σ H fun x H1 => tb σ H1 fun y H2 => r x y H2 fun z H3 => ∃ k, z = .bl k ∧
  (if k = true then tc σ H3 fun w' H4 => r' y w' H4 Q else Q (.bl false) H3)
theorem pe_chain {op op' : CmpOp} {r r' : R2} (ho : OpR X (compareOp op) r) (ho' : OpR X (compareOp op') r') (ha : PE X a ta) (hb : PE X b tb) (hc : PE X c tc)
    (hm : lastMarks [op, op'] [b, c] = false := by with_unfolding_all rfl) : PE X (.Compare a [op, op'] [b, c] pos) (tChain r r' ta tb tc) := by
  intro pins s σ H Q I h
  refine Compare_chain (thn (ha pins s σ H _ I h) fun v s1 ⟨x, H1, I1, r1, q1⟩ => chain_link (thn (hb pins s1 σ H1 _ I1 q1) fun u s2 ⟨y, H2, I2, r2, q2⟩ =>
    thn (ho pins s2 σ H2 x y v u _ I2 r1 r2 q2) fun d s3 ⟨z, H3, I3, r3, k, e, q3⟩ => ?_)) hm
  subst e
  cases r3
  refine wpAny_truthy_bool ?_
  cases k with
  | false => exact ite_ff ⟨.bl false, H3, I3, rfl, q3⟩
  | true => exact ite_tt (chain_last (thn (hc pins s3 σ H3 _ I3 q3) fun w' s4 ⟨z', H4, I4, r4, q4⟩ => ho' pins s4 σ H4 y z' u w' Q I4 r2 r4 q4))
theorem pt_chain {op op' : CmpOp} {r r' : R2} (ho : OpR X (compareOp op) r) (ho' : OpR X (compareOp op') r') (ha : PE X a ta) (hb : PE X b tb) (hc : PE X c tc)
    (hm : lastMarks [op, op'] [b, c] = false := by with_unfolding_all rfl) : PT X (.Compare a [op, op'] [b, c] pos) (tTest (tChain r r' ta tb tc)) := by
  intro pins s σ H Q I h
  refine isTrue_chain (thn (ha pins s σ H _ I h) fun v s1 ⟨x, H1, I1, r1, q1⟩ => test_link (thn (hb pins s1 σ H1 _ I1 q1) fun u s2 ⟨y, H2, I2, r2, q2⟩ =>
    thn (ho pins s2 σ H2 x y v u _ I2 r1 r2 q2) fun d s3 ⟨z, H3, I3, r3, k, e, q3⟩ => ?_)) hm
  subst e
  cases r3
  refine wpAny_truthy_bool ?_
  cases k with
  | false =>
    obtain ⟨k', e', q'⟩ := q3
    cases e'
    exact ite_ff ⟨H3, I3, q'⟩
  | true =>
    refine ite_tt (test_last (thn (hc pins s3 σ H3 _ I3 q3) fun w' s4 ⟨z', H4, I4, r4, q4⟩ => thn (ho' pins s4 σ H4 y z' u w' _ I4 r2 r4 q4) fun d' s5 ⟨z2, H5, I5, r5, k2, e2, q5⟩ => ?_))
    subst e2
    cases r5
    exact wpAny_truthy_bool ⟨H5, I5, q5⟩

/-! ### truth -/
/-- a value's truth by the abstract heap -/
def TruV (K : PySem.W.Frag) (x : V) (H : Hp) (k : Bool) : Prop :=
  match x with
  | .non => k = false
  | .bl b => k = b
  | .int i => k = (i != 0)
  | .str y => y.length ≤ sizeLine ∧ k = ((y.length : Int) != 0)
  | .byt y => y.size ≤ sizeLine ∧ k = ((y.size : Int) != 0)
  | .ref p => (∃ xs, SqL K H p xs ∧ k = !xs.isEmpty) ∨ (∃ xs, SqT K H p xs ∧ k = !xs.isEmpty) ∨ ∃ kvs, H p = some (.dK kvs) ∧ k = !kvs.isEmpty
  | _ => False
theorem isEmpty_kv {κ : Type} {kvs : List (κ × V)} {vs : List (κ × Value)} (r : KV kvs vs) : (!vs.isEmpty) = !kvs.isEmpty := by
  cases r <;> rfl
theorem isEmpty_of {xs : List V} {its : List Value} (r : Vals xs its) : (!its.toArray.isEmpty) = !xs.isEmpty := by
  cases r <;> simp
theorem line63 : (sizeLine : Nat) < 2 ^ 63 := by rw [sizeLine_eq]; decide
theorem tru_ok : TruR X (fun x H Q => ∃ k, TruV X.K x H k ∧ Q k H) := by
  intro pins s σ H x v Q I rx h
  obtain ⟨k, e, q⟩ := h
  have hl := line63
  have hs : sizeLine = 16777216 := sizeLine_eq
  cases x with
  | non =>
    cases rx
    have e' : k = false := e
    subst e'
    exact truthy_none ⟨H, I, q⟩
  | bl b =>
    cases rx
    have e' : k = b := e
    subst e'
    exact wpAny_truthy_bool ⟨H, I, q⟩
  | int i =>
    obtain ⟨t, rfl⟩ := rx
    have e' : k = (i != 0) := e
    subst e'
    exact PySem.P.truthy_int ⟨H, I, q⟩
  | str y =>
    obtain ⟨t, rfl⟩ := rx
    obtain ⟨hy, e'⟩ : y.length ≤ sizeLine ∧ k = ((y.length : Int) != 0) := e
    subst e'
    exact PySem.P.truthy_str (by omega) ⟨H, I.tok _, q⟩
  | byt y =>
    obtain ⟨t, rfl⟩ := rx
    obtain ⟨hy, e'⟩ : y.size ≤ sizeLine ∧ k = ((y.size : Int) != 0) := e
    subst e'
    exact PySem.W.truthy_bytes (by omega) ⟨H, I.tok _, q⟩
  | ref p =>
    cases rx
    have e' : (∃ xs, SqL X.K H p xs ∧ k = !xs.isEmpty) ∨ (∃ xs, SqT X.K H p xs ∧ k = !xs.isEmpty) ∨ ∃ kvs, H p = some (.dK kvs) ∧ k = !kvs.isEmpty := e
    rcases e' with ⟨xs, hx, e'⟩ | ⟨xs, hx, e'⟩ | ⟨kvs, hx, e'⟩
    · subst e'
      obtain ⟨its, r, pl, hz⟩ := I.list hx
      have hlen := r.length
      exact wpAny_truthy_list pl.isList (by simp only [List.size_toArray]; omega) ⟨H, I.tok _, by rw [isEmpty_of r]; exact q⟩
    · subst e'
      obtain ⟨its, r, pl, hz⟩ := I.tuple hx
      have hlen := r.length
      exact truthy_tuple pl (by simp only [List.size_toArray]; omega) ⟨H, I.tok _, by rw [isEmpty_of r]; exact q⟩
    · subst e'
      obtain ⟨hz, hS, vs, r, m⟩ : kvs.length ≤ sizeLine ∧ (p == sysModules) = false ∧ ∃ vs, KV kvs vs ∧ s.heap.DictOf (mixKind X.prog X.w) p vs := I.hok p _ hx
      have hlen : kvs.length = vs.length := Paired.length r
      exact wpAny_truthy_dict hS m (by omega) ⟨H, I.tok _, by rw [isEmpty_kv r]; exact q⟩
  | _ => exact (show False from e).elim
/-- any expression whose test is its value's truth (a name, a call, a subscript, a field ..: he by fun _ => rfl) -/
theorem pt_truth (ha : PE X a ta) (he : ∀ whole, isTrue a X.env whole = (do let v ← whole; standAt a.pos; holding [v] (truthy v))) :
    PT X a (fun σ H Q => ta σ H fun x H' => ∃ k, TruV X.K x H' k ∧ Q k H') := by
  intro pins s σ H Q I h
  exact isTrue_plain (thn (ha pins s σ H _ I h) fun v s1 ⟨x, H1, I1, r1, q1⟩ => tru_ok pins s1 σ H1 x v Q I1 r1 q1) (he _)

/-! ### strs and bytes -/
theorem pe_byt {x : List UInt8} {k : Nat} : PE X (.Constant (.bytes x) k pos) (fun _ H Q => Q (.byt x.toArray) H) := fun _ _ _ H _ I h => PySem.W.Constant_bytes ⟨.byt x.toArray, H, I.tok _, ⟨_, rfl⟩, h⟩
theorem op_add_str : OpR X (binaryOp .Add) (fun x y H Q => ∃ i j, x = .str i ∧ y = .str j ∧ i.length + j.length ≤ sizeLine ∧ Q (.str (i ++ j)) H) := by
  intro pins s σ H x y v u Q I rx ry h
  obtain ⟨i, j, rfl, rfl, hz, q⟩ := h
  obtain ⟨t, rfl⟩ := rx
  obtain ⟨t', rfl⟩ := ry
  exact add_str (fun t' tk => ⟨.str (i ++ j), H, I.tok _, ⟨_, rfl⟩, q⟩) hz
theorem iop_add_str : OpR X (inplaceOp .Add) (fun x y H Q => ∃ i j, x = .str i ∧ y = .str j ∧ i.length + j.length ≤ sizeLine ∧ Q (.str (i ++ j)) H) := by
  intro pins s σ H x y v u Q I rx ry h
  obtain ⟨i, j, rfl, rfl, hz, q⟩ := h
  obtain ⟨t, rfl⟩ := rx
  obtain ⟨t', rfl⟩ := ry
  exact iadd_str (fun t' tk => ⟨.str (i ++ j), H, I.tok _, ⟨_, rfl⟩, q⟩) hz
theorem op_add_byt : OpR X (binaryOp .Add) (fun x y H Q => ∃ i j, x = .byt i ∧ y = .byt j ∧ i.size + j.size ≤ 16777216 ∧ Q (.byt (i ++ j)) H) := by
  intro pins s σ H x y v u Q I rx ry h
  obtain ⟨i, j, rfl, rfl, hz, q⟩ := h
  obtain ⟨t, rfl⟩ := rx
  obtain ⟨t', rfl⟩ := ry
  exact PySem.W.KBy.add_bytes hz (fun t' tk => ⟨.byt (i ++ j), H, I.tok _, ⟨_, rfl⟩, q⟩)

def PlainIxT (b : Expr) : Prop := ∀ o i, subscripted b false o i = operate [o, i] (getItem o i)
/-- s[i], 0 ≤ i < len -/
theorem pe_item_str (ha : PE X a ta) (hb : PE X b tb) (hs : PlainIxT b) :
    PE X (.Subscript a b pos) (tOp (fun x y H Q => ∃ z i c, x = .str z ∧ y = .int i ∧ 0 ≤ i ∧ i < 2 ^ 63 ∧ i < z.length ∧ z.cps[i.toNat]? = some c ∧ Q (.str ⟨#[c]⟩) H) ta tb) := by
  intro pins s σ H Q I h
  refine Subscript_ (binT ha hb I h fun v u s2 x y H2 I2 rx ry q => ?_)
  obtain ⟨z, i, c, rfl, rfl, h0, h63, h1, hc, q⟩ := q
  obtain ⟨t, rfl⟩ := rx
  obtain ⟨t', rfl⟩ := ry
  have e : seqIndex? i z.length = some i.toNat := PySem.StrLaws.seqIndex_nonneg h0 h1
  exact tail_any (typeIs_str s2 z t) slot_str_getitem.lookup (getItem_str (c := c) (by
    have e1 : decide (i < -(2 ^ 63 : Int)) = false := decide_eq_false (by omega)
    have e2 : decide (i ≥ 2 ^ 63) = false := decide_eq_false (by omega)
    rw [e1, e2] <;> rfl) (by rw [e]; exact hc) ⟨.str ⟨#[c]⟩, H2, I2.tok _, ⟨_, rfl⟩, q⟩) (hs _ _)
/-- b[i], 0 ≤ i < len -/
theorem pe_item_byt (ha : PE X a ta) (hb : PE X b tb) (hs : PlainIxT b) :
    PE X (.Subscript a b pos) (tOp (fun x y H Q => ∃ (z : List UInt8) (i : Int), x = .byt z.toArray ∧ y = .int i ∧ z.length ≤ sizeLine ∧ 0 ≤ i ∧ i < z.length ∧ Q (.int ((z.getD i.toNat 0).toNat : Nat)) H) ta tb) := by
  intro pins s σ H Q I h
  refine Subscript_ (binT ha hb I h fun v u s2 x y H2 I2 rx ry q => ?_)
  obtain ⟨z, i, rfl, rfl, hz, h0, h1, q⟩ := q
  obtain ⟨t, rfl⟩ := rx
  obtain ⟨t', rfl⟩ := ry
  have hl : sizeLine = 16777216 := sizeLine_eq
  exact tail_any (PySem.W.typeIs_bytes s2 z.toArray t) PySem.W.FB.slot_bytes_getitem.lookup (PySem.W.getItem_bytes (by omega) h0 h1 ⟨.int ((z.getD i.toNat 0).toNat : Nat), H2, I2.tok _, ⟨_, rfl⟩, q⟩) (hs _ _)

/-! ### scalar builtins, by CallR -/
theorem vals1 {x : V} {us : List Value} (r : Vals [x] us) : ∃ u, us = [u] ∧ RelV x u := by
  cases r with
  | cons r1 r2 => cases r2; exact ⟨_, rfl, r1⟩
theorem vals2 {x y : V} {us : List Value} (r : Vals [x, y] us) : ∃ u w', us = [u, w'] ∧ RelV x u ∧ RelV y w' := by
  cases r with
  | cons r1 r2 =>
    cases r2 with
    | cons r3 r4 => cases r4; exact ⟨_, _, rfl, r1, r3⟩
theorem call_abs : CallR X (.builtin "abs") (fun xs H Q => ∃ i, xs = [.int i] ∧ Q (.int (if i < 0 then -i else i)) H) := by
  intro pins s σ H xs us Q I r h
  obtain ⟨i, rfl, q⟩ := h
  obtain ⟨u, rfl, t, rfl⟩ := vals1 r
  exact call_abs_int fun u tk => ⟨.int (if i < 0 then -i else i), H, I.tok _, ⟨_, rfl⟩, q⟩
theorem call_max2 (hc : X.calm = true) : CallR X (.builtin "max") (fun xs H Q => ∃ i j, xs = [.int i, .int j] ∧ Q (.int (if j > i then j else i)) H) := by
  intro pins s σ H xs us Q I r h
  obtain ⟨i, j, rfl, q⟩ := h
  obtain ⟨u, w', rfl, ⟨t, rfl⟩, ⟨t', rfl⟩⟩ := vals2 r
  refine max_two_ints (I.ok.hd hc) fun h' tk k => ⟨_, H, I.kept k, ?_, q⟩
  by_cases hj : j > i
  · rw [if_pos hj, if_pos hj]; exact ⟨_, rfl⟩
  · rw [if_neg hj, if_neg hj]; exact ⟨_, rfl⟩
theorem call_min2 (hc : X.calm = true) : CallR X (.builtin "min") (fun xs H Q => ∃ i j, xs = [.int i, .int j] ∧ Q (.int (if j < i then j else i)) H) := by
  intro pins s σ H xs us Q I r h
  obtain ⟨i, j, rfl, q⟩ := h
  obtain ⟨u, w', rfl, ⟨t, rfl⟩, ⟨t', rfl⟩⟩ := vals2 r
  refine min_two_ints (I.ok.hd hc) fun h' tk k => ⟨_, H, I.kept k, ?_, q⟩
  by_cases hj : j < i
  · rw [if_pos hj, if_pos hj]; exact ⟨_, rfl⟩
  · rw [if_neg hj, if_neg hj]; exact ⟨_, rfl⟩
theorem call_int1 : CallR X (.type "int") (fun xs H Q => (∃ i, xs = [.int i] ∧ Q (.int i) H) ∨ ∃ k, xs = [.bl k] ∧ Q (.int (if k then 1 else 0)) H) := by
  intro pins s σ H xs us Q I r h
  rcases h with ⟨i, rfl, q⟩ | ⟨k, rfl, q⟩
  · obtain ⟨u, rfl, t, rfl⟩ := vals1 r
    exact call_int_int ⟨.int i, H, I, ⟨_, rfl⟩, q⟩
  · obtain ⟨u, rfl, r1⟩ := vals1 r
    cases r1
    exact call_int_bool ⟨.int (if k then 1 else 0), H, I.tok _, ⟨_, rfl⟩, q⟩
theorem call_bool1 : CallR X (.type "bool") (fun xs H Q => (∃ i, xs = [.int i] ∧ Q (.bl (i != 0)) H) ∨ ∃ k, xs = [.bl k] ∧ Q (.bl k) H) := by
  intro pins s σ H xs us Q I r h
  rcases h with ⟨i, rfl, q⟩ | ⟨k, rfl, q⟩
  · obtain ⟨u, rfl, t, rfl⟩ := vals1 r
    exact call_bool_int ⟨.bl (i != 0), H, I, rfl, q⟩
  · obtain ⟨u, rfl, r1⟩ := vals1 r
    cases r1
    exact call_bool_bool ⟨.bl k, H, I, rfl, q⟩
theorem call_str_int : CallR X (.type "str") (fun xs H Q => ∃ i, xs = [.int i] ∧ i.natAbs.log2 < 1920 ∧ Q (.str (toString i)) H) := by
  intro pins s σ H xs us Q I r h
  obtain ⟨i, rfl, hz, q⟩ := h
  obtain ⟨u, rfl, t, rfl⟩ := vals1 r
  exact PySem.P.str_of_int hz ⟨.str _, H, I.tok _, ⟨_, rfl⟩, q⟩
theorem call_ord : CallR X (.builtin "ord") (fun xs H Q => ∃ x, xs = [.str x] ∧ x.length = 1 ∧ Q (.int (x.cps.getD 0 0 : Nat)) H) := by
  intro pins s σ H xs us Q I r h
  obtain ⟨x, rfl, hz, q⟩ := h
  obtain ⟨u, rfl, t, rfl⟩ := vals1 r
  exact ord_of_one hz ⟨.int _, H, I.tok _, ⟨_, rfl⟩, q⟩
theorem call_chr : CallR X (.builtin "chr") (fun xs H Q => ∃ i, xs = [.int i] ∧ 0 ≤ i ∧ i ≤ 1114111 ∧ Q (.str ⟨#[i.toNat]⟩) H) := by
  intro pins s σ H xs us Q I r h
  obtain ⟨i, rfl, h0, h1, q⟩ := h
  obtain ⟨u, rfl, t, rfl⟩ := vals1 r
  exact chr_of_range h0 h1 ⟨.str _, H, I.tok _, ⟨_, rfl⟩, q⟩
/-- len of a str, a bytes, a list, a tuple -/
def LenV (K : PySem.W.Frag) (x : V) (H : Hp) (n : Nat) : Prop :=
  match x with
  | .str y => y.length ≤ sizeLine ∧ n = y.length
  | .byt y => y.size ≤ sizeLine ∧ n = y.size
  | .ref p => (∃ xs, SqL K H p xs ∧ n = xs.length) ∨ ∃ xs, SqT K H p xs ∧ n = xs.length
  | _ => False
theorem call_len : CallR X (.builtin "len") (fun xs H Q => ∃ x n, xs = [x] ∧ LenV X.K x H n ∧ Q (.int n) H) := by
  intro pins s σ H xs us Q I r h
  obtain ⟨x, n, rfl, e, q⟩ := h
  obtain ⟨u, rfl, rx⟩ := vals1 r
  have hl := line63
  have hs : sizeLine = 16777216 := sizeLine_eq
  cases x with
  | str y =>
    obtain ⟨t, rfl⟩ := rx
    obtain ⟨hy, e'⟩ : y.length ≤ sizeLine ∧ n = y.length := e
    subst e'
    exact len_str (by omega) ⟨.int _, H, I.tok _, ⟨_, rfl⟩, q⟩
  | byt y =>
    obtain ⟨t, rfl⟩ := rx
    obtain ⟨hy, e'⟩ : y.size ≤ sizeLine ∧ n = y.size := e
    subst e'
    exact PySem.W.len_bytes (by omega) ⟨.int _, H, I.tok _, ⟨_, rfl⟩, q⟩
  | ref p =>
    cases rx
    have e' : (∃ xs, SqL X.K H p xs ∧ n = xs.length) ∨ ∃ xs, SqT X.K H p xs ∧ n = xs.length := e
    rcases e' with ⟨xs, hx, e'⟩ | ⟨xs, hx, e'⟩
    · subst e'
      obtain ⟨its, r', pl, hz⟩ := I.list hx
      have hlen := r'.length
      exact Calls.call_len_list pl.isList (by simp only [List.size_toArray]; omega) ⟨.int xs.length, H, I.tok _, ⟨_, by simp only [List.size_toArray]; rw [hlen]⟩, q⟩
    · subst e'
      obtain ⟨its, r', pl, hz⟩ := I.tuple hx
      have hlen := r'.length
      exact len_tuple pl (by simp only [List.size_toArray]; omega) ⟨.int xs.length, H, I.tok _, ⟨_, by simp only [List.size_toArray]; rw [hlen]⟩, q⟩
  | _ => exact (show False from e).elim
/-- divmod: a new tuple -/
theorem call_divmod : CallR X (.builtin "divmod") (fun xs H Q => ∃ i j, xs = [.int i, .int j] ∧ CDiv i j ∧ ∀ p, H p = none → Q (.ref p) (upd H p (.tup [.int (i / j), .int (i % j)]))) := by
  intro pins s σ H xs us Q I r h
  obtain ⟨i, j, rfl, ⟨h1, h2⟩, q⟩ := h
  obtain ⟨u, w', rfl, ⟨t, rfl⟩, ⟨t', rfl⟩⟩ := vals2 r
  refine divmod_int (by omega) ?_ (.inl (PyProof.noPylong_small (by omega)))
  rw [Int.fdiv_eq_ediv_of_nonneg i (by omega), Int.fmod_eq_emod_of_nonneg i (by omega)]
  have hn : H s.heap.objs.size = none := I.hok.fresh (Nat.le_refl _)
  refine ⟨.ref s.heap.objs.size, _, ?_, rfl, q _ hn⟩
  refine I.laid (fun b o e => Heap.get?_push_of_some _ e) (Nat.le_refl _) ⟨by simp only [List.length_cons, List.length_nil]; rw [sizeLine_eq]; decide, [.int (i / j) s.toks, .int (i % j) (s.toks + 1)], .cons ⟨_, rfl⟩ (.cons ⟨_, rfl⟩ .nil), ?_⟩
  exact ⟨_, Heap.get?_push_size s.heap rfl, rfl, 0, rfl⟩
end
end L2

namespace L2
open PySem PySem.Spec PyProof.Rows

/-! ### an instance, its attributes a map -/
structure ObjM (h : Heap) (x dx C : Addr) (mA : Str → Option Value) : Prop where
  obj : h.get? x = some (PySem.W.instObj C dx)
  ns : h.Ns1 dx mA
  ne : dx ≠ x

theorem lookIn_ns {h : Heap} {dx : Addr} {mA : Str → Option Value} (n : h.Ns1 dx mA) : ∃ od, h.get? dx = some od ∧ ∀ name, PySem.W.lookIn name od = some (mA name) := by
  obtain ⟨o, es, ep, ho, hd, hk, _, hm⟩ := n
  refine ⟨o, ho, fun name => ?_⟩
  have e := hm name
  unfold nsFind findBy at e
  rw [← Array.find?_toList] at e
  unfold PySem.W.lookIn
  rw [hd]
  dsimp only
  split
  · rename_i y q
    rw [q] at e
    exact congrArg some e
  · rename_i q
    rw [q] at e
    have a : es.toList.any (·.refKey) = false := by
      rw [List.any_eq_false]
      intro y hy
      obtain ⟨z, t, hkey⟩ := hk y (Array.mem_toList_iff.mp hy)
      simp [DictEntry.refKey, hkey]
    have a' : ¬ es.toList.any (·.refKey) = true := by rw [a]; exact Bool.false_ne_true
    rw [if_neg a']
    exact congrArg some e

theorem ObjM.look {h : Heap} {x dx C : Addr} {mA : Str → Option Value} (I : ObjM h x dx C mA) : ∃ od, PySem.W.InstAt h x (PySem.W.instObj C dx) C (some od) ∧ ∀ name, PySem.W.lookIn name od = some (mA name) :=
  let ⟨od, ho, hl⟩ := lookIn_ns I.ns
  ⟨od, ⟨I.obj, rfl, rfl, ho⟩, hl⟩

section
variable {prog : Program} {w : World} {A : Around} {E : Value → Shared → Prop} {s : Shared} {K : PySem.W.Frag} {x dx C f : Addr} {mA : Str → Option Value} {name : Str} {v : Value}

theorem get_map {expr : Bool} {Q : Value → Shared → Prop} (X : K.In s.heap) (I : ObjM s.heap x dx C mA) (hg : PySem.W.plainGet K C name = true) (hh : PySem.W.hasDictIn K C = true)
    (ha : PySem.W.findIn K (.ref C) name = some none) (hv : mA name = some v) (hv' : PySem.W.handedIn v = true) (h : Q v { s with toks := s.toks + 1 }) :
    wpAny (model prog w) A (getAttr (.ref x) name expr) Q E s := by
  obtain ⟨od, J, hl⟩ := I.look
  exact PySem.W.get_value X J (PySem.W.plainGet_of hg).1 (PySem.W.findObj_own hh ha rfl (by rw [hl, hv])) hv' h

theorem get_const {expr : Bool} {a : Value} {Q : Value → Shared → Prop} (X : K.In s.heap) (I : ObjM s.heap x dx C mA) (hg : PySem.W.plainGet K C name = true) (hh : PySem.W.hasDictIn K C = true)
    (ha : PySem.W.findIn K (.ref C) name = some (some a)) (hn : PySem.W.specialIn K a "__get__" = some none) (hc : PySem.W.copiedNames.contains name = false) (hv : mA name = none) (hv' : PySem.W.handedIn a = true)
    (h : Q a { s with toks := s.toks + 1 }) : wpAny (model prog w) A (getAttr (.ref x) name expr) Q E s := by
  obtain ⟨od, J, hl⟩ := I.look
  exact PySem.W.get_value X J (PySem.W.plainGet_of hg).1 (PySem.W.findObj_cls hh ha hn hv' hc (by rw [hl, hv])) hv' h

theorem get_meth {pl : Sem Bool} {Q : Value × List Value → Shared → Prop} (X : K.In s.heap) (I : ObjM s.heap x dx C mA) (hg : PySem.W.plainGet K C name = true)
    (hf : PySem.W.findIn K (.ref C) name = some (some (.ref f))) (ht : PySem.W.isFn K (.ref f) = true) (hv : mA name = none) (h : Q (.ref f, [.ref x]) s) :
    wpAny (model prog w) A (getMethod (.ref x) name pl) Q E s := by
  obtain ⟨od, J, hl⟩ := I.look
  exact PySem.W.method_fn X J (PySem.W.plainGet_of hg).1 (PySem.W.plainGet_of hg).2 hf (beq_iff_eq.mp ht) (by show (PySem.W.lookIn name od).map (·.isSome) = some false; rw [hl, hv]; rfl) h

theorem set_map {ns : List Str} {Q : Unit → Shared → Prop} (X : K.In s.heap) (I : ObjM s.heap x dx C mA)
    (hs : PySem.W.findIn K (.ref C) "__setattr__" = some (some (.builtin "object.__setattr__"))) (hp : PySem.W.plainOver K C = true) (ht : PySem.W.takerIn K C name = some none) (hh : PySem.W.hasDictIn K C = true)
    (hw : PySem.Within mA ns) (hsz : ns.length ≤ sizeLine)
    (h : ∀ h', ObjM h' x dx C (fun y => if y = name then some v else mA y) → Heap.SameBut dx s.heap h' → Q () { s with heap := h', toks := s.toks + 2 }) :
    wpAny (model prog w) A (setAttr (.ref x) name v) Q E s := by
  obtain ⟨od, J, hl⟩ := I.look
  refine PySem.W.set_plain X J hs (PySem.W.osa_open (s := { s with toks := s.toks + 1 }) (r := none) X J hp ht fun b => ?_)
  obtain ⟨cd, hc, hd'⟩ := PySem.W.any_some hh
  have hx : s.heap.get? x = some ⟨.ref C, some dx, .plain, #[]⟩ := I.obj
  refine wpAny_bind (wpAny_pure (wpAny_bind (wpAny_bind (wpAny_loadPart hx (wpAny_bind (PySem.W.Looks.here (s := { s with toks := s.toks + 1 }) (PySem.W.looks_clsIn X hc) ?_))))))
  rw [hd']
  refine wpAny_pure (a := some dx) (wpAny_bind (wpAny_pure (wpAny_bind ?_)))
  refine wpAny_nsSet1 (s := { s with toks := s.toks + 1 }) I.ns fun h' hn2 hs2 => ?_
  obtain ⟨oD, esD, epD, hoD, hdD, hcD⟩ := hn2.count (PySem.Within.cons name v hw)
  refine wpAny_bind (wpAny_lookBehind hoD (by rw [hdD]; exact pastItsLine_dict (Nat.le_trans hcD (by rw [List.length_cons]; omega))) ?_)
  exact wpAny_pure (h _ ⟨(hs2.2 _ (Ne.symm I.ne)).trans I.obj, hn2, I.ne⟩ hs2)

/-- C(..): the dict at the heap's end, the instance behind it; then its __init__ -/
theorem make_map {R : Result → Shared → Prop} {vs : List Value} {kw : List (Str × Value)} (X : K.In s.heap) (hm : PySem.W.makesIn K C = true)
    (hi : PySem.W.findIn K (.ref C) "__init__" = some (some (.ref f))) (hf : PySem.W.typeIn K (.ref f) = some (.type "function"))
    (h : codeAny (model prog w) (A.under (.builtin "type.__call__" ⟨.ref C :: vs, kw⟩)) (.call (.ref f) ⟨.ref (s.heap.objs.size + 1) :: vs, kw⟩) (PySem.W.InitBack (s.heap.objs.size + 1) R)
      { s with heap := (s.heap.push PySem.W.emptyDict).push (PySem.W.instObj C s.heap.objs.size) }) :
    codeAny (model prog w) A (.call (.ref C) ⟨vs, kw⟩) R s := by
  obtain ⟨hh, g, d, t, os⟩ := s
  exact PySem.W.make_core (PySem.W.makes_of X hm) (PySem.W.looks_findIn X hi) (fun self => PySem.W.bind_fn X self hf) (.inl rfl) h
/-- C() where there is no __init__ but object's -/
theorem make_map0 {R : Result → Shared → Prop} (X : K.In s.heap) (hm : PySem.W.makesIn K C = true)
    (hi : PySem.W.findIn K (.ref C) "__init__" = some (some (.builtin "object.__init__")))
    (hb : ∀ self, PySem.W.Looks (model prog w) s.heap (bindSpecial (.builtin "object.__init__") self) (.builtin "object.__init__", [self]))
    (h : codeAny (model prog w) (A.under (.builtin "type.__call__" ⟨[.ref C], []⟩)) (.call (.builtin "object.__init__") ⟨[.ref (s.heap.objs.size + 1)], []⟩) (PySem.W.InitBack (s.heap.objs.size + 1) R)
      { s with heap := (s.heap.push PySem.W.emptyDict).push (PySem.W.instObj C s.heap.objs.size) }) :
    codeAny (model prog w) A (.call (.ref C) ⟨[], []⟩) R s := by
  obtain ⟨hh, g, d, t, os⟩ := s
  exact PySem.W.make_core (PySem.W.makes_of X hm) (PySem.W.looks_findIn X hi) hb (.inr ⟨rfl, rfl⟩) h
end

/-! ### the attributes as a list of pairs -/
def putF (f : Str) (v : V) : List (Str × V) → List (Str × V)
  | [] => [(f, v)]
  | (g, x) :: r => if g = f then (g, v) :: r else (g, x) :: putF f v r
theorem lookup_putF (f g : Str) (v : V) : ∀ fs : List (Str × V), (putF f v fs).lookup g = if g = f then some v else fs.lookup g
  | [] => by
    show List.lookup g [(f, v)] = _
    by_cases h : g = f
    · have hb : (g == f) = true := beq_iff_eq.mpr h
      simp only [List.lookup, hb, if_pos h]
    · have hb : (g == f) = false := beq_eq_false_iff_ne.mpr h
      simp only [List.lookup, hb, if_neg h]
  | (k, x) :: r => by
    have ih := lookup_putF f g v r
    rw [show putF f v ((k, x) :: r) = (if k = f then (k, v) :: r else (k, x) :: putF f v r) from rfl]
    by_cases hk : k = f
    · rw [if_pos hk]
      by_cases h : g = k
      · have hb : (g == k) = true := beq_iff_eq.mpr h
        simp only [List.lookup, hb, if_pos (h.trans hk)]
      · have hb : (g == k) = false := beq_eq_false_iff_ne.mpr h
        simp only [List.lookup, hb, if_neg (fun e : g = f => h (e.trans hk.symm))]
    · rw [if_neg hk]
      by_cases h : g = k
      · have hb : (g == k) = true := beq_iff_eq.mpr h
        simp only [List.lookup, hb, if_neg (fun e : g = f => hk (h.symm.trans e))]
      · have hb : (g == k) = false := beq_eq_false_iff_ne.mpr h
        simp only [List.lookup, hb]
        exact ih
theorem keys_putF (f : Str) (v : V) : ∀ fs : List (Str × V), f ∈ (putF f v fs).map (·.1) ∧ ∀ g, g ∈ fs.map (·.1) → g ∈ (putF f v fs).map (·.1)
  | [] => ⟨by simp [putF], fun g h => by simp at h⟩
  | (k, x) :: r => by
    obtain ⟨i1, i2⟩ := keys_putF f v r
    rw [show putF f v ((k, x) :: r) = (if k = f then (k, v) :: r else (k, x) :: putF f v r) from rfl]
    by_cases hk : k = f
    · rw [if_pos hk]
      subst hk
      exact ⟨by simp, fun g h => by simpa using h⟩
    · rw [if_neg hk]
      refine ⟨?_, fun g h => ?_⟩
      · rw [List.map_cons]
        exact List.mem_cons_of_mem _ i1
      · rw [List.map_cons] at h ⊢
        rcases List.mem_cons.mp h with e | e
        · exact List.mem_cons.mpr (.inl e)
        · exact List.mem_cons_of_mem _ (i2 g e)
theorem length_putF (f : Str) (v : V) : ∀ fs : List (Str × V), (putF f v fs).length ≤ fs.length + 1
  | [] => by simp [putF]
  | (k, x) :: r => by
    have ih := length_putF f v r
    rw [show putF f v ((k, x) :: r) = (if k = f then (k, v) :: r else (k, x) :: putF f v r) from rfl]
    by_cases hk : k = f
    · rw [if_pos hk, List.length_cons, List.length_cons]; omega
    · rw [if_neg hk, List.length_cons, List.length_cons]; omega

theorem RelO.some_of {v : V} {o : Option Value} (r : RelO (some v) o) : ∃ u, o = some u ∧ RelV v u := by
  cases o with
  | none => exact (show False from r).elim
  | some u => exact ⟨u, rfl, r⟩
theorem RelO.none_of {o : Option Value} (r : RelO none o) : o = none := by
  cases o with
  | none => rfl
  | some u => exact (show False from r).elim
theorem handed_of {v : V} {u : Value} (r : RelV v u) : PySem.W.handedIn u = true := by
  cases v with
  | non => cases (show u = Value.none from r); rfl
  | bl b => cases (show u = Value.bool b from r); rfl
  | int i => obtain ⟨t, e⟩ := (show ∃ t, u = Value.int i t from r); cases e; rfl
  | str x => obtain ⟨t, e⟩ := (show ∃ t, u = Value.str x t from r); cases e; rfl
  | byt b => obtain ⟨t, e⟩ := (show ∃ t, u = Value.bytes b t from r); cases e; rfl
  | flt b => obtain ⟨t, e⟩ := (show ∃ t, u = Value.float b t from r); cases e; rfl
  | ref a => cases (show u = Value.ref a from r); rfl
  | ty n => cases (show u = Value.type n from r); rfl

section
variable {P : Program} {w : World} {H H' : Hp} {h h' : Heap} {a C dx : Addr} {fs fs' : List (Str × V)}
theorem ins_get (hok : HOk P w H h) (e : H a = some (.ins C dx fs)) : ∃ mA, ObjM h a dx C mA ∧ (∀ f, RelO (fs.lookup f) (mA f)) ∧ PySem.Within mA (fs.map (·.1)) ∧ fs.length ≤ 1000 ∧ H dx = some (.own a) := by
  obtain ⟨d, z, ne, ob, mA, n, r, q⟩ := (show ObjOk P w H h a (.ins C dx fs) from hok a _ e)
  exact ⟨mA, ⟨ob, n, ne⟩, r, q, z, d⟩
end

/-! ### what of the text a class must have -/
structure Cls (K : PySem.W.Frag) (C : Addr) : Prop where
  pg : PySem.W.plainGet K C Str.empty = true
  hd : PySem.W.hasDictIn K C = true
  po : PySem.W.plainOver K C = true
  sa : PySem.W.findIn K (.ref C) "__setattr__" = some (some (.builtin "object.__setattr__"))
theorem Cls.get {K : PySem.W.Frag} {C : Addr} (c : Cls K C) (f : Str) : PySem.W.plainGet K C f = true := c.pg
/-- no class of it has the name -/
def NoAttr (K : PySem.W.Frag) (C : Addr) (f : Str) : Prop := PySem.W.findIn K (.ref C) f = some none
theorem NoAttr.taker {K : PySem.W.Frag} {C : Addr} {f : Str} (n : NoAttr K C f) : PySem.W.takerIn K C f = some none := by
  unfold PySem.W.takerIn
  rw [show PySem.W.findIn K (.ref C) f = some none from n]
  rfl
/-- a constant of the class -/
structure Con (K : PySem.W.Frag) (C : Addr) (f : Str) (v : V) (u : Value) : Prop where
  at_ : PySem.W.findIn K (.ref C) f = some (some u)
  rel : RelV v u
  get : PySem.W.specialIn K u "__get__" = some none
  cp : PySem.W.copiedNames.contains f = false
/-- a method: a plain def of the class or of one above it -/
structure Meth (K : PySem.W.Frag) (C : Addr) (m : Str) (f : Addr) : Prop where
  at_ : PySem.W.findIn K (.ref C) m = some (some (.ref f))
  fn : PySem.W.isFn K (.ref f) = true
  kp : PySem.W.keepIn K (.ref f) = true

section
variable {X : Cx} {pins : List (Addr × Obj)} {σ : St} {H : Hp} {s : Shared} {a C dx : Addr} {fs : List (Str × V)} {f : Str} {v : V} {A : Around} {E : Value → Shared → Prop}

theorem getattr_ok {b : Bool} {Q : Value → Shared → Prop} (I : Inv X pins σ H s) (e : H a = some (.ins C dx fs)) (c : Cls X.K C) (n : NoAttr X.K C f) (l : fs.lookup f = some v)
    (h : ∀ u s', Inv X pins σ H s' → RelV v u → Q u s') : wpAny (model X.prog X.w) A (getAttr (.ref a) f b) Q E s := by
  obtain ⟨mA, O, r, _, _, _⟩ := ins_get I.hok e
  obtain ⟨u, hu, ru⟩ := RelO.some_of (v := v) (o := mA f) (by rw [← l]; exact r f)
  exact get_map I.kIn O (c.get f) c.hd n hu (handed_of ru) (h u _ (I.tok _) ru)

theorem getcon_ok {b : Bool} {u : Value} {Q : Value → Shared → Prop} (I : Inv X pins σ H s) (e : H a = some (.ins C dx fs)) (c : Cls X.K C) (k : Con X.K C f v u) (l : fs.lookup f = none)
    (h : ∀ s', Inv X pins σ H s' → Q u s') : wpAny (model X.prog X.w) A (getAttr (.ref a) f b) Q E s := by
  obtain ⟨mA, O, r, _, _, _⟩ := ins_get I.hok e
  have hn : mA f = none := RelO.none_of (by rw [← l]; exact r f)
  exact get_const I.kIn O (c.get f) c.hd k.at_ k.get k.cp hn (handed_of k.rel) (h _ (I.tok _))

theorem getmeth_ok {m : Str} {g : Addr} {pl : Sem Bool} {Q : Value × List Value → Shared → Prop} (I : Inv X pins σ H s) (e : H a = some (.ins C dx fs)) (c : Cls X.K C) (k : Meth X.K C m g) (l : fs.lookup m = none)
    (h : Q (.ref g, [.ref a]) s) : wpAny (model X.prog X.w) A (getMethod (.ref a) m pl) Q E s := by
  obtain ⟨mA, O, r, _, _, _⟩ := ins_get I.hok e
  have hn : mA m = none := RelO.none_of (by rw [← l]; exact r m)
  exact get_meth I.kIn O (c.get m) k.at_ k.fn hn h

theorem setattr_ok {y : V} {u : Value} {Q : Unit → Shared → Prop} (I : Inv X pins σ H s) (e : H a = some (.ins C dx fs)) (c : Cls X.K C) (n : NoAttr X.K C f) (hl : fs.length < 1000) (ry : RelV y u)
    (h : ∀ s', Inv X pins σ (upd H a (.ins C dx (putF f y fs))) s' → Q () s') : wpAny (model X.prog X.w) A (setAttr (.ref a) f u) Q E s := by
  obtain ⟨mA, O, r, wi, _, ho⟩ := ins_get I.hok e
  have hz : (fs.map (·.1)).length ≤ sizeLine := by rw [List.length_map, sizeLine_eq]; omega
  refine set_map I.kIn O c.sa c.po n.taker c.hd wi hz fun h' O' sb => h _ ?_
  have hd : ∃ o, h'.get? dx = some o := let ⟨o, _, _, e', _⟩ := O'.ns; ⟨o, e'⟩
  refine I.write (x := a) (e := dx) (by rw [e]; exact True.intro) (.inr ho) (fun b q hb z => (sb.2 b hb).trans z) hd ?_
  refine ⟨by rw [upd_ne O.ne]; exact ho, ?_, O.ne, O'.obj, _, O'.ns, fun g => ?_, fun g hg => ?_⟩
  · have := length_putF f y fs; omega
  · show RelO ((putF f y fs).lookup g) (if g = f then some u else mA g)
    rw [lookup_putF]
    by_cases q : g = f
    · rw [if_pos q, if_pos q]; exact ry
    · rw [if_neg q, if_neg q]; exact r g
  · by_cases q : g = f
    · rw [q]; exact (keys_putF f y fs).1
    · refine (keys_putF f y fs).2 g (wi g fun z => hg ?_)
      show (if g = f then some u else mA g) = none
      rw [if_neg q]; exact z

/-- a new instance, tracked, without attributes -/
theorem Inv.made (I : Inv X pins σ H s) : Inv X pins σ (upd (upd H s.heap.objs.size (.own (s.heap.objs.size + 1))) (s.heap.objs.size + 1) (.ins C s.heap.objs.size []))
    { s with heap := (s.heap.push PySem.W.emptyDict).push (PySem.W.instObj C s.heap.objs.size) } := by
  have e1 : (s.heap.push PySem.W.emptyDict).get? s.heap.objs.size = some PySem.W.emptyDict := Heap.get?_push_size s.heap rfl
  have e2 : ((s.heap.push PySem.W.emptyDict).push (PySem.W.instObj C s.heap.objs.size)).get? (s.heap.objs.size + 1) = some (PySem.W.instObj C s.heap.objs.size) := by
    have := Heap.get?_push_size (s.heap.push PySem.W.emptyDict) (o := PySem.W.instObj C s.heap.objs.size) rfl
    rwa [Heap.size_push] at this
  have e3 : (s.heap.push PySem.W.emptyDict).Ns s.heap.objs.size (fun _ => none) := ⟨PySem.W.emptyDict, #[], _, e1, rfl, (fun e he => absurd he (by simp)), fun _ => rfl⟩
  have I1 := I.laid (a := s.heap.objs.size) (o := .own (s.heap.objs.size + 1)) (h' := s.heap.push PySem.W.emptyDict) (t' := s.toks) (fun b u q => Heap.get?_push_of_some _ q) (Nat.le_refl _) ⟨_, e1⟩
  refine I1.laid (a := s.heap.objs.size + 1) (o := .ins C s.heap.objs.size []) (t' := s.toks) (fun b u q => Heap.get?_push_of_some _ q) (Nat.le_of_eq (Heap.size_push _ _)) ?_
  have ne : s.heap.objs.size ≠ s.heap.objs.size + 1 := Nat.ne_of_lt (Nat.lt_succ_self _)
  refine ⟨by rw [upd_ne ne, upd_same], Nat.zero_le _, ne, e2, fun _ => none, (Heap.Ns1.of_empty e3).at fun o q => Heap.get?_push_of_some _ q, fun _ => True.intro, fun y hy => absurd rfl hy⟩

/-- e.f where nothing but the object is asked: through attributeBase (super) and the last hold -/
theorem attr_of {prog : Program} {w : World} {env : Env} {e : Expr} {f : Str} {pos : Pos} {s : Shared} {Q : Value → Shared → Prop} (hb : attributeBase e f env (eval e env) = eval e env)
    (h : wpAny (model prog w) A (eval e env) (fun o s₁ => wpAny (model prog w) A (getAttr o f true) Q E s₁) E s) : wpAny (model prog w) A (eval (.Attribute e f pos) env) Q E s :=
  Attribute_any_ h (by rw [arm_eval_Attribute, hb])
end

/-! ### readings and rules -/
/-- e.f, an attribute of the instance -/
def tFld (K : PySem.W.Frag) (ta : TE) (f : Str) : TE := fun σ H Q => ta σ H fun x H1 => ∃ a C dx fs v, x = .ref a ∧ H1 a = some (.ins C dx fs) ∧ Cls K C ∧ NoAttr K C f ∧ fs.lookup f = some v ∧ Q v H1
/-- e.f, a constant of the class -/
def tCon (K : PySem.W.Frag) (ta : TE) (f : Str) : TE := fun σ H Q => ta σ H fun x H1 => ∃ a C dx fs v u, x = .ref a ∧ H1 a = some (.ins C dx fs) ∧ Cls K C ∧ Con K C f v u ∧ fs.lookup f = none ∧ Q v H1
/-- e.f = value -/
def sFld (K : PySem.W.Frag) (ta tv : TE) (f : Str) : TS := fun D σ H => tv σ H fun y H1 => ta σ H1 fun x H2 => ∃ a C dx fs, x = .ref a ∧ H2 a = some (.ins C dx fs) ∧ Cls K C ∧ NoAttr K C f ∧ fs.length < 1000 ∧
  D.nx σ (upd H2 a (.ins C dx (putF f y fs)))
/-- an augmented operator on two values -/
def InOp (X : Cx) (op : Operator) (rd : V → V → Hp → VK → Prop) : Prop :=
  ∀ (pins : List (Addr × Obj)) (s : Shared) (σ : St) (H : Hp) (x y : V) (u v : Value) (Q : VK), Inv X pins σ H s → RelV x u → RelV y v → rd x y H Q → wpAny (model X.prog X.w) X.A (inplaceOp op u v) (EP X pins σ Q) X.xe s
/-- e.f op= value -/
def sFldAug (K : PySem.W.Frag) (ta tv : TE) (rd : V → V → Hp → VK → Prop) (f : Str) : TS := fun D σ H => ta σ H fun x H1 => ∃ a C dx fs v, x = .ref a ∧ H1 a = some (.ins C dx fs) ∧ Cls K C ∧ NoAttr K C f ∧ fs.lookup f = some v ∧
  tv σ H1 fun y H2 => rd v y H2 fun z H3 => ∃ dx' fs', H3 a = some (.ins C dx' fs') ∧ fs'.length < 1000 ∧ D.nx σ (upd H3 a (.ins C dx' (putF f z fs')))

section
variable {X : Cx} {o e value : Expr} {f : Str} {pos pos' tpos : Pos} {ta tv : TE}
theorem pe_fld (he : PE X e ta) (hb : attributeBase e f X.env (eval e X.env) = eval e X.env) : PE X (.Attribute e f pos) (tFld X.K ta f) := by
  intro pins s σ H Q I h
  refine attr_of hb (thn (he pins s σ H _ I h) fun u s1 ⟨x, H1, I1, rx, a, C, dx, fs, v, ex, ea, c, n, l, q⟩ => ?_)
  subst ex
  obtain rfl : u = Value.ref a := rx
  exact getattr_ok I1 ea c n l fun u' s2 I2 ru => ⟨v, H1, I2, ru, q⟩
theorem pe_con (he : PE X e ta) (hb : attributeBase e f X.env (eval e X.env) = eval e X.env) : PE X (.Attribute e f pos) (tCon X.K ta f) := by
  intro pins s σ H Q I h
  refine attr_of hb (thn (he pins s σ H _ I h) fun u s1 ⟨x, H1, I1, rx, a, C, dx, fs, v, u0, ex, ea, c, k, l, q⟩ => ?_)
  subst ex
  obtain rfl : u = Value.ref a := rx
  exact getcon_ok I1 ea c k l fun s2 I2 => ⟨v, H1, I2, k.rel, q⟩
theorem ps_fld (ha : PE X o ta) (hv : PE X value tv) (hs : swapsWith value (some (.Attribute o f pos')) pos.line X.env = pure false) : PS X (.Assign [.Attribute o f pos'] value pos) (sFld X.K ta tv f) := by
  intro pins s σ H D I h
  refine plainObj_wpAny_Assign_Attribute (thn (hv pins s σ H _ I h) fun u s1 ⟨y, H1, I1, ry, q⟩ => thn (ha pins s1 σ H1 _ I1 q) fun ov s2 ⟨x, H2, I2, rx, a, C, dx, fs, ex, ea, c, n, l, q2⟩ => ?_) hs
  subst ex
  obtain rfl : ov = Value.ref a := rx
  exact setattr_ok I2 ea c n l ry fun s3 I3 => ⟨σ, _, I3, q2⟩
theorem ps_fldaug {op : Operator} {rd : V → V → Hp → VK → Prop} (ha : PE X o ta) (hv : PE X value tv) (hop : InOp X op rd) : PS X (.AugAssign (.Attribute o f tpos) op value pos) (sFldAug X.K ta tv rd f) := by
  intro pins s σ H D I h
  refine wpAny_AugAssign_AttributeAny (thn (ha pins s σ H _ I h) fun ov s1 ⟨x, H1, I1, rx, a, C, dx, fs, v, ex, ea, c, n, l, q⟩ => ?_)
  subst ex
  obtain rfl : ov = Value.ref a := rx
  refine getattr_ok I1 ea c n l fun u s2 I2 ru => thn (hv pins s2 σ H1 _ I2 q) fun w3 s3 ⟨y, H2, I3, ry, q3⟩ => thn (hop pins s3 σ H2 v y u w3 _ I3 ru ry q3) fun w4 s4 ⟨z, H3, I4, rz, dx', fs', ea', l', q4⟩ => ?_
  exact setattr_ok I4 ea' c n l' rz fun s5 I5 => ⟨σ, _, I5, q4⟩
def rAdd : V → V → Hp → VK → Prop := fun x y H Q => ∃ i j, x = .int i ∧ y = .int j ∧ Q (.int (i + j)) H
def rSub : V → V → Hp → VK → Prop := fun x y H Q => ∃ i j, x = .int i ∧ y = .int j ∧ Q (.int (i - j)) H
theorem in_add : InOp X .Add rAdd := by
  rintro pins s σ H x y u v Q I rx ry ⟨i, j, rfl, rfl, q⟩
  obtain ⟨t, rfl⟩ := (show ∃ t, u = Value.int i t from rx)
  obtain ⟨t', rfl⟩ := (show ∃ t', v = Value.int j t' from ry)
  exact PyProof.Rows.iadd_int ⟨.int (i + j), H, I.tok _, ⟨_, rfl⟩, q⟩
theorem in_sub : InOp X .Sub rSub := by
  rintro pins s σ H x y u v Q I rx ry ⟨i, j, rfl, rfl, q⟩
  obtain ⟨t, rfl⟩ := (show ∃ t, u = Value.int i t from rx)
  obtain ⟨t', rfl⟩ := (show ∃ t', v = Value.int j t' from ry)
  exact PyProof.Rows.isub_int ⟨.int (i - j), H, I.tok _, ⟨_, rfl⟩, q⟩

/-- what is between an instance and its method: the tree of a method call -/
theorem methcall_of {pl : Sem Bool} {m : Str} {apos : Pos} {args : List Expr} {pins : List (Addr × Obj)} {s : Shared} {σ : St} {H : Hp} {Q : Value → Shared → Prop} {te : TE} (he : PE X e te) (I : Inv X pins σ H s)
    (h : te σ H fun x H1 => ∃ a C dx fs g, x = .ref a ∧ H1 a = some (.ins C dx fs) ∧ Cls X.K C ∧ Meth X.K C m g ∧ fs.lookup m = none ∧
      ∀ s1, Inv X pins σ H1 s1 → wpAny (model X.prog X.w) X.A (callWith pos (.ref g) [.ref a] (backTo pos (starEach args X.env)) (backToKw pos (keywordEach [] X.env))) Q X.xe s1)
    (ht : eval (.Call (.Attribute e m apos) args [] pos) X.env = (do
      let ov ← eval e X.env
      standAt apos.atName
      let (f, first) ← holding [ov] (getMethod ov m pl)
      callWith pos f first (backTo pos (starEach args X.env)) (backToKw pos (keywordEach [] X.env)))) :
    wpAny (model X.prog X.w) X.A (eval (.Call (.Attribute e m apos) args [] pos) X.env) Q X.xe s := by
  refine PySem.W.methodCall_KW (pl := pl) (thn (he pins s σ H _ I h) fun u s1 ⟨x, H1, I1, rx, a, C, dx, fs, g, ex, ea, c, k, l, q⟩ => ?_) ht
  subst ex
  obtain rfl : u = Value.ref a := rx
  exact getmeth_ok I1 ea c k l (q s1 I1)
end

/-! ### isinstance -/
section
variable {X : Cx} {pins : List (Addr × Obj)} {σ : St} {H : Hp} {s : Shared} {A : Around} {E : Value → Shared → Prop} {Q : Value → Shared → Prop} {c : Value} {b : Bool}
/-- the type of a value, as the fragment's deciders take it; for an instance its class -/
inductive TyOf (K : PySem.W.Frag) (H : Hp) : V → Value → Prop where
  | non : TyOf K H .non (.type "NoneType")
  | bl (x : Bool) : TyOf K H (.bl x) (.type "bool")
  | int (i : Int) : TyOf K H (.int i) (.type "int")
  | str (x : Str) : TyOf K H (.str x) (.type "str")
  | flt (x : UInt64) : TyOf K H (.flt x) (.type "float")
  | lst {a : Addr} {xs : List V} (e : H a = some (.lst xs)) : TyOf K H (.ref a) (.type "list")
  | frz {a : Addr} {o : Obj} {xs : List V} (e : H a = some (.frz o (.lst xs))) : TyOf K H (.ref a) (.type "list")
  | tup {a : Addr} {xs : List V} (e : H a = some (.tup xs)) : TyOf K H (.ref a) (.type "tuple")
  | dK {a : Addr} {kvs : List (Key × V)} (e : H a = some (.dK kvs)) : TyOf K H (.ref a) (.type "dict")
  | dT {a : Addr} {kvs : List (List Key × V)} (e : H a = some (.dT kvs)) : TyOf K H (.ref a) (.type "dict")
  | ins {a C dx : Addr} {fs : List (Str × V)} (e : H a = some (.ins C dx fs)) (cl : Cls K C) (ha : PySem.W.findIn K (.ref C) "__class__" = some (some (.builtin "object.__class__")))
      (hn : PySem.W.specialIn K (.builtin "object.__class__") "__get__" = some (some (.builtin "getset_descriptor.__get__"))) (htk : PySem.W.takesIn K (.builtin "object.__class__") = some true)
      (hm : PySem.W.mroIn K C (.type "object") = some true) : TyOf K H (.ref a) (.ref C)
/-- isinstance(x, c) for one class c, a built-in or an own one: kitOne's answer -/
theorem isinst_ok {x : V} {u t : Value} (I : Inv X pins σ H s) (rx : RelV x u) (ty : TyOf X.K H x t) (e : PySem.W.kitOne X.K t c = some b) (h : ∀ tk, Q (.bool b) { s with toks := tk }) :
    wpAny (model X.prog X.w) A (call (.builtin "isinstance") [u, c]) Q E s := by
  cases ty with
  | non => cases (show u = Value.none from rx); exact PySem.W.kia_one PySem.W.kitx_none I.kIn True.intro e (fun z => nomatch z) h
  | bl y => cases (show u = Value.bool y from rx); exact PySem.W.kia_one PySem.W.kitx_bool I.kIn True.intro e (fun z => nomatch z) h
  | int i => obtain ⟨t, q⟩ := (show ∃ t, u = Value.int i t from rx); cases q; exact PySem.W.kia_one PySem.W.kitx_int I.kIn True.intro e (fun z => nomatch z) h
  | str y => obtain ⟨t, q⟩ := (show ∃ t, u = Value.str y t from rx); cases q; exact PySem.W.kia_one PySem.W.kitx_str I.kIn True.intro e (fun z => nomatch z) h
  | flt y => obtain ⟨t, q⟩ := (show ∃ t, u = Value.float y t from rx); cases q; exact PySem.W.kia_one PySem.W.kitx_float I.kIn True.intro e (fun z => nomatch z) h
  | @lst a xs ea =>
    cases (show u = Value.ref a from rx)
    obtain ⟨_, _, n, _, h1⟩ := (show ObjOk X.prog X.w H s.heap a (.lst xs) from I.hok a _ ea)
    exact PySem.W.kia_one PySem.W.kitx_list I.kIn ⟨_, h1, rfl⟩ e (fun z => nomatch z) h
  | @frz a ob xs ea =>
    cases (show u = Value.ref a from rx)
    obtain ⟨_, _, _, n, _, h1⟩ := (show ObjOk X.prog X.w H s.heap a (.frz ob (.lst xs)) from I.hok a _ ea)
    exact PySem.W.kia_one PySem.W.kitx_list I.kIn ⟨_, h1, rfl⟩ e (fun z => nomatch z) h
  | @tup a xs ea =>
    cases (show u = Value.ref a from rx)
    obtain ⟨_, _, _, p⟩ := (show ObjOk X.prog X.w H s.heap a (.tup xs) from I.hok a _ ea)
    obtain ⟨o, h1, h2, _⟩ := p
    exact PySem.W.kia_one PySem.W.kitx_tuple I.kIn ⟨o, h1, h2⟩ e (fun z => nomatch z) h
  | @dK a kvs ea =>
    cases (show u = Value.ref a from rx)
    obtain ⟨_, _, vs, _, p⟩ := (show ObjOk X.prog X.w H s.heap a (.dK kvs) from I.hok a _ ea)
    obtain ⟨o, es, ep, h1, h2, _⟩ := p
    exact PySem.W.kia_one PySem.W.kitx_dict I.kIn ⟨o, h1, h2.1⟩ e (fun z => nomatch z) h
  | @dT a kvs ea =>
    cases (show u = Value.ref a from rx)
    obtain ⟨_, _, xs, _, o, es, ep, h1, h2, _⟩ := (show ObjOk X.prog X.w H s.heap a (.dT kvs) from I.hok a _ ea)
    exact PySem.W.kia_one PySem.W.kitx_dict I.kIn ⟨o, h1, h2.1⟩ e (fun z => nomatch z) h
  | @ins a C dx fs ea cl ha hn htk hm =>
    cases (show u = Value.ref a from rx)
    obtain ⟨mA, O, _⟩ := ins_get I.hok ea
    obtain ⟨od, J, _⟩ := O.look
    exact PySem.W.kia_one (PySem.W.kitx_own (cl.get _) cl.hd ha hn htk hm) I.kIn J e (fun z => nomatch z) h
end
end L2

namespace L2
open PySem PySem.Spec PyProof.Rows

/-! ### room -/
structure Room (k : Nat) (A : Around) : Prop where
  hd : A.handled = none
  dp : A.depth + 3 * k + 5 < recursionLimit
  un : A.units + 16 * k + 200 < cLine
theorem Room.mono {j k : Nat} {A : Around} (r : Room k A) (h : j ≤ k) : Room j A := ⟨r.hd, by have := r.dp; omega, by have := r.un; omega⟩
theorem Room.deeper {k : Nat} {A : Around} (r : Room (k + 1) A) (env : Env) : Room k (A.deeper env) :=
  ⟨r.hd, by have := r.dp; show A.depth + 1 + 3 * k + 5 < _; omega, by have := r.un; show A.units + 3 + 16 * k + 200 < _; omega⟩
theorem Room.in1 {k : Nat} {A : Around} (r : Room (k + 1) A) : Room k A.in1 :=
  ⟨r.hd, by have := r.dp; show A.depth + 3 * k + 5 < _; omega, by have := r.un; show A.units + 1 + 16 * k + 200 < _; omega⟩
theorem make_depth {A : Around} {C : Addr} {us : List Value} {kw : List (Str × Value)} : (A.under (.builtin "type.__call__" ⟨.ref C :: us, kw⟩)).depth = A.depth + 1 := by
  first | rfl | simp [Around.under, Code.weight, Code.isCreation, Code.isGuard, Code.isCaller, Code.frames, Code.isFrame, guardIds]
theorem make_units {A : Around} {C : Addr} {us : List Value} {kw : List (Str × Value)} : (A.under (.builtin "type.__call__" ⟨.ref C :: us, kw⟩)).units = A.units + 1 := by
  first | rfl | simp [Around.under, Code.cUnits, Code.frames, Code.isFrame]
theorem Room.make {k : Nat} {A : Around} (r : Room (k + 1) A) (C : Addr) (us : List Value) (kw : List (Str × Value)) : Room k (A.under (.builtin "type.__call__" ⟨.ref C :: us, kw⟩)) :=
  ⟨r.hd, by have := r.dp; rw [make_depth]; omega, by have := r.un; rw [make_units]; omega⟩
theorem Room.depth {k : Nat} {A : Around} (r : Room k A) : A.depth < recursionLimit := by have := r.dp; omega
theorem Room.units {k : Nat} {A : Around} (r : Room k A) : A.units + 64 < cLine := by have := r.un; omega
theorem Room.units0 {k : Nat} {A : Around} (r : Room k A) : A.units < cLine := by have := r.un; omega

/-! ### argument lists and displays -/
def tNil : TA := fun _ H Q => Q [] H
def tCons (ta : TE) (tr : TA) : TA := fun σ H Q => ta σ H fun x H1 => tr σ H1 fun xs H2 => Q (x :: xs) H2
section
variable {X : Cx} {e : Expr} {es : List Expr} {te : TE} {t : TA} {pos : Pos}
theorem pa_nil : PA X [] tNil := fun _ _ _ _ H Q I h => Calls.spliced_nil ⟨[], H, I, .nil, h⟩
theorem pa_cons (ha : PE X e te) (hr : PA X es t) (hs : starEach (e :: es) X.env = (false, eval e X.env) :: starEach es X.env := by rfl) : PA X (e :: es) (tCons te t) := by
  intro pos pins s σ H Q I h
  rw [hs]
  show wpAny _ _ (spliced ((false, eval e X.env) :: backTo pos (starEach es X.env))) _ _ s
  refine Calls.spliced_cons (thn (ha pins s σ H _ I h) fun u s1 ⟨x, H1, I1, r1, q1⟩ => ?_)
  exact thn (hr pos pins s1 σ H1 _ I1 q1) fun us s2 ⟨xs, H2, I2, r2, q2⟩ => ⟨x :: xs, H2, I2, .cons r1 r2, q2⟩

/-- a tuple, a list of written items -/
def tTup (t : TA) : TE := fun σ H Q => t σ H fun xs H1 => xs.length ≤ sizeLine ∧ ∀ p, H1 p = none → Q (.ref p) (upd H1 p (.tup xs))
def tLst (t : TA) : TE := fun σ H Q => t σ H fun xs H1 => xs.length ≤ sizeLine ∧ ∀ p, H1 p = none → Q (.ref p) (upd H1 p (.lst xs))
theorem pe_tup {x1} (h : PA X es t) : PE X (.Tuple es x1 pos) (tTup t) := by
  intro pins s σ H Q I hq
  refine wpAny_Tuple_spliced (thn (h pos pins s σ H _ I hq) fun us s1 ⟨xs, H1, I1, r, z, q⟩ => ⟨by rw [← r.length]; exact z, ?_⟩)
  have hf : H1 s1.heap.objs.size = none := I1.hok.fresh (Nat.le_refl _)
  refine ⟨.ref s1.heap.objs.size, upd H1 s1.heap.objs.size (.tup xs), I1.laid (t' := s1.toks) (fun b u e => Heap.get?_push_of_some _ e) (Nat.le_refl _) ?_, rfl, q _ hf⟩
  exact ⟨z, us, r, ⟨_, Heap.get?_push_size _ rfl, rfl, _, rfl⟩⟩
theorem pe_lst (h : PA X es t) : PE X (.List es pos) (tLst t) := by
  intro pins s σ H Q I hq
  refine wpAny_List_spliced (thn (h pos pins s σ H _ I hq) fun us s1 ⟨xs, H1, I1, r, z, q⟩ => ⟨by rw [← r.length]; exact z, ?_⟩)
  have hf : H1 s1.heap.objs.size = none := I1.hok.fresh (Nat.le_refl _)
  refine ⟨.ref s1.heap.objs.size, upd H1 s1.heap.objs.size (.lst xs), I1.laid (t' := s1.toks) (fun b u e => Heap.get?_push_of_some _ e) (Nat.le_refl _) ?_, rfl, q _ hf⟩
  exact ⟨z, us, 0, r, Heap.get?_push_size _ rfl⟩
end

/-! ### what a def promises -/
/-- a def's promise: the bound arguments in the parameters' order, the heap, the wanted end, the wanted exception -/
abbrev Sp := List V → Hp → VK → XK → Prop
/-- how an exception lies behind a call (file 08 gives it): the callers' frames, abstract heap and state ahead of the call, the wish, the exception, the state -/
abbrev CXT := List Env → Hp → Shared → XK → Value → Shared → Prop

/-- the state at a call -/
structure Env0 (P : Program) (w : World) (K : PySem.W.Frag) (mg : Str → Option Value) (base : Heap) (A : Around) (outer : List Env) (s : Shared) (H : Hp) : Prop where
  frames : A.frames = some outer
  mod : Mod K mg base
  bs : ∀ b o, base.get? b = some o → s.heap.get? b = some o ∧ H b = none
  bsz : base.objs.size ≤ s.heap.objs.size
  funs : s.heap.FunFrames base outer
  frf : ∀ b ∈ frs outer, H b = none
  hok : HOk P w H s.heap
  bare : AllBare s.gens
/-- a call's end -/
def CE (outer : List Env) (P : Program) (w : World) (H : Hp) (s : Shared) (Q : VK) (u : Value) (s' : Shared) : Prop :=
  ∃ v H', s'.os = s.os ∧ AllBare s'.gens ∧ Un (frs outer) [] H H' s.heap s'.heap ∧ HOk P w H' s'.heap ∧ RelV v u ∧ Q v H'
def CR (CX : CXT) (outer : List Env) (P : Program) (w : World) (H : Hp) (s : Shared) (Q : VK) (E : XK) (r : Result) (s' : Shared) : Prop :=
  match r with
  | .ok (.ret u) => CE outer P w H s Q u s'
  | .ok _ => False
  | .error e => CX outer H s E e s'
structure FnOk (P : Program) (w : World) (K : PySem.W.Frag) (mg : Str → Option Value) (base : Heap) (CX : CXT) (k : Nat) (f : Addr) (fd : FuncData) (ps : List Str) (sp : Sp) : Prop where
  len : ∀ vs H Q E, sp vs H Q E → vs.length = ps.length
  run : ∀ (A : Around) (outer : List Env) (s : Shared) (H : Hp) (args : Args) (us : List Value) (vs : List V) (Q : VK) (E : XK), Room k A → Env0 P w K mg base A outer s H → BindsTo s fd args (ps.zip us) → Vals vs us → sp vs H Q E →
    codeAny (model P w) A (.call (.ref f) args) (CR CX outer P w H s Q E) s
theorem FnOk.mono {P : Program} {w : World} {K : PySem.W.Frag} {mg : Str → Option Value} {base : Heap} {CX : CXT} {j k : Nat} {f : Addr} {fd : FuncData} {ps : List Str} {sp : Sp} (F : FnOk P w K mg base CX j f fd ps sp) (h : j ≤ k) :
    FnOk P w K mg base CX k f fd ps sp := ⟨F.len, fun A outer s H args us vs Q E hr => F.run A outer s H args us vs Q E (hr.mono h)⟩
/-- a weaker promise -/
theorem FnOk.imp {P : Program} {w : World} {K : PySem.W.Frag} {mg : Str → Option Value} {base : Heap} {CX : CXT} {k : Nat} {f : Addr} {fd : FuncData} {ps : List Str} {sp sp' : Sp} (F : FnOk P w K mg base CX k f fd ps sp)
    (h : ∀ vs H Q E, sp' vs H Q E → sp vs H Q E) : FnOk P w K mg base CX k f fd ps sp' :=
  ⟨fun vs H Q E q => F.len vs H Q E (h _ _ _ _ q), fun A outer s H args us vs Q E hr he hb hv hs => F.run A outer s H args us vs Q E hr he hb hv (h _ _ _ _ hs)⟩

theorem Env0.make {P : Program} {w : World} {K : PySem.W.Frag} {mg : Str → Option Value} {base : Heap} {A : Around} {outer : List Env} {s : Shared} {H : Hp} (e : Env0 P w K mg base A outer s H) (C : Addr) (us : List Value) (kw : List (Str × Value)) :
    Env0 P w K mg base (A.under (.builtin "type.__call__" ⟨.ref C :: us, kw⟩)) outer s H := ⟨by first | exact e.frames | (simpa [Around.under, Code.envs, Code.isFrame, pushEnvs] using e.frames), e.mod, e.bs, e.bsz, e.funs, e.frf, e.hok, e.bare⟩
theorem Env0.in1 {P : Program} {w : World} {K : PySem.W.Frag} {mg : Str → Option Value} {base : Heap} {A : Around} {outer : List Env} {s : Shared} {H : Hp} (e : Env0 P w K mg base A outer s H) :
    Env0 P w K mg base A.in1 outer s H := ⟨e.frames, e.mod, e.bs, e.bsz, e.funs, e.frf, e.hok, e.bare⟩

section
variable {X : Cx} {pins : List (Addr × Obj)} {σ : St} {H : Hp} {s s' : Shared}
/-- from a body: what a callee wants -/
theorem Inv.env0 (I : Inv X pins σ H s) : Env0 X.prog X.w X.K X.mg X.base X.A X.stack s H :=
  ⟨I.ok.frames, I.ok.mod, I.bs, Nat.le_trans I.ok.bsz I.sz, I.stack, I.stkFree, I.hok, I.bare⟩
/-- behind a call -/
theorem Inv.after {Q : VK} {u : Value} (I : Inv X pins σ H s) (h : CE X.stack X.prog X.w H s Q u s') : EP X pins σ Q u s' := by
  obtain ⟨v, H', os, bare, un, hok, r, q⟩ := h
  obtain ⟨hh, g, d, t, os'⟩ := s'
  obtain rfl : os' = s.os := os
  exact ⟨v, H', I.call (h' := hh) (g' := g) (d' := d) (t' := t) (ch := []) un hok bare (fun b z => absurd z (by simp)), r, q⟩
end

/-! ### calls -/
/-- f(..): the written arguments, then the defaults dvs; E: what is wanted of an exception -/
def tCall (sp : Sp) (dvs : List V) (E : XK) (t : TA) : TE := fun σ H Q => t σ H fun vs H1 => sp (vs ++ dvs) H1 Q E
/-- o.m(..) of an instance of the class at C -/
def tMeth (C : Addr) (m : Str) (sp : Sp) (dvs : List V) (E : XK) (ta : TE) (t : TA) : TE := fun σ H Q => ta σ H fun x H1 => ∃ a dx fs, x = .ref a ∧ H1 a = some (.ins C dx fs) ∧ fs.lookup m = none ∧
  t σ H1 fun vs H2 => sp (x :: (vs ++ dvs)) H2 Q E
/-- C(..): a new instance and its dict, then __init__ -/
def tMake (C : Addr) (sp : Sp) (dvs : List V) (E : XK) (t : TA) : TE := fun σ H Q => t σ H fun vs H1 => ∀ x dx, H1 x = none → H1 dx = none → dx ≠ x →
  sp (.ref x :: (vs ++ dvs)) (upd (upd H1 dx (.own x)) x (.ins C dx [])) (fun v H2 => v = .non ∧ Q (.ref x) H2) E

/-- how the parameters are bound: us the positional arguments, kw the keywords' values by name, ds the defaults that fill up -/
def Binds (K : PySem.W.Frag) (fd : FuncData) (ps : List Str) (ds : List Value) : Prop :=
  ∀ (s : Shared) (us : List Value), K.In s.heap → (us ++ ds).length = ps.length → BindsTo s fd ⟨us, []⟩ (ps.zip (us ++ ds))
/-- every parameter is given -/
theorem Binds.all {K : PySem.W.Frag} {fd : FuncData} {ps : List Str} (h : ∀ us : List Value, us.length = ps.length → bindArgs fd ⟨us, []⟩ = pure (ps.zip us)) : Binds K fd ps [] := fun s us _ hl => by
  rw [List.append_nil] at hl ⊢
  exact .of_eq (h us hl)

/-- an exception of a callee reaches what this body wants of exceptions -/
def Passes (CX : CXT) (X : Cx) (E : XK) : Prop := ∀ (pins : List (Addr × Obj)) (σ : St) (H : Hp) (s : Shared) (e : Value) (s' : Shared), Inv X pins σ H s → CX X.stack H s E e s' → X.xe e s'

section
variable {X : Cx} {CX : CXT} {k : Nat} {f C : Addr} {fd : FuncData} {ps : List Str} {sp : Sp} {dvs : List V} {ds : List Value} {E : XK} {x m : Str} {p pos apos : Pos} {e o : Expr} {es : List Expr} {ta : TE} {t : TA}

/-- the callee runs -/
theorem run_fn {pins : List (Addr × Obj)} {σ : St} {H : Hp} {s : Shared} {Q : VK} {us : List Value} {vs : List V} (F : FnOk X.prog X.w X.K X.mg X.base CX k f fd ps sp) (hr : Room k X.A) (hb : Binds X.K fd ps ds) (hd : Vals dvs ds) (hx : Passes CX X E)
    (I : Inv X pins σ H s) (r : Vals vs us) (h : sp (vs ++ dvs) H Q E) : wpAny (model X.prog X.w) X.A (call (.ref f) us) (EP X pins σ Q) X.xe s := by
  have r2 : Vals (vs ++ dvs) (us ++ ds) := r.append hd
  have hl : (us ++ ds).length = ps.length := by rw [← r2.length]; exact F.len _ _ _ _ h
  refine wpAny_call (codeAny_mono (F.run X.A X.stack s H ⟨us, []⟩ (us ++ ds) (vs ++ dvs) Q E hr I.env0 (hb s us I.kIn hl) r2 h) fun r s' hq => ?_)
  cases r with
  | error e => exact hx pins σ H s e s' I hq
  | ok fl =>
    cases fl with
    | ret u => exact I.after hq
    | next => exact False.elim hq
    | brk => exact False.elim hq
    | cont => exact False.elim hq

theorem pe_call (F : FnOk X.prog X.w X.K X.mg X.base CX k f fd ps sp) (hr : Room k X.A) (hg : Gl X x) (hm : X.mg x = some (.ref f)) (hk : PySem.W.keepIn X.K (.ref f) = true) (hb : Binds X.K fd ps ds) (hd : Vals dvs ds) (hx : Passes CX X E)
    (ha : PA X (e :: es) t) (hdb : (x == ("__debug__" : Str)) = false := by decide) (he : starEach (e :: es) X.env = (false, eval e X.env) :: starEach es X.env := by rfl) (hpl : (backTo pos (starEach es X.env)).any (·.1) = false := by rfl) :
    PE X (.Call (.Name x p) (e :: es) [] pos) (tCall sp dvs E t) := by
  intro pins s σ H Q I h
  refine wpAny_Call_Name_kw (ld_glob I hg hm ?_ hdb)
  refine PySem.W.callWith_K (h₀ := X.base) I.ok.mod.kin hk (thn (ha pos pins s σ H _ I h) fun us s1 ⟨vs, H1, I1, r, q⟩ => ⟨I1.kIn, ?_⟩) he hpl
  exact run_fn F hr hb hd hx I1 r q
theorem pe_call0 (F : FnOk X.prog X.w X.K X.mg X.base CX k f fd ps sp) (hr : Room k X.A) (hg : Gl X x) (hm : X.mg x = some (.ref f)) (hk : PySem.W.keepIn X.K (.ref f) = true) (hb : Binds X.K fd ps ds) (hd : Vals dvs ds) (hx : Passes CX X E)
    (hdb : (x == ("__debug__" : Str)) = false := by decide) : PE X (.Call (.Name x p) [] [] pos) (tCall sp dvs E tNil) := by
  intro pins s σ H Q I h
  refine wpAny_Call_Name_kw (ld_glob I hg hm ?_ hdb)
  exact PySem.W.callWith_K0 I.kIn hk (run_fn (us := []) F hr hb hd hx I .nil h)

/-- o.m(e, ..) -/
theorem pe_meth {pl : Sem Bool} (he : PE X o ta) (c : Cls X.K C) (hm : Meth X.K C m f) (F : FnOk X.prog X.w X.K X.mg X.base CX k f fd ps sp) (hr : Room k X.A) (hb : Binds X.K fd ps ds) (hd : Vals dvs ds) (hx : Passes CX X E) (ha : PA X (e :: es) t)
    (hst : starEach (e :: es) X.env = (false, eval e X.env) :: starEach es X.env := by rfl) (hpl : (backTo pos (starEach es X.env)).any (·.1) = false := by rfl)
    (ht : eval (.Call (.Attribute o m apos) (e :: es) [] pos) X.env = (do
      let ov ← eval o X.env
      standAt apos.atName
      let (f, first) ← holding [ov] (getMethod ov m pl)
      callWith pos f first (backTo pos (starEach (e :: es) X.env)) (backToKw pos (keywordEach [] X.env))) := by rfl) :
    PE X (.Call (.Attribute o m apos) (e :: es) [] pos) (tMeth C m sp dvs E ta t) := by
  intro pins s σ H Q I h
  refine PySem.W.methodCall_KW (pl := pl) (thn (he pins s σ H _ I h) fun u s1 ⟨x, H1, I1, rx, a, dx, fs, ex, ea, l, q⟩ => ?_) ht
  subst ex
  obtain rfl : u = Value.ref a := rx
  refine getmeth_ok I1 ea c hm l ?_
  refine PySem.W.callWith_K (first := [.ref a]) (h₀ := X.base) I.ok.mod.kin hm.kp (thn (ha pos pins s1 σ H1 _ I1 q) fun us s2 ⟨vs, H2, I2, r, q2⟩ => ⟨I2.kIn, ?_⟩) hst hpl
  exact run_fn (us := .ref a :: us) (vs := .ref a :: vs) F hr hb hd hx I2 (.cons rfl r) q2
/-- o.m() -/
theorem pe_meth0 {pl : Sem Bool} (he : PE X o ta) (c : Cls X.K C) (hm : Meth X.K C m f) (F : FnOk X.prog X.w X.K X.mg X.base CX k f fd ps sp) (hr : Room k X.A) (hb : Binds X.K fd ps ds) (hd : Vals dvs ds) (hx : Passes CX X E)
    (ht : eval (.Call (.Attribute o m apos) [] [] pos) X.env = (do
      let ov ← eval o X.env
      standAt apos.atName
      let (f, first) ← holding [ov] (getMethod ov m pl)
      callWith pos f first (backTo pos (starEach [] X.env)) (backToKw pos (keywordEach [] X.env))) := by rfl) :
    PE X (.Call (.Attribute o m apos) [] [] pos) (tMeth C m sp dvs E ta tNil) := by
  intro pins s σ H Q I h
  refine PySem.W.methodCall_KW (pl := pl) (thn (he pins s σ H _ I h) fun u s1 ⟨x, H1, I1, rx, a, dx, fs, ex, ea, l, q⟩ => ?_) ht
  subst ex
  obtain rfl : u = Value.ref a := rx
  refine getmeth_ok I1 ea c hm l ?_
  exact PySem.W.callWith_K0 (first := [.ref a]) I1.kIn hm.kp (run_fn (us := [.ref a]) (vs := [.ref a]) F hr hb hd hx I1 (.cons rfl .nil) q)

/-- what a class must have to be made -/
structure Mk (K : PySem.W.Frag) (C f : Addr) : Prop where
  makes : PySem.W.makesIn K C = true
  init : PySem.W.findIn K (.ref C) "__init__" = some (some (.ref f))
  fn : PySem.W.isFn K (.ref f) = true
  kp : PySem.W.keepIn K (.ref C) = true

theorem run_make {pins : List (Addr × Obj)} {σ : St} {H : Hp} {s : Shared} {Q : VK} {us : List Value} {vs : List V} (M : Mk X.K C f) (F : FnOk X.prog X.w X.K X.mg X.base CX k f fd ps sp) (hr : Room (k + 1) X.A) (hb : Binds X.K fd ps ds) (hd : Vals dvs ds)
    (hx : Passes CX X E) (I : Inv X pins σ H s) (r : Vals vs us)
    (h : ∀ x dx, H x = none → H dx = none → dx ≠ x → sp (.ref x :: (vs ++ dvs)) (upd (upd H dx (.own x)) x (.ins C dx [])) (fun v H2 => v = .non ∧ Q (.ref x) H2) E) :
    wpAny (model X.prog X.w) X.A (call (.ref C) us) (EP X pins σ Q) X.xe s := by
  have hq := h (s.heap.objs.size + 1) s.heap.objs.size (I.hok.fresh (Nat.le_succ _)) (I.hok.fresh (Nat.le_refl _)) (Nat.ne_of_lt (Nat.lt_succ_self _))
  have I2 := Inv.made (C := C) I
  have r2 : Vals (V.ref (s.heap.objs.size + 1) :: (vs ++ dvs)) (Value.ref (s.heap.objs.size + 1) :: (us ++ ds)) := .cons rfl (r.append hd)
  have hl : (Value.ref (s.heap.objs.size + 1) :: us ++ ds).length = ps.length := by
    have e := r2.length
    rw [F.len _ _ _ _ hq] at e
    exact e.symm
  refine wpAny_call (make_map (f := f) I.kIn M.makes M.init (beq_iff_eq.mp M.fn) (codeAny_mono (F.run _ X.stack _ _ ⟨Value.ref (s.heap.objs.size + 1) :: us, []⟩ (Value.ref (s.heap.objs.size + 1) :: (us ++ ds)) _ _ E (hr.make C us [])
    (I2.env0.make C us []) (hb _ (Value.ref (s.heap.objs.size + 1) :: us) I2.kIn hl) r2 hq) fun r s' hq' => ?_))
  cases r with
  | error e => exact hx pins σ _ _ e s' I2 hq'
  | ok fl =>
    cases fl with
    | ret u =>
      obtain ⟨v, H', I3, rv, ev, q3⟩ := I2.after hq'
      subst ev
      exact ⟨rv, ⟨V.ref (s.heap.objs.size + 1), H', I3, rfl, q3⟩⟩
    | next => exact False.elim hq'
    | brk => exact False.elim hq'
    | cont => exact False.elim hq'
theorem pe_make (M : Mk X.K C f) (F : FnOk X.prog X.w X.K X.mg X.base CX k f fd ps sp) (hr : Room (k + 1) X.A) (hg : Gl X x) (hm : X.mg x = some (.ref C)) (hb : Binds X.K fd ps ds) (hd : Vals dvs ds) (hx : Passes CX X E)
    (ha : PA X (e :: es) t) (hdb : (x == ("__debug__" : Str)) = false := by decide) (he : starEach (e :: es) X.env = (false, eval e X.env) :: starEach es X.env := by rfl) (hpl : (backTo pos (starEach es X.env)).any (·.1) = false := by rfl) :
    PE X (.Call (.Name x p) (e :: es) [] pos) (tMake C sp dvs E t) := by
  intro pins s σ H Q I h
  refine wpAny_Call_Name_kw (ld_glob I hg hm ?_ hdb)
  refine PySem.W.callWith_K (h₀ := X.base) I.ok.mod.kin M.kp (thn (ha pos pins s σ H _ I h) fun us s1 ⟨vs, H1, I1, r, q⟩ => ⟨I1.kIn, ?_⟩) he hpl
  exact run_make M F hr hb hd hx I1 r q
theorem pe_make0 (M : Mk X.K C f) (F : FnOk X.prog X.w X.K X.mg X.base CX k f fd ps sp) (hr : Room (k + 1) X.A) (hg : Gl X x) (hm : X.mg x = some (.ref C)) (hb : Binds X.K fd ps ds) (hd : Vals dvs ds) (hx : Passes CX X E)
    (hdb : (x == ("__debug__" : Str)) = false := by decide) : PE X (.Call (.Name x p) [] [] pos) (tMake C sp dvs E tNil) := by
  intro pins s σ H Q I h
  refine wpAny_Call_Name_kw (ld_glob I hg hm ?_ hdb)
  exact PySem.W.callWith_K0 I.kIn M.kp (run_make (us := []) M F hr hb hd hx I .nil h)
end

/-! ### keywords -/
/-- the values of the keywords, from the left -/
def PK (X : Cx) (kws : List Keyword) (t : TA) : Prop :=
  ∀ (pos : Pos) (pins : List (Addr × Obj)) (s : Shared) (σ : St) (H : Hp) (Q : List V → Hp → Prop), Inv X pins σ H s → t σ H Q → wpAny (model X.prog X.w) X.A (evalAll ((backToKw pos (keywordEach kws X.env)).map (·.2))) (AP X pins σ Q) X.xe s
section
variable {X : Cx} {CX : CXT} {k : Nat} {f C : Addr} {fd : FuncData} {ps ks : List Str} {sp : Sp} {E : XK} {x m : Str} {p pos apos kpos : Pos} {e o : Expr} {es : List Expr} {kws : List Keyword} {te ta : TE} {t tk : TA} {nm : Option Str}
theorem pk_nil : PK X [] tNil := fun _ _ _ _ H Q I h => wpAny_evalAll_nil ⟨[], H, I, .nil, h⟩
theorem pk_cons (ha : PE X e te) (hr : PK X kws t) : PK X (⟨nm, e, kpos⟩ :: kws) (tCons te t) := by
  intro pos pins s σ H Q I h
  show wpAny _ _ (evalAll ((do let v ← eval e X.env; standAt pos; pure v) :: (backToKw pos (keywordEach kws X.env)).map (·.2))) _ _ s
  refine wpAny_evalAll_cons (wpAny_bind (thn (ha pins s σ H _ I h) fun u s1 ⟨x, H1, I1, r1, q1⟩ => wpAny_bind (wpAny_standAt (wpAny_pure ?_))))
  exact thn (hr pos pins s1 σ H1 _ I1 q1) fun us s2 ⟨xs, H2, I2, r2, q2⟩ => ⟨x :: xs, H2, I2, .cons r1 r2, q2⟩

/-- how a call with keywords binds: g puts the positional values us and the keywords' values ws (names ks) in the parameters' order, defaults among them -/
structure KBinds (K : PySem.W.Frag) (fd : FuncData) (ps ks : List Str) (g : List Value → List Value → List Value) (gV : List V → List V → List V) : Prop where
  to : ∀ (s : Shared) (us ws : List Value), K.In s.heap → (g us ws).length = ps.length → BindsTo s fd ⟨us, ks.zip ws⟩ (ps.zip (g us ws))
  rel : ∀ {vs : List V} {us : List Value} {zs : List V} {ws : List Value}, Vals vs us → Vals zs ws → Vals (gV vs zs) (g us ws)
def tCallK (sp : Sp) (gV : List V → List V → List V) (E : XK) (t tk : TA) : TE := fun σ H Q => t σ H fun vs H1 => tk σ H1 fun zs H2 => sp (gV vs zs) H2 Q E
variable {g : List Value → List Value → List Value} {gV : List V → List V → List V}
theorem run_fnk {pins : List (Addr × Obj)} {σ : St} {H : Hp} {s : Shared} {Q : VK} {us ws : List Value} {vs zs : List V} (F : FnOk X.prog X.w X.K X.mg X.base CX k f fd ps sp) (hr : Room k X.A) (hb : KBinds X.K fd ps ks g gV) (hx : Passes CX X E)
    (I : Inv X pins σ H s) (r : Vals vs us) (rz : Vals zs ws) (h : sp (gV vs zs) H Q E) : wpAny (model X.prog X.w) X.A (call (.ref f) us (ks.zip ws)) (EP X pins σ Q) X.xe s := by
  have r2 := hb.rel r rz
  have hl : (g us ws).length = ps.length := by rw [← r2.length]; exact F.len _ _ _ _ h
  refine wpAny_call (codeAny_mono (F.run X.A X.stack s H ⟨us, ks.zip ws⟩ (g us ws) (gV vs zs) Q E hr I.env0 (hb.to s us ws I.kIn hl) r2 h) fun r s' hq => ?_)
  cases r with
  | error e => exact hx pins σ H s e s' I hq
  | ok fl =>
    cases fl with
    | ret u => exact I.after hq
    | next => exact False.elim hq
    | brk => exact False.elim hq
    | cont => exact False.elim hq
/-- f(e, .., k = v, ..) -/
theorem pe_callK (F : FnOk X.prog X.w X.K X.mg X.base CX k f fd ps sp) (hr : Room k X.A) (hg : Gl X x) (hm : X.mg x = some (.ref f)) (hk : PySem.W.keepIn X.K (.ref f) = true) (hb : KBinds X.K fd ps ks g gV) (hx : Passes CX X E)
    (ha : PA X (e :: es) t) (hkw : PK X kws tk) (hall : (backToKw pos (keywordEach kws X.env)).all (·.1.isSome) = true := by rfl) (hks : (backToKw pos (keywordEach kws X.env)).filterMap (·.1) = ks := by rfl)
    (hdb : (x == ("__debug__" : Str)) = false := by decide) (he : starEach (e :: es) X.env = (false, eval e X.env) :: starEach es X.env := by rfl)
    (hpl : ((backTo pos (starEach (e :: es) X.env)).any (·.1) || (backToKw pos (keywordEach kws X.env)).any (·.1.isNone)) = false := by rfl) :
    PE X (.Call (.Name x p) (e :: es) kws pos) (tCallK sp gV E t tk) := by
  intro pins s σ H Q I h
  refine wpAny_Call_Name_kw (ld_glob I hg hm ?_ hdb)
  refine PySem.W.callWith_KW (h₀ := X.base) I.ok.mod.kin hk hall (thn (ha pos pins s σ H _ I h) fun us s1 ⟨vs, H1, I1, r, q⟩ => ?_) hpl he
  refine thn (hkw pos pins s1 σ H1 _ I1 q) fun ws s2 ⟨zs, H2, I2, rz, q2⟩ => ⟨I2.kIn, ?_⟩
  rw [hks]
  exact run_fnk F hr hb hx I2 r rz q2
end

/-! ### a def's body keeps its promise -/
/-- names: the parameters first -/
structure FnScope (N P : List Str) (sc : Scope) : Prop where
  kind : sc.kind = .function
  co : sc.isCoroutine = false
  gen : sc.isGenerator = false
  nd : N.Nodup
  pre : N.take P.length = P
  par : ∀ x ∈ P, sc.names.lookup x = some .local ∨ sc.names.lookup x = some .cell
  nofree : ∀ y ∈ sc.names, y.2 ≠ .free

theorem bindL_out {kindOf : Str → Option NameKind} {x : Str} : ∀ {binds : List (Str × Value)} {m : Str → Option Value}, (∀ v, (x, v) ∉ binds) → bindL kindOf binds m x = m x
  | [], _, _ => rfl
  | (n, v) :: r, m, h => by
    unfold bindL
    rw [bindL_out fun w hw => h w (List.mem_cons_of_mem _ hw)]
    split
    · have : x ≠ n := by rintro rfl; exact h v List.mem_cons_self
      simp [this]
    · rfl
theorem bindC_out {kindOf : Str → Option NameKind} {x : Str} : ∀ {binds : List (Str × Value)} {m : Str → Option Value}, (∀ v, (x, v) ∉ binds) → bindC kindOf binds m x = m x
  | [], _, _ => rfl
  | (n, v) :: r, m, h => by
    unfold bindC
    rw [bindC_out fun w hw => h w (List.mem_cons_of_mem _ hw)]
    split
    · rfl
    · have : x ≠ n := by rintro rfl; exact h v List.mem_cons_self
      simp [this]
theorem bindL_get {kindOf : Str → Option NameKind} {x : Str} {v : Value} : ∀ {P : List Str} {vs : List Value} {i : Nat} {m : Str → Option Value}, P.Nodup → P[i]? = some x → vs[i]? = some v → kindOf x = some .local →
    bindL kindOf (P.zip vs) m x = some v
  | [], _, _, _, _, h, _, _ => by simp at h
  | _ :: _, [], _, _, _, _, h, _ => by simp at h
  | p :: P, w :: vs, 0, m, nd, h1, h2, hk => by
    simp at h1 h2; subst h1; subst h2
    show bindL kindOf ((p, w) :: P.zip vs) m p = _
    unfold bindL
    rw [bindL_out fun v hv => (List.nodup_cons.mp nd).1 (List.of_mem_zip hv).1, if_pos hk]
    simp
  | p :: P, w :: vs, i + 1, m, nd, h1, h2, hk => by
    show bindL kindOf ((p, w) :: P.zip vs) m x = _
    unfold bindL
    exact bindL_get (i := i) (List.nodup_cons.mp nd).2 (by simpa using h1) (by simpa using h2) hk
theorem bindC_get {kindOf : Str → Option NameKind} {x : Str} {v : Value} : ∀ {P : List Str} {vs : List Value} {i : Nat} {m : Str → Option Value}, P.Nodup → P[i]? = some x → vs[i]? = some v → kindOf x ≠ some .local →
    bindC kindOf (P.zip vs) m x = some v
  | [], _, _, _, _, h, _, _ => by simp at h
  | _ :: _, [], _, _, _, _, h, _ => by simp at h
  | p :: P, w :: vs, 0, m, nd, h1, h2, hk => by
    simp at h1 h2; subst h1; subst h2
    show bindC kindOf ((p, w) :: P.zip vs) m p = _
    unfold bindC
    rw [bindC_out fun v hv => (List.nodup_cons.mp nd).1 (List.of_mem_zip hv).1, if_neg hk]
    simp
  | p :: P, w :: vs, i + 1, m, nd, h1, h2, hk => by
    show bindC kindOf ((p, w) :: P.zip vs) m x = _
    unfold bindC
    exact bindC_get (i := i) (List.nodup_cons.mp nd).2 (by simpa using h1) (by simpa using h2) hk

/-- the names' values at the entry -/
def start (N : List Str) (vs : List V) : St := vs.map some ++ List.replicate (N.length - vs.length) none

/-- the context of a def's body, at its entry; an exception leaves the frame, then lies as CX says -/
def cxOf (CX : CXT) (P : Program) (w : World) (K : PySem.W.Frag) (mg : Str → Option Value) (base : Heap) (N : List Str) (qual : Str) (scope : Scope) (f : Addr) (cd : Value) (A : Around) (outer : List Env) (s : Shared) (H : Hp) (E : XK) : Cx where
  prog := P
  w := w
  K := K
  mg := mg
  base := base
  A := A.deeper (envOfC qual scope s.heap.objs.size f cd)
  N := N
  s₀ := s
  H₀ := H
  env := envOfC qual scope s.heap.objs.size f cd
  outer := outer
  stack := envOfC qual scope s.heap.objs.size f cd :: outer
  ex := []
  calm := true
  fn := fun _ => true
  pn := []
  xe := fun e s' => wpAny (model P w) (A.deeper (envOfC qual scope s.heap.objs.size f cd)) (leaving (envOfC qual scope s.heap.objs.size f cd) e) (fun _ s'' => CX outer H s E e s'') (fun e' s'' => CX outer H s E e' s'') s'

theorem cell_has {sc : Scope} {n : Nat} {x : Str} (h : sc.names.lookup x = some .cell) : ∃ c, (cellsFrom n sc.names []).lookup x = some c := by
  have q := PySem.W.cellsFrom_some sc.names n [] (.inl h)
  exact Option.isSome_iff_exists.mp q

theorem inv_start {CX : CXT} {P : Program} {w : World} {K : PySem.W.Frag} {mg : Str → Option Value} {base : Heap} {N ps : List Str} {qual : Str} {scope : Scope} {f : Addr} {cd : Value} {A : Around} {outer : List Env} {s s1 : Shared} {H : Hp} {E : XK} {us : List Value} {vs : List V}
    (S : FnScope N ps scope) (hd : A.handled = none) (e0 : Env0 P w K mg base A outer s H) (hl : vs.length = ps.length) (r : Vals vs us)
    (x : InCallC s s.heap.objs.size (bindL (envOfC qual scope s.heap.objs.size f cd).kindOf (ps.zip us) fun _ => none) (cellsFrom (s.heap.objs.size + 1) scope.names []) (bindC (envOfC qual scope s.heap.objs.size f cd).kindOf (ps.zip us) fun _ => none) s1) :
    Inv (cxOf CX P w K mg base N qual scope f cd A outer s H E) [] (start N vs) H s1 := by
  have hpl : ps.length ≤ N.length := by have := congrArg List.length S.pre; rw [List.length_take] at this; omega
  obtain ⟨h1, tk, rfl, hk⟩ := x.done
  have noA : ∀ b : Addr, b ∉ (cxOf CX P w K mg base N qual scope f cd A outer s H E).ex := fun b z => absurd (show b ∈ ([] : List Addr) from z) (by simp)
  refine ⟨⟨e0.mod, S.kind, rfl, rfl, Nat.le_refl _, fun y z c h1 h2 => ?_, fun y hy => ?_, fun y c _ h => ?_, fun _ => hd, Around.frames_deeper e0.frames, .inr ⟨rfl, rfl⟩, fun b z => absurd z (noA b), e0.bs, e0.bsz, fun b _ _ => noA b, fun b z => absurd z (noA b), e0.funs, e0.frf⟩,
    rfl, e0.bare, Un.kept hk, ⟨_, x.toInCall.ns, fun i y v h1 h2 h3 => ?_⟩, fun y c h => ⟨_, x.cell y c h⟩, e0.hok.fresh (Nat.le_refl _), fun y c h => ?_, fun p hp => absurd (show p ∈ ([] : List (Addr × Obj)) from hp) (by simp), e0.hok.kept hk, ?_⟩
  · exact name_of_addr x.apart (PySem.mem_of_lookup h1) (PySem.mem_of_lookup h2)
  · have hy : scope.names.lookup y = some .cell ∨ scope.names.lookup y = some .free := hy
    rcases hy with hy | hy
    · exact cell_has hy
    · exact absurd rfl (S.nofree _ (PySem.mem_of_lookup hy))
  · exact Nat.le_of_lt (x.above y c (PySem.mem_of_lookup h))
  · have hi : i < vs.length := by
      unfold start at h2
      by_cases hi : i < vs.length
      · exact hi
      · rw [List.getElem?_append_right (by simpa using hi)] at h2
        rw [List.getElem?_replicate] at h2
        split at h2 <;> cases h2
    have ha : vs[i]? = some v := by
      unfold start at h2
      rw [List.getElem?_append_left (by simpa using hi), List.getElem?_map] at h2
      cases e : vs[i]? with
      | none => rw [e] at h2; cases h2
      | some a => rw [e] at h2; cases h2; rfl
    obtain ⟨u, hu, rv⟩ := r.get ha
    have hp : ps[i]? = some y := by
      rw [← S.pre, List.getElem?_take_of_lt (by omega)]; exact h1
    have ndP : ps.Nodup := by rw [← S.pre]; exact S.nd.sublist (List.take_sublist _ _)
    refine ⟨u, rv, ?_⟩
    rcases S.par y (List.mem_of_getElem? hp) with k | k
    · exact .inl ⟨k, bindL_get ndP hp hu k⟩
    · obtain ⟨c, e⟩ := cell_has (n := s.heap.objs.size + 1) k
      refine .inr ⟨.inl k, c, e, ?_⟩
      have q := x.cell y c e
      rw [bindC_get ndP hp hu (by show scope.names.lookup y ≠ _; rw [k]; decide)] at q
      exact q
  · exact e0.hok.fresh (Nat.le_of_lt (x.above y c (PySem.mem_of_lookup h)))
  · unfold start
    show _ = N.length
    rw [List.length_append, List.length_map, List.length_replicate]
    omega

/-- THE RULE: a def (or a method) of the text, by its body. The body's reading t is chosen for each entry; it is run at the parameters' values -/
theorem fn_of {CX : CXT} {P : Program} {w : World} {K : PySem.W.Frag} {mg : Str → Option Value} {base : Heap} {k : Nat} {f : Addr} {name qual : Str} {params : Arguments} {body : List Stmt} {scope : Scope} {dV kV doc pm cdv ct oc : Value} {an od : Option Addr}
    {osl : Array (Option Value)} {N ps : List Str} {sp : Sp} (lk : K.lookup f = some ⟨oc, od, .func (PySem.W.fnOf name qual params body scope dV kV doc pm an cdv ct), osl⟩) (hcd : PySem.W.codeIn K cdv qual = true) (S : FnScope N ps scope)
    (len : ∀ vs H Q E, sp vs H Q E → vs.length = ps.length)
    (hbody : ∀ (A : Around) (outer : List Env) (s : Shared) (H : Hp) (vs : List V) (Q : VK) (E : XK), Room k (A.deeper (envOfC qual scope s.heap.objs.size f cdv)) → sp vs H Q E →
      ∃ t, PSs (cxOf CX P w K mg base N qual scope f cdv A outer s H E) body t ∧ t { nx := fun _ H' => Q .non H', rt := Q } (start N vs) H) :
    FnOk P w K mg base CX (k + 1) f (PySem.W.fnOf name qual params body scope dV kV doc pm an cdv ct) ps sp := by
  refine ⟨len, fun A outer s H args us vs Q E hr e0 hb r hsp => ?_⟩
  have hl := len _ _ _ _ hsp
  have KX : K.In s.heap := e0.mod.kin.keeps fun b o e => (e0.bs b o e).1
  have lim : s.heap.NoLimit := e0.mod.nolimit.keeps fun b o e => (e0.bs b o e).1
  have hkind : ∀ y ∈ ps.zip us, scope.names.lookup y.1 = some .local ∨ (scope.names.lookup y.1 = some .cell ∧ ((cellsFrom (s.heap.objs.size + 1) scope.names []).lookup y.1).isSome = true) := fun ⟨n, v⟩ hy => by
    rcases S.par n (List.of_mem_zip hy).1 with q | q
    · exact .inl q
    · exact .inr ⟨q, PySem.W.cellsFrom_some _ _ _ (.inl q)⟩
  refine codeAny_call_function hr.depth (KX _ _ lk) rfl S.co S.gen rfl (PySem.W.codeRec_of KX hcd) (hb _ _ _ _ ?_)
  refine wpAny_newFunctionEnv_cells S.kind hkind fun env he s1 x => ?_
  subst he
  refine ⟨lim.keeps x.toInCall.keep, codeAny_func ?_⟩
  obtain ⟨t, ht, hq⟩ := hbody A outer s H vs Q E (hr.deeper _) hsp
  have I : Inv (cxOf CX P w K mg base N qual scope f cdv A outer s H E) [] (start N vs) H s1 := inv_start S hr.hd e0 hl r x
  refine wpAny_mono (ht [] s1 (start N vs) H _ I hq) (fun fl s' hs => ?_) fun e s' hs => hs
  have fin : ∀ {σ' : St} {H' : Hp} {v : V} {u : Value}, Inv (cxOf CX P w K mg base N qual scope f cdv A outer s H E) [] σ' H' s' → RelV v u → Q v H' → CE outer P w H s Q u s' :=
    fun {σ' H' v u} J rv q => ⟨v, H', J.os, J.bare, J.base, J.hok, rv, q⟩
  cases fl with
  | ret u =>
    obtain ⟨v, σ', H', J, rv, q⟩ := hs
    exact fin J rv q
  | next =>
    obtain ⟨σ', H', J, q⟩ := hs
    exact fin (v := V.non) (u := Value.none) J rfl q
  | brk =>
    obtain ⟨_, _, _, q⟩ := hs
    exact False.elim q
  | cont =>
    obtain ⟨_, _, _, q⟩ := hs
    exact False.elim q
end L2

namespace L2
open PySem PySem.Spec PyProof.Rows
section
variable {X : Cx} {x : Str} {p pos : Pos} {e : Expr} {es : List Expr} {t : TA} {id T : String} {r : List V → Hp → VK → Prop}

def tCB (r : List V → Hp → VK → Prop) (t : TA) : TE := fun σ H Q => t σ H fun vs H1 => r vs H1 Q
/-- f(e, ..), f a built-in function -/
theorem pe_callB (hc : CallR X (.builtin id) r) (hg : Gl X x) (hm : X.mg x = none) (hv : bootBuiltins x = some (.builtin id)) (ha : PA X (e :: es) t) (hn : x ≠ "__name__" := by decide) (hdb : (x == ("__debug__" : Str)) = false := by decide)
    (he : starEach (e :: es) X.env = (false, eval e X.env) :: starEach es X.env := by rfl) (hpl : (backTo pos (starEach es X.env)).any (·.1) = false := by rfl) : PE X (.Call (.Name x p) (e :: es) [] pos) (tCB r t) := by
  intro pins s σ H Q I h
  refine wpAny_Call_Name_kw (ld_blt I hg hm hv ?_ hn hdb)
  exact PyProof.Rows.callWith_builtin1 (thn (ha pos pins s σ H _ I h) fun us s1 ⟨vs, H1, I1, r1, q1⟩ => hc pins s1 σ H1 vs us Q I1 r1 q1) he hpl
/-- T(e, ..), T a built-in type -/
theorem pe_callTy (hc : CallR X (.type T) r) (hg : Gl X x) (hm : X.mg x = none) (hv : bootBuiltins x = some (.type T)) (ha : PA X (e :: es) t) (hn : x ≠ "__name__" := by decide) (hdb : (x == ("__debug__" : Str)) = false := by decide)
    (he : starEach (e :: es) X.env = (false, eval e X.env) :: starEach es X.env := by rfl) (hpl : (backTo pos (starEach es X.env)).any (·.1) = false := by rfl) : PE X (.Call (.Name x p) (e :: es) [] pos) (tCB r t) := by
  intro pins s σ H Q I h
  refine wpAny_Call_Name_kw (ld_blt I hg hm hv ?_ hn hdb)
  exact PyProof.Rows.callWith_type1 (thn (ha pos pins s σ H _ I h) fun us s1 ⟨vs, H1, I1, r1, q1⟩ => hc pins s1 σ H1 vs us Q I1 r1 q1) he hpl
/-- T() -/
theorem pe_callTy0 (hc : CallR X (.type T) r) (hg : Gl X x) (hm : X.mg x = none) (hv : bootBuiltins x = some (.type T)) (hn : x ≠ "__name__" := by decide) (hdb : (x == ("__debug__" : Str)) = false := by decide) :
    PE X (.Call (.Name x p) [] [] pos) (tCB r tNil) := by
  intro pins s σ H Q I h
  refine wpAny_Call_Name_kw (ld_blt I hg hm hv ?_ hn hdb)
  exact PyProof.Rows.callWith_type0 (hc pins s σ H [] [] Q I .nil h)
end
end L2

namespace HT
open PySem PyProof.Rows

/-- t < u of tuples of ints -/
def lexLt : List Int → List Int → Bool
  | [], [] => false
  | [], _ :: _ => true
  | _ :: _, [] => false
  | x :: xs, y :: ys => if x = y then lexLt xs ys else decide (x < y)
theorem lexLt_cons (x y : Int) (xs ys : List Int) : lexLt (x :: xs) (y :: ys) = if x = y then lexLt xs ys else decide (x < y) := rfl
theorem lexLt_nil_nil : lexLt [] [] = false := rfl
theorem lexLt_nil_cons (y : Int) (ys : List Int) : lexLt [] (y :: ys) = true := rfl
theorem lexLt_cons_nil (x : Int) (xs : List Int) : lexLt (x :: xs) [] = false := rfl

theorem eqAt_int (A : Around) (s : Shared) (a : Int) (t : Tok) (c : Int) (u : Tok) : ∃ e, SeqAt.EqAt A s (.int a t) (.int c u) e ∧ (e = true ↔ a = c) :=
  ⟨(a == c), SeqAt.EqAt.int_int a t c u, by simp⟩
theorem rcLt_int (A : Around) (s : Shared) (a : Int) (t : Tok) (c : Int) (u : Tok) (prog : Program) (w : World) (E : Value → Shared → Prop) (Q : Value → Shared → Prop) (h : Q (.bool (decide (a < c))) s) :
    wpAny (model prog w) A (richCompare .Lt (.int a t) (.int c u)) Q E s :=
  (PyProof.Rows.lt_int h : wpAny (model prog w) A (compareOp .Lt (.int a t) (.int c u)) Q E s)

section
open PySem.SeqAt
open PySem.AutoSeq1 (wpAny_loadPart')
open PySem.MeetsSeq PySem.MeetsSeq2 PySem.MeetsSeq3

theorem tuple_lt_ints (l b : Addr) (items items2 : Array Value) (n n2 : Nat) (dd dd2 : Option Addr) (sl sl2 : Array (Option Value)) (ns ms : List Int) (hi : IntsAre items.toList ns) (hj : IntsAre items2.toList ms) :
    Meets (Builtin.«tuple.__lt__» ⟨[.ref l, .ref b], []⟩)
      (fun _ R s => s.heap.get? l = some { cls := .type "tuple", dict := dd, data := .seq items n, slots := sl } ∧ s.heap.get? b = some { cls := .type "tuple", dict := dd2, data := .seq items2 n2, slots := sl2 } ∧
        R (.ok (.ret (.bool (lexLt ns ms)))) s) :=
  .of_wp fun prog w A R s h => by
    obtain ⟨hp, g, d, tk, os⟩ := s; obtain ⟨hl, hb, h⟩ := h
    have f2 := AutoSeq1.sub_tuple_tuple
    have z1 : items.size = ns.length := by rw [← hi.length]; simp
    have z2 : items2.size = ms.length := by rw [← hj.length]; simp
    wp_walk using wpAny_loadPart' hl, wpAny_loadPart' hb, wpAny_forIn_list _ (fun rest b s' => b.1 = none ∧ s' = ⟨hp, g, d, tk, os⟩ ∧ ∃ (vs ws : List Value) (ns' ms' : List Int), rest = vs.zip ws ∧
      IntsAre vs ns' ∧ IntsAre ws ms' ∧ ns'.length + items2.size = ms'.length + items.size ∧ R (.ok (.ret (.bool (lexLt ns' ms')))) ⟨hp, g, d, tk, os⟩) _
    case turn =>
      rintro ⟨y, x⟩ rest b s' ⟨hb', rfl, vs, ws, ns', ms', hz, hvi, hwi, hlen, hR⟩
      cases hvi with
      | nil => rw [List.zip_nil_left] at hz; cases hz
      | cons a t hvi' =>
        cases hwi with
        | nil => rw [List.zip_nil_right] at hz; cases hz
        | cons c u hwi' =>
          rw [List.zip_cons_cons] at hz
          injection hz with hyx hrest
          injection hyx with hy hx
          subst hy hx
          rw [lexLt_cons] at hR
          simp only [List.length_cons] at hlen
          obtain ⟨e, he, hiff⟩ := eqAt_int A.in1 ⟨hp, g, d, tk, os⟩ a t c u
          refine wpAny_bind (he prog w _ _ ?_)
          cases e with
          | true =>
            rw [if_pos (hiff.mp rfl)] at hR
            wp_walk
            exact ⟨rfl, rfl, _, _, _, _, hrest, hvi', hwi', by omega, hR⟩
          | false =>
            rw [if_neg (fun q => absurd (hiff.mpr q) Bool.false_ne_true)] at hR
            have hri := rcLt_int A.in1 ⟨hp, g, d, tk, os⟩ a t c u prog w
            wp_walk using hri
            exact ⟨_, rfl, by simpa using hR⟩
    case fin =>
      rintro ⟨b1, b2⟩ s' ⟨hb', rfl, vs, ws, ns', ms', hz, hvi, hwi, hlen, hR⟩
      simp only at hb'
      subst hb'
      have hv : lexLt ns' ms' = decide (items.size < items2.size) := by
        cases hvi with
        | nil =>
          cases hwi with
          | nil =>
            simp only [List.length_nil] at hlen
            rw [lexLt_nil_nil]
            exact (decide_eq_false (by omega)).symm
          | cons c u hw =>
            simp only [List.length_nil, List.length_cons] at hlen
            rw [lexLt_nil_cons]
            exact (decide_eq_true (by omega)).symm
        | cons a t hv =>
          cases hwi with
          | nil =>
            simp only [List.length_nil, List.length_cons] at hlen
            rw [lexLt_cons_nil]
            exact (decide_eq_false (by omega)).symm
          | cons c u hw =>
            rw [List.zip_cons_cons] at hz
            cases hz
      rw [hv] at hR
      wp_walk
      exact ⟨_, rfl, by simpa [Builtin.Tuple.tupleCompareSizes] using hR⟩
    case h =>
      exact ⟨rfl, rfl, items.toList, items2.toList, ns, ms, rfl, hi, hj, by omega, h⟩
end

section
variable {prog : Program} {w : World} {A : Around} {E : Value → Shared → Prop} {s : Shared}

theorem lt_tupInts {l b : Addr} {items items2 : Array Value} {ns ms : List Int} {Q : Value → Shared → Prop} (hl : IsTup s.heap l items) (hb : IsTup s.heap b items2) (hi : IntsAre items.toList ns) (hj : IntsAre items2.toList ms)
    (hu : A.units < cLine) (h : Q (.bool (lexLt ns ms)) s) : wpAny (model prog w) A (compareOp .Lt (.ref l) (.ref b)) Q E s := by
  obtain ⟨⟨cls, dd, data, sl⟩, ho, hc, n, hd⟩ := id hl
  obtain ⟨⟨cls2, dd2, data2, sl2⟩, ho2, hc2, n2, hd2⟩ := id hb
  simp only at hc hd hc2 hd2
  subst hc hd hc2 hd2
  exact richCompare_meets_room (op := .Lt) ⟨_, ho, rfl⟩ ⟨_, ho2, rfl⟩ PySem.F.slot_tuple_lt PySem.F.entry_tuple_lt (PySem.F.args_tuple_lt_2 _ _) (tuple_lt_ints l b items items2 n n2 dd dd2 sl sl2 ns ms hi hj)
    ⟨ho, ho2, show Value.bool (lexLt ns ms) ≠ Value.notImplemented ∧ Q (.bool (lexLt ns ms)) s from ⟨(fun x => nomatch x), h⟩⟩ hu

/-- t + u, t not empty -/
theorem cat_tup {t b : Addr} {vs ws : List Value} {Q : Value → Shared → Prop} (ht : IsTup s.heap t vs.toArray) (hb : IsTup s.heap b ws.toArray) (hv : vs ≠ [])
    (h1 : ws = [] → Q (.ref t) s) (h2 : ws ≠ [] → Q (.ref s.heap.objs.size) { s with heap := s.heap.push { cls := .type "tuple", data := .seq (vs ++ ws).toArray } })
    (hsz : vs.length + ws.length ≤ sizeLine) : wpAny (model prog w) A (binaryOp .Add (.ref t) (.ref b)) Q E s := by
  obtain ⟨⟨cls, dd, data, sl⟩, ho, hc, n, hd⟩ := id ht
  obtain ⟨⟨cls2, dd2, data2, sl2⟩, ho2, hc2, n2, hd2⟩ := id hb
  simp only at hc hd hc2 hd2
  subst hc hd hc2 hd2
  have e : vs.toArray ++ ws.toArray = (vs ++ ws).toArray := by simp
  by_cases hw : ws = []
  · exact concat_meets ⟨_, ho, rfl⟩ ⟨_, ho2, rfl⟩ noFill_tuple_add seq_tuple_add PySem.F.slot_tuple_add PySem.F.entry_tuple_add (PySem.F.args_tuple_add_2 _ _)
      (tuple_addW1 t b vs.toArray ws.toArray n n2 dd dd2 sl sl2 (by simpa using hv) (by simp [hw])) ⟨ho, ho2, h1 hw⟩
  · refine concat_meets ⟨_, ho, rfl⟩ ⟨_, ho2, rfl⟩ noFill_tuple_add seq_tuple_add PySem.F.slot_tuple_add PySem.F.entry_tuple_add (PySem.F.args_tuple_add_2 _ _)
      (tuple_addW2 t b vs.toArray ws.toArray n n2 dd dd2 sl sl2 (by simpa using hv) (by simpa using hw) (by rw [List.size_toArray, List.size_toArray]; exact hsz)) ⟨ho, ho2, ?_⟩
    rw [e]
    exact h2 hw

/-! ### t[a:b], not the whole -/
/-- a slice's bound as a place among n (d where it is left out) -/
def sIx (n d : Nat) : Option Int → Nat
  | none => d
  | some v => if v < 0 then (v + (n : Int)).toNat else min v.toNat n
theorem sIx_none (n d : Nat) : sIx n d none = d := rfl
theorem sIx_nat (n d k : Nat) : sIx n d (some (k : Int)) = min k n := by
  show (if (k : Int) < 0 then ((k : Int) + (n : Int)).toNat else min (k : Int).toNat n) = min k n
  rw [if_neg (by omega), Int.toNat_natCast]
theorem sIx_le (n d : Nat) (hd : d ≤ n) (o : Option Int) : sIx n d o ≤ n := by
  cases o with
  | none => exact hd
  | some v =>
    show (if v < 0 then (v + (n : Int)).toNat else min v.toNat n) ≤ n
    by_cases hv : v < 0
    · rw [if_pos hv]; omega
    · rw [if_neg hv]; exact Nat.min_le_right _ _
theorem clip_eq (v : Int) (n d : Nat) : (if v < 0 then max (v + (n : Int)) 0 else min v (n : Int)) = ((sIx n d (some v) : Nat) : Int) := by
  show (if v < 0 then max (v + (n : Int)) 0 else min v (n : Int)) = (((if v < 0 then (v + (n : Int)).toNat else min v.toNat n) : Nat) : Int)
  by_cases hv : v < 0
  · simp only [if_pos hv]; omega
  · simp only [if_neg hv]; omega
theorem adjust_gen (lo hi : Option Int) (n : Nat) : Builtin.Slice.sliceAdjust lo hi 1 (n : Int) = (((sIx n 0 lo : Nat) : Int), ((sIx n n hi : Nat) : Int)) := by
  have h1 : ¬ ((1 : Int) < 0) := by omega
  unfold Builtin.Slice.sliceAdjust
  simp only [h1, if_false]
  refine Prod.ext ?_ ?_
  · cases lo with
    | none => rfl
    | some v => exact clip_eq v n 0
  · cases hi with
    | none => rfl
    | some v => exact clip_eq v n n
theorem places_gen (i j : Nat) : Builtin.Slice.slicePlaces (i : Int) (j : Int) 1 = j - i := by
  unfold Builtin.Slice.slicePlaces
  have h1 : (1 : Int) > 0 := by omega
  simp only [h1, if_true, Int.ediv_one]
  split <;> omega
theorem slicePart_ {v : Value} {o : Option Int} {Q : Option Int → Shared → Prop} (p : IsPart v o) (h : Q o s) : wpAny (model prog w) A (Builtin.Slice.slicePartIndex v) Q E s := by
  cases p with
  | none => exact slicePart_none h
  | int i t => exact slicePart_int h
theorem sliceApplied_gen {sl : Addr} {vl vu : Value} {lo hi : Option Int} {n : Nat} {Q : Int × Int × Nat → Shared → Prop} (hs : s.heap.IsSliceOf sl vl vu .none) (pl : IsPart vl lo) (pu : IsPart vu hi)
    (h : Q (((sIx n 0 lo : Nat) : Int), 1, sIx n n hi - sIx n 0 lo) s) : wpAny (model prog w) A (Builtin.Slice.sliceApplied (.ref sl) (pure (n : Int))) Q E s := by
  obtain ⟨os, hos, hcs, hds⟩ := id hs
  unfold Builtin.Slice.sliceApplied Builtin.Slice.sliceFields
  refine wpAny_bind (wpAny_bind (wpAny_field hos hds (x := vl) rfl (wpAny_bind (wpAny_field hos hds (x := vu) rfl (wpAny_bind (wpAny_field hos hds (x := .none) rfl (wpAny_pure ?_)))))))
  refine wpAny_bind (slicePart_none ?_)
  show wpAny _ _ (if ((1 : Int) == 0) = true then _ else _) _ _ s
  rw [if_neg (by decide)]
  refine wpAny_bind (slicePart_ pl (wpAny_bind (slicePart_ pu (wpAny_bind (wpAny_pure ?_)))))
  show wpAny _ _ (match Builtin.Slice.sliceAdjust lo hi 1 (n : Int) with | (lo, hi) => pure (lo, (1 : Int), Builtin.Slice.slicePlaces lo hi 1)) _ _ s
  rw [adjust_gen lo hi n]
  show wpAny _ _ (pure (((sIx n 0 lo : Nat) : Int), (1 : Int), Builtin.Slice.slicePlaces ((sIx n 0 lo : Nat) : Int) ((sIx n n hi : Nat) : Int) 1)) _ _ s
  rw [places_gen]
  exact wpAny_pure h
theorem pick_gen (xs : Array Value) (i k : Nat) : ((List.range k).filterMap fun (m : Nat) => xs[((i : Int) + (m : Int) * 1).toNat]?).toArray = ((xs.toList.drop i).take k).toArray := by
  have e : (fun (m : Nat) => xs[((i : Int) + (m : Int) * 1).toNat]?) = fun m => xs[i + m]? := by
    funext m
    have : ((i : Int) + (m : Int) * 1).toNat = i + m := by omega
    rw [this]
  rw [e]
  have := pick_run xs i k
  rw [List.filterMap_map] at this
  have e2 : ((fun x => xs[x]?) ∘ fun x => i + x) = fun m => xs[i + m]? := rfl
  rw [e2] at this
  rw [this]

theorem getItem_tuple_cut {t sl : Addr} {items : Array Value} {vl vu : Value} {lo hi : Option Int} {Q : Value → Shared → Prop} (ht : IsTup s.heap t items) (hs : s.heap.IsSliceOf sl vl vu .none) (pl : IsPart vl lo) (pu : IsPart vu hi)
    (hw : ¬ (sIx items.size 0 lo = 0 ∧ sIx items.size items.size hi = items.size))
    (h : Q (.ref s.heap.objs.size) { s with heap := s.heap.push { cls := .type "tuple", data := .seq ((items.toList.drop (sIx items.size 0 lo)).take (sIx items.size items.size hi - sIx items.size 0 lo)).toArray } })
    (hsz : items.size ≤ sizeLine) : wpAny (model prog w) A (getItem (.ref t) (.ref sl)) Q E s := by
  have htake : sizeOk (.seq ((items.toList.drop (sIx items.size 0 lo)).take (sIx items.size items.size hi - sIx items.size 0 lo)).toArray) := by
    show ((items.toList.drop (sIx items.size 0 lo)).take (sIx items.size items.size hi - sIx items.size 0 lo)).toArray.size ≤ sizeLine
    rw [List.size_toArray, List.length_take, List.length_drop, Array.length_toList]
    omega
  have hj : sIx items.size items.size hi ≤ items.size := sIx_le _ _ (Nat.le_refl _) hi
  obtain ⟨os, hos, hcs, hds⟩ := id hs
  have hTs : s.TypeIs (.ref sl) "slice" := ⟨os, hos, hcs⟩
  unfold getItem
  try with_reducible refine wpAny_holding ?_
  first | refine wpAny_bind (wpAny_pure ?_) | skip
  refine wpAny_bind (wpAny_sequenceKey ht.typeIs (by decide) ?_)
  refine wpAny_bind (wpAny_callSpecial?_slot (name := Str.ofString "__getitem__") ht.typeIs PyProof.Rows.slot_tuple_getitem
    (wpAny_call_entry PyProof.Rows.slot_tuple_getitem ht.typeIs entry_tuple_getitem ?_ (args_tuple_getitem _ _)))
  show wpAny _ _ (Builtin.Tuple.tupleItemsOf (.ref t) >>= _) _ _ s
  refine wpAny_bind (tupleItemsOf_ ht ?_)
  refine wpAny_bind (wpAny_typeOf hTs ?_)
  rw [if_pos (by decide)]
  refine wpAny_bind (sliceApplied_gen hs pl pu ?_)
  have hno : ¬ ((((sIx items.size 0 lo : Nat) : Int) == 0 && (1 : Int) == 1 && (sIx items.size items.size hi - sIx items.size 0 lo) == items.size) = true) := by
    intro q
    rw [Bool.and_eq_true, Bool.and_eq_true] at q
    have q1 : ((sIx items.size 0 lo : Nat) : Int) = 0 := eq_of_beq q.1.1
    have q2 : sIx items.size items.size hi - sIx items.size 0 lo = items.size := eq_of_beq q.2
    exact hw ⟨by omega, by omega⟩
  show wpAny _ _ (if (((sIx items.size 0 lo : Nat) : Int) == 0 && (1 : Int) == 1 && (sIx items.size items.size hi - sIx items.size 0 lo) == items.size) = true then _ else _) _ _ s
  rw [if_neg hno, pick_gen]
  first
    | exact wpAny_bind (m := Builtin.Tuple.tupleExact _) (wpAny_newObj_type (wpAny_pure ⟨_, rfl, wpAny_pure h⟩) htake)
    | exact wpAny_bind (m := Builtin.Tuple.tupleExact _) (wpAny_newObj_type (wpAny_bind (wpAny_pure (wpAny_pure ⟨_, rfl, wpAny_pure h⟩))) htake)
    | exact wpAny_bind (wpAny_bind (m := Builtin.Tuple.tupleExact _) (wpAny_newObj_type (wpAny_pure (wpAny_pure ⟨_, rfl, wpAny_pure h⟩)) htake))
    | exact wpAny_bind (wpAny_bind (m := Builtin.Tuple.tupleExact _) (wpAny_newObj_type (wpAny_pure ⟨_, rfl, wpAny_pure h⟩) htake))
end
end HT

namespace L2
open PySem PySem.Spec PyProof.Rows

/-! ### the parts of a slice -/
abbrev TO := St → Hp → (Option Int → Hp → Prop) → Prop
/-- a slice's part (left out, or an int) -/
def PO (X : Cx) (e : Option Expr) (t : TO) : Prop :=
  ∀ (pins : List (Addr × Obj)) (s : Shared) (σ : St) (H : Hp) (Q : Option Int → Hp → Prop), Inv X pins σ H s → t σ H Q →
    wpAny (model X.prog X.w) X.A (evalPart e X.env) (fun u s' => ∃ o H', Inv X pins σ H' s' ∧ IsPart u o ∧ Q o H') X.xe s
def tNoPart : TO := fun _ H Q => Q none H
def tPart (t : TE) : TO := fun σ H Q => t σ H fun x H1 => ∃ i, x = .int i ∧ Q (some i) H1

theorem intsAre_of {ns : List Int} : ∀ {us : List Value}, Vals (ns.map V.int) us → IntsAre us ns := by
  induction ns with
  | nil => intro us r; rw [List.map_nil] at r; cases r; exact .nil
  | cons n ns ih =>
    intro us r
    rw [List.map_cons] at r
    cases r with
    | cons r1 r2 =>
      obtain ⟨t, e⟩ := r1
      subst e
      exact .cons n t (ih r2)

section
variable {X : Cx} {e : Expr} {te : TE} {lo hi : Option Expr} {tl th : TO} {pos p2 : Pos}

theorem po_none : PO X none tNoPart := by
  intro pins s σ H Q I h
  rw [evalPart_none]
  exact wpAny_pure ⟨none, H, I, .none, h⟩
theorem po_some (h : PE X e te) : PO X (some e) (tPart te) := by
  intro pins s σ H Q I hw
  rw [evalPart_some]
  refine thn (h pins s σ H _ I hw) fun u s1 ⟨x, H1, I1, r1, q1⟩ => ?_
  obtain ⟨i, rfl, q⟩ := q1
  obtain ⟨t, rfl⟩ := r1
  exact ⟨some i, H1, I1, .int i t, q⟩

/-- what a slice of a value is, by values: the slice object stands at sl -/
def SlR (X : Cx) (r : V → Option Int → Option Int → Hp → VK → Prop) : Prop :=
  ∀ (pins : List (Addr × Obj)) (s : Shared) (σ : St) (H : Hp) (x : V) (v vl vu : Value) (lo hi : Option Int) (sl : Addr) (Q : VK), Inv X pins σ H s → RelV x v → s.heap.IsSliceOf sl vl vu .none → IsPart vl lo → IsPart vu hi → r x lo hi H Q →
    ∃ T id, typeLookup (.type T) "__getitem__" = pure (some (.builtin id)) ∧ s.TypeIs v T ∧ wpAny (model X.prog X.w) X.A (getItem v (.ref sl)) (EP X pins σ Q) X.xe s
theorem SlR.or {r r' : V → Option Int → Option Int → Hp → VK → Prop} (h : SlR X r) (h' : SlR X r') : SlR X (fun x lo hi H Q => r x lo hi H Q ∨ r' x lo hi H Q) := by
  intro pins s σ H x v vl vu lo hi sl Q I rx hs pl pu q
  rcases q with q | q
  · exact h pins s σ H x v vl vu lo hi sl Q I rx hs pl pu q
  · exact h' pins s σ H x v vl vu lo hi sl Q I rx hs pl pu q
def tSl (r : V → Option Int → Option Int → Hp → VK → Prop) (te : TE) (tl th : TO) : TE := fun σ H Q => te σ H fun x H1 => tl σ H1 fun l H2 => th σ H2 fun u H3 => r x l u H3 Q
/-- a[lo:hi], any a -/
theorem pe_slice {r : V → Option Int → Option Int → Hp → VK → Prop} (hr : SlR X r) (he : PE X e te) (hl : PO X lo tl) (hu : PO X hi th) : PE X (.Subscript e (.Slice lo hi none p2) pos) (tSl r te tl th) := by
  intro pins s σ H Q I h
  refine Subscript_ (thn (he pins s σ H _ I h) fun v s1 ⟨x, H1, I1, r1, q1⟩ => ?_)
  refine wpAny_Slice (thn (hl pins s1 σ H1 _ I1 q1) fun vl s2 ⟨l, H2, I2, pl, q2⟩ => thn (hu pins s2 σ H2 _ I2 q2) fun vu s3 ⟨u, H3, I3, pu, q3⟩ => ?_)
  rw [evalPart_none]
  refine wpAny_pure ?_
  have I4 : Inv X pins σ H3 { s3 with heap := s3.heap.push { cls := .type "slice", data := .fields #[vl, vu, .none] } } := I3.kept (t' := s3.toks) fun b ob q => Heap.get?_push_of_some _ q
  obtain ⟨T, id, hT, ht, hg⟩ := hr pins { s3 with heap := s3.heap.push { cls := .type "slice", data := .fields #[vl, vu, .none] } } σ H3 x v vl vu l u s3.heap.objs.size Q I4 r1 (Heap.IsSliceOf.new ..) pl pu q3
  show wpAny (model X.prog X.w) X.A (subscriptTail e (.Slice lo hi none p2) v (.ref s3.heap.objs.size)) (EP X pins σ Q) X.xe { s3 with heap := s3.heap.push { cls := .type "slice", data := .fields #[vl, vu, .none] } }
  exact tail_any (ops := [.ref s3.heap.objs.size, v]) ht hT hg (by with_unfolding_all rfl)

/-- the items of xs[lo:hi] -/
def cutV (xs : List V) (lo hi : Option Int) : List V := (xs.drop (HT.sIx xs.length 0 lo)).take (HT.sIx xs.length xs.length hi - HT.sIx xs.length 0 lo)
theorem cutV_length (xs : List V) (lo hi : Option Int) : (cutV xs lo hi).length ≤ xs.length := by
  unfold cutV
  rw [List.length_take, List.length_drop]
  omega
/-- t[lo:hi], not the whole of it (the whole would be t itself) -/
def rSlT (K : PySem.W.Frag) : V → Option Int → Option Int → Hp → VK → Prop := fun x lo hi H Q => ∃ a xs, x = .ref a ∧ SqT K H a xs ∧
  ¬ (HT.sIx xs.length 0 lo = 0 ∧ HT.sIx xs.length xs.length hi = xs.length) ∧ ∀ p, H p = none → Q (.ref p) (upd H p (.tup (cutV xs lo hi)))
theorem sl_tup : SlR X (rSlT X.K) := by
  intro pins s σ H x v vl vu lo hi sl Q I rx hs pl pu h
  obtain ⟨a, xs, rfl, hx, hw, q⟩ := h
  cases rx
  obtain ⟨its, r, ht, hz⟩ := I.tuple hx
  have hlen : its.toArray.size = xs.length := by rw [List.size_toArray]; exact r.length.symm
  refine ⟨"tuple", _, PyProof.Rows.slot_tuple_getitem.lookup, ht.typeIs, ?_⟩
  refine HT.getItem_tuple_cut ht hs pl pu (by rw [hlen]; exact hw) ?_ (by rw [hlen]; exact hz)
  rw [hlen]
  refine ⟨.ref s.heap.objs.size, _, I.laid (t' := s.toks) (o := .tup (cutV xs lo hi)) (fun b ob q => Heap.get?_push_of_some _ q) (Nat.le_refl _) ?_, rfl, q _ (I.hok.fresh (Nat.le_refl _))⟩
  exact ⟨Nat.le_trans (cutV_length xs lo hi) hz, _, (r.drop (HT.sIx xs.length 0 lo)).take (HT.sIx xs.length xs.length hi - HT.sIx xs.length 0 lo), IsTup.new _ _⟩

/-! ### t < u, t + u -/
def rLtT (K : PySem.W.Frag) : R2 := fun x y H Q => ∃ a b ns ms, x = .ref a ∧ y = .ref b ∧ SqT K H a (ns.map V.int) ∧ SqT K H b (ms.map V.int) ∧ Q (.bl (HT.lexLt ns ms)) H
theorem op_ltT (hu : X.A.units < cLine) : OpR X (compareOp .Lt) (rLtT X.K) := by
  intro pins s σ H x y v u Q I rx ry h
  obtain ⟨a, b, ns, ms, rfl, rfl, ha, hb, q⟩ := h
  cases rx
  cases ry
  obtain ⟨its, r1, p1, _⟩ := I.tuple ha
  obtain ⟨its2, r2, p2, _⟩ := I.tuple hb
  have i1 : IntsAre its.toArray.toList ns := intsAre_of r1
  have i2 : IntsAre its2.toArray.toList ms := intsAre_of r2
  exact HT.lt_tupInts p1 p2 i1 i2 hu ⟨.bl (HT.lexLt ns ms), H, I, rfl, q⟩
/-- t + u, t not empty: u empty gives t itself -/
def rCatT (K : PySem.W.Frag) : R2 := fun x y H Q => ∃ a b xs ys, x = .ref a ∧ y = .ref b ∧ SqT K H a xs ∧ SqT K H b ys ∧ xs ≠ [] ∧ xs.length + ys.length ≤ sizeLine ∧
  (ys = [] → Q (.ref a) H) ∧ (ys ≠ [] → ∀ p, H p = none → Q (.ref p) (upd H p (.tup (xs ++ ys))))
theorem Vals.nil_iff {xs : List V} {us : List Value} (r : Vals xs us) : us = [] ↔ xs = [] := by
  cases r with
  | nil => simp
  | cons _ _ => simp
theorem op_catT : OpR X (binaryOp .Add) (rCatT X.K) := by
  intro pins s σ H x y v u Q I rx ry h
  obtain ⟨a, b, xs, ys, rfl, rfl, ha, hb, hx, hz, q1, q2⟩ := h
  cases rx
  cases ry
  obtain ⟨its, r1, p1, _⟩ := I.tuple ha
  obtain ⟨its2, r2, p2, _⟩ := I.tuple hb
  refine HT.cat_tup p1 p2 (fun z => hx (r1.nil_iff.mp z)) (fun z => ⟨.ref a, H, I, rfl, q1 (r2.nil_iff.mp z)⟩) (fun z => ?_) (by rw [← r1.length, ← r2.length]; exact hz)
  refine ⟨.ref s.heap.objs.size, _, I.laid (t' := s.toks) (o := .tup (xs ++ ys)) (fun b ob q => Heap.get?_push_of_some _ q) (Nat.le_refl _) ?_, rfl, q2 (fun w => z (r2.nil_iff.mpr w)) _ (I.hok.fresh (Nat.le_refl _))⟩
  exact ⟨by rw [List.length_append]; exact hz, _, r1.append r2, IsTup.new _ _⟩
/-- tuple(t) -/
theorem call_tupleT : CallR X (.type "tuple") (fun xs H Q => ∃ a ys, xs = [.ref a] ∧ SqT X.K H a ys ∧ Q (.ref a) H) := by
  intro pins s σ H xs us Q I r h
  obtain ⟨a, ys, rfl, ha, q⟩ := h
  obtain ⟨u, rfl, ru⟩ := vals1 r
  cases ru
  obtain ⟨its, _, p1, _⟩ := I.tuple ha
  exact call_tuple_same (items := its.toArray) p1 ⟨.ref a, H, I, rfl, q⟩
end
end L2

namespace L2
open PySem PySem.Spec PyProof.Rows

/-! ### places -/
/-- the place that an index of any sign means -/
def ixN (n : Nat) (i : Int) : Option Nat := if 0 ≤ i then (if i < n then some i.toNat else none) else if -(n : Int) ≤ i then some (i + n).toNat else none
def atI {α : Type} (xs : List α) (i : Int) : Option α := (ixN xs.length i).bind fun j => xs[j]?
theorem ixN_seq {n : Nat} {i : Int} {j : Nat} (h : ixN n i = some j) : seqIndex? i n = some j ∧ j < n ∧ -(n : Int) ≤ i ∧ i < n := by
  unfold ixN at h
  by_cases h0 : 0 ≤ i
  · rw [if_pos h0] at h
    by_cases h1 : i < n
    · rw [if_pos h1] at h
      have e : i.toNat = j := Option.some.inj h
      exact ⟨by rw [seqIndex_of h0 h1, e], by omega, by omega, h1⟩
    · rw [if_neg h1] at h; cases h
  · rw [if_neg h0] at h
    by_cases h1 : -(n : Int) ≤ i
    · rw [if_pos h1] at h
      have e : (i + n).toNat = j := Option.some.inj h
      exact ⟨by rw [seqIndex_neg (by omega) h1, e], by omega, h1, by omega⟩
    · rw [if_neg h1] at h; cases h
theorem atI_get {α : Type} {xs : List α} {i : Int} {v : α} (h : atI xs i = some v) : ∃ j, seqIndex? i xs.length = some j ∧ xs[j]? = some v ∧ j < xs.length ∧ -(xs.length : Int) ≤ i ∧ i < xs.length := by
  unfold atI at h
  cases e : ixN xs.length i with
  | none => rw [e] at h; cases h
  | some j =>
    rw [e] at h
    obtain ⟨h1, h2, h3, h4⟩ := ixN_seq e
    exact ⟨j, h1, h, h2, h3, h4⟩
theorem atI_nat {α : Type} {xs : List α} {j : Nat} {v : α} (h : xs[j]? = some v) : atI xs (j : Int) = some v := by
  have hj : j < xs.length := (List.getElem?_eq_some_iff.mp h).1
  have e : ixN xs.length (j : Int) = some j := by
    unfold ixN
    rw [if_pos (by omega), if_pos (by omega)]; simp
  unfold atI; rw [e]; exact h
theorem atI_last {α : Type} (xs : List α) (v : α) : atI (xs ++ [v]) (-1) = some v := by
  have hl : (xs ++ [v]).length = xs.length + 1 := by simp
  have e : ixN (xs ++ [v]).length (-1) = some xs.length := by
    unfold ixN
    rw [hl, if_neg (by decide), if_pos (by omega)]
    congr 1
    omega
  unfold atI
  rw [e]
  show (xs ++ [v])[xs.length]? = some v
  simp

/-! ### what may be subscripted -/
/-- what stands as an index of a plain subscript -/
def PlainIx (b : Expr) : Prop := ∀ o i, subscripted b false o i = operate [o, i] (getItem o i)
/-- a subscript by values -/
def IxR (X : Cx) (r : R2) : Prop :=
  ∀ (value slice : Expr) (pins : List (Addr × Obj)) (s : Shared) (σ : St) (H : Hp) (x y : V) (v u : Value) (Q : VK), Inv X pins σ H s → RelV x v → RelV y u → r x y H Q →
    subscripted slice false v u = operate [v, u] (getItem v u) → wpAny (model X.prog X.w) X.A (subscriptTail value slice v u) (EP X pins σ Q) X.xe s
/-- a call of a builtin's method by values: the receiver, the arguments -/
def MtR (X : Cx) (id : String) (r : V → List V → Hp → VK → Prop) : Prop :=
  ∀ (pins : List (Addr × Obj)) (s : Shared) (σ : St) (H : Hp) (x : V) (xs : List V) (v : Value) (us : List Value) (Q : VK), Inv X pins σ H s → RelV x v → Vals xs us → r x xs H Q →
    wpAny (model X.prog X.w) X.A (call (.builtin id) (v :: us)) (EP X pins σ Q) X.xe s
section
variable {X : Cx} {a b : Expr} {ta tb : TE} {pos : Pos}
theorem IxR.or {r r' : R2} (h : IxR X r) (h' : IxR X r') : IxR X (fun x y H Q => r x y H Q ∨ r' x y H Q) := by
  intro value slice pins s σ H x y v u Q I rx ry q hs
  rcases q with q | q
  · exact h value slice pins s σ H x y v u Q I rx ry q hs
  · exact h' value slice pins s σ H x y v u Q I rx ry q hs
theorem MtR.or {id : String} {r r' : V → List V → Hp → VK → Prop} (h : MtR X id r) (h' : MtR X id r') : MtR X id (fun x xs H Q => r x xs H Q ∨ r' x xs H Q) := by
  intro pins s σ H x xs v us Q I rx rs q
  rcases q with q | q
  · exact h pins s σ H x xs v us Q I rx rs q
  · exact h' pins s σ H x xs v us Q I rx rs q
/-- a[b] -/
theorem pe_ix {r : R2} (hr : IxR X r) (ha : PE X a ta) (hb : PE X b tb) (hs : PlainIx b) : PE X (.Subscript a b pos) (tOp r ta tb) := by
  intro pins s σ H Q I h
  exact Subscript_ (binT ha hb I h fun v u s2 x y H2 I2 rx ry q => hr a b pins s2 σ H2 x y v u Q I2 rx ry q (hs _ _))

def rIxL (K : PySem.W.Frag) : R2 := fun x y H Q => ∃ p xs i v, x = .ref p ∧ y = .int i ∧ SqL K H p xs ∧ atI xs i = some v ∧ Q v H
def rIxT (K : PySem.W.Frag) : R2 := fun x y H Q => ∃ p xs i v, x = .ref p ∧ y = .int i ∧ SqT K H p xs ∧ atI xs i = some v ∧ Q v H
def rIxS : R2 := fun x y H Q => ∃ z i c, x = .str z ∧ y = .int i ∧ z.length ≤ sizeLine ∧ atI z.cps.toList i = some c ∧ Q (.str ⟨#[c]⟩) H
theorem ix_list : IxR X (rIxL X.K) := by
  intro value slice pins s σ H x y v u Q I rx ry h hs
  obtain ⟨p, xs, i, z, rfl, rfl, hq, he, q⟩ := h
  cases rx
  obtain ⟨t, rfl⟩ := ry
  obtain ⟨its, r, pl, hz⟩ := I.list hq
  obtain ⟨j, h1, h2, h3, h4, h5⟩ := atI_get he
  obtain ⟨w, ew, rw'⟩ := r.get h2
  have hl := r.length
  have hn := line63
  have fin : EP X pins σ Q w s := ⟨z, H, I, rw', q⟩
  by_cases h0 : 0 ≤ i
  · have hj : i.toNat = j := by
      rw [seqIndex_of h0 h5] at h1
      exact Option.some.inj h1
    exact item_listR pl.isList h0 (by omega) (by rw [hj]; simpa using ew) fin hs
  · have hj : (i + (its.toArray.size : Int)).toNat = j := by
      rw [seqIndex_neg (by omega) h4] at h1
      rw [List.size_toArray, ← hl]
      exact Option.some.inj h1
    exact subscriptTail_builtinR (x := w) pl.isList.typeIs slot_list_getitem.lookup
      (wpAny_getItem_list_neg (Q := fun r s' => r = w ∧ EP X pins σ Q r s') pl.isList (by omega) (by rw [List.size_toArray] <;> omega) (by omega) (by rw [hj]; simpa using ew) ⟨rfl, fin⟩) hs
theorem ix_tup : IxR X (rIxT X.K) := by
  intro value slice pins s σ H x y v u Q I rx ry h hs
  obtain ⟨p, xs, i, z, rfl, rfl, hq, he, q⟩ := h
  cases rx
  obtain ⟨t, rfl⟩ := ry
  obtain ⟨its, r, pl, hz⟩ := I.tuple hq
  obtain ⟨j, h1, h2, h3, h4, h5⟩ := atI_get he
  obtain ⟨w, ew, rw'⟩ := r.get h2
  have hl := r.length
  have hn := line63
  have fin : EP X pins σ Q w s := ⟨z, H, I, rw', q⟩
  exact subscriptTail_builtinR (x := w) pl.typeIs slot_tuple_getitem.lookup
    (getItem_tuple (j := j) (Q := fun r s' => r = w ∧ EP X pins σ Q r s') pl (by omega) (by omega) (by rw [List.size_toArray, ← hl]; exact h1) (by simpa using ew) ⟨rfl, fin⟩) hs
theorem ix_str : IxR X rIxS := by
  intro value slice pins s σ H x y v u Q I rx ry h hs
  obtain ⟨z, i, c, rfl, rfl, hz, he, q⟩ := h
  obtain ⟨t, rfl⟩ := rx
  obtain ⟨t', rfl⟩ := ry
  obtain ⟨j, h1, h2, h3, h4, h5⟩ := atI_get he
  have hl : z.cps.toList.length = z.length := by simp [Str.length]
  rw [hl] at h1 h4 h5
  have hn := line63
  exact tail_any (typeIs_str s z t) slot_str_getitem.lookup (getItem_str (c := c) (by
    have e1 : decide (i < -(2 ^ 63 : Int)) = false := decide_eq_false (by omega)
    have e2 : decide (i ≥ 2 ^ 63) = false := decide_eq_false (by omega)
    rw [e1, e2, Bool.or_false]) (by rw [h1]; simpa using h2) ⟨.str ⟨#[c]⟩, H, I.tok _, ⟨_, rfl⟩, q⟩) hs
/-- list, tuple or str -/
def rIx (K : PySem.W.Frag) : R2 := fun x y H Q => rIxL K x y H Q ∨ rIxT K x y H Q ∨ rIxS x y H Q
theorem ix_seq : IxR X (rIx X.K) := ix_list.or (ix_tup.or ix_str)

/-! ### xs[i] = v, any sign -/
/-- the list's object behind a store -/
theorem mapSeq_set (its : List Value) (n j : Nat) (u : Value) : Obj.mapSeq (·.setIfInBounds j u) { cls := .type "list", data := .seq its.toArray n } = { cls := .type "list", data := .seq (its.set j u).toArray n } := by
  simp [Obj.mapSeq]
theorem Inv.lst {pins : List (Addr × Obj)} {σ : St} {H : Hp} {s : Shared} {p : Addr} {xs : List V} (I : Inv X pins σ H s) (h : H p = some (.lst xs)) :
    ∃ (its : List Value) (n : Nat), Vals xs its ∧ s.heap.get? p = some { cls := .type "list", data := .seq its.toArray n } ∧ xs.length ≤ sizeLine := by
  obtain ⟨z, its, n, r, e⟩ := I.hok p _ h
  exact ⟨its, n, r, e, z⟩
/-- the list at p is written by an update of its object -/
theorem Inv.lstUpd {pins : List (Addr × Obj)} {σ : St} {H : Hp} {s : Shared} {p : Addr} {xs ys : List V} {its its' : List Value} {n n' : Nat} {f : Obj → Obj} (I : Inv X pins σ H s) (h : H p = some (.lst xs))
    (ho : s.heap.get? p = some { cls := .type "list", data := .seq its.toArray n }) (hf : f { cls := .type "list", data := .seq its.toArray n } = { cls := .type "list", data := .seq its'.toArray n' }) (r : Vals ys its') (hz : ys.length ≤ sizeLine) (t : Nat) :
    Inv X pins σ (upd H p (.lst ys)) { s with heap := s.heap.update p f, toks := t } := by
  have e : (s.heap.update p f).get? p = some { cls := .type "list", data := .seq its'.toArray n' } := by
    rw [Heap.get?_update_self f ho (by rw [hf] <;> rfl), hf]
  refine I.write (x := p) (e := p) (by rw [h]; trivial) (.inl rfl) (fun b u hb q => (Heap.get?_update_other _ _ (Ne.symm hb)).trans q) ⟨_, e⟩ ?_
  exact ⟨hz, its', n', r, e⟩
def rSetL : V → V → V → Hp → (Hp → Prop) → Prop := fun o i v H Q => ∃ p xs k j, o = .ref p ∧ i = .int k ∧ H p = some (.lst xs) ∧ ixN xs.length k = some j ∧ Q (upd H p (.lst (xs.set j v)))
theorem set_list : PSet X rSetL := by
  intro pins s σ H o i v ov iv u Q I ro ri rv h
  obtain ⟨p, xs, k, j, rfl, rfl, hp, hj, q⟩ := h
  cases ro
  obtain ⟨t, rfl⟩ := ri
  obtain ⟨its, n, r, ho, hz⟩ := I.lst hp
  obtain ⟨h1, h2, h3, h4⟩ := ixN_seq hj
  have hl := r.length
  have hn := line63
  have I' : Inv X pins σ (upd H p (.lst (xs.set j v))) { s with heap := s.heap.update p (Obj.mapSeq (·.setIfInBounds j u)) } :=
    I.lstUpd hp ho (mapSeq_set its n j u) (r.set rv j) (by rw [List.length_set]; exact hz) s.toks
  by_cases h0 : 0 ≤ k
  · have hk : k.toNat = j := by
      rw [seqIndex_of h0 h4] at h1
      exact Option.some.inj h1
    exact PySem.W.ki_setAt ho h0 (by omega) (by rw [List.size_toArray, ← hl]; exact h4) (by rw [hk]; exact ⟨_, I', q⟩)
  · have hk : (k + (its.toArray.size : Int)).toNat = j := by
      rw [seqIndex_neg (by omega) h3] at h1
      rw [List.size_toArray, ← hl]
      exact Option.some.inj h1
    exact PySem.W.ki_setBack ho (by omega) (by rw [List.size_toArray, ← hl]; exact h3) (by omega) (by rw [hk]; exact ⟨_, I', q⟩)

/-! ### slices -/
theorem slice_bounds (lo hi : Option Int) (n : Nat) : (sliceBounds lo hi none n).1 = ((HT.sIx n 0 lo : Nat) : Int) ∧ (sliceBounds lo hi none n).2.1 = ((HT.sIx n n hi : Nat) : Int) ∧ (sliceBounds lo hi none n).2.2 = 1 := by
  refine ⟨?_, ?_, rfl⟩
  · cases lo with
    | none => simp [sliceBounds, HT.sIx]
    | some i =>
      simp only [sliceBounds, HT.sIx, Option.getD_none, show (1 : Int) > 0 by decide, if_true]
      by_cases h : i < 0
      · simp only [h, if_true] <;> omega
      · simp only [h, if_false] <;> omega
  · cases hi with
    | none => simp [sliceBounds, HT.sIx]
    | some i =>
      simp only [sliceBounds, HT.sIx, Option.getD_none, show (1 : Int) > 0 by decide, if_true]
      by_cases h : i < 0
      · simp only [h, if_true] <;> omega
      · simp only [h, if_false] <;> omega
theorem slicePick_cut (its : List Value) (lo hi : Option Int) : slicePick its.toArray lo hi none = ((its.drop (HT.sIx its.length 0 lo)).take (HT.sIx its.length its.length hi - HT.sIx its.length 0 lo)).toArray := by
  obtain ⟨h1, h2, h3⟩ := slice_bounds lo hi its.toArray.size
  unfold slicePick
  rw [h1, h2, h3]
  simp only [sliceRange_one, pick_run, List.size_toArray] <;> rfl
/-- xs[lo:hi] of a list: a new list -/
def rSlL (K : PySem.W.Frag) : V → Option Int → Option Int → Hp → VK → Prop := fun x lo hi H Q => ∃ a xs, x = .ref a ∧ SqL K H a xs ∧ ∀ p, H p = none → Q (.ref p) (upd H p (.lst (cutV xs lo hi)))
theorem sl_list : SlR X (rSlL X.K) := by
  intro pins s σ H x v vl vu lo hi sl Q I rx hs pl pu h
  obtain ⟨a, xs, rfl, hx, q⟩ := h
  cases rx
  obtain ⟨its, r, ht, hz⟩ := I.list hx
  have hlen := r.length
  refine ⟨"list", _, slot_list_getitem.lookup, ht.isList.typeIs, ?_⟩
  refine wpAny_getItem_list_slice ht.isList hs pl pu .none (by simp) ?_ (by rw [List.size_toArray] <;> omega)
  rw [slicePick_cut, ← hlen]
  refine ⟨.ref s.heap.objs.size, _, I.laid (t' := s.toks) (o := .lst (cutV xs lo hi)) (fun b ob q => Heap.get?_push_of_some _ q) (Nat.le_refl _) ?_, rfl, q _ (I.hok.fresh (Nat.le_refl _))⟩
  exact ⟨Nat.le_trans (cutV_length xs lo hi) hz, _, 0, (r.drop (HT.sIx xs.length 0 lo)).take (HT.sIx xs.length xs.length hi - HT.sIx xs.length 0 lo), Heap.get?_push_size _ rfl⟩

/-! ### in, not in: flat items -/
def flatV : V → Bool
  | .non => true
  | .bl _ => true
  | .int _ => true
  | .str _ => true
  | _ => false
/-- == of flat values -/
def eqV : V → V → Bool
  | .non, .non => true
  | .bl a, .bl b => a == b
  | .bl a, .int b => (if a then 1 else 0) == b
  | .int a, .bl b => a == (if b then 1 else 0)
  | .int a, .int b => a == b
  | .str a, .str b => a == b
  | _, _ => false
theorem eqAt_V {A : Around} {s : Shared} {y x : V} {u v : Value} (ry : RelV y u) (rx : RelV x v) (fy : flatV y = true) (fx : flatV x = true) : SeqAt.EqAt A s u v (eqV y x) := by
  cases y with
  | non =>
    cases ry
    cases x with
    | non => cases rx; exact SeqAt.EqAt.same _
    | bl b => cases rx; exact SeqAt.EqAt.none_bool b
    | int b => obtain ⟨t, rfl⟩ := rx; exact SeqAt.EqAt.none_int b t
    | str b => obtain ⟨t, rfl⟩ := rx; exact SeqAt.EqAt.none_str b t
    | _ => exact absurd (show false = true from fx) Bool.false_ne_true
  | bl a =>
    cases ry
    cases x with
    | non => cases rx; exact SeqAt.EqAt.bool_none a
    | bl b => cases rx; exact SeqAt.EqAt.bool_bool a b
    | int b => obtain ⟨t, rfl⟩ := rx; exact SeqAt.EqAt.bool_int a b t
    | str b => obtain ⟨t, rfl⟩ := rx; exact SeqAt.EqAt.bool_str a b t
    | _ => exact absurd (show false = true from fx) Bool.false_ne_true
  | int a =>
    obtain ⟨t', rfl⟩ := ry
    cases x with
    | non => cases rx; exact SeqAt.EqAt.int_none a t'
    | bl b => cases rx; exact SeqAt.EqAt.int_bool a t' b
    | int b => obtain ⟨t, rfl⟩ := rx; exact SeqAt.EqAt.int_int a t' b t
    | str b => obtain ⟨t, rfl⟩ := rx; exact SeqAt.EqAt.int_str a t' b t
    | _ => exact absurd (show false = true from fx) Bool.false_ne_true
  | str a =>
    obtain ⟨t', rfl⟩ := ry
    cases x with
    | non => cases rx; exact SeqAt.EqAt.str_none a t'
    | bl b => cases rx; exact SeqAt.EqAt.str_bool a t' b
    | int b => obtain ⟨t, rfl⟩ := rx; exact SeqAt.EqAt.str_int a t' b t
    | str b => obtain ⟨t, rfl⟩ := rx; exact SeqAt.EqAt.str_str a t' b t
    | _ => exact absurd (show false = true from fx) Bool.false_ne_true
  | _ => exact absurd (show false = true from fy) Bool.false_ne_true
/-- the items' answers, read off the values (a value's own answer does not lean on its token) -/
def eqU (x : V) (u : Value) : Bool := match u with
  | .none => eqV .non x
  | .bool b => eqV (.bl b) x
  | .int i _ => eqV (.int i) x
  | .str z _ => eqV (.str z) x
  | _ => false
theorem eqU_of {x y : V} {u : Value} (r : RelV y u) (f : flatV y = true) : eqU x u = eqV y x := by
  cases y with
  | non => cases r; rfl
  | bl b => cases r; rfl
  | int i => obtain ⟨t, rfl⟩ := r; rfl
  | str z => obtain ⟨t, rfl⟩ := r; rfl
  | _ => exact absurd (show false = true from f) Bool.false_ne_true
theorem any_eqU {x : V} : ∀ {xs : List V} {us : List Value}, Vals xs us → xs.all flatV = true → us.any (eqU x) = xs.any fun y => eqV y x
  | _, _, .nil, _ => rfl
  | y :: xs, u :: us, .cons r t, f => by
    rw [List.all_cons, Bool.and_eq_true] at f
    rw [List.any_cons, List.any_cons, eqU_of r f.1, any_eqU t f.2]
theorem mem_eqAt {A : Around} {s : Shared} {x : V} {v : Value} (rx : RelV x v) (fx : flatV x = true) : ∀ {xs : List V} {us : List Value}, Vals xs us → xs.all flatV = true → ∀ u ∈ us, SeqAt.EqAt A s u v (eqU x u)
  | _, _, .nil, _ => fun u hu => by cases hu
  | y :: xs, u :: us, .cons r t, f => fun u' hu => by
    rw [List.all_cons, Bool.and_eq_true] at f
    rcases List.mem_cons.mp hu with rfl | hu
    · rw [eqU_of r f.1]; exact eqAt_V r rx f.1 fx
    · exact mem_eqAt rx fx t f.2 u' hu
def inV (x : V) (xs : List V) : Bool := xs.any fun y => eqV y x
/-- x in a list or tuple of flat items -/
def rIn (K : PySem.W.Frag) (neg : Bool) : R2 := fun x y H Q => ∃ p xs, y = .ref p ∧ (SqL K H p xs ∨ SqT K H p xs) ∧ flatV x = true ∧ xs.all flatV = true ∧ Q (.bl (if neg then !inV x xs else inV x xs)) H
theorem op_in_seq : OpR X (compareOp .In) (rIn X.K false) := by
  intro pins s σ H x y v u Q I rx ry h
  obtain ⟨p, xs, rfl, hq, fx, fs, q⟩ := h
  cases ry
  rcases hq with hq | hq
  · obtain ⟨its, r, pl, hz⟩ := I.list hq
    refine SeqAt.in_listAt (eqU x) pl.isList (fun w hw => mem_eqAt rx fx r fs w (by simpa using hw)) ⟨.bl _, H, I, rfl, ?_⟩
    rw [show its.toArray.any (eqU x) = its.any (eqU x) by simp, any_eqU r fs]
    exact q
  · obtain ⟨its, r, pl, hz⟩ := I.tuple hq
    refine SeqAt.in_tupleAt (eqU x) pl (fun w hw => mem_eqAt rx fx r fs w (by simpa using hw)) ⟨.bl _, H, I, rfl, ?_⟩
    rw [show its.toArray.any (eqU x) = its.any (eqU x) by simp, any_eqU r fs]
    exact q
theorem op_notIn_seq : OpR X (compareOp .NotIn) (rIn X.K true) := by
  intro pins s σ H x y v u Q I rx ry h
  obtain ⟨p, xs, rfl, hq, fx, fs, q⟩ := h
  cases ry
  rcases hq with hq | hq
  · obtain ⟨its, r, pl, hz⟩ := I.list hq
    refine SeqAt.notIn_listAt (eqU x) pl.isList (fun w hw => mem_eqAt rx fx r fs w (by simpa using hw)) ⟨.bl _, H, I, rfl, ?_⟩
    rw [show its.toArray.any (eqU x) = its.any (eqU x) by simp, any_eqU r fs]
    exact q
  · obtain ⟨its, r, pl, hz⟩ := I.tuple hq
    refine SeqAt.notIn_tupleAt (eqU x) pl (fun w hw => mem_eqAt rx fx r fs w (by simpa using hw)) ⟨.bl _, H, I, rfl, ?_⟩
    rw [show its.toArray.any (eqU x) = its.any (eqU x) by simp, any_eqU r fs]
    exact q
theorem op_notIn_str : OpR X (compareOp .NotIn) (fun x y H Q => ∃ i j, x = .str i ∧ y = .str j ∧ Q (.bl (!(!(Builtin.Str.occurrences j i 0 j.length 1).isEmpty))) H) := by
  intro pins s σ H x y v u Q I rx ry h
  obtain ⟨i, j, rfl, rfl, q⟩ := h
  obtain ⟨t, rfl⟩ := rx
  obtain ⟨t', rfl⟩ := ry
  exact notIn_str ⟨.bl _, H, I, rfl, q⟩

/-! ### len, list(x), tuple(x) of any list or tuple that is read -/
theorem call_len_seq : CallR X (.builtin "len") (fun xs H Q => ∃ p ys, xs = [.ref p] ∧ (SqL X.K H p ys ∨ SqT X.K H p ys) ∧ Q (.int ys.length) H) := by
  intro pins s σ H xs us Q I r h
  obtain ⟨p, ys, rfl, hq, q⟩ := h
  obtain ⟨u, rfl, rx⟩ := vals1 r
  cases rx
  have hn := line63
  rcases hq with hq | hq
  · obtain ⟨its, r', pl, hz⟩ := I.list hq
    have hlen := r'.length
    exact Calls.call_len_list pl.isList (by simp only [List.size_toArray] <;> omega) ⟨.int ys.length, H, I.tok _, ⟨s.toks + 1, by rw [List.size_toArray, hlen]⟩, q⟩
  · obtain ⟨its, r', pl, hz⟩ := I.tuple hq
    have hlen := r'.length
    exact len_tuple pl (by simp only [List.size_toArray] <;> omega) ⟨.int ys.length, H, I.tok _, ⟨s.toks + 1, by rw [List.size_toArray, hlen]⟩, q⟩
theorem call_len_str : CallR X (.builtin "len") (fun xs H Q => ∃ z, xs = [.str z] ∧ z.length ≤ sizeLine ∧ Q (.int z.length) H) := by
  intro pins s σ H xs us Q I r h
  obtain ⟨z, rfl, hz, q⟩ := h
  obtain ⟨u, rfl, t, rfl⟩ := vals1 r
  have hn := line63
  exact len_str (by omega) ⟨.int z.length, H, I.tok _, ⟨_, rfl⟩, q⟩
theorem CallR.or {f : Value} {r r' : List V → Hp → VK → Prop} (h : CallR X f r) (h' : CallR X f r') : CallR X f (fun xs H Q => r xs H Q ∨ r' xs H Q) := by
  intro pins s σ H xs us Q I rs q
  rcases q with q | q
  · exact h pins s σ H xs us Q I rs q
  · exact h' pins s σ H xs us Q I rs q
theorem call_list_of : CallR X (.type "list") (fun xs H Q => ∃ p ys, xs = [.ref p] ∧ (SqL X.K H p ys ∨ SqT X.K H p ys) ∧ ∀ l, H l = none → Q (.ref l) (upd H l (.lst ys))) := by
  intro pins s σ H xs us Q I r h
  obtain ⟨p, ys, rfl, hq, q⟩ := h
  obtain ⟨u, rfl, rx⟩ := vals1 r
  cases rx
  have fin : ∀ (its : List Value), Vals ys its → ys.length ≤ sizeLine → ∀ (h' : Heap) (c' : Nat), (∀ b o', s.heap.get? b = some o' → h'.get? b = some o') →
      h'.get? s.heap.objs.size = some { cls := .type "list", dict := none, data := .seq its.toArray c', slots := #[] } → EP X pins σ Q (.ref s.heap.objs.size) { s with heap := h' } := fun its r' hz h' c' kp e =>
    ⟨.ref s.heap.objs.size, _, I.laid (t' := s.toks) kp (Nat.le_refl _) (show ObjOk X.prog X.w _ h' _ (.lst ys) from ⟨hz, its, c', r', e⟩), rfl, q _ (I.hok.fresh (Nat.le_refl _))⟩
  rcases hq with hq | hq
  · obtain ⟨its, r', pl, hz⟩ := I.list hq
    have hlen := r'.length
    obtain ⟨o, ho, hc, n, hd⟩ := pl.isList
    exact call_list_seq p (.inl rfl) ho hc hd (fun h' c' kp e => fin its r' hz h' c' kp e) (by simp only [List.size_toArray] <;> omega)
  · obtain ⟨its, r', pl, hz⟩ := I.tuple hq
    have hlen := r'.length
    obtain ⟨o, ho, hc, n, hd⟩ := pl
    exact call_list_seq p (.inr rfl) ho hc hd (fun h' c' kp e => fin its r' hz h' c' kp e) (by simp only [List.size_toArray] <;> omega)
theorem call_tuple_of : CallR X (.type "tuple") (fun xs H Q => ∃ p ys, xs = [.ref p] ∧ ((SqL X.K H p ys ∧ ∀ l, H l = none → Q (.ref l) (upd H l (.tup ys))) ∨ (SqT X.K H p ys ∧ Q (.ref p) H))) := by
  intro pins s σ H xs us Q I r h
  obtain ⟨p, ys, rfl, h⟩ := h
  obtain ⟨u, rfl, rx⟩ := vals1 r
  cases rx
  rcases h with ⟨hq, q⟩ | ⟨hq, q⟩
  · obtain ⟨its, r', pl, hz⟩ := I.list hq
    have hlen := r'.length
    refine call_tuple_list pl.isList (fun h' kp => ?_) (by simp only [List.size_toArray] <;> omega)
    have I1 : Inv X pins σ H { s with heap := h' } := I.kept (t' := s.toks) kp
    have I2 : Inv X pins σ (upd H h'.objs.size (.tup ys)) { s with heap := h'.push { cls := .type "tuple", data := .seq its.toArray } } :=
      I1.laid (t' := s.toks) (fun b o e => Heap.get?_push_of_some _ e) (Nat.le_refl _) (show ObjOk X.prog X.w _ _ _ (.tup ys) from ⟨hz, its, r', IsTup.new _ _⟩)
    exact ⟨.ref h'.objs.size, _, I2, rfl, q _ (I1.hok.fresh (Nat.le_refl _))⟩
  · obtain ⟨its, r', pl, hz⟩ := I.tuple hq
    exact call_tuple_same pl ⟨.ref p, H, I, rfl, q⟩

/-! ### the call of a builtin's method: o.m(..) -/
/-- the value is of that builtin type -/
def tyV (K : PySem.W.Frag) (T : String) (x : V) (H : Hp) : Prop := match x with
  | .str _ => T = "str"
  | .int _ => T = "int"
  | .ref p => (T = "list" ∧ ∃ xs, SqL K H p xs) ∨ (T = "tuple" ∧ ∃ o, K.lookup p = some o ∧ o.cls = .type "tuple" ∧ o.dict = none) ∨
      (T = "dict" ∧ ((∃ kvs, H p = some (.dK kvs)) ∨ ∃ kvs, H p = some (.dT kvs))) ∨ (T = "set" ∧ ∃ S n, H p = some (.set S n))
  | _ => False
theorem tyV_is {pins : List (Addr × Obj)} {σ : St} {H : Hp} {s : Shared} {T : String} {x : V} {v : Value} (I : Inv X pins σ H s) (r : RelV x v) (ty : tyV X.K T x H) :
    s.TypeIs v T ∧ ∀ a, v = .ref a → ∃ ob, s.heap.get? a = some ob ∧ ob.dict = none := by
  cases x with
  | str z =>
    obtain ⟨t, rfl⟩ := r
    cases (show T = "str" from ty)
    exact ⟨typeIs_str s z t, fun _ e => nomatch e⟩
  | int i =>
    obtain ⟨t, rfl⟩ := r
    cases (show T = "int" from ty)
    exact ⟨typeIs_int s i t, fun _ e => nomatch e⟩
  | ref p =>
    cases r
    rcases ty with ⟨rfl, xs, hq⟩ | ⟨rfl, o, hk, hc, hd⟩ | ⟨rfl, hk⟩ | ⟨rfl, S, n, hk⟩
    · obtain ⟨its, _, pl, _⟩ := I.list hq
      refine ⟨pl.isList.typeIs, fun a e => ?_⟩
      cases e
      obtain ⟨o, n, e, c, hd, _⟩ := pl
      exact ⟨o, e, hd⟩
    · refine ⟨⟨o, I.kIn p o hk, hc⟩, fun a e => ?_⟩
      cases e
      exact ⟨o, I.kIn _ o hk, hd⟩
    · have z : ∃ o, s.heap.get? p = some o ∧ o.ExactDict := by
        rcases hk with ⟨kvs, hk⟩ | ⟨kvs, hk⟩
        · obtain ⟨_, _, _, _, o, _, _, e, ex, _⟩ := I.hok p _ hk
          exact ⟨o, e, ex⟩
        · obtain ⟨_, _, _, _, o, _, _, e, ex, _⟩ := I.hok p _ hk
          exact ⟨o, e, ex⟩
      obtain ⟨o, e, ex⟩ := z
      refine ⟨⟨o, e, ex.1⟩, fun a e2 => ?_⟩
      cases e2
      exact ⟨o, e, ex.2.1⟩
    · obtain ⟨o, _, _, _, e, ex, _⟩ := I.hok p _ hk
      refine ⟨⟨o, e, ex.1⟩, fun a e2 => ?_⟩
      cases e2
      exact ⟨o, e, ex.2.1⟩
  | _ => exact False.elim ty
def tBM0 (K : PySem.W.Frag) (T : String) (r : V → List V → Hp → VK → Prop) (to : TE) : TE := fun σ H Q => to σ H fun x H1 => tyV K T x H1 ∧ r x [] H1 Q
def tBM (K : PySem.W.Frag) (T : String) (r : V → List V → Hp → VK → Prop) (to : TE) (t : TA) : TE := fun σ H Q => to σ H fun x H1 => tyV K T x H1 ∧ t σ H1 fun xs H2 => r x xs H2 Q
variable {o e : Expr} {es : List Expr} {to : TE} {t : TA} {name : Str} {apos cpos : Pos} {T id : String} {r : V → List V → Hp → VK → Prop}
theorem pe_bm0 (pa : PlainAttrs T) (slot : Slot T name id) (hty : typeOf (.builtin id) = pure (.type "method_descriptor")) (hm : MtR X id r) (ho : PE X o to)
    (hbase : attributeBase o name X.env (eval o X.env) = eval o X.env := by rfl) (hline : (apos.endLine == cpos.line) = true := by rfl) : PE X (.Call (.Attribute o name apos) [] [] cpos) (tBM0 X.K T r to) := by
  intro pins s σ H Q I h
  refine wpAny_Call_method0_late hbase hline (thn (ho pins s σ H _ I h) fun v s1 ⟨x, H1, I1, r1, ty, q1⟩ => ?_)
  obtain ⟨h1, h2⟩ := tyV_is I1 r1 ty
  exact ⟨T, id, pa, slot, hty, h1, h2, Calls.callWith_builtin rfl (PySem.evalArgs_none (hm pins s1 σ H1 x [] v [] Q I1 r1 .nil q1))⟩
theorem pe_bm (pa : PlainAttrs T) (slot : Slot T name id) (hty : typeOf (.builtin id) = pure (.type "method_descriptor")) (hm : MtR X id r) (ho : PE X o to) (ha : PA X (e :: es) t)
    (hbase : attributeBase o name X.env (eval o X.env) = eval o X.env := by rfl)
    (hfew : ((backTo cpos (starEach (e :: es) X.env)).all (fun x => !x.1) && (backToKw cpos (keywordEach [] X.env)).all (fun x => x.1.isSome)
      && decide ((e :: es).length + ([] : List Keyword).length + (if ([] : List Keyword).isEmpty then 0 else 1) < 30)) = true := by rfl)
    (hline : (apos.endLine == cpos.line) = true := by rfl) (hs : starEach (e :: es) X.env = (false, eval e X.env) :: starEach es X.env := by rfl) (hplain : (backTo cpos (starEach es X.env)).any (·.1) = false := by rfl) :
    PE X (.Call (.Attribute o name apos) (e :: es) [] cpos) (tBM X.K T r to t) := by
  intro pins s σ H Q I h
  refine wpAny_Call_method_late hbase hfew hline rfl (thn (ho pins s σ H _ I h) fun v s1 ⟨x, H1, I1, r1, ty, q1⟩ => ?_)
  obtain ⟨h1, h2⟩ := tyV_is I1 r1 ty
  refine ⟨T, id, pa, slot, hty, h1, h2, ?_⟩
  have hA := ha cpos pins s1 σ H1 _ I1 q1
  rw [hs] at hA ⊢
  refine Calls.callWith_builtin (by show (false || (backTo cpos (starEach es X.env)).any (·.1)) = false; rw [hplain] <;> rfl) (Calls.evalArgs_plain ?_)
  exact thn hA fun us s2 ⟨vs, H2, I2, r2, q2⟩ => hm pins s2 σ H2 x vs v us Q I2 r1 r2 q2
/- xs.append(e), list.index on a module's tuple .. are MtR facts of 06m -/
end
end L2

namespace L2
open PySem PySem.Spec PyProof.Rows

def MtM (X : Cx) (id : String) (r : V → List V → Hp → VK → Prop) : Prop :=
  ∀ (pins : List (Addr × Obj)) (s : Shared) (σ : St) (H : Hp) (x : V) (xs : List V) (v : Value) (us : List Value) (Q : VK), Inv X pins σ H s → RelV x v → Vals xs us → r x xs H Q →
    wpAny (model X.prog X.w) X.A (call (.builtin id) (v :: us)) (EP X pins σ Q) X.xe s

/-! ### lists of values -/
theorem Vals.one : ∀ {x : V} {us : List Value}, Vals [x] us → ∃ u, us = [u] ∧ RelV x u
  | _, _, .cons r .nil => ⟨_, rfl, r⟩
theorem Vals.two : ∀ {x y : V} {us : List Value}, Vals [x, y] us → ∃ u v, us = [u, v] ∧ RelV x u ∧ RelV y v
  | _, _, _, .cons r (.cons q .nil) => ⟨_, _, rfl, r, q⟩
theorem Vals.zero : ∀ {us : List Value}, Vals [] us → us = []
  | _, .nil => rfl
theorem Vals.dropLast {xs : List V} {us : List Value} (h : Vals xs us) : Vals xs.dropLast us.dropLast := by
  induction h with
  | nil => exact .nil
  | cons r t ih =>
    cases t with
    | nil => exact .nil
    | cons q t' => exact .cons r ih
theorem Vals.eraseIdx : ∀ {xs : List V} {us : List Value} (i : Nat), Vals xs us → Vals (xs.eraseIdx i) (us.eraseIdx i)
  | _, _, _, .nil => .nil
  | _, _, 0, .cons _ t => t
  | _, _, i + 1, .cons r t => .cons r (Vals.eraseIdx i t)
theorem Vals.reverse {xs : List V} {us : List Value} (h : Vals xs us) : Vals xs.reverse us.reverse := by
  induction h with
  | nil => exact .nil
  | cons r t ih => rw [List.reverse_cons, List.reverse_cons]; exact Vals.append ih (.cons r .nil)
theorem Vals.rep {xs : List V} {us : List Value} (h : Vals xs us) : ∀ k : Nat, Vals (List.replicate k xs).flatten (List.replicate k us).flatten
  | 0 => .nil
  | k + 1 => by
    rw [List.replicate_succ, List.replicate_succ, List.flatten_cons, List.flatten_cons]
    exact Vals.append h (Vals.rep h k)
theorem erase_last {α : Type} (l : List α) : l.eraseIdx (l.length - 1) = l.dropLast := by
  induction l with
  | nil => rfl
  | cons a r ih =>
    cases r with
    | nil => rfl
    | cons b r =>
      have e : (a :: b :: r).length - 1 = ((b :: r).length - 1) + 1 := by
        have h1 : (a :: b :: r).length = r.length + 2 := rfl
        have h2 : (b :: r).length = r.length + 1 := rfl
        omega
      rw [e, List.eraseIdx_cons_succ, ih]
      all_goals rfl
theorem len_erase {α : Type} : ∀ (l : List α) (i : Nat), (l.eraseIdx i).length ≤ l.length
  | [], _ => Nat.le_refl _
  | _ :: _, 0 => Nat.le_succ _
  | _ :: r, i + 1 => Nat.succ_le_succ (len_erase r i)
theorem foldl_rep (its : List Value) : ∀ (k : Nat) (acc : List Value),
    List.foldl (fun x1 x2 => x1 ++ x2) acc.toArray (List.replicate k its.toArray) = (acc ++ (List.replicate k its).flatten).toArray
  | 0, acc => by simp
  | k + 1, acc => by
    have e : acc.toArray ++ its.toArray = (acc ++ its).toArray := by simp
    have e2 : (acc ++ its) ++ (List.replicate k its).flatten = acc ++ (List.replicate (k + 1) its).flatten := by
      rw [List.replicate_succ, List.flatten_cons, List.append_assoc]
    rw [← e2, ← foldl_rep its k (acc ++ its), ← e, List.replicate_succ, List.foldl_cons]

section
variable {X : Cx} {pins : List (Addr × Obj)} {σ : St} {H : Hp} {s : Shared} {l b : Addr} {xs ys zs : List V}

/-! ### the two steps: a tracked list is rewritten, a new list is laid -/
theorem Inv.lset {its its' : List Value} {n : Nat} {f : Array Value → Array Value} {t' : Nat} (I : Inv X pins σ H s) (hH : H l = some (.lst xs))
    (e : s.heap.get? l = some { cls := .type "list", data := .seq its.toArray n }) (hf : f its.toArray = its'.toArray) (hv : Vals ys its') (hz : ys.length ≤ sizeLine) :
    Inv X pins σ (upd H l (.lst ys)) { s with heap := s.heap.update l (Obj.mapSeq f), toks := t' } := by
  have q := PySem.IsL.update e f
  rw [hf] at q
  refine I.write (x := l) (e := l) (by rw [hH]; exact trivial) (.inl rfl) (fun b' u hb hu => (Heap.get?_update_other s.heap (Obj.mapSeq f) (Ne.symm hb)).trans hu) ⟨_, q⟩ ?_
  exact ⟨hz, its', _, hv, q⟩
theorem Inv.lnew {its : List Value} {t' : Nat} (I : Inv X pins σ H s) (hv : Vals ys its) (hz : ys.length ≤ sizeLine) :
    Inv X pins σ (upd H s.heap.objs.size (.lst ys)) { s with heap := s.heap.push { cls := .type "list", data := .seq its.toArray }, toks := t' } :=
  I.laid (fun _ _ q => Heap.get?_push_of_some _ q) (Nat.le_refl _) ⟨hz, its, 0, hv, Heap.get?_push_size _ rfl⟩
theorem Inv.fresh (I : Inv X pins σ H s) : H s.heap.objs.size = none := I.hok.fresh (Nat.le_refl _)
theorem Inv.lstM (I : Inv X pins σ H s) (hH : H l = some (.lst xs)) : xs.length ≤ sizeLine ∧ ∃ (its : List Value) (n : Nat), Vals xs its ∧ xs.length = its.length ∧ s.heap.get? l = some { cls := .type "list", data := .seq its.toArray n } := by
  obtain ⟨z, its, n, r, e⟩ := I.hok l _ hH
  exact ⟨z, its, n, r, r.length, e⟩

theorem notLongL {n : Nat} (h : n ≤ sizeLine) : Builtin.List.listTooLong n = false := by
  unfold Builtin.List.listTooLong
  exact decide_eq_false (by omega)
end

section
variable {X : Cx}

/-! ### methods -/
def rAppend : V → List V → Hp → VK → Prop := fun x vs H Q => ∃ l xs y, x = .ref l ∧ vs = [y] ∧ H l = some (.lst xs) ∧ xs.length < sizeLine ∧ Q .non (upd H l (.lst (xs ++ [y])))
theorem mt_append : MtM X "list.append" rAppend := by
  intro pins s σ H x vs v us Q I rx rv h
  obtain ⟨l, xs, y, rfl, rfl, hH, hz, q⟩ := h
  cases rx
  obtain ⟨u, rfl, ru⟩ := rv.one
  obtain ⟨z, its, n, r, hl, e⟩ := I.lstM hH
  refine call_meets F.slot_list_append ⟨_, e, rfl⟩ F.entry_list_append (F.args_list_append_2 _ _) (PySem.list_append l its.toArray n u (by rw [List.size_toArray]; omega)) ⟨e, ?_⟩
  refine ⟨.non, _, I.lset (its' := its ++ [u]) hH e (by simp) (r.append (.cons ru .nil)) ?_, rfl, q⟩
  rw [List.length_append, List.length_singleton]
  omega

def rExtend : V → List V → Hp → VK → Prop := fun x vs H Q => ∃ l b xs zs, x = .ref l ∧ vs = [.ref b] ∧ H l = some (.lst xs) ∧ H b = some (.lst zs) ∧ xs.length + zs.length ≤ sizeLine ∧ Q .non (upd H l (.lst (xs ++ zs)))
theorem mt_extend : MtM X "list.extend" rExtend := by
  intro pins s σ H x vs v us Q I rx rv h
  obtain ⟨l, b, xs, zs, rfl, rfl, hH, hB, hz, q⟩ := h
  cases rx
  obtain ⟨u, rfl, ru⟩ := rv.one
  cases ru
  obtain ⟨z, its, n, r, hl, e⟩ := I.lstM hH
  obtain ⟨z2, its2, n2, r2, hl2, e2⟩ := I.lstM hB
  have hsz : its.toArray.size + its2.toArray.size ≤ sizeLine := by rw [List.size_toArray, List.size_toArray]; omega
  have hlong : ¬ (!its.toArray.isEmpty && Builtin.List.listTooLong (its.toArray.size + its2.toArray.size)) = true := by
    rw [notLongL hsz, Bool.and_false]
    exact Bool.false_ne_true
  refine call_meets F.slot_list_extend ⟨_, e, rfl⟩ F.entry_list_extend (F.args_list_extend_2 _ _)
    (AutoSeq1.list_extend_list_list_0 l its.toArray n b its2.toArray n2 hlong (by rw [List.size_toArray]; omega) (by omega)) ⟨e, e2, ?_⟩
  refine ⟨.non, _, I.lset (its' := its ++ its2) hH e (by simp) (r.append r2) ?_, rfl, q⟩
  rw [List.length_append]
  omega

def rPop : V → List V → Hp → VK → Prop := fun x vs H Q => ∃ l xs y, x = .ref l ∧ vs = [] ∧ H l = some (.lst xs) ∧ xs[xs.length - 1]? = some y ∧ Q y (upd H l (.lst xs.dropLast))
theorem mt_pop : MtM X "list.pop" rPop := by
  intro pins s σ H x vs v us Q I rx rv h
  obtain ⟨l, xs, y, rfl, rfl, hH, hy, q⟩ := h
  cases rx
  have hus := rv.zero
  subst hus
  obtain ⟨z, its, n, r, hl, e⟩ := I.lstM hH
  obtain ⟨u, hu, ru⟩ := r.get hy
  have hy' : its.toArray[its.toArray.size - 1]? = some u := by
    show its.toArray[its.length - 1]? = some u
    rw [← Array.getElem?_toList, ← hl]
    exact hu
  refine call_meets F.slot_list_pop ⟨_, e, rfl⟩ F.entry_list_pop (F.args_list_pop_1 _) (MeetsSeq.list_pop_last l its.toArray n u hy' (by rw [List.size_toArray]; omega)) ⟨e, ?_⟩
  refine ⟨y, _, I.lset (its' := its.dropLast) hH e ?_ r.dropLast ?_, ru, q⟩
  · show its.toArray.eraseIdxIfInBounds (its.toArray.size - 1) = its.dropLast.toArray
    rw [List.size_toArray, List.eraseIdxIfInBounds_toArray, erase_last]
  · rw [List.length_dropLast]
    omega

def rPopAt : V → List V → Hp → VK → Prop := fun x vs H Q => ∃ l xs i k y, x = .ref l ∧ vs = [.int i] ∧ H l = some (.lst xs) ∧ -(2 ^ 63) ≤ i ∧ i < 2 ^ 63 ∧ seqIndex? i xs.length = some k ∧ xs[k]? = some y ∧ Q y (upd H l (.lst (xs.eraseIdx k)))
theorem mt_popAt : MtM X "list.pop" rPopAt := by
  intro pins s σ H x vs v us Q I rx rv h
  obtain ⟨l, xs, i, k, y, rfl, rfl, hH, h1, h2, hk, hy, q⟩ := h
  cases rx
  obtain ⟨u, rfl, ru⟩ := rv.one
  obtain ⟨t, rfl⟩ := ru
  obtain ⟨z, its, n, r, hl, e⟩ := I.lstM hH
  obtain ⟨w, hw, rw'⟩ := r.get hy
  refine call_meets F.slot_list_pop ⟨_, e, rfl⟩ F.entry_list_pop (F.args_list_pop_2 _ _)
    (MeetsSeq.list_pop_at l its.toArray n i t k w (fitsIndex_both h1 h2) (by rw [List.size_toArray, ← hl]; exact hk) (by rw [← Array.getElem?_toList]; exact hw) (by rw [List.size_toArray]; omega)) ⟨e, ?_⟩
  refine ⟨y, _, I.lset (its' := its.eraseIdx k) hH e ?_ (r.eraseIdx k) ?_, rw', q⟩
  · show its.toArray.eraseIdxIfInBounds k = (its.eraseIdx k).toArray
    rw [List.eraseIdxIfInBounds_toArray]
  · have := len_erase xs k
    omega

def rReverse : V → List V → Hp → VK → Prop := fun x vs H Q => ∃ l xs, x = .ref l ∧ vs = [] ∧ H l = some (.lst xs) ∧ Q .non (upd H l (.lst xs.reverse))
theorem mt_reverse : MtM X "list.reverse" rReverse := by
  intro pins s σ H x vs v us Q I rx rv h
  obtain ⟨l, xs, rfl, rfl, hH, q⟩ := h
  cases rx
  have hus := rv.zero
  subst hus
  obtain ⟨z, its, n, r, hl, e⟩ := I.lstM hH
  refine call_meets F.slot_list_reverse ⟨_, e, rfl⟩ F.entry_list_reverse (F.args_list_reverse_1 _) (AutoSeq1.list_reverse_list_0 l its.toArray n (by rw [List.size_toArray]; omega)) ⟨e, ?_⟩
  refine ⟨.non, _, I.lset (its' := its.reverse) hH e (by simp) r.reverse ?_, rfl, q⟩
  rw [List.length_reverse]
  omega

def rClear : V → List V → Hp → VK → Prop := fun x vs H Q => ∃ l xs, x = .ref l ∧ vs = [] ∧ H l = some (.lst xs) ∧ Q .non (upd H l (.lst []))
theorem mt_clear : MtM X "list.clear" rClear := by
  intro pins s σ H x vs v us Q I rx rv h
  obtain ⟨l, xs, rfl, rfl, hH, q⟩ := h
  cases rx
  have hus := rv.zero
  subst hus
  obtain ⟨z, its, n, r, hl, e⟩ := I.lstM hH
  refine call_meets F.slot_list_clear ⟨_, e, rfl⟩ F.entry_list_clear (F.args_list_clear_1 _) (AutoSeq1.list_clear_list_0 l its.toArray n (by rw [List.size_toArray]; omega)) ⟨e, ?_⟩
  exact ⟨.non, _, I.lset (its' := []) (ys := []) hH e rfl .nil (Nat.zero_le _), rfl, q⟩

/-! ### list + list, list += list, list * int -/
def rCat : R2 := fun x y H Q => ∃ l b xs zs, x = .ref l ∧ y = .ref b ∧ H l = some (.lst xs) ∧ H b = some (.lst zs) ∧ xs.length + zs.length ≤ sizeLine ∧ ∀ p, H p = none → Q (.ref p) (upd H p (.lst (xs ++ zs)))
theorem op_cat : OpR X (binaryOp .Add) rCat := by
  intro pins s σ H x y v u Q I rx ry h
  obtain ⟨l, b, xs, zs, rfl, rfl, hH, hB, hz, q⟩ := h
  cases rx
  cases ry
  obtain ⟨z, its, n, r, hl, e⟩ := I.lstM hH
  obtain ⟨z2, its2, n2, r2, hl2, e2⟩ := I.lstM hB
  refine PySem.P.add_list e e2 ?_ (by rw [List.size_toArray, List.size_toArray]; omega)
  have ea : its.toArray ++ its2.toArray = (its ++ its2).toArray := by simp
  rw [ea]
  exact ⟨.ref _, _, I.lnew (t' := s.toks) (r.append r2) (by rw [List.length_append]; omega), rfl, q _ I.fresh⟩
/-- a list times an int (a negative one is nothing) -/
def rRep : R2 := fun x y H Q => ∃ l k xs, x = .ref l ∧ y = .int k ∧ H l = some (.lst xs) ∧ -(2 ^ 63) ≤ k ∧ k < 2 ^ 63 ∧ xs.length * k.toNat ≤ sizeLine ∧
  ∀ p, H p = none → Q (.ref p) (upd H p (.lst (List.replicate k.toNat xs).flatten))
theorem len_rep {α : Type} (xs : List α) (k : Nat) : (List.replicate k xs).flatten.length = k * xs.length := by
  induction k with
  | zero => simp
  | succ k ih => rw [List.replicate_succ, List.flatten_cons, List.length_append, ih, Nat.succ_mul, Nat.add_comm]
theorem op_rep : OpR X (binaryOp .Mult) rRep := by
  intro pins s σ H x y v u Q I rx ry h
  obtain ⟨l, k, xs, rfl, rfl, hH, h1, h2, hz, q⟩ := h
  cases rx
  obtain ⟨t, rfl⟩ := ry
  obtain ⟨z, its, n, r, hl, e⟩ := I.lstM hH
  have hlen : its.toArray.size * k.toNat ≤ sizeLine := by rw [List.size_toArray, ← hl]; exact hz
  have hcap : ¬ its.toArray.size * k.toNat > (2 ^ 63 - 1) / 8 := by
    have : (sizeLine : Nat) ≤ (2 ^ 63 - 1) / 8 := by decide
    omega
  have hfit : ¬ (!Builtin.List.listFitsIndex k) = true := by
    rw [fitsIndex_both h1 h2]
    exact Bool.false_ne_true
  have hlong : ¬ Builtin.List.listTooLong (its.toArray.size * k.toNat) = true := by
    rw [notLongL hlen]
    exact Bool.false_ne_true
  have hnew : List.foldl (fun x1 x2 => x1 ++ x2) #[] (List.replicate (if its.toArray.isEmpty = true then 0 else k.toNat) its.toArray) = (List.replicate k.toNat its).flatten.toArray := by
    have f0 : ∀ m : Nat, List.foldl (fun x1 x2 => x1 ++ x2) #[] (List.replicate m its.toArray) = (List.replicate m its).flatten.toArray := fun m => by
      have := foldl_rep its m []
      rw [List.nil_append] at this
      exact this
    rw [f0]
    cases its with
    | nil => simp
    | cons a r' => rw [if_neg (by simp)]
  refine wpAny_binaryOp_repeat_ref (T := "list") (U := "int") (by decide) ⟨_, e, rfl⟩ (fun s' => typeIs_int s' k t) noFill_list_mul F.fills_int_mul F.slot_int_rmul repeat_list F.slot_int_index.lookup
    (call_meets F.slot_int_rmul (typeIs_int s k t) F.entry_int_rmul (F.args_int_rmul_2 _ _) (int___rmul___int_list k t l its.toArray n)
      ⟨e, rfl, ⟨_, e, rfl⟩, call_meets F.slot_list_mul ⟨_, e, rfl⟩ F.entry_list_mul (F.args_list_mul_2 _ _) (AutoListH.list___mul___list_int_3 l its.toArray n k t hfit hcap hlong) ⟨e, ?_⟩⟩)
  rw [hnew]
  exact ⟨.ref _, _, I.lnew (t' := s.toks) (r.rep k.toNat) (by rw [len_rep, Nat.mul_comm]; exact hz), rfl, q _ I.fresh⟩

/-! ### del xs[i] -/
theorem del_list {pins : List (Addr × Obj)} {s : Shared} {σ : St} {H : Hp} {l : Addr} {xs : List V} {i : Int} {t : Tok} {k : Nat} {Q : Unit → Shared → Prop} (I : Inv X pins σ H s) (hH : H l = some (.lst xs))
    (h1 : -(2 ^ 63) ≤ i) (h2 : i < 2 ^ 63) (hk : seqIndex? i xs.length = some k) (h : ∀ s', Inv X pins σ (upd H l (.lst (xs.eraseIdx k))) s' → Q () s') :
    wpAny (model X.prog X.w) X.A (delItem (.ref l) (.int i t)) Q X.xe s := by
  obtain ⟨z, its, n, r, hl, e⟩ := I.lstM hH
  refine PySem.P.delItem_list (k := k) e (fitsIndex_both h1 h2) (by rw [List.size_toArray, ← hl]; exact hk) (h _ ?_) (by rw [List.size_toArray]; omega)
  refine I.lset (its' := its.eraseIdx k) (t' := s.toks) hH e ?_ (r.eraseIdx k) ?_
  · show its.toArray.eraseIdxIfInBounds k = (its.eraseIdx k).toArray
    rw [List.eraseIdxIfInBounds_toArray]
  · have := len_erase xs k
    omega
end

/-! ### xs[a:b] = ys -/
section
variable {prog : Program} {w : World} {A : Around} {E : Value → Shared → Prop} {s : Shared}
theorem splice_eq (its its2 : List Value) (a c : Nat) : its.toArray.extract 0 a ++ its2.toArray ++ its.toArray.extract c its.toArray.size = (its.take a ++ its2 ++ its.drop c).toArray := by
  apply Array.toList_inj.mp
  first
    | (simp
       exact List.take_of_length_le (by simp))
    | simp [List.take_of_length_le]
    | simp
theorem bounds_run {a c n : Nat} (hac : a ≤ c) (hc : c ≤ n) : sliceBounds (some (a : Int)) (some (c : Int)) none n = ((a : Int), (c : Int), 1) := by
  simp only [sliceBounds, Option.getD_none]
  have h1 : ¬ ((a : Int) < 0) := by omega
  have h2 : ¬ ((c : Int) < 0) := by omega
  simp only [h1, h2, if_false, show (1 : Int) > 0 by decide, if_true]
  congr 1
  · omega
  · congr 1; omega
set_option maxRecDepth 100000 in
/-- list.__setitem__ with a slice of step one and another list -/
theorem setItem_slice {l b sl : Addr} {items new : Array Value} {n n2 : Nat} {vl vu : Value} {a c : Nat} {Q : Unit → Shared → Prop}
    (e : s.heap.get? l = some { cls := .type "list", data := .seq items n }) (e2 : s.heap.get? b = some { cls := .type "list", data := .seq new n2 }) (hne : l ≠ b)
    (hs : s.heap.IsSliceOf sl vl vu .none) (pl : IsPart vl (some (a : Int))) (pu : IsPart vu (some (c : Int))) (hac : a ≤ c) (hc : c ≤ items.size)
    (hsz : items.size + new.size ≤ sizeLine) (h : Q () { s with heap := s.heap.update l (Obj.mapSeq fun xs => xs.extract 0 a ++ new ++ xs.extract c xs.size) }) :
    wpAny (model prog w) A (setItem (.ref l) (.ref sl) (.ref b)) Q E s := by
  have hl : s.heap.IsList l items := PySem.IsL.isList e
  have hb : s.heap.IsList b new := PySem.IsL.isList e2
  obtain ⟨os, hos, hcs, hds⟩ := id hs
  have hTs : s.TypeIs (.ref sl) "slice" := ⟨os, hos, hcs⟩
  have hstep : ¬ ((rawPart none == rawInt 0) = true) := Bool.false_ne_true
  have hsame : Builtin.List.listSameRef (.ref l) (.ref b) = false := by
    unfold Builtin.List.listSameRef
    exact beq_eq_false_iff_ne.mpr hne
  have hmax : (max (a : Int) (c : Int)).toNat = c := by omega
  have hz' : ((fun xs : Array Value => xs.extract 0 a ++ new ++ xs.extract c xs.size) items).size ≤ sizeLine + 1 := by
    simp only [Array.size_append, Array.size_extract]
    omega
  unfold setItem
  try with_reducible refine wpAny_holding ?_
  first | refine wpAny_bind (wpAny_pure ?_) | skip
  refine wpAny_bind (wpAny_sequenceKey hl.typeIs (by decide) ?_)
  refine wpAny_bind (wpAny_callSpecial?_slot (name := Str.ofString "__setitem__") hl.typeIs slot_list_setitem
    (wpAny_call_entry slot_list_setitem hl.typeIs entry_list_setitem ?_ (args_list_setitem _ _ _)))
  show wpAny _ _ (Builtin.List.listSubscript? (.ref sl) >>= _) _ _ s
  refine wpAny_bind ?_
  unfold Builtin.List.listSubscript?
  refine wpAny_bind (wpAny_specialOf hTs slice_no_index ?_)
  simp only [Option.isNone_none, if_true]
  refine wpAny_pure ?_
  show wpAny _ _ (typeOf (.ref sl) >>= _) _ _ s
  refine wpAny_bind (wpAny_typeOf hTs ?_)
  first
    | rw [if_neg (by decide)]
    | refine PySem.W.KFB.if_not (by decide) ?_
  rw [listSliceParts_eq]
  refine wpAny_bind (wpAny_bind (wpAny_field hos hds (x := .none) rfl (wpAny_bind (wpAny_listPart .none ?_))))
  rw [if_neg hstep]
  refine wpAny_bind (wpAny_field hos hds (x := vl) rfl (wpAny_bind (wpAny_listPart pl ?_)))
  refine wpAny_bind (wpAny_field hos hds (x := vu) rfl (wpAny_bind (wpAny_listPart pu (wpAny_pure ?_))))
  first
    | simp only [hsame, Bool.false_eq_true, if_false]
    | refine PySem.W.KFB.if_not hsame ?_
    | (dsimp only
       rw [if_neg (by rw [hsame]; exact Bool.false_ne_true)])
  refine wpAny_bind (m := Builtin.List.listAllItems (.ref b) "must assign iterable to extended slice") ?_
  unfold Builtin.List.listAllItems
  refine wpAny_bind (wpAny_typeOf hb.typeIs ?_)
  first
    | refine PySem.W.KFB.if_so (by decide) ?_
    | rw [if_pos (by decide)]
    | simp only [beq_self_eq_true, Bool.true_or, if_true]
  unfold Builtin.List.listItems
  refine wpAny_bind (wpAny_seqItems e2 rfl (wpAny_pure ?_))
  refine wpAny_bind (wpAny_bind (wpAny_seqItems e rfl (wpAny_pure ?_)))
  refine wpAny_bind (wpAny_of_eq ((sliceIndices_raw (some (a : Int)) (some (c : Int)) none items.size (by simp)).trans (congrArg (pure : Int × Int × Int → Sem (Int × Int × Int)) (bounds_run hac hc))) ?_)
  show wpAny _ _ (if ((1 : Int) == 1) = true then _ else _) _ _ s
  rw [if_pos (by decide)]
  refine wpAny_bind (wpAny_rule ?_)
  first
    | simp only [notLongL hsz, Bool.false_eq_true, if_false]
    | refine PySem.W.KFB.if_not (notLongL hsz) ?_
  first | refine wpAny_bind (wpAny_pure ?_) | skip
  show wpAny _ _ (updateSeq l (fun xs => xs.extract 0 ((a : Int)).toNat ++ new ++ xs.extract (max (a : Int) (c : Int)).toNat xs.size) >>= _) _ _ s
  rw [hmax, Int.toNat_natCast]
  refine wpAny_bind (wpAny_updateSeq (hz := Nat.le_trans (Nat.le_add_right _ _) hsz) (_hz' := hz') e rfl ?_)
  refine wpAny_bind (wpAny_letGo ?_)
  first
    | exact wpAny_bind (wpAny_pure (wpAny_pure ⟨.none, rfl, wpAny_pure h⟩))
    | exact wpAny_pure ⟨.none, rfl, wpAny_pure h⟩
end

section
variable {X : Cx}
/-- xs[a:c] = ys of another list, at the value level: sl is the slice object that was just made -/
theorem set_slice {pins : List (Addr × Obj)} {s : Shared} {σ : St} {H : Hp} {l b sl : Addr} {xs ys : List V} {a c : Int} {vl vu : Value} {Q : Unit → Shared → Prop} (I : Inv X pins σ H s)
    (hH : H l = some (.lst xs)) (hB : H b = some (.lst ys)) (hne : l ≠ b) (hs : s.heap.IsSliceOf sl vl vu .none) (ra : RelV (.int a) vl) (rc : RelV (.int c) vu) (h0 : 0 ≤ a) (hac : a ≤ c) (hc : c ≤ xs.length)
    (hz : xs.length + ys.length ≤ sizeLine) (h : ∀ s', Inv X pins σ (upd H l (.lst (xs.take a.toNat ++ ys ++ xs.drop c.toNat))) s' → Q () s') :
    wpAny (model X.prog X.w) X.A (setItem (.ref l) (.ref sl) (.ref b)) Q X.xe s := by
  obtain ⟨ta, rfl⟩ := ra
  obtain ⟨tc, rfl⟩ := rc
  obtain ⟨z, its, n, r, hl, e⟩ := I.lstM hH
  obtain ⟨z2, its2, n2, r2, hl2, e2⟩ := I.lstM hB
  obtain ⟨a', rfl⟩ := Int.eq_ofNat_of_zero_le h0
  obtain ⟨c', rfl⟩ := Int.eq_ofNat_of_zero_le (Int.le_trans h0 hac)
  simp only [Int.toNat_natCast] at h
  refine setItem_slice (a := a') (c := c') e e2 hne hs (.int _ _) (.int _ _) (by omega) (by rw [List.size_toArray]; omega) (by rw [List.size_toArray, List.size_toArray]; omega) (h _ ?_)
  refine I.lset (its' := its.take a' ++ its2 ++ its.drop c') (t' := s.toks) hH e ?_ (Vals.append (Vals.append (r.take _) r2) (r.drop _)) ?_
  · exact splice_eq its its2 a' c'
  · rw [List.length_append, List.length_append, List.length_take, List.length_drop]
    omega
end
end L2

namespace L2
open PySem PySem.Spec PyProof.Rows

/-! ### lists of pairs as tables -/
section
variable {κ : Type} [DecidableEq κ]
def valV (kvs : List (κ × V)) (k : κ) : Option V := (kvs.find? fun kv => decide (kv.1 = k)).map (·.2)
/-- in its place, or at the end -/
def putK (kvs : List (κ × V)) (k : κ) (v : V) : List (κ × V) :=
  if (kvs.any fun kv => decide (kv.1 = k)) = true then kvs.map (fun kv => if kv.1 = k then (kv.1, v) else kv) else kvs ++ [(k, v)]
def dropK (kvs : List (κ × V)) (k : κ) : List (κ × V) := kvs.filter fun kv => decide (kv.1 ≠ k)

theorem valV_nil {k : κ} : valV ([] : List (κ × V)) k = none := rfl
theorem valV_pos {p : κ × V} {r : List (κ × V)} {k : κ} (e : p.1 = k) : valV (p :: r) k = some p.2 := by simp [valV, List.find?_cons, e]
theorem valV_neg {p : κ × V} {r : List (κ × V)} {k : κ} (e : ¬ p.1 = k) : valV (p :: r) k = valV r k := by simp [valV, List.find?_cons, e]
theorem valV_any (k : κ) : ∀ kvs : List (κ × V), (kvs.any fun kv => decide (kv.1 = k)) = (valV kvs k).isSome
  | [] => rfl
  | p :: r => by
    rw [List.any_cons]
    by_cases e : p.1 = k
    · simp only [valV_pos e, decide_eq_true e, Bool.true_or, Option.isSome_some]
    · rw [valV_neg e, decide_eq_false e, Bool.false_or]; exact valV_any k r
theorem valV_map (k j : κ) (y : V) : ∀ kvs : List (κ × V), valV (kvs.map fun kv => if kv.1 = k then (kv.1, y) else kv) j = (valV kvs j).map fun x => if j = k then y else x
  | [] => rfl
  | p :: r => by
    have ih := valV_map k j y r
    rw [List.map_cons]
    by_cases h : p.1 = k
    · rw [if_pos h]
      by_cases e : p.1 = j
      · rw [valV_pos (p := (p.1, y)) e, valV_pos e, Option.map_some, if_pos (e.symm.trans h)]
      · rw [valV_neg (p := (p.1, y)) e, valV_neg e, ih]
    · rw [if_neg h]
      by_cases e : p.1 = j
      · rw [valV_pos (p := p) e, valV_pos e, Option.map_some, if_neg (fun z => h (e.trans z))]
      · rw [valV_neg (p := p) e, valV_neg e, ih]
theorem valV_snoc (k j : κ) (y : V) : ∀ kvs : List (κ × V), valV kvs k = none → valV (kvs ++ [(k, y)]) j = if j = k then some y else valV kvs j
  | [], _ => by
    by_cases e : k = j
    · rw [if_pos e.symm]; exact valV_pos (p := (k, y)) e
    · rw [if_neg (fun z => e z.symm)]; exact valV_neg (p := (k, y)) e
  | p :: r, hn => by
    rw [List.cons_append]
    have hk : ¬ p.1 = k := fun z => by rw [valV_pos z] at hn; cases hn
    rw [valV_neg hk] at hn
    have ih := valV_snoc k j y r hn
    by_cases e : p.1 = j
    · rw [valV_pos e, valV_pos e, if_neg (fun z => hk (e.trans z))]
    · rw [valV_neg e, valV_neg e, ih]
theorem valV_put (kvs : List (κ × V)) (k j : κ) (y : V) : valV (putK kvs k y) j = if j = k then some y else valV kvs j := by
  unfold putK
  by_cases a : (kvs.any fun kv => decide (kv.1 = k)) = true
  · rw [if_pos a, valV_map]
    rw [valV_any] at a
    by_cases e : j = k
    · obtain ⟨x, hx⟩ := Option.isSome_iff_exists.mp a
      rw [if_pos e, e, hx, Option.map_some, if_pos rfl]
    · rw [if_neg e]
      cases valV kvs j with
      | none => rfl
      | some x => rw [Option.map_some, if_neg e]
  · rw [if_neg a]
    refine valV_snoc k j y kvs ?_
    rw [valV_any] at a
    cases q : valV kvs k with
    | none => rfl
    | some x => rw [q] at a; exact (a rfl).elim
theorem length_putK (kvs : List (κ × V)) (k : κ) (v : V) : (putK kvs k v).length ≤ kvs.length + 1 := by
  unfold putK
  split
  · rw [List.length_map]; omega
  · rw [List.length_append, List.length_cons, List.length_nil]; omega
theorem putK_new {kvs : List (κ × V)} {k : κ} (v : V) (h : valV kvs k = none) : putK kvs k v = kvs ++ [(k, v)] := by
  unfold putK
  rw [valV_any, h]
  exact if_neg (by decide)

theorem RelO.isSome_eq {o : Option V} {u : Option Value} (r : RelO o u) : o.isSome = u.isSome := by
  cases o with
  | none => cases u with
    | none => rfl
    | some _ => exact (show False from r).elim
  | some _ => cases u with
    | none => exact (show False from r).elim
    | some _ => rfl
theorem RelO.getD {o : Option V} {u : Option Value} {d : V} {d' : Value} (r : RelO o u) (rd : RelV d d') : RelV (o.getD d) (u.getD d') := by
  cases o with
  | none => cases u with
    | none => exact rd
    | some _ => exact (show False from r).elim
  | some _ => cases u with
    | none => exact (show False from r).elim
    | some _ => exact r

/-- raw tables of the same keys -/
theorem KV.val {kvs : List (κ × V)} {vs : List (κ × Value)} (r : KV kvs vs) (k : κ) : RelO (valV kvs k) (valueAt vs k) := by
  unfold KV at r
  induction r with
  | nil => exact True.intro
  | @cons p q ps qs h t ih =>
    obtain ⟨h1, h2⟩ := h
    by_cases e : p.1 = k
    · have e' : q.1 = k := h1.symm.trans e
      have b : valueAt (q :: qs) k = some q.2 := by simp [valueAt, List.find?_cons, e']
      rw [valV_pos e, b]; exact h2
    · have e' : ¬ q.1 = k := fun z => e (h1.trans z)
      have b : valueAt (q :: qs) k = valueAt qs k := by simp [valueAt, List.find?_cons, e']
      rw [valV_neg e, b]; exact ih
theorem KV.any {kvs : List (κ × V)} {vs : List (κ × Value)} (r : KV kvs vs) (k : κ) : (kvs.any fun kv => decide (kv.1 = k)) = vs.any fun kv => decide (kv.1 = k) := by
  unfold KV at r
  induction r with
  | nil => rfl
  | cons h t ih => rw [List.any_cons, List.any_cons, ih, h.1]
theorem KV.repl {kvs : List (κ × V)} {vs : List (κ × Value)} (r : KV kvs vs) (k : κ) {y : V} {u : Value} (ry : RelV y u) :
    KV (kvs.map fun kv => if kv.1 = k then (kv.1, y) else kv) (vs.map fun kv => if kv.1 = k then (kv.1, u) else kv) := by
  unfold KV at r ⊢
  induction r with
  | nil => exact .nil
  | @cons p q ps qs h t ih =>
    rw [List.map_cons, List.map_cons]
    refine .cons ?_ ih
    obtain ⟨h1, h2⟩ := h
    by_cases e : p.1 = k
    · rw [if_pos e, if_pos (h1.symm.trans e)]; exact ⟨h1, ry⟩
    · rw [if_neg e, if_neg (fun z => e (h1.trans z))]; exact ⟨h1, h2⟩
theorem KV.put {kvs : List (κ × V)} {vs : List (κ × Value)} (r : KV kvs vs) (k : κ) {y : V} {u : Value} (ry : RelV y u) : KV (putK kvs k y) (stored vs k u) := by
  unfold putK stored
  rw [r.any k]
  by_cases e : (vs.any fun kv => decide (kv.1 = k)) = true
  · rw [if_pos e, if_pos e]; exact r.repl k ry
  · rw [if_neg e, if_neg e]; exact Paired.snoc r ⟨rfl, ry⟩
theorem KV.drop {kvs : List (κ × V)} {vs : List (κ × Value)} (r : KV kvs vs) (k : κ) : KV (dropK kvs k) (without vs k) := by
  unfold KV at r ⊢
  unfold dropK without
  induction r with
  | nil => exact .nil
  | @cons p q ps qs h t ih =>
    obtain ⟨h1, h2⟩ := h
    rw [List.filter_cons, List.filter_cons]
    by_cases e : p.1 = k
    · have a : ¬ decide (p.1 ≠ k) = true := by simp [e]
      have b : ¬ decide (q.1 ≠ k) = true := by simp [h1.symm.trans e]
      rw [if_neg a, if_neg b]; exact ih
    · have e' : ¬ q.1 = k := fun z => e (h1.trans z)
      have a : decide (p.1 ≠ k) = true := by simp [e]
      have b : decide (q.1 ≠ k) = true := by simp [e']
      rw [if_pos a, if_pos b]; exact .cons ⟨h1, h2⟩ ih
theorem KV.keys {kvs : List (κ × V)} {vs : List (κ × Value)} (r : KV kvs vs) : kvs.map (·.1) = vs.map (·.1) := by
  unfold KV at r
  induction r with
  | nil => rfl
  | cons h t ih => rw [List.map_cons, List.map_cons, ih, h.1]
theorem KV.length {kvs : List (κ × V)} {vs : List (κ × Value)} (r : KV kvs vs) : kvs.length = vs.length := Paired.length r
theorem dropK_le (kvs : List (κ × V)) (k : κ) : (dropK kvs k).length ≤ kvs.length := List.length_filter_le _ _
end


/-! ### a tracked dict, its keys ints and texts or tuples of these -/
theorem kV_is {P : Program} {w : World} {k : Key} {u : Value} (r : RelV (kV k) u) : (mixKind P w).is k u = true := by
  cases k with
  | inl i => obtain ⟨t, e⟩ := (show ∃ t, u = Value.int i t from r); subst e; exact mixKind_int P w i t
  | inr x => obtain ⟨t, e⟩ := (show ∃ t, u = Value.str x t from r); subst e; exact mixKind_str P w x t
theorem kV_inj {a b : Key} (e : kV a = kV b) : a = b := by
  cases a with
  | inl i => cases b with
    | inl j => have e' : V.int i = V.int j := e; injection e' with e'; rw [e']
    | inr y => exact nomatch (show V.int i = V.str y from e)
  | inr x => cases b with
    | inl j => exact nomatch (show V.str x = V.int j from e)
    | inr y => have e' : V.str x = V.str y := e; injection e' with e'; rw [e']
theorem kVs_inj : ∀ {a b : List Key}, a.map kV = b.map kV → a = b
  | [], [], _ => rfl
  | [], _ :: _, e => by simp at e
  | _ :: _, [], e => by simp at e
  | x :: xs, y :: ys, e => by
    rw [List.map_cons, List.map_cons] at e
    injection e with e1 e2
    rw [kV_inj e1, kVs_inj e2]
theorem items_are {P : Program} {w : World} : ∀ {ks : List Key} {us : List Value}, Vals (ks.map kV) us → ItemsAre (mixKind P w) ks us
  | [], _, r => by rw [List.map_nil] at r; cases r; exact .nil
  | k :: ks, _, r => by
    rw [List.map_cons] at r
    cases r with
    | cons h t => exact .cons (kV_is h) (items_are t)

/-- raw entries of a dict with tuple keys -/
abbrev KT (H : Hp) : List (List Key × V) → List (List Key × Addr × Value) → Prop := Paired fun p q => p.1 = q.1 ∧ H q.2.1 = some (.tup (p.1.map kV)) ∧ RelV p.2 q.2.2
theorem KT.val {H : Hp} {kvs : List (List Key × V)} {xs : List (List Key × Addr × Value)} (r : KT H kvs xs) (k : List Key) : RelO (valV kvs k) ((atKey xs k).map (·.2)) := by
  induction r with
  | nil => exact True.intro
  | @cons p q ps qs h t ih =>
    obtain ⟨h1, _, h2⟩ := h
    by_cases e : p.1 = k
    · have e' : q.1 = k := h1.symm.trans e
      have b : atKey (q :: qs) k = some q.2 := by simp [atKey, List.find?_cons, e']
      rw [valV_pos e, b]; exact h2
    · have e' : ¬ q.1 = k := fun z => e (h1.trans z)
      have b : atKey (q :: qs) k = atKey qs k := by simp [atKey, List.find?_cons, e']
      rw [valV_neg e, b]; exact ih
theorem KT.repl {H : Hp} {kvs : List (List Key × V)} {xs : List (List Key × Addr × Value)} (r : KT H kvs xs) (k : List Key) {y : V} {u : Value} (ry : RelV y u) :
    KT H (kvs.map fun kv => if kv.1 = k then (kv.1, y) else kv) (xs.map (putAt k u)) := by
  induction r with
  | nil => exact .nil
  | @cons p q ps qs h t ih =>
    rw [List.map_cons, List.map_cons]
    refine .cons ?_ ih
    obtain ⟨h1, h2, h3⟩ := h
    unfold putAt
    by_cases e : p.1 = k
    · rw [if_pos e, if_pos (h1.symm.trans e)]; exact ⟨h1, h2, ry⟩
    · rw [if_neg e, if_neg (fun z => e (h1.trans z))]; exact ⟨h1, h2, h3⟩
theorem KT.put {H : Hp} {kvs : List (List Key × V)} {xs : List (List Key × Addr × Value)} (r : KT H kvs xs) (k : List Key) {b : Addr} {y : V} {u : Value} (hb : H b = some (.tup (k.map kV))) (ry : RelV y u) :
    KT H (putK kvs k y) (storedH xs k b u) := by
  have e : (kvs.any fun kv => decide (kv.1 = k)) = (atKey xs k).isSome := by
    rw [valV_any, (r.val k).isSome_eq, Option.isSome_map]
  unfold putK storedH
  rw [e]
  by_cases q : (atKey xs k).isSome = true
  · rw [if_pos q, if_pos q]; exact r.repl k ry
  · rw [if_neg q, if_neg q]; exact Paired.snoc r ⟨rfl, hb, ry⟩
theorem KT.keeps {H H' : Hp} {kvs : List (List Key × V)} {xs : List (List Key × Addr × Value)} (r : KT H kvs xs) (ht : ∀ b ys, H b = some (.tup ys) → H' b = some (.tup ys)) : KT H' kvs xs :=
  Paired.mapP r fun _ _ z => ⟨z.1, ht _ _ z.2.1, z.2.2⟩

section
variable {P : Program} {w : World} {H : Hp} {h : Heap} {a : Addr}
theorem rd_of {u : HO} (ok : HOk P w H h) (e : Rd H a u) : ObjOk P w H h a u := e.ok ok
theorem dk_rd {kvs : List (Key × V)} (ok : HOk P w H h) (e : Rd H a (.dK kvs)) : kvs.length ≤ sizeLine ∧ (a == sysModules) = false ∧ ∃ vs, KV kvs vs ∧ h.DictOf (mixKind P w) a vs :=
  show ObjOk P w H h a (.dK kvs) from rd_of ok e
theorem dk_of {kvs : List (Key × V)} (ok : HOk P w H h) (e : H a = some (.dK kvs)) : kvs.length ≤ sizeLine ∧ (a == sysModules) = false ∧ ∃ vs, KV kvs vs ∧ h.DictOf (mixKind P w) a vs := dk_rd ok (.inl e)
/-- a tracked tuple of ints and texts is a key -/
theorem key_of {ks : List Key} (ok : HOk P w H h) (e : H a = some (.tup (ks.map kV))) : (tupleKind (mixKind P w)).is h ks a := by
  obtain ⟨_, its, r, o, h1, h2, n, h3⟩ := (show ObjOk P w H h a (.tup (ks.map kV)) from ok a _ e)
  exact ⟨o, its.toArray, n, h1, h2, h3, by simpa using items_are r⟩
theorem dt_rd {kvs : List (List Key × V)} (ok : HOk P w H h) (e : Rd H a (.dT kvs)) : kvs.length ≤ sizeLine ∧ (a == sysModules) = false ∧
    ∃ xs, KT H kvs xs ∧ h.DictOfH (tupleKind (mixKind P w)) a xs := by
  obtain ⟨z, y, xs, r, o, es, ep, h1, h2, h3, h4, h5⟩ := (show ObjOk P w H h a (.dT kvs) from rd_of ok e)
  refine ⟨z, y, xs, r, o, es, ep, h1, h2, h3, h4, fun x hx => ?_, h5⟩
  have all : ∀ {l : List (List Key × V)} {m : List (List Key × Addr × Value)}, KT H l m → ∀ x ∈ m, (tupleKind (mixKind P w)).is h x.1 x.2.1 := by
    intro l m q
    induction q with
    | nil => intro x hx; exact nomatch hx
    | @cons p q ps qs hq t ih =>
      intro x hx
      rcases List.mem_cons.mp hx with e | hx
      · subst e
        exact key_of ok (by rw [← hq.1]; exact hq.2.1)
      · exact ih x hx
  exact all r x hx
theorem dt_of {kvs : List (List Key × V)} (ok : HOk P w H h) (e : H a = some (.dT kvs)) : kvs.length ≤ sizeLine ∧ (a == sysModules) = false ∧
    ∃ xs, KT H kvs xs ∧ h.DictOfH (tupleKind (mixKind P w)) a xs := dt_rd ok (.inl e)
end

/-- what the dict at a holds at the key y -/
def DGet (H : Hp) (a : Addr) (y : V) (r : Option V) : Prop :=
  (∃ kvs k, Rd H a (.dK kvs) ∧ y = kV k ∧ r = valV kvs k) ∨ ∃ kvs k b, Rd H a (.dT kvs) ∧ y = .ref b ∧ H b = some (.tup (k.map kV)) ∧ r = valV kvs k
/-- the heap behind a[y] = v -/
def DPut (H : Hp) (a : Addr) (y v : V) (H' : Hp) : Prop :=
  (∃ kvs k, H a = some (.dK kvs) ∧ y = kV k ∧ kvs.length < sizeLine ∧ H' = upd H a (.dK (putK kvs k v))) ∨
  ∃ kvs k b, H a = some (.dT kvs) ∧ y = .ref b ∧ H b = some (.tup (k.map kV)) ∧ kvs.length < sizeLine ∧ H' = upd H a (.dT (putK kvs k v))
theorem DGet.k {H : Hp} {a : Addr} {kvs : List (Key × V)} {k : Key} (e : H a = some (.dK kvs)) : DGet H a (kV k) (valV kvs k) := .inl ⟨kvs, k, .inl e, rfl, rfl⟩
theorem DGet.t {H : Hp} {a b : Addr} {kvs : List (List Key × V)} {k : List Key} (e : H a = some (.dT kvs)) (eb : H b = some (.tup (k.map kV))) : DGet H a (.ref b) (valV kvs k) := .inr ⟨kvs, k, b, .inl e, rfl, eb, rfl⟩
theorem DPut.k {H : Hp} {a : Addr} {kvs : List (Key × V)} {k : Key} {v : V} (e : H a = some (.dK kvs)) (hl : kvs.length < sizeLine) : DPut H a (kV k) v (upd H a (.dK (putK kvs k v))) := .inl ⟨kvs, k, e, rfl, hl, rfl⟩
theorem DPut.t {H : Hp} {a b : Addr} {kvs : List (List Key × V)} {k : List Key} {v : V} (e : H a = some (.dT kvs)) (eb : H b = some (.tup (k.map kV))) (hl : kvs.length < sizeLine) :
    DPut H a (.ref b) v (upd H a (.dT (putK kvs k v))) := .inr ⟨kvs, k, b, e, rfl, eb, hl, rfl⟩


section
variable {X : Cx} {pins : List (Addr × Obj)} {σ : St} {H : Hp} {s : Shared} {a : Addr} {y v : V} {u r : Value} {o : Option V} {A : Around} {E : Value → Shared → Prop}

theorem Inv.big (I : Inv X pins σ H s) : sysModules < s.heap.objs.size := by
  have h : mainGlobals < s.heap.objs.size := (I.mod.glob.keeps I.bk).lt
  exact Nat.lt_trans (by decide) h

/-- d[y], there -/
theorem d_getItem {Q : Value → Shared → Prop} (hu : A.units + 1 < cLine) (I : Inv X pins σ H s) (g : DGet H a y (some v)) (ry : RelV y u) (h : ∀ w' s', Inv X pins σ H s' → RelV v w' → Q w' s') :
    wpAny (model X.prog X.w) A (getItem (.ref a) u) Q E s := by
  rcases g with ⟨kvs, k, e, ey, l⟩ | ⟨kvs, k, b, e, ey, eb, l⟩
  · subst ey
    obtain ⟨z, hd, vs, rel, dd⟩ := dk_rd I.hok e
    obtain ⟨w', hw, rw'⟩ := RelO.some_of (v := v) (o := valueAt vs k) (by rw [l]; exact rel.val k)
    exact wpAny_getItem_of (kV_is ry) dd.mapOf hw (h w' _ (I.tok _) rw')
  · subst ey
    cases (show u = Value.ref b from ry)
    obtain ⟨z, hd, xs, rel, dd⟩ := dt_rd I.hok e
    obtain ⟨w', hw, rw'⟩ := RelO.some_of (v := v) (o := (atKey xs k).map (·.2)) (by rw [l]; exact rel.val k)
    obtain ⟨p, hp, hp2⟩ := Option.map_eq_some_iff.mp hw
    refine wpAny_getItem_heap (tupleKind_room_in1 hu) (key_of I.hok eb) dd hp ?_
    rw [hp2]
    exact h w' _ (I.tok _) rw'
/-- y in d -/
theorem d_in {Q : Value → Shared → Prop} (hu : A.units + 1 < cLine) (I : Inv X pins σ H s) (g : DGet H a y o) (ry : RelV y u) (h : ∀ s', Inv X pins σ H s' → Q (.bool o.isSome) s') :
    wpAny (model X.prog X.w) A (compareOp .In u (.ref a)) Q E s := by
  rcases g with ⟨kvs, k, e, ey, l⟩ | ⟨kvs, k, b, e, ey, eb, l⟩
  · subst ey
    obtain ⟨z, hd, vs, rel, dd⟩ := dk_rd I.hok e
    refine wpAny_in_of (kV_is ry) hd dd.mapOf ?_
    rw [← (rel.val k).isSome_eq, ← l]
    exact h _ (I.tok _)
  · subst ey
    cases (show u = Value.ref b from ry)
    obtain ⟨z, hd, xs, rel, dd⟩ := dt_rd I.hok e
    refine wpAny_in_heap (tupleKind_room_in1 hu) (key_of I.hok eb) hd dd ?_
    have q := (rel.val k).isSome_eq
    rw [Option.isSome_map] at q
    rw [← q, ← l]
    exact h _ (I.tok _)
theorem d_notIn {Q : Value → Shared → Prop} (hu : A.units + 1 < cLine) (I : Inv X pins σ H s) (g : DGet H a y o) (ry : RelV y u) (h : ∀ s', Inv X pins σ H s' → Q (.bool (!o.isSome)) s') :
    wpAny (model X.prog X.w) A (compareOp .NotIn u (.ref a)) Q E s := by
  rcases g with ⟨kvs, k, e, ey, l⟩ | ⟨kvs, k, b, e, ey, eb, l⟩
  · subst ey
    obtain ⟨z, hd, vs, rel, dd⟩ := dk_rd I.hok e
    refine wpAny_notIn_of (kV_is ry) hd dd.mapOf ?_
    rw [← (rel.val k).isSome_eq, ← l]
    exact h _ (I.tok _)
  · subst ey
    cases (show u = Value.ref b from ry)
    obtain ⟨z, hd, xs, rel, dd⟩ := dt_rd I.hok e
    refine wpAny_notIn_heap (tupleKind_room_in1 hu) (key_of I.hok eb) hd dd ?_
    have q := (rel.val k).isSome_eq
    rw [Option.isSome_map] at q
    rw [← q, ← l]
    exact h _ (I.tok _)
/-- a dict's object is replaced -/
theorem d_write {h' : Heap} {t' : Nat} {ob : HO} (I : Inv X pins σ H s) (mu : Mut (H a)) (hs : Heap.SameBut a s.heap h') (he : ∃ q, h'.get? a = some q) (new : ObjOk X.prog X.w (upd H a ob) h' a ob) :
    Inv X pins σ (upd H a ob) { s with heap := h', toks := t' } :=
  I.write (x := a) (e := a) mu (.inl rfl) (fun b q hb z => (hs.2 b hb).trans z) he new
theorem dk_new {P : Program} {w : World} {H' : Hp} {h' : Heap} {kvs : List (Key × V)} {vs : List (Key × Value)} (z : kvs.length ≤ sizeLine) (hd : (a == sysModules) = false) (rel : KV kvs vs) (dd : h'.DictOf (mixKind P w) a vs) :
    ObjOk P w H' h' a (.dK kvs) := ⟨z, hd, vs, rel, dd⟩
/-- d[y] = v -/
theorem d_setItem {H' : Hp} {Q : Unit → Shared → Prop} (hu : A.units + 1 < cLine) (I : Inv X pins σ H s) (g : DPut H a y v H') (ry : RelV y u) (rv : RelV v r) (h : ∀ s', Inv X pins σ H' s' → Q () s') :
    wpAny (model X.prog X.w) A (setItem (.ref a) u r) Q E s := by
  rcases g with ⟨kvs, k, e, ey, l, eH⟩ | ⟨kvs, k, b, e, ey, eb, l, eH⟩
  · subst ey eH
    obtain ⟨z, hd, vs, rel, dd⟩ := dk_of I.hok e
    have hz : vs.length ≤ sizeLine := by rw [← rel.length]; exact z
    have hl : (putK kvs k v).length ≤ sizeLine := by have := length_putK kvs k v; omega
    refine wpAny_setItem_pairs (hsz := hz) (kV_is ry) dd fun h' dd' hs => h _ ?_
    have he : ∃ q, h'.get? a = some q := let ⟨q, _, _, hq, _⟩ := dd'; ⟨q, hq⟩
    exact d_write I (by rw [e]; exact True.intro) hs he (dk_new hl hd (rel.put k rv) dd')
  · subst ey eH
    cases (show u = Value.ref b from ry)
    obtain ⟨z, hd, xs, rel, dd⟩ := dt_of I.hok e
    have hz : xs.length ≤ sizeLine := by rw [← Paired.length rel]; exact z
    have hl : (putK kvs k v).length ≤ sizeLine := by have := length_putK kvs k v; omega
    refine wpAny_setItem_heap (hsz := hz) (tupleKind_room_in1 hu) (key_of I.hok eb) dd fun h' dd' hs => h _ ?_
    obtain ⟨q, es, ep, hq, h2, h3, h4, _, h5⟩ := dd'
    refine d_write I (by rw [e]; exact True.intro) hs ⟨q, hq⟩ ⟨hl, hd, _, (rel.put k eb rv).keeps fun c ys ec => ?_, q, es, ep, hq, h2, h3, h4, h5⟩
    rw [upd_ne (ne_of ec e (fun z => nomatch z))]
    exact ec
end

section
variable {X : Cx} {pins : List (Addr × Obj)} {σ : St} {H : Hp} {s : Shared} {a : Addr} {kvs : List (Key × V)} {k : Key} {u : Value} {A : Around} {E : Value → Shared → Prop}
/-- del d[k] -/
theorem d_delItem {Q : Unit → Shared → Prop} (I : Inv X pins σ H s) (e : H a = some (.dK kvs)) (ry : RelV (kV k) u) (l : (valV kvs k).isSome = true) (h : ∀ s', Inv X pins σ (upd H a (.dK (dropK kvs k))) s' → Q () s') :
    wpAny (model X.prog X.w) A (delItem (.ref a) u) Q E s := by
  obtain ⟨z, hd, vs, rel, dd⟩ := dk_of I.hok e
  refine wpAny_delItem_slot dd.typeIs (by decide) PySem.F.slot_dict_delitem
    (call_meetsIn PySem.F.slot_dict_delitem dd.typeIs PySem.F.entry_dict_delitem (PySem.F.args_dict_delitem_2 _ _) (meets_dict_delitem_pairs (mixKind X.prog X.w) a (kV_is ry)) ⟨vs, dd, by rw [← rel.length]; exact z, by rw [← (rel.val k).isSome_eq]; exact l, fun h' dd' hs => h _ ?_⟩)
  have he : ∃ q, h'.get? a = some q := let ⟨q, _, _, hq, _⟩ := dd'; ⟨q, hq⟩
  exact d_write I (by rw [e]; exact True.intro) hs he (dk_new (Nat.le_trans (dropK_le kvs k) z) hd (rel.drop k) dd')
/-- d.pop(k[, x]), there -/
theorem d_pop {v : V} {more : List Value} {Q : Value → Shared → Prop} (I : Inv X pins σ H s) (e : H a = some (.dK kvs)) (ry : RelV (kV k) u) (l : valV kvs k = some v) (hm : more = [] ∨ ∃ x, more = [x])
    (h : ∀ w' s', Inv X pins σ (upd H a (.dK (dropK kvs k))) s' → RelV v w' → Q w' s') : wpAny (model X.prog X.w) A (call (.builtin "dict.pop") (.ref a :: u :: more)) Q E s := by
  obtain ⟨z, hd, vs, rel, dd⟩ := dk_of I.hok e
  obtain ⟨w', hw, rw'⟩ := RelO.some_of (v := v) (o := valueAt vs k) (by rw [← l]; exact rel.val k)
  have hp : (keyPart u).isSome = true := by
    cases k with
    | inl i => obtain ⟨t, q⟩ := (show ∃ t, u = Value.int i t from ry); subst q; rfl
    | inr x => obtain ⟨t, q⟩ := (show ∃ t, u = Value.str x t from ry); subst q; rfl
  have ha : argsOk "dict.pop" ⟨.ref a :: u :: more, []⟩ := by
    rcases hm with q | ⟨x, q⟩
    · subst q; exact PySem.F.args_dict_pop_2 _ _
    · subst q; exact PySem.F.args_dict_pop_3 _ _ _
  refine call_meetsIn PySem.F.slot_dict_pop dd.typeIs PySem.F.entry_dict_pop ha (meets_dict_pop_there (mixKind X.prog X.w) a (kV_is ry) more hm hp)
    ⟨vs, w', dd, by rw [← rel.length]; exact z, hw, fun h' dd' hs => h w' _ ?_ rw'⟩
  have he : ∃ q, h'.get? a = some q := let ⟨q, _, _, hq, _⟩ := dd'; ⟨q, hq⟩
  exact d_write I (by rw [e]; exact True.intro) hs he (dk_new (Nat.le_trans (dropK_le kvs k) z) hd (rel.drop k) dd')
/-- d.pop(k, x), not there -/
theorem d_popD {r : Value} {Q : Value → Shared → Prop} (I : Inv X pins σ H s) (e : H a = some (.dK kvs)) (ry : RelV (kV k) u) (l : valV kvs k = none) (h : ∀ s', Inv X pins σ H s' → Q r s') :
    wpAny (model X.prog X.w) A (call (.builtin "dict.pop") [.ref a, u, r]) Q E s := by
  obtain ⟨z, hd, vs, rel, dd⟩ := dk_of I.hok e
  have hn : valueAt vs k = none := RelO.none_of (by rw [← l]; exact rel.val k)
  have hp : (keyPart u).isSome = true := by
    cases k with
    | inl i => obtain ⟨t, q⟩ := (show ∃ t, u = Value.int i t from ry); subst q; rfl
    | inr x => obtain ⟨t, q⟩ := (show ∃ t, u = Value.str x t from ry); subst q; rfl
  exact call_meetsIn PySem.F.slot_dict_pop dd.typeIs PySem.F.entry_dict_pop (PySem.F.args_dict_pop_3 _ _ _) (meets_dict_pop_default (mixKind X.prog X.w) a (kV_is ry) hd hp r) ⟨vs, dd, hn, h _ (I.tok _)⟩
/-- d.clear() -/
theorem d_clear {Q : Value → Shared → Prop} (I : Inv X pins σ H s) (e : H a = some (.dK kvs)) (h : ∀ s', Inv X pins σ (upd H a (.dK [])) s' → Q .none s') : wpAny (model X.prog X.w) A (call (.builtin "dict.clear") [.ref a]) Q E s := by
  obtain ⟨z, hd, vs, rel, dd⟩ := dk_of I.hok e
  refine call_meetsIn PySem.F.slot_dict_clear dd.typeIs PySem.F.entry_dict_clear (PySem.F.args_dict_clear_1 _) (meets_dict_clear (mixKind X.prog X.w) a) ⟨vs, dd, by rw [← rel.length]; exact z, fun h' dd' hs => h _ ?_⟩
  have he : ∃ q, h'.get? a = some q := let ⟨q, _, _, hq, _⟩ := dd'; ⟨q, hq⟩
  exact d_write (t' := s.toks) I (by rw [e]; exact True.intro) hs he (dk_new (Nat.zero_le _) hd .nil dd')
/-- len(d) -/
theorem d_len {Q : Value → Shared → Prop} (I : Inv X pins σ H s) (e : Rd H a (.dK kvs)) (h : ∀ t s', Inv X pins σ H s' → Q (.int kvs.length t) s') : wpAny (model X.prog X.w) A (call (.builtin "len") [.ref a]) Q E s := by
  obtain ⟨z, hd, vs, rel, dd⟩ := dk_rd I.hok e
  refine call_len_dict hd dd (by rw [← rel.length]; rw [sizeLine_eq] at z; omega) ?_
  rw [← rel.length]
  exact h _ _ (I.tok _)
/-- if d -/
theorem d_truth {Q : Bool → Shared → Prop} (I : Inv X pins σ H s) (e : Rd H a (.dK kvs)) (h : ∀ s', Inv X pins σ H s' → Q (!kvs.isEmpty) s') : wpAny (model X.prog X.w) A (truthy (.ref a)) Q E s := by
  obtain ⟨z, hd, vs, rel, dd⟩ := dk_rd I.hok e
  refine wpAny_truthy_dict hd dd (by rw [← rel.length]; rw [sizeLine_eq] at z; omega) ?_
  have q : kvs.isEmpty = vs.isEmpty := by cases rel <;> rfl
  rw [← q]
  exact h _ (I.tok _)
end


/-! ### readings and rules -/
/-- the element of a subscription, not a slice -/
def NoSl (i : Expr) : Prop := ∀ ov iv, subscripted i false ov iv = operate [ov, iv] (getItem ov iv)
theorem subD_of {prog : Program} {w : World} {A : Around} {E : Value → Shared → Prop} {s : Shared} {env : Env} {value slice : Expr} {pos : Pos} {T id : String} {Q : Value → Shared → Prop}
    (hl : typeLookup (.type T) "__getitem__" = pure (some (.builtin id))) (hs : NoSl slice)
    (h : wpAny (model prog w) A (eval value env) (fun o s₁ => wpAny (model prog w) A (eval slice env) (fun i s₂ => s₂.TypeIs o T ∧ wpAny (model prog w) A (getItem o i) Q E s₂) E s₁) E s) :
    wpAny (model prog w) A (eval (.Subscript value slice pos) env) Q E s := by
  refine Subscript_ (wpAny_mono h (fun o s₁ h₁ => wpAny_mono h₁ (fun i s₂ h₂ => ?_) fun _ _ x => x) fun _ _ x => x)
  obtain ⟨hT, h₂⟩ := h₂
  unfold subscriptTail
  refine wpAny_bind ?_
  rw [getitemInPython_of_ne hT.not_modules]
  refine wpAny_bind (wpAny_specialOf hT hl ?_)
  have fin : wpAny (model prog w) A (subscripted slice false o i) (fun r s₃ => wpAny (model prog w) A (letTemporaryGo value o r >>= fun _ => pure r) Q E s₃) E s₂ := by
    rw [hs o i]
    exact wpAny_operating (wpAny_mono h₂ (fun r s₃ h₃ => wpAny_bind (wpAny_letTemporaryGo (wpAny_pure h₃))) fun _ _ x => x)
  first
    | exact wpAny_pure (wpAny_bind fin)
    | exact wpAny_bind (wpAny_pure (wpAny_bind fin))
    | exact wpAny_bind fin

theorem dict_typeIs {X : Cx} {pins : List (Addr × Obj)} {σ : St} {H : Hp} {s : Shared} {a : Addr} {y : V} {o : Option V} (I : Inv X pins σ H s) (g : DGet H a y o) : s.TypeIs (.ref a) "dict" := by
  rcases g with ⟨kvs, k, e, _, _⟩ | ⟨kvs, k, b, e, _, _, _⟩
  · obtain ⟨_, _, vs, _, dd⟩ := dk_rd I.hok e
    exact dd.typeIs
  · obtain ⟨_, _, xs, _, dd⟩ := dt_rd I.hok e
    exact dd.typeIs
theorem dict_noDict {X : Cx} {pins : List (Addr × Obj)} {σ : St} {H : Hp} {s : Shared} {a : Addr} {y : V} {o : Option V} (I : Inv X pins σ H s) (g : DGet H a y o) :
    ∀ b, Value.ref a = .ref b → ∃ ob, s.heap.get? b = some ob ∧ ob.dict = none := fun b q => by
  cases q
  rcases g with ⟨kvs, k, e, _, _⟩ | ⟨kvs, k, b, e, _, _, _⟩
  · obtain ⟨_, _, vs, _, ob, _, _, h1, h2, _⟩ := dk_rd I.hok e
    exact ⟨ob, h1, h2.2.1⟩
  · obtain ⟨_, _, xs, _, ob, _, _, h1, h2, _⟩ := dt_rd I.hok e
    exact ⟨ob, h1, h2.2.1⟩

/-- d[y] -/
def tDGet (td ty : TE) : TE := fun σ H Q => td σ H fun x H1 => ty σ H1 fun y H2 => ∃ a v, x = .ref a ∧ DGet H2 a y (some v) ∧ Q v H2
/-- y in d, y not in d -/
def tDIn (ty td : TE) : TE := fun σ H Q => ty σ H fun y H1 => td σ H1 fun x H2 => ∃ a o, x = .ref a ∧ DGet H2 a y o ∧ Q (.bl o.isSome) H2
def tDNotIn (ty td : TE) : TE := fun σ H Q => ty σ H fun y H1 => td σ H1 fun x H2 => ∃ a o, x = .ref a ∧ DGet H2 a y o ∧ Q (.bl (!o.isSome)) H2
/-- d[y] = v -/
def sDPut (td ty tv : TE) : TS := fun D σ H => tv σ H fun v H1 => td σ H1 fun x H2 => ty σ H2 fun y H3 => ∃ a H4, x = .ref a ∧ DPut H3 a y v H4 ∧ D.nx σ H4
/-- d[y] op= v -/
def sDAug (td ty tv : TE) (rd : V → V → Hp → VK → Prop) : TS := fun D σ H => td σ H fun x H1 => ty σ H1 fun y H2 => ∃ a v, x = .ref a ∧ DGet H2 a y (some v) ∧
  tv σ H2 fun y2 H3 => rd v y2 H3 fun z H4 => ∃ H5, DPut H4 a y z H5 ∧ D.nx σ H5
/-- del d[y] -/
def sDDel (td ty : TE) : TS := fun D σ H => td σ H fun x H1 => ty σ H1 fun y H2 => ∃ a kvs k, x = .ref a ∧ H2 a = some (.dK kvs) ∧ y = kV k ∧ (valV kvs k).isSome = true ∧ D.nx σ (upd H2 a (.dK (dropK kvs k)))

section
variable {X : Cx} {o i e value : Expr} {pos pos' tpos : Pos} {td ty tv : TE}
theorem pe_dget (hu : X.A.units + 1 < cLine) (ho : PE X o td) (hi : PE X i ty) (hs : NoSl i) : PE X (.Subscript o i pos) (tDGet td ty) := by
  intro pins s σ H Q I h
  refine subD_of PySem.F.slot_dict_getitem.lookup hs (thn (ho pins s σ H _ I h) fun u s1 ⟨x, H1, I1, rx, q1⟩ => thn (hi pins s1 σ H1 _ I1 q1) fun iv s2 ⟨y, H2, I2, ry, a, v, ex, g, q2⟩ => ?_)
  subst ex
  obtain rfl : u = Value.ref a := rx
  exact ⟨dict_typeIs I2 g, d_getItem hu I2 g ry fun w' s3 I3 rw' => ⟨v, H2, I3, rw', q2⟩⟩
theorem pc_din (hu : X.A.units + 1 < cLine) (hi : PE X i ty) (ho : PE X o td) : PC X .In i o (tDIn ty td) := by
  intro pins s σ H Q I h
  refine thn (hi pins s σ H _ I h) fun iv s1 ⟨y, H1, I1, ry, q1⟩ => thn (ho pins s1 σ H1 _ I1 q1) fun u s2 ⟨x, H2, I2, rx, a, ov, ex, g, q2⟩ => ?_
  subst ex
  obtain rfl : u = Value.ref a := rx
  exact d_in hu I2 g ry fun s3 I3 => ⟨.bl ov.isSome, H2, I3, rfl, q2⟩
theorem pc_dnotin (hu : X.A.units + 1 < cLine) (hi : PE X i ty) (ho : PE X o td) : PC X .NotIn i o (tDNotIn ty td) := by
  intro pins s σ H Q I h
  refine thn (hi pins s σ H _ I h) fun iv s1 ⟨y, H1, I1, ry, q1⟩ => thn (ho pins s1 σ H1 _ I1 q1) fun u s2 ⟨x, H2, I2, rx, a, ov, ex, g, q2⟩ => ?_
  subst ex
  obtain rfl : u = Value.ref a := rx
  exact d_notIn hu I2 g ry fun s3 I3 => ⟨.bl (!ov.isSome), H2, I3, rfl, q2⟩
theorem ps_dput (hu : X.A.units + 1 < cLine) (ho : PE X o td) (hi : PE X i ty) (hv : PE X value tv) (hs : swapsWith value (some (.Subscript o i pos')) pos.line X.env = pure false) :
    PS X (.Assign [.Subscript o i pos'] value pos) (sDPut td ty tv) := by
  intro pins s σ H D I h
  refine wpAny_Assign_Subscript (thn (hv pins s σ H _ I h) fun r s1 ⟨v, H1, I1, rv, q1⟩ => thn (ho pins s1 σ H1 _ I1 q1) fun u s2 ⟨x, H2, I2, rx, q2⟩ => thn (hi pins s2 σ H2 _ I2 q2) fun iv s3 ⟨y, H3, I3, ry, a, H4, ex, g, q3⟩ => ?_) hs
  subst ex
  obtain rfl : u = Value.ref a := rx
  exact d_setItem hu I3 g ry rv fun s4 I4 => ⟨σ, H4, I4, q3⟩
theorem ps_daug {op : Operator} {rd : V → V → Hp → VK → Prop} (hu : X.A.units + 1 < cLine) (ho : PE X o td) (hi : PE X i ty) (hv : PE X value tv) (hop : InOp X op rd)
    (ha : ∀ ov iv new, augStore i ov iv new = (do holding [new, ov, iv] (setItem ov iv new); release [new, ov, iv] []; pure .next)) : PS X (.AugAssign (.Subscript o i tpos) op value pos) (sDAug td ty tv rd) := by
  intro pins s σ H D I h
  refine wpAny_AugAssign_SubscriptAny (thn (ho pins s σ H _ I h) fun u s1 ⟨x, H1, I1, rx, q1⟩ => thn (hi pins s1 σ H1 _ I1 q1) fun iv s2 ⟨y, H2, I2, ry, a, v, ex, g, q2⟩ => ?_) ha
  subst ex
  obtain rfl : u = Value.ref a := rx
  refine d_getItem hu I2 g ry fun w' s3 I3 rw' => thn (hv pins s3 σ H2 _ I3 q2) fun w2 s4 ⟨y2, H3, I4, ry2, q3⟩ => thn (hop pins s4 σ H3 v y2 w' w2 _ I4 rw' ry2 q3) fun w3 s5 ⟨z, H4, I5, rz, H5, g5, q4⟩ => ?_
  exact d_setItem hu I5 g5 ry rz fun s6 I6 => ⟨σ, H5, I6, q4⟩
theorem ps_ddel (ho : PE X o td) (hi : PE X i ty) : PS X (.Delete [.Subscript o i tpos] pos) (sDDel td ty) := by
  intro pins s σ H D I h
  refine wpAny_Delete (wpAny_deleteEach_cons (wpAny_delete_Subscript (thn (ho pins s σ H _ I h) fun u s1 ⟨x, H1, I1, rx, q1⟩ => thn (hi pins s1 σ H1 _ I1 q1) fun iv s2 ⟨y, H2, I2, ry, a, kvs, k, ex, e, ey, l, q2⟩ => ?_)))
  subst ex ey
  obtain rfl : u = Value.ref a := rx
  exact d_delItem I2 e ry l fun s3 I3 => wpAny_deleteEach_nil ⟨σ, _, I3, q2⟩
end


/-! ### displays -/
theorem dk_empty {P : Program} {w : World} {H : Hp} (h : Heap) (hb : sysModules < h.objs.size) : ObjOk P w H (h.push { cls := .type "dict", data := .dict #[] }) h.objs.size (.dK []) :=
  ⟨Nat.zero_le _, beq_eq_false_iff_ne.mpr (Ne.symm (Nat.ne_of_lt hb)), [], .nil, Heap.DictOf.new h⟩
theorem dt_empty {P : Program} {w : World} {H : Hp} (h : Heap) (hb : sysModules < h.objs.size) : ObjOk P w H (h.push { cls := .type "dict", data := .dict #[] }) h.objs.size (.dT []) :=
  ⟨Nat.zero_le _, beq_eq_false_iff_ne.mpr (Ne.symm (Nat.ne_of_lt hb)), [], .nil, _, #[], 0, Heap.get?_push_size _ rfl, ⟨rfl, rfl, rfl⟩, rfl, rfl, List.nodup_nil⟩
/-- {}, to be a dict of the kind that is wanted -/
def tDNewK : TE := fun _ H Q => ∀ p, H p = none → Q (.ref p) (upd H p (.dK []))
def tDNewT : TE := fun _ H Q => ∀ p, H p = none → Q (.ref p) (upd H p (.dT []))
section
variable {X : Cx} {pos : Pos}
theorem pe_dnewK : PE X (.Dict [] [] pos) tDNewK := fun pins s σ H Q I h =>
  wpAny_Dict_empty ⟨.ref s.heap.objs.size, _, I.laid (a := s.heap.objs.size) (o := .dK []) (t' := s.toks) (fun _ _ q => Heap.get?_push_of_some _ q) (Nat.le_refl _) (dk_empty s.heap I.big), rfl, h _ (I.hok.fresh (Nat.le_refl _))⟩
theorem pe_dnewT : PE X (.Dict [] [] pos) tDNewT := fun pins s σ H Q I h =>
  wpAny_Dict_empty ⟨.ref s.heap.objs.size, _, I.laid (a := s.heap.objs.size) (o := .dT []) (t' := s.toks) (fun _ _ q => Heap.get?_push_of_some _ q) (Nat.le_refl _) (dt_empty s.heap I.big), rfl, h _ (I.hok.fresh (Nat.le_refl _))⟩
end

/-- the pairs of a display, from the left -/
def tPairs : List (TE × TE) → St → Hp → (List (V × V) → Hp → Prop) → Prop
  | [], _, H, Q => Q [] H
  | (tk, tv) :: r, σ, H, Q => tk σ H fun x H1 => tv σ H1 fun y H2 => tPairs r σ H2 fun ps H3 => Q ((x, y) :: ps) H3
abbrev VV : List (V × V) → List (Value × Value) → Prop := Paired fun p q => RelV p.1 q.1 ∧ RelV p.2 q.2
def PPs (X : Cx) (pos : Pos) (keys : List (Option Expr)) (values : List Expr) (trs : List (TE × TE)) : Prop :=
  ∀ (pins : List (Addr × Obj)) (s : Shared) (σ : St) (H : Hp) (Q : List (V × V) → Hp → Prop), Inv X pins σ H s → tPairs trs σ H Q →
    wpAny (model X.prog X.w) X.A (evalPairs (pairTrees keys values X.env pos)) (fun vs s' => ∃ ps H', Inv X pins σ H' s' ∧ VV ps vs ∧ Q ps H') X.xe s
theorem pps_nil {X : Cx} {pos : Pos} : PPs X pos [] [] [] := fun pins s σ H Q I h => pairTrees_nil_walk ⟨[], H, I, .nil, h⟩
theorem pps_cons {X : Cx} {pos : Pos} {k v : Expr} {ks : List (Option Expr)} {vs : List Expr} {tk tv : TE} {trs : List (TE × TE)} (hk : PE X k tk) (hv : PE X v tv) (hr : PPs X pos ks vs trs) :
    PPs X pos (some k :: ks) (v :: vs) ((tk, tv) :: trs) := fun pins s σ H Q I h =>
  pairTrees_cons_walk (thn (hk pins s σ H _ I h) fun u s1 ⟨x, H1, I1, rx, q1⟩ => thn (hv pins s1 σ H1 _ I1 q1) fun w2 s2 ⟨y, H2, I2, ry, q2⟩ =>
    thn (hr pins s2 σ H2 _ I2 q2) fun ws s3 ⟨ps, H3, I3, rel, q3⟩ => ⟨(x, y) :: ps, H3, I3, .cons ⟨rx, ry⟩ rel, q3⟩)

def mergeK (kvs more : List (Key × V)) : List (Key × V) := more.foldl (fun acc kv => putK acc kv.1 kv.2) kvs
theorem KV.merge : ∀ {more : List (Key × V)} {rs : List (Key × Value)} {kvs : List (Key × V)} {vs : List (Key × Value)}, KV more rs → KV kvs vs → KV (mergeK kvs more) (merged vs rs) := by
  intro more rs kvs vs r
  unfold KV at r
  induction r generalizing kvs vs with
  | nil => intro q; exact q
  | @cons p q ps qs h t ih =>
    intro r0
    have e : KV (putK kvs p.1 p.2) (stored vs q.1 q.2) := by
      have := r0.put p.1 h.2
      rw [← h.1]; exact this
    exact ih e
theorem length_mergeK : ∀ (more kvs : List (Key × V)), (mergeK kvs more).length ≤ kvs.length + more.length
  | [], kvs => by show kvs.length ≤ kvs.length + 0; omega
  | p :: r, kvs => by
    have h1 := length_mergeK r (putK kvs p.1 p.2)
    have h2 := length_putK kvs p.1 p.2
    show (mergeK (putK kvs p.1 p.2) r).length ≤ _
    rw [List.length_cons]; omega
theorem carries_of {P : Program} {w : World} : ∀ {kvs : List (Key × V)} {ws : List (Value × Value)}, VV (kvs.map fun kv => (kV kv.1, kv.2)) ws → ∃ rs, Carries (mixKind P w) ws rs ∧ KV kvs rs
  | [], _, r => by rw [List.map_nil] at r; cases r; exact ⟨[], True.intro, .nil⟩
  | p :: kvs, _, r => by
    rw [List.map_cons] at r
    cases r with
    | @cons a b as bs h t =>
      obtain ⟨rs, c, q⟩ := carries_of (P := P) (w := w) t
      obtain ⟨b1, b2⟩ := b
      exact ⟨(p.1, b2) :: rs, ⟨kV_is h.1, rfl, c⟩, .cons ⟨rfl, h.2⟩ q⟩
/-- {k: v, ..} with keys ints and texts; the new dict stands empty while the pairs are made -/
def tDisp (trs : List (TE × TE)) : TE := fun σ H Q => ∀ p, H p = none → tPairs trs σ (upd H p (.dK [])) fun ps H2 => H2 p = some (.dK []) ∧ ∃ kvs : List (Key × V), ps = kvs.map (fun kv => (kV kv.1, kv.2)) ∧ kvs.length ≤ 15 ∧ Q (.ref p) (upd H2 p (.dK (mergeK [] kvs)))
theorem pe_disp {X : Cx} {pos : Pos} {keys : List (Option Expr)} {values : List Expr} {trs : List (TE × TE)} (h : PPs X pos keys values trs) (hall : keys.all (·.isSome) = true) (hl : keys.length = values.length) (h0 : keys ≠ [])
    (h15 : keys.length ≤ 15) : PE X (.Dict keys values pos) (tDisp trs) := by
  intro pins s σ H Q I q
  have hn := I.hok.fresh (Nat.le_refl s.heap.objs.size)
  have I1 := I.laid (a := s.heap.objs.size) (o := .dK []) (h' := s.heap.push { cls := .type "dict", data := .dict #[] }) (t' := s.toks) (fun _ _ q => Heap.get?_push_of_some _ q) (Nat.le_refl _) (dk_empty s.heap I.big)
  refine wpAny_Dict_walk (knd := mixKind X.prog X.w) hall hl h0 h15 (thn (h pins _ σ _ _ I1 (q _ hn)) fun ws s2 ⟨ps, H2, I2, rel, e, kvs, ep, lk, q2⟩ => ?_)
  subst ep
  obtain ⟨rs, c, rk⟩ := carries_of (P := X.prog) (w := X.w) rel
  obtain ⟨z, hd, vs0, r0, dd⟩ := dk_of I2.hok e
  cases r0
  refine ⟨rs, c, dd, fun h' dd' hs => ⟨.ref s.heap.objs.size, _, ?_, rfl, q2⟩⟩
  have hz : (mergeK [] kvs).length ≤ sizeLine := by
    have h1 := length_mergeK kvs []
    rw [List.length_nil] at h1
    rw [sizeLine_eq]; omega
  have he : ∃ q, h'.get? s.heap.objs.size = some q := let ⟨q, _, _, hq, _⟩ := dd'; ⟨q, hq⟩
  exact d_write I2 (by rw [e]; exact True.intro) hs he (dk_new hz hd (rk.merge .nil) dd')


/-! ### methods -/
/-- a method call o.m(e) of a built-in, with one argument: what must be seen of the text -/
structure M1 (X : Cx) (o : Expr) (m : Str) (apos : Pos) (e : Expr) (cpos : Pos) : Prop where
  base : attributeBase o m X.env (eval o X.env) = eval o X.env
  few : ((backTo cpos (starEach [e] X.env)).all (fun x => !x.1) && (backToKw cpos (keywordEach [] X.env)).all (fun x => x.1.isSome)
    && decide (([e] : List Expr).length + ([] : List Keyword).length + (if ([] : List Keyword).isEmpty then 0 else 1) < 30)) = true
  line : (apos.endLine == cpos.line) = true
  trees : backTo cpos (starEach [e] X.env) = [(false, eval e X.env)]
structure M2 (X : Cx) (o : Expr) (m : Str) (apos : Pos) (e f : Expr) (cpos : Pos) : Prop where
  base : attributeBase o m X.env (eval o X.env) = eval o X.env
  few : ((backTo cpos (starEach [e, f] X.env)).all (fun x => !x.1) && (backToKw cpos (keywordEach [] X.env)).all (fun x => x.1.isSome)
    && decide (([e, f] : List Expr).length + ([] : List Keyword).length + (if ([] : List Keyword).isEmpty then 0 else 1) < 30)) = true
  line : (apos.endLine == cpos.line) = true
  trees : backTo cpos (starEach [e, f] X.env) = [(false, eval e X.env), (false, eval f X.env)]

/-- a is a dict, whatever its keys -/
def IsD (H : Hp) (a : Addr) : Prop := (∃ kvs, Rd H a (.dK kvs)) ∨ ∃ kvs, Rd H a (.dT kvs)
theorem isD_at {X : Cx} {pins : List (Addr × Obj)} {σ : St} {H : Hp} {s : Shared} {a : Addr} (I : Inv X pins σ H s) (d : IsD H a) :
    s.TypeIs (.ref a) "dict" ∧ (∀ b, Value.ref a = .ref b → ∃ ob, s.heap.get? b = some ob ∧ ob.dict = none) ∧ (a == sysModules) = false := by
  rcases d with ⟨kvs, e⟩ | ⟨kvs, e⟩
  · obtain ⟨_, hd, vs, _, dd⟩ := dk_rd I.hok e
    refine ⟨dd.typeIs, fun b q => ?_, hd⟩
    cases q
    obtain ⟨ob, _, _, h1, h2, _⟩ := dd
    exact ⟨ob, h1, h2.2.1⟩
  · obtain ⟨_, hd, xs, _, dd⟩ := dt_rd I.hok e
    refine ⟨dd.typeIs, fun b q => ?_, hd⟩
    cases q
    obtain ⟨ob, _, _, h1, h2, _⟩ := dd
    exact ⟨ob, h1, h2.2.1⟩

section
variable {X : Cx} {pins : List (Addr × Obj)} {σ : St} {H : Hp} {s : Shared} {a : Addr} {y d : V} {u r : Value} {o : Option V} {A : Around} {E : Value → Shared → Prop}
/-- d.get(y) -/
theorem d_get1 {Q : Value → Shared → Prop} (hu : A.units + 1 < cLine) (I : Inv X pins σ H s) (g : DGet H a y o) (ry : RelV y u) (h : ∀ w' s', Inv X pins σ H s' → RelV (o.getD .non) w' → Q w' s') :
    wpAny (model X.prog X.w) A (call (.builtin "dict.get") [.ref a, u]) Q E s := by
  rcases g with ⟨kvs, k, e, ey, l⟩ | ⟨kvs, k, b, e, ey, eb, l⟩
  · subst ey
    obtain ⟨z, hd, vs, rel, dd⟩ := dk_rd I.hok e
    refine call_meetsIn PySem.F.slot_dict_get dd.typeIs PySem.F.entry_dict_get (PySem.F.args_dict_get_2 _ _) (meets_dict_get (mixKind X.prog X.w) a (kV_is ry) hd) ⟨_, dd.mapOf, h _ _ (I.tok _) ?_⟩
    rw [l]
    exact (rel.val k).getD rfl
  · subst ey
    cases (show u = Value.ref b from ry)
    obtain ⟨z, hd, xs, rel, dd⟩ := dt_rd I.hok e
    refine call_meetsIn PySem.F.slot_dict_get dd.typeIs PySem.F.entry_dict_get (PySem.F.args_dict_get_2 _ _) (meetsH_dict_get (tupleKind (mixKind X.prog X.w)) a b hd) ⟨tupleKind_room_in1 hu, k, xs, key_of I.hok eb, dd, h _ _ (I.tok _) ?_⟩
    rw [l]
    exact (rel.val k).getD rfl
/-- d.get(y, x) -/
theorem d_get2 {Q : Value → Shared → Prop} (hu : A.units + 1 < cLine) (I : Inv X pins σ H s) (g : DGet H a y o) (ry : RelV y u) (rd : RelV d r) (h : ∀ w' s', Inv X pins σ H s' → RelV (o.getD d) w' → Q w' s') :
    wpAny (model X.prog X.w) A (call (.builtin "dict.get") [.ref a, u, r]) Q E s := by
  rcases g with ⟨kvs, k, e, ey, l⟩ | ⟨kvs, k, b, e, ey, eb, l⟩
  · subst ey
    obtain ⟨z, hd, vs, rel, dd⟩ := dk_rd I.hok e
    refine call_meetsIn PySem.F.slot_dict_get dd.typeIs PySem.F.entry_dict_get (PySem.F.args_dict_get_3 _ _ _) (meets_dict_get_default (mixKind X.prog X.w) a (kV_is ry) hd r) ⟨_, dd.mapOf, h _ _ (I.tok _) ?_⟩
    rw [l]
    exact (rel.val k).getD rd
  · subst ey
    cases (show u = Value.ref b from ry)
    obtain ⟨z, hd, xs, rel, dd⟩ := dt_rd I.hok e
    refine call_meetsIn PySem.F.slot_dict_get dd.typeIs PySem.F.entry_dict_get (PySem.F.args_dict_get_3 _ _ _) (meetsH_dict_get_default (tupleKind (mixKind X.prog X.w)) a b hd r) ⟨tupleKind_room_in1 hu, k, xs, key_of I.hok eb, dd, h _ _ (I.tok _) ?_⟩
    rw [l]
    exact (rel.val k).getD rd
end

def tDGet1 (td ty : TE) : TE := fun σ H Q => td σ H fun x H1 => ∃ a, x = .ref a ∧ IsD H1 a ∧ ty σ H1 fun y H2 => ∃ o, DGet H2 a y o ∧ Q (o.getD .non) H2
def tDGet2 (td ty tx : TE) : TE := fun σ H Q => td σ H fun x H1 => ∃ a, x = .ref a ∧ IsD H1 a ∧ ty σ H1 fun y H2 => tx σ H2 fun z H3 => ∃ o, DGet H3 a y o ∧ Q (o.getD z) H3
/-- d.pop(k): there; d.pop(k, x): there or not -/
def tDPop1 (td ty : TE) : TE := fun σ H Q => td σ H fun x H1 => ∃ a, x = .ref a ∧ IsD H1 a ∧ ty σ H1 fun y H2 => ∃ kvs k v, H2 a = some (.dK kvs) ∧ y = kV k ∧ valV kvs k = some v ∧ Q v (upd H2 a (.dK (dropK kvs k)))
def tDPop2 (td ty tx : TE) : TE := fun σ H Q => td σ H fun x H1 => ∃ a, x = .ref a ∧ IsD H1 a ∧ ty σ H1 fun y H2 => tx σ H2 fun z H3 => ∃ kvs k, H3 a = some (.dK kvs) ∧ y = kV k ∧
  (∀ v, valV kvs k = some v → Q v (upd H3 a (.dK (dropK kvs k)))) ∧ (valV kvs k = none → Q z H3)
section
variable {X : Cx} {o e f : Expr} {apos cpos : Pos} {td ty tx : TE}
theorem pe_dget1 (hu : X.A.units + 1 < cLine) (ho : PE X o td) (he : PE X e ty) (m : M1 X o "get" apos e cpos) : PE X (.Call (.Attribute o "get" apos) [e] [] cpos) (tDGet1 td ty) := by
  intro pins s σ H Q I h
  refine wpAny_Call_method m.base m.few m.line PySem.F.plainAttrs_dict PySem.F.slot_dict_get PySem.F.type_dict_get (thn (ho pins s σ H _ I h) fun u s1 ⟨x, H1, I1, rx, a, ex, d, q1⟩ => ?_)
  subst ex
  obtain rfl : u = Value.ref a := rx
  obtain ⟨t1, t2, _⟩ := isD_at I1 d
  refine ⟨t1, t2, ?_⟩
  rw [m.trees]
  refine Calls.callWith_builtin rfl (Calls.evalArgs_plain (Calls.spliced_cons (thn (he pins s1 σ H1 _ I1 q1) fun iv s2 ⟨y, H2, I2, ry, ov, g, q2⟩ => Calls.spliced_nil ?_)))
  exact d_get1 hu I2 g ry fun w' s3 I3 rw' => ⟨_, H2, I3, rw', q2⟩
theorem pe_dget2 (hu : X.A.units + 1 < cLine) (ho : PE X o td) (he : PE X e ty) (hf : PE X f tx) (m : M2 X o "get" apos e f cpos) : PE X (.Call (.Attribute o "get" apos) [e, f] [] cpos) (tDGet2 td ty tx) := by
  intro pins s σ H Q I h
  refine wpAny_Call_method m.base m.few m.line PySem.F.plainAttrs_dict PySem.F.slot_dict_get PySem.F.type_dict_get (thn (ho pins s σ H _ I h) fun u s1 ⟨x, H1, I1, rx, a, ex, d, q1⟩ => ?_)
  subst ex
  obtain rfl : u = Value.ref a := rx
  obtain ⟨t1, t2, _⟩ := isD_at I1 d
  refine ⟨t1, t2, ?_⟩
  rw [m.trees]
  refine Calls.callWith_builtin rfl (Calls.evalArgs_plain (Calls.spliced_cons (thn (he pins s1 σ H1 _ I1 q1) fun iv s2 ⟨y, H2, I2, ry, q2⟩ =>
    Calls.spliced_cons (thn (hf pins s2 σ H2 _ I2 q2) fun fv s3 ⟨z, H3, I3, rz, ov, g, q3⟩ => Calls.spliced_nil ?_))))
  exact d_get2 hu I3 g ry rz fun w' s4 I4 rw' => ⟨_, H3, I4, rw', q3⟩
theorem pe_dpop1 (ho : PE X o td) (he : PE X e ty) (m : M1 X o "pop" apos e cpos) : PE X (.Call (.Attribute o "pop" apos) [e] [] cpos) (tDPop1 td ty) := by
  intro pins s σ H Q I h
  refine wpAny_Call_method m.base m.few m.line PySem.F.plainAttrs_dict PySem.F.slot_dict_pop PySem.F.type_dict_pop (thn (ho pins s σ H _ I h) fun u s1 ⟨x, H1, I1, rx, a, ex, d, q1⟩ => ?_)
  subst ex
  obtain rfl : u = Value.ref a := rx
  obtain ⟨t1, t2, _⟩ := isD_at I1 d
  refine ⟨t1, t2, ?_⟩
  rw [m.trees]
  refine Calls.callWith_builtin rfl (Calls.evalArgs_plain (Calls.spliced_cons (thn (he pins s1 σ H1 _ I1 q1) fun iv s2 ⟨y, H2, I2, ry, kvs, k, v, ea, ey, l, q2⟩ => Calls.spliced_nil ?_)))
  subst ey
  exact d_pop I2 ea ry l (.inl rfl) fun w' s3 I3 rw' => ⟨v, _, I3, rw', q2⟩
theorem pe_dpop2 (ho : PE X o td) (he : PE X e ty) (hf : PE X f tx) (m : M2 X o "pop" apos e f cpos) : PE X (.Call (.Attribute o "pop" apos) [e, f] [] cpos) (tDPop2 td ty tx) := by
  intro pins s σ H Q I h
  refine wpAny_Call_method m.base m.few m.line PySem.F.plainAttrs_dict PySem.F.slot_dict_pop PySem.F.type_dict_pop (thn (ho pins s σ H _ I h) fun u s1 ⟨x, H1, I1, rx, a, ex, d, q1⟩ => ?_)
  subst ex
  obtain rfl : u = Value.ref a := rx
  obtain ⟨t1, t2, _⟩ := isD_at I1 d
  refine ⟨t1, t2, ?_⟩
  rw [m.trees]
  refine Calls.callWith_builtin rfl (Calls.evalArgs_plain (Calls.spliced_cons (thn (he pins s1 σ H1 _ I1 q1) fun iv s2 ⟨y, H2, I2, ry, q2⟩ =>
    Calls.spliced_cons (thn (hf pins s2 σ H2 _ I2 q2) fun fv s3 ⟨z, H3, I3, rz, kvs, k, ea, ey, q3, q4⟩ => Calls.spliced_nil ?_))))
  subst ey
  cases l : valV kvs k with
  | some v => exact d_pop I3 ea ry l (.inr ⟨fv, rfl⟩) fun w' s4 I4 rw' => ⟨v, _, I4, rw', q3 v l⟩
  | none => exact d_popD I3 ea ry l fun s4 I4 => ⟨z, H3, I4, rz, q4 l⟩
end

/-! ### dict(d): a copy -/
section
variable {X : Cx} {pins : List (Addr × Obj)} {σ : St} {H : Hp} {s : Shared} {a : Addr} {kvs : List (Key × V)} {A : Around} {E : Value → Shared → Prop}
theorem d_copyOf {Q : Value → Shared → Prop} (I : Inv X pins σ H s) (e : Rd H a (.dK kvs)) (h : ∀ p s', H p = none → Inv X pins σ (upd H p (.dK kvs)) s' → Q (.ref p) s') : wpAny (model X.prog X.w) A (call (.type "dict") [.ref a]) Q E s := by
  obtain ⟨z, hd, vs, rel, dd⟩ := dk_rd I.hok e
  refine kt_call_dict hd dd (by rw [← rel.length]; exact z) fun h' dd' hs => ?_
  refine h _ _ (I.hok.fresh (Nat.le_refl _)) (I.laid (a := s.heap.objs.size) (o := .dK kvs) (t' := s.toks) (fun b q hq => ?_) (Nat.le_refl _) (dk_new z (beq_eq_false_iff_ne.mpr (Ne.symm (Nat.ne_of_lt I.big))) rel dd'))
  exact (hs.2 b (Nat.ne_of_lt (Heap.lt_size hq))).trans (Heap.get?_push_of_some _ hq)
end


section
variable {X : Cx} {pins : List (Addr × Obj)} {σ : St} {H : Hp} {s : Shared} {a : Addr} {y : V} {u : Value} {A : Around} {E : Value → Shared → Prop}
/-- d[y], not there: a KeyError -/
theorem d_missing {Q : Value → Shared → Prop} (hu : A.units + 1 < cLine) (hh : A.handled = none) (I : Inv X pins σ H s) (g : DGet H a y none) (ry : RelV y u)
    (h : ∀ h' e t', Heap.NewExc s.heap h' e "KeyError" → E (.ref e) { s with heap := h', toks := t' }) : wpAny (model X.prog X.w) A (getItem (.ref a) u) Q E s := by
  rcases g with ⟨kvs, k, e, ey, l⟩ | ⟨kvs, k, b, e, ey, eb, l⟩
  · subst ey
    obtain ⟨z, hd, vs, rel, dd⟩ := dk_rd I.hok e
    have hn : valueAt vs k = none := RelO.none_of (by rw [l]; exact rel.val k)
    exact wpAny_getItem_missing_of (kV_is ry) hd hh dd.mapOf hn fun h' ex ne => h h' ex _ ne
  · subst ey
    cases (show u = Value.ref b from ry)
    obtain ⟨z, hd, xs, rel, dd⟩ := dt_rd I.hok e
    have hn : (atKey xs k).map (·.2) = none := RelO.none_of (by rw [l]; exact rel.val k)
    exact wpAny_getItem_missing_heap (tupleKind_room_in1 hu) (key_of I.hok eb) hd hh dd (Option.map_eq_none_iff.mp hn) fun h' ex ne => h h' ex _ ne
end
end L2
namespace Att
open PySem PySem.W PySem.Calls PyProof.Rows

/-! ### the script -/
theorem ints_of_wellAll {P : Params} {h : Heap} : ∀ (ns : List Int) (vs : List Value), WellAll P h vs (ns.map WData.int) → IntsAre vs ns := by
  intro ns
  induction ns with
  | nil =>
    intro vs w
    rw [List.map_nil] at w
    cases w
    exact .nil
  | cons n ns ih =>
    intro vs w
    rw [List.map_cons] at w
    cases w with
    | cons a b =>
      cases a
      exact .cons _ _ (ih _ b)

theorem script_of {l : OpenLaw} {n : Nat} (hn : l.most = some n) {P : Params} {h : Heap} {args : List WData} {vals : List Value}
    (hpre : l.row.toRowW.claim.pre args = true) (hwl : WellAll P h vals args) :
    ∃ a vs ns, vals = [Value.ref a] ∧ args = [WData.list (ns.map WData.int)] ∧ h.get? a = some { cls := .type "list", data := .seq vs.toArray } ∧ IntsAre vs ns ∧ ns.length ≤ n := by
  have hsh : WShape.hasAll [] args [.list .int] = true := (pre_splitW hpre).1
  have hc : l.pre.holds [] { args := args } = true := (pre_splitW hpre).2
  obtain ⟨d, r, rfl, h1, h2⟩ := hasAllW_cons hsh
  obtain rfl := hasAllW_nil h2
  obtain ⟨xs, rfl, h3⟩ := hasW_list h1
  obtain ⟨ns, rfl⟩ := items_int h3
  have hlen : ns.length ≤ n := by
    unfold OpenLaw.pre at hc
    have h4 : (WTm.not (.lt (.lit (.int (n : Int))) (.len (.arg 0)))).holds [] { args := [.list (ns.map .int)] } = true := by
      have h4 := (holds_andW hc).1
      rw [hn] at h4
      exact h4
    have h5 := condW_of h4 (w_not (w_lt w_lit (w_len_list (w_arg rfl))))
    rw [List.length_map] at h5
    refine Nat.le_of_not_lt fun q => ?_
    have q' : (n : Int) < ((ns.length : Nat) : Int) := by omega
    first
      | (rw [decide_eq_true q'] at h5; exact absurd h5 (by decide))
      | (simp at h5; omega)
  cases hwl with
  | cons w1 w2 =>
    cases w2
    cases w1 with
    | list ho hall => exact ⟨_, _, ns, rfl, rfl, ho, ints_of_wellAll ns _ hall, hlen⟩

theorem post_true (l : OpenLaw) (args : List WData) : l.row.toRowW.claim.post args (.bool true) args = true :=
  postW_of (r := l.row.toRowW) (X := (true == true))
    (show WShape.has [] (.bool true) .bool = true by first | rfl | decide | simp [WShape.has, WShape.arms, WShape.armsAll])
    (show (WTm.eq .res (.lit (.bool true))).value [] { args := args, res := some (.bool true), after := args } = some (.bool (true == true)) from w_eq_bool (w_res rfl) w_lit) rfl

/-! ### the attachment: holds_open's last premise (the goal 'hc' behind k_head) from a wpAny of the law's body -/
theorem attach {l : OpenLaw} {n : Nat} {q : Program} {loose : List Str} {XP : (Str → Option Value) → Heap → Prop} {YP : World → Heap → Prop} {d : DefRec} {x : Str}
    (hn : l.most = some n) (hdf : d.params.defaults = [])
    (hbind : ∀ pm cd doc v : Value, bindArgs (docDef d.name d.params d.body d.scope pm cd doc) ⟨[v], []⟩ = pure [(x, v)])
    (hx : d.scope.names.lookup x = some .local ∨ d.scope.names.lookup x = some .cell)
    (hk : d.scope.kind = .function) (hco : d.scope.isCoroutine = false) (hgen : d.scope.isGenerator = false)
    (body : ∀ (w : World) (s₀ s₁ s : Shared) (mg mb : Str → Option Value) (fa : Addr) (o : Obj) (pm cd doc : Value) (a : Addr) (vs : List Value) (ns : List Int),
      Ground q loose [] XP w s₀ mg mb s₁.heap → YP w s₁.heap →
      s₁.heap.get? fa = some o → o.data = .func (docDef d.name d.params d.body d.scope pm cd doc) → s₁.heap.CodeRec cd d.name → mg d.name = some (.ref fa) →
      s₁.heap.get? a = some { cls := .type "list", data := .seq vs.toArray } → IntsAre vs ns → ns.length ≤ n →
      s.gens = #[] → s.os = s₁.os →
      Fr s₁.heap s₁.heap.objs.size s.heap (bindL (envOfC d.name d.scope s₁.heap.objs.size fa cd).kindOf [(x, .ref a)] fun _ => none) →
      Cl s₁.heap.objs.size (cellsFrom (s₁.heap.objs.size + 1) d.scope.names []) s.heap (bindC (envOfC d.name d.scope s₁.heap.objs.size fa cd).kindOf [(x, .ref a)] fun _ => none) →
      wpAny (model l.prog w) (callerA.deeper (envOfC d.name d.scope s₁.heap.objs.size fa cd)) (execs d.body (envOfC d.name d.scope s₁.heap.objs.size fa cd))
        (fun f s' => f = .ret (.bool true) ∧ OldK s₁.heap s'.heap ∧ s'.os = s₁.os ∧ AllBare s'.gens) (fun _ _ => False) s) :
    WalkO q loose XP YP l.row.toRowW d [] (fun f vs => PySem.call f vs) := by
  intro w s₀ s₁ mg mb G Y fa o pm cd doc dV kV ho hd hcd hD hmg hg args vals as hpre hlay hrd hwl hlo
  obtain rfl : dV = .none := Dflts.none hD hdf
  obtain rfl : kV = .none := Dflts.noKw hD
  obtain ⟨a, vs, ns, rfl, rfl, hobj, hints, hlen⟩ := script_of hn hpre hwl
  refine enter_call ?_
  refine call_cells_ret (o := o) (by rw [depth_caller]; decide) ho (fd_plain hd) G.T.nolimit hcd (hbind pm cd doc (.ref a)) (fun y hy => ?_) (fun h₁ tk F X => ?_) hco hgen hk
  · obtain rfl : y = (x, Value.ref a) := List.mem_singleton.mp hy
    rcases hx with e | e
    · exact .inl e
    · exact .inr ⟨e, cellsFrom_some _ _ _ (.inl e)⟩
  · refine wpAny_mono (body w s₀ s₁ { s₁ with heap := h₁, toks := tk } mg mb fa o pm cd doc a vs ns G Y ho (fd_plain hd) hcd hmg hobj hints hlen hg rfl F X) (fun f s' hq => ?_) (fun _ _ hq => hq)
    obtain ⟨rfl, h2, h3, h4⟩ := hq
    exact ⟨.inl ⟨.bool true, .bool true, [], rfl, fun _ => rfl, .bool true, post_true l _, fun _ => ⟨List.Pairwise.nil, fun _ hm => (nomatch hm)⟩⟩, h2, h3, h4⟩

/-- the same from a codeAny of the CALL (for a layer whose function contracts speak of calls) -/
theorem attach_call {l : OpenLaw} {n : Nat} {q : Program} {loose : List Str} {XP : (Str → Option Value) → Heap → Prop} {YP : World → Heap → Prop} {d : DefRec}
    (hn : l.most = some n) (hdf : d.params.defaults = [])
    (call : ∀ (w : World) (s₀ s₁ : Shared) (mg mb : Str → Option Value) (fa : Addr) (o : Obj) (pm cd doc : Value) (a : Addr) (vs : List Value) (ns : List Int),
      Ground q loose [] XP w s₀ mg mb s₁.heap → YP w s₁.heap →
      s₁.heap.get? fa = some o → o.data = .func (docDef d.name d.params d.body d.scope pm cd doc) → s₁.heap.CodeRec cd d.name → mg d.name = some (.ref fa) →
      s₁.heap.get? a = some { cls := .type "list", data := .seq vs.toArray } → IntsAre vs ns → ns.length ≤ n → s₁.gens = #[] →
      codeAny (model l.prog w) callerA (.call (.ref fa) ⟨[.ref a], []⟩) (fun r s' => r = .ok (.ret (.bool true)) ∧ OldK s₁.heap s'.heap ∧ s'.os = s₁.os ∧ AllBare s'.gens) s₁) :
    WalkO q loose XP YP l.row.toRowW d [] (fun f vs => PySem.call f vs) := by
  intro w s₀ s₁ mg mb G Y fa o pm cd doc dV kV ho hd hcd hD hmg hg args vals as hpre hlay hrd hwl hlo
  obtain rfl : dV = .none := Dflts.none hD hdf
  obtain rfl : kV = .none := Dflts.noKw hD
  obtain ⟨a, vs, ns, rfl, rfl, hobj, hints, hlen⟩ := script_of hn hpre hwl
  refine enter_call (codeAny_mono (call w s₀ s₁ mg mb fa o pm cd doc a vs ns G Y ho (fd_plain hd) hcd hmg hobj hints hlen hg) fun r s' hq => ?_)
  obtain ⟨rfl, h2, h3, h4⟩ := hq
  exact ⟨.inl ⟨.bool true, .bool true, [], rfl, fun _ => rfl, .bool true, post_true l _, fun _ => ⟨List.Pairwise.nil, fun _ hm => (nomatch hm)⟩⟩, h2, h3, h4⟩

/-- the same where the top left finished generators (o_head chose holds_openN): nothing may have changed at all and no generator may be left -/
theorem attachN {l : OpenLaw} {n : Nat} {q : Program} {loose : List Str} {XP : (Str → Option Value) → Heap → Prop} {YP : World → Heap → Prop} {d : DefRec} {x : Str}
    (hn : l.most = some n) (hdf : d.params.defaults = [])
    (hbind : ∀ pm cd doc v : Value, bindArgs (docDef d.name d.params d.body d.scope pm cd doc) ⟨[v], []⟩ = pure [(x, v)])
    (hx : d.scope.names.lookup x = some .local ∨ d.scope.names.lookup x = some .cell)
    (hk : d.scope.kind = .function) (hco : d.scope.isCoroutine = false) (hgen : d.scope.isGenerator = false)
    (body : ∀ (w : World) (s₀ s₁ s : Shared) (mg mb : Str → Option Value) (fa : Addr) (o : Obj) (pm cd doc : Value) (a : Addr) (vs : List Value) (ns : List Int),
      Ground q loose [] XP w s₀ mg mb s₁.heap → YP w s₁.heap →
      s₁.heap.get? fa = some o → o.data = .func (docDef d.name d.params d.body d.scope pm cd doc) → s₁.heap.CodeRec cd d.name → mg d.name = some (.ref fa) →
      s₁.heap.get? a = some { cls := .type "list", data := .seq vs.toArray } → IntsAre vs ns → ns.length ≤ n →
      s.gens = #[] → s.os = s₁.os →
      Fr s₁.heap s₁.heap.objs.size s.heap (bindL (envOfC d.name d.scope s₁.heap.objs.size fa cd).kindOf [(x, .ref a)] fun _ => none) →
      Cl s₁.heap.objs.size (cellsFrom (s₁.heap.objs.size + 1) d.scope.names []) s.heap (bindC (envOfC d.name d.scope s₁.heap.objs.size fa cd).kindOf [(x, .ref a)] fun _ => none) →
      wpAny (model l.prog w) (callerA.deeper (envOfC d.name d.scope s₁.heap.objs.size fa cd)) (execs d.body (envOfC d.name d.scope s₁.heap.objs.size fa cd))
        (fun f s' => f = .ret (.bool true) ∧ (∀ b o, s₁.heap.get? b = some o → s'.heap.get? b = some o) ∧ s'.os = s₁.os ∧ s'.gens = #[]) (fun _ _ => False) s) :
    WalkN q loose XP YP l.row.toRowW d [] (fun f vs => PySem.call f vs) := by
  intro w s₀ s₁ mg mb G Y fa o pm cd doc dV kV ho hd hcd hD hmg hg args vals as hpre hlay hrd hwl hlo
  obtain rfl : dV = .none := Dflts.none hD hdf
  obtain rfl : kV = .none := Dflts.noKw hD
  obtain ⟨a, vs, ns, rfl, rfl, hobj, hints, hlen⟩ := script_of hn hpre hwl
  refine enter_callW ?_
  refine call_cells_ret (o := o) (by rw [depth_caller]; decide) ho (fd_plain hd) G.T.nolimit hcd (hbind pm cd doc (.ref a)) (fun y hy => ?_) (fun h₁ tk F X => ?_) hco hgen hk
  · obtain rfl : y = (x, Value.ref a) := List.mem_singleton.mp hy
    rcases hx with e | e
    · exact .inl e
    · exact .inr ⟨e, cellsFrom_some _ _ _ (.inl e)⟩
  · refine wpAny_mono (body w s₀ s₁ { s₁ with heap := h₁, toks := tk } mg mb fa o pm cd doc a vs ns G Y ho (fd_plain hd) hcd hmg hobj hints hlen hg rfl F X) (fun f s' hq => ?_) (fun _ _ hq => hq)
    obtain ⟨rfl, h2, h3, h4⟩ := hq
    exact ⟨.inl ⟨.bool true, .bool true, [], rfl, fun _ => rfl, .bool true, post_true l _, fun _ => ⟨List.Pairwise.nil, fun _ hm => (nomatch hm)⟩⟩, h2, h3, h4⟩

/-! ### rules over ANY heap (no ledger) from facts about the written part K: the library's own take a ledger (News) for what they write -/
section
variable {prog : Program} {w : World} {A : Around} {E : Value → Shared → Prop} {s : Shared} {K : Frag}

/-- a def of the module, or a method (qual 'C.m'), entered: the frame is the next address; cells behind it -/
theorem call_fn {R : Result → Shared → Prop} {name qual : Str} {params : Arguments} {body : List Stmt} {scope : Scope} {dV kV doc pm cdv ct oc : Value} {an od : Option Addr} {osl : Array (Option Value)} {f : Addr} {args : Args} {binds : List (Str × Value)}
    (X : K.In s.heap) (hlim : s.heap.NoLimit) (ho : K.lookup f = some ⟨oc, od, .func (fnOf name qual params body scope dV kV doc pm an cdv ct), osl⟩) (hcd : codeIn K cdv qual = true) (hroom : A.depth < recursionLimit)
    (hbind : BindsTo s (fnOf name qual params body scope dV kV doc pm an cdv ct) args binds)
    (hkind : (binds.all fun y => scope.names.lookup y.1 == some .local || scope.names.lookup y.1 == some .cell) = true)
    (h : ∀ s₁, InCallC s s.heap.objs.size (bindL (envOfC qual scope s.heap.objs.size f cdv).kindOf binds fun _ => none) (cellsFrom (s.heap.objs.size + 1) scope.names [])
        (bindC (envOfC qual scope s.heap.objs.size f cdv).kindOf binds fun _ => none) s₁ →
      wpAny (model prog w) (A.deeper (envOfC qual scope s.heap.objs.size f cdv)) (execs body (envOfC qual scope s.heap.objs.size f cdv))
        (fun fl s' => R (.ok (.ret (match fl with | .ret v => v | _ => .none))) s')
        (fun e s' => wpAny (model prog w) (A.deeper (envOfC qual scope s.heap.objs.size f cdv)) (leaving (envOfC qual scope s.heap.objs.size f cdv) e) (fun _ s'' => R (.error e) s'') (fun e' s'' => R (.error e') s'') s') s₁)
    (hco : scope.isCoroutine = false) (hgen : scope.isGenerator = false) (hk : scope.kind = .function) : codeAny (model prog w) A (.call (.ref f) args) R s := by
  refine codeAny_call_function hroom (X _ _ ho) rfl hco hgen rfl (codeRec_of X hcd) (hbind _ _ _ _ ?_)
  refine wpAny_newFunctionEnv_cells hk (kindsX hkind _) fun env he s₁ x => ?_
  subst he
  exact ⟨hlim.keeps x.toInCall.keep, codeAny_func (h s₁ x)⟩

/-- C(..): dict at size, instance at size + 1, then __init__ -/
theorem make_obj {R : Result → Shared → Prop} {C fI : Addr} {rest : List Value} {kw : List (Str × Value)}
    (X : K.In s.heap) (hm : makesIn K C = true) (hi : findIn K (.ref C) "__init__" = some (some (.ref fI))) (hf : isFn K (.ref fI) = true)
    (h : codeAny (model prog w) (A.under (.builtin "type.__call__" ⟨.ref C :: rest, kw⟩)) (.call (.ref fI) ⟨.ref (s.heap.objs.size + 1) :: rest, kw⟩) (InitBack (s.heap.objs.size + 1) R)
      { s with heap := (s.heap.push emptyDict).push (instObj C s.heap.objs.size) }) : codeAny (model prog w) A (.call (.ref C) ⟨rest, kw⟩) R s := by
  obtain ⟨hh, g, d, t, os⟩ := s
  exact make_core (makes_of X hm) (looks_findIn X hi) (fun self => bind_fn X self (beq_iff_eq.mp hf)) (.inl rfl) h

/-- x.name where the instance's dict holds the name and the class does not -/
theorem get_field {x C : Addr} {ox : Obj} {es : List DictEntry} {n : Nat} {name : Str} {expr : Bool} {v : Value} {Q : Value → Shared → Prop}
    (X : K.In s.heap) (I : PySem.W.InstAt s.heap x ox C (some (dictOf es n))) (hg : plainGet K C name = true) (hh : hasDictIn K C = true) (ha : findIn K (.ref C) name = some none)
    (hl : getL name es = some (some v)) (hv : handedIn v = true) (h : Q v { s with toks := s.toks + 1 }) : wpAny (model prog w) A (getAttr (.ref x) name expr) Q E s :=
  get_value X I (plainGet_of hg).1 (findObj_own hh ha rfl hl) hv h

/-- x.m(..): the method found in the class -/
theorem get_method {x C f : Addr} {ox : Obj} {es : List DictEntry} {n : Nat} {name : Str} {pl : Sem Bool} {Q : Value × List Value → Shared → Prop}
    (X : K.In s.heap) (I : PySem.W.InstAt s.heap x ox C (some (dictOf es n))) (hg : plainGet K C name = true) (hf : findIn K (.ref C) name = some (some (.ref f))) (ht : isFn K (.ref f) = true)
    (hl : getL name es = some none) (h : Q (.ref f, [.ref x]) s) : wpAny (model prog w) A (getMethod (.ref x) name pl) Q E s :=
  method_fn X I (plainGet_of hg).1 (plainGet_of hg).2 hf (beq_iff_eq.mp ht) (by show (lookIn name (dictOf es n)).map _ = _; rw [lookIn_dict, hl]; rfl) h

/-! the whole heap as the ledger: makes every rule that writes through a ledger a rule over any heap -/
def noObjs (h : Heap) : Heap := { h with objs := #[] }
theorem noObjs_get (h : Heap) (b : Addr) : (noObjs h).get? b = none := by
  cases e : (noObjs h).get? b with
  | none => rfl
  | some o => exact absurd (Heap.lt_size e) (Nat.not_lt_zero _)
def ledger (h : Heap) (L d : Addr) : List (Addr × Obj) := (List.range h.objs.size).filterMap fun a => if a = L ∨ a = d then none else (h.get? a).map fun o => (a, o)
theorem mem_ledger {h : Heap} {L d a : Addr} {o : Obj} : (a, o) ∈ ledger h L d ↔ a ≠ L ∧ a ≠ d ∧ h.get? a = some o := by
  unfold ledger
  rw [List.mem_filterMap]
  constructor
  · rintro ⟨b, _, e⟩
    split at e
    · cases e
    · rename_i hb
      obtain ⟨o', ho, e'⟩ := Option.map_eq_some_iff.mp e
      cases e'
      exact ⟨fun q => hb (.inl q), fun q => hb (.inr q), ho⟩
  · rintro ⟨n1, n2, ho⟩
    refine ⟨a, List.mem_range.mpr (Heap.lt_size ho), ?_⟩
    rw [if_neg (show ¬ (a = L ∨ a = d) from fun q => q.elim n1 n2), ho] <;> rfl
theorem news_ledger {h : Heap} {L d : Addr} {od : Obj} (hne : d ≠ L) (ho : h.get? d = some od) : News (noObjs h) L h ([] ++ (d, od) :: ledger h L d) := by
  rintro ⟨a, o⟩ hp
  rcases List.mem_cons.mp hp with e | hp
  · cases e
    exact ⟨ho, hne, noObjs_get _ _⟩
  · obtain ⟨n1, n2, e⟩ := mem_ledger.mp hp
    exact ⟨e, n1, noObjs_get _ _⟩
theorem fr_all {h : Heap} {L : Addr} {m : Str → Option Value} (n : h.Ns L m) : Fr (noObjs h) L h m :=
  ⟨n, fun b o e => (by rw [noObjs_get] at e; cases e), Nat.zero_le _⟩
/-- Upd of the head entry (for append_K, setItem_K ..) -/
theorem upd_ledger {h : Heap} {L d : Addr} {o o' : Obj} : Upd d o o' ((d, o) :: ledger h L d) ((d, o') :: ledger h L d) :=
  .head fun ⟨_, _⟩ hp => (mem_ledger.mp hp).2.1

/-- x.name = v over any heap: L is any namespace of the heap (the frame's, say): its map stays, its object is not told; all else but the dict stays -/
theorem set_field {x C dx L : Addr} {ox : Obj} {m : Str → Option Value} {es es' : List DictEntry} {n n' : Nat} {name : Str} {v : Value} {Q : Unit → Shared → Prop}
    (X : K.In s.heap) (I : PySem.W.InstAt s.heap x ox C (some (dictOf es n))) (hd : ox.dict = some dx) (hL : s.heap.Ns L m) (hne : dx ≠ L)
    (hs : findIn K (.ref C) "__setattr__" = some (some (.builtin "object.__setattr__"))) (hp : plainOver K C = true) (ht : takerIn K C name = some none) (hh : hasDictIn K C = true) (hl : (getL name es).isSome = true)
    (e : (putL name (PyData.keyHash w.params name) (.str name (s.toks + 1)) v es, putN name es n) = (es', n')) (hz : es'.length ≤ 1000)
    (h : ∀ h' : Heap, h'.Ns L m → h'.get? dx = some (dictOf es' n') → (∀ b o, b ≠ dx → b ≠ L → s.heap.get? b = some o → h'.get? b = some o) → Q () { s with heap := h', toks := s.toks + 2 }) :
    wpAny (model prog w) A (setAttr (.ref x) name v) Q E s := by
  obtain ⟨e1, e2⟩ := Prod.mk.inj e
  have hdx : s.heap.get? dx = some (dictOf es n) := by
    have := I.dict
    rw [hd] at this
    exact this
  refine set_plain X I hs (osa_dict (s := { s with toks := s.toks + 1 }) (h₀ := noObjs s.heap) (L := L) (m := m) (od := dictOf es n) (od' := dictOf es' n') (es := es') (n := n') (pre := []) (post := ledger s.heap L dx)
    (fr_all hL) (news_ledger hne hdx) X I hd hp ht hh hl (fun _ q => nomatch q) (fun ⟨_, _⟩ q => (mem_ledger.mp q).2.1) (by rw [putName_dict, e1, e2]) rfl hz fun h' F' N' => ?_)
  exact h h' F'.ns (N'.get (List.Mem.head _)) fun b o n1 n2 ho => N'.get (List.Mem.tail _ (mem_ledger.mpr ⟨n2, n1, ho⟩))
end
end Att

namespace L2
open PySem PySem.Spec PyProof.Rows

theorem vals_ints : ∀ {vs : List Value} {ns : List Int}, IntsAre vs ns → Vals (ns.map V.int) vs
  | _, _, .nil => .nil
  | _, _, .cons n t h => .cons ⟨t, rfl⟩ (vals_ints h)

/-- nothing is tracked but the script, known to the object (or it is an object of the module) -/
def Only (H : Hp) : Prop := ∀ b, H b = none ∨ ∃ o xs, H b = some (.frz o (.lst xs))

/-- THE HEAD: the law's promise, at the heap behind the top. F, the promise of the law's def, may use that base is part of the heap (so K.In base, base.Ns mainGlobals mg stand in Mod) -/
theorem law_call {P : Program} {w : World} {K : PySem.W.Frag} {mg mb : Str → Option Value} {CX : CXT} {k : Nat} {fa a : Addr} {fd : FuncData} {x : Str} {sp : Sp} {s₁ : Shared} {vs : List Value} {ns : List Int}
    (KX : K.In s₁.heap) (hns : s₁.heap.Ns mainGlobals mg) (hb : s₁.heap.Ns builtinsNs mb) (hbb : ∀ x : Str, x ≠ "__name__" → mb x = bootBuiltins x) (hlim : s₁.heap.NoLimit) (hg : s₁.gens = #[])
    (ha : s₁.heap.get? a = some { cls := .type "list", data := .seq vs.toArray }) (hi : IntsAre vs ns) (hl : ns.length ≤ sizeLine) (hr : Room k callerA)
    (F : ∀ base : Heap, K.In base → base.Ns mainGlobals mg → FnOk P w K mg base CX k fa fd [x] sp) (hbind : ∀ (s : Shared) (u : Value), BindsTo s fd ⟨[u], []⟩ [(x, u)])
    (hsp : ∀ H : Hp, Only H → SqL K H a (ns.map V.int) → sp [.ref a] H (fun v _ => v = .bl true) fun _ _ _ => False)
    (hCX : ∀ H e s', CX [] H s₁ (fun _ _ _ => False) e s' → False) :
    codeAny (model P w) callerA (.call (.ref fa) ⟨[.ref a], []⟩) (fun r s' => r = .ok (.ret (.bool true)) ∧ OldK s₁.heap s'.heap ∧ s'.os = s₁.os ∧ AllBare s'.gens) s₁ := by
  have rv := vals_ints hi
  have lenV := hi.length
  -- from an abstract heap in which nothing but the script may be tracked
  have core : ∀ H : Hp, Only H → SqL K H a (ns.map V.int) → HOk P w H s₁.heap → (∀ b, H b ≠ none → b = a) → (H a ≠ none → K.lookup a = none) →
      codeAny (model P w) callerA (.call (.ref fa) ⟨[.ref a], []⟩) (fun r s' => r = .ok (.ret (.bool true)) ∧ OldK s₁.heap s'.heap ∧ s'.os = s₁.os ∧ AllBare s'.gens) s₁ := by
    intro H hO hS hok hA hK
    have base_of : ∀ {b : Addr} {o : Obj}, s₁.heap.get? b = some o → H b = none → (hidT s₁.heap H).get? b = some o := fun e n => hidT_get e n
    have noA : ∀ {b : Addr} {o : Obj} {es : Array DictEntry} {ep : Nat}, s₁.heap.get? b = some o → o.data = .dict es ep → H b = none := fun {b o es ep} e d => by
      cases q : H b with
      | none => rfl
      | some u =>
        have e' : b = a := hA b (by rw [q]; simp)
        subst e'
        rw [ha] at e; cases e
        have d' : Data.seq vs.toArray _ = Data.dict es ep := d
        cases d'
    have nsK : ∀ {b : Addr} {m : Str → Option Value}, s₁.heap.Ns b m → (hidT s₁.heap H).Ns b m := fun {b m} ⟨o, es, ep, e, d, r⟩ => ⟨o, es, ep, base_of e (noA e d), d, r⟩
    have hKb : K.In (hidT s₁.heap H) := fun b o e => base_of (KX b o e) (by
      cases q : H b with
      | none => rfl
      | some u =>
        have e' : b = a := hA b (by rw [q]; simp)
        subst e'
        rw [hK (by rw [q]; simp)] at e; cases e)
    have hM : Mod K mg (hidT s₁.heap H) := ⟨hKb, nsK hns, ⟨mb, nsK hb, hbb⟩, let ⟨mc, h1, h2⟩ := hlim; ⟨mc, nsK h1, h2⟩⟩
    have e0 : Env0 P w K mg (hidT s₁.heap H) callerA [] s₁ H := ⟨rfl, hM, fun b o e => of_hidT e, Nat.le_of_eq (hidT_size _ _), trivial, fun b hb => absurd (show b ∈ ([] : List Addr) from hb) (by simp), hok, .of_eq hg⟩
    refine codeAny_mono ((F _ hKb (nsK hns)).run callerA [] s₁ H ⟨[.ref a], []⟩ [.ref a] [.ref a] _ _ hr e0 (hbind s₁ (.ref a)) (.cons rfl .nil) (hsp H hO hS)) fun r s' h => ?_
    cases r with
    | error e => exact (hCX H e s' h).elim
    | ok fl =>
      cases fl with
      | next => exact False.elim h
      | brk => exact False.elim h
      | cont => exact False.elim h
      | ret u =>
        obtain ⟨v, H', os, bare, un, hok', r', q⟩ := h
        have q' : v = .bl true := q
        subst q'
        obtain rfl : u = Value.bool true := r'
        refine ⟨rfl, OldK.of_keep fun b o e => ?_, os, bare⟩
        cases q : H b with
        | none => exact un.keep b o e q (by intro z; exact absurd (show b ∈ ([] : List Addr) from z) (by simp)) (by simp)
        | some u =>
          rcases hO b with z | ⟨ob, xs, z⟩
          · rw [q] at z; cases z
          · have z2 := un.frzs b ob _ z
            obtain ⟨e1, _⟩ := hok b _ z
            obtain ⟨e2, _⟩ := hok' b _ z2
            rw [e] at e1; cases e1
            exact e2
  cases hk : K.lookup a with
  | some o =>
    -- the script is one of the module's own objects
    have e := KX a o hk
    rw [ha] at e
    cases e
    refine core (fun _ => none) (fun _ => .inl rfl) (.inr ⟨_, vs.toArray, _, hk, rfl, rfl, rfl, by rw [List.size_toArray, lenV]; exact hl, by simpa using rv⟩) (fun b u z => by have z' : (none : Option HO) = some u := z; cases z') (fun b z => absurd rfl z) fun z => absurd rfl z
  | none =>
    refine core (fun b => if b = a then some (.frz { cls := .type "list", data := .seq vs.toArray } (.lst (ns.map V.int))) else none) (fun b => ?_) (.inl (.inr ⟨{ cls := .type "list", data := .seq vs.toArray }, if_pos rfl⟩)) (fun b u z => ?_) (fun b z => ?_) fun _ => hk
    · by_cases hb : b = a
      · exact .inr ⟨_, _, if_pos hb⟩
      · exact .inl (if_neg hb)
    · by_cases hb : b = a
      · have z' := (if_pos hb).symm.trans z
        cases z'
        subst hb
        exact ⟨ha, by rw [List.length_map]; exact hl, vs, _, rv, ha⟩
      · have z' := (if_neg hb).symm.trans z
        cases z'
    · by_cases hb : b = a
      · exact hb
      · exact absurd (if_neg hb) z
end L2

namespace L2
open PySem PySem.Spec PyProof.Rows

abbrev KOf {K : PySem.W.Frag} {h : Heap} (_ : K.In h) : PySem.W.Frag := K

/-- the goal that k_head leaves (case hc), from the law's promise. F gives the function object fd (K's own) once, then the promise over every base -/
theorem walk_of {l : PySem.W.OpenLaw} {n k : Nat} {q : Program} {loose : List Str} {XP : (Str → Option Value) → Heap → Prop} {YP : World → Heap → Prop} {d : DefRec} {K : Params → PySem.W.Frag} {CX : World → CXT} {sp : World → Sp} {x : Str}
    (hn : l.most = some n) (hn2 : n ≤ sizeLine) (hdf : d.params.defaults = []) (hr : Room k callerA)
    (hY : ∀ (w : World) (h : Heap), YP w h → (K w.params).In h)
    (F : ∀ (w : World) (mg : Str → Option Value) (fa : Addr) (h : Heap), (K w.params).In h → h.Ns mainGlobals mg → mg d.name = some (.ref fa) →
      ∃ fd : FuncData, (∀ (s : Shared) (u : Value), BindsTo s fd ⟨[u], []⟩ [(x, u)]) ∧
        ∀ base : Heap, (K w.params).In base → base.Ns mainGlobals mg → FnOk l.prog w (K w.params) mg base (CX w) k fa fd [x] (sp w))
    (hsp : ∀ (w : World) (H : Hp) (a : Addr) (ns : List Int), ns.length ≤ n → Only H → SqL (K w.params) H a (ns.map V.int) → sp w [.ref a] H (fun v _ => v = .bl true) fun _ _ _ => False)
    (hCX : ∀ (w : World) (H : Hp) (s : Shared) (e : Value) (s' : Shared), CX w [] H s (fun _ _ _ => False) e s' → False) :
    PySem.W.WalkO q loose XP YP l.row.toRowW d [] (fun f vs => PySem.call f vs) := by
  refine Att.attach_call hn hdf fun w s₀ s₁ mg mb fa o pm cd doc a vs ns G Y ho hd hcd hmg hobj hints hlen hg => ?_
  have KX := hY w _ Y
  obtain ⟨fd, hb, hF⟩ := F w mg fa _ KX G.T.g hmg
  exact law_call KX G.T.g G.T.b G.T.builtins G.T.nolimit hg hobj hints (Nat.le_trans hlen hn2) hr hF hb (fun H hO hS => hsp w H a ns hlen hO hS) fun H e s' => hCX w H s₁ e s'
/-- the same where the promise hangs on the written part alone: (sp := My.sp_law), no hole under a binder -/
theorem walk_ofK {l : PySem.W.OpenLaw} {n k : Nat} {q : Program} {loose : List Str} {XP : (Str → Option Value) → Heap → Prop} {YP : World → Heap → Prop} {d : DefRec} {K : Params → PySem.W.Frag} {CX : CXT} {sp : PySem.W.Frag → Sp} {x : Str}
    (hn : l.most = some n) (hn2 : n ≤ sizeLine) (hdf : d.params.defaults = []) (hr : Room k callerA)
    (hY : ∀ (w : World) (h : Heap), YP w h → (K w.params).In h)
    (F : ∀ (w : World) (mg : Str → Option Value) (fa : Addr) (h : Heap), (K w.params).In h → h.Ns mainGlobals mg → mg d.name = some (.ref fa) →
      ∃ fd : FuncData, (∀ (s : Shared) (u : Value), BindsTo s fd ⟨[u], []⟩ [(x, u)]) ∧
        ∀ base : Heap, (K w.params).In base → base.Ns mainGlobals mg → FnOk l.prog w (K w.params) mg base CX k fa fd [x] (sp (K w.params)))
    (hsp : ∀ (K : PySem.W.Frag) (H : Hp) (a : Addr) (ns : List Int), ns.length ≤ n → Only H → SqL K H a (ns.map V.int) → sp K [.ref a] H (fun v _ => v = .bl true) fun _ _ _ => False)
    (hCX : ∀ (H : Hp) (s : Shared) (e : Value) (s' : Shared), CX [] H s (fun _ _ _ => False) e s' → False) :
    PySem.W.WalkO q loose XP YP l.row.toRowW d [] (fun f vs => PySem.call f vs) :=
  walk_of (K := K) (CX := fun _ => CX) (sp := fun w => sp (K w.params)) hn hn2 hdf hr hY F (fun w H a ns h1 h2 h3 => hsp (K w.params) H a ns h1 h2 h3) fun _ H s e s' => hCX H s e s'
end L2

/- THE LAST THEOREM (shape; LID, My.* are yours):
   My.Adr: a structure of the addresses that your layer names (classes, functions); My.Txt K t: a structure (Prop) of the equations over K;
   My.txt_mk : {K} {implicit addresses ..} (e1 : nsIn K mainGlobals "law" = some (some (.ref f))) (e2 : K.lookup f = some ⟨oc, od, .func (fnOf "law" "law" params body scope dV kV doc pm an cdv ct), sl⟩) (e3 : codeIn K cdv "law" = true) .. : ∃ t, My.Txt K t

set_option maxRecDepth 100000 in
set_option maxHeartbeats 0 in
theorem PySem.Challenge.cw_LID_holds : PySem.Challenge.rw_LID.Holds := by
  w_on; o_law; k_head; (case hw => w_witness2)
  k_fill
  refine L2.walk_of (l := PySem.Challenge.rw_LID) (n := 63) (k := 40) (x := "script") (CX := fun w => ..) (sp := fun _ => My.sp_law) rfl (by decide) rfl ⟨rfl, by decide, by decide⟩ (fun w h Y => PySem.W.kIn_of Y) ?F ?S ?C
  case F =>
    intro w mg fa h KX G hmg
    have T : ∃ t, My.Txt (L2.KOf KX) t := by
      dsimp only [L2.KOf]                          -- K must stand as «<heap const> w.params» for k_is
      refine' My.txt_mk ?e1 ?e2 ?e3 ..
      (case e1 => PySem.W.k_is)                    -- in the order: a name -> its address -> its object -> its parts
      (case e2 => PySem.W.k_is)
      ..
    obtain ⟨t, T⟩ := T
    have e0 := hmg.symm.trans (PySem.W.mg_of KX G T.law)
    cases e0                                       -- fa is the law's own address
    exact ⟨_, fun s u => .of_eq rfl, fun base kb nb => My.law_fn T kb nb⟩     -- if «.of_eq rfl» comes too early: refine' ⟨_, ?b, fun base kb nb => My.law_fn T kb nb⟩; exact fun s u => .of_eq rfl
  case S => exact fun w H a ns hl hO hS => ..
  case C => exact ..
(the tactic k_is has no namespace: write k_is) -/

/-! SHORT WORDS over the layer: a def of the text, its body, what a loop and a test want. -/
namespace L2
open PySem PySem.Spec PyProof.Rows

/-! ### the text by places -/
/-- the j-th statement of a class's body -/
def inClass (s : Stmt) (j : Nat) : Stmt := match s with
  | .ClassDef _ _ _ body _ _ _ _ _ _ _ => body.getD j (.Pass ⟨0, 0, 0, 0⟩)
  | _ => .Pass ⟨0, 0, 0, 0⟩
def defArgs (s : Stmt) : Arguments := match s with
  | .FunctionDef _ a _ _ _ _ _ _ _ _ => a
  | _ => { posonlyargs := [], args := [], vararg := none, kwonlyargs := [], kw_defaults := [], kwarg := none, defaults := [] }
def defBody (s : Stmt) : List Stmt := match s with
  | .FunctionDef _ _ b _ _ _ _ _ _ _ => b
  | _ => []
def defScope (s : Stmt) : Scope := match s with
  | .FunctionDef _ _ _ _ _ _ sc _ _ _ => sc
  | _ => { kind := .function, names := [], isGenerator := false, isCoroutine := false }

/-! ### no exception leaves a def -/
abbrev CX0 : CXT := fun _ _ _ _ _ _ => False
abbrev E0 : XK := fun _ _ _ => False
theorem pass0 {X : Cx} : Passes CX0 X E0 := fun _ _ _ _ _ _ _ h => h.elim

/-! ### a def (or method) of the text as it stands behind the top -/
structure Fun (K : PySem.W.Frag) (x qual : Str) (st : Stmt) (f : Addr) (fd : FuncData) : Prop where
  ex : ∃ (oc : Value) (od : Option Addr) (kV doc pm : Value) (an : Option Addr) (cdv ct : Value) (osl : Array (Option Value)),
    fd = PySem.W.fnOf x qual (defArgs st) (defBody st) (defScope st) .none kV doc pm an cdv ct ∧ K.lookup f = some ⟨oc, od, .func fd, osl⟩ ∧ PySem.W.codeIn K cdv qual = true
  kp : PySem.W.keepIn K (.ref f) = true
section
variable {P : Program} {w : World} {K : PySem.W.Frag} {mg : Str → Option Value} {base : Heap}
/-- THE RULE for a def: its body as a term of rules, and the reading of that term -/
theorem Fun.ok {x qual : Str} {st : Stmt} {f : Addr} {fd : FuncData} {N ps : List Str} {k : Nat} {sp : Sp} (F : Fun K x qual st f fd) (S : FnScope N ps (defScope st)) (len : ∀ vs H Q E, sp vs H Q E → vs.length = ps.length)
    (hbody : ∀ (cdv : Value) (A : Around) (outer : List Env) (s : Shared) (H : Hp) (vs : List V) (Q : VK) (E : XK), Room k (A.deeper (envOfC qual (defScope st) s.heap.objs.size f cdv)) → sp vs H Q E →
      ∃ t, PSs (cxOf CX0 P w K mg base N qual (defScope st) f cdv A outer s H E).nox (defBody st) t ∧ t { nx := fun _ H' => Q .non H', rt := Q } (start N vs) H) : FnOk P w K mg base CX0 (k + 1) f fd ps sp := by
  obtain ⟨oc, od, kV, doc, pm, an, cdv, ct, osl, rfl, lk, hcd⟩ := F.ex
  refine fn_of lk hcd S len fun A outer s H vs Q E hr hsp => ?_
  obtain ⟨t, h, q⟩ := hbody cdv A outer s H vs Q E hr hsp
  exact ⟨t, h.nox, q⟩
/-- how its arguments bind (no defaults): h is «fun _ _ _ _ _ _ us hl => match us, hl with | [_, _], _ => rfl», one _ a parameter -/
theorem Fun.binds {x qual : Str} {st : Stmt} {f : Addr} {fd : FuncData} {ps : List Str} (F : Fun K x qual st f fd)
    (h : ∀ (kV doc pm : Value) (an : Option Addr) (cdv ct : Value) (us : List Value), us.length = ps.length → bindArgs (PySem.W.fnOf x qual (defArgs st) (defBody st) (defScope st) .none kV doc pm an cdv ct) ⟨us, []⟩ = pure (ps.zip us)) : Binds K fd ps [] := by
  obtain ⟨oc, od, kV, doc, pm, an, cdv, ct, osl, rfl, lk, hcd⟩ := F.ex
  exact .all (h kV doc pm an cdv ct)
theorem fun_mk {x qual : Str} {st : Stmt} {f : Addr} {oc : Value} {od an : Option Addr} {osl : Array (Option Value)} {kV doc pm cdv ct : Value} (l : K.lookup f = some ⟨oc, od, .func (PySem.W.fnOf x qual (defArgs st) (defBody st) (defScope st) .none kV doc pm an cdv ct), osl⟩)
    (c : PySem.W.codeIn K cdv qual = true) (k : PySem.W.keepIn K (.ref f) = true) : Fun K x qual st f (PySem.W.fnOf x qual (defArgs st) (defBody st) (defScope st) .none kV doc pm an cdv ct) := ⟨⟨oc, od, kV, doc, pm, an, cdv, ct, osl, rfl, l, c⟩, k⟩
end
theorem hu_of {A : Around} {k : Nat} (hr : Room k A) : A.units + 1 < cLine := Nat.lt_of_le_of_lt (Nat.add_le_add_left (by decide : 1 ≤ 64) _) hr.units
theorem small1000 {n : Nat} (h : n ≤ 1000) : n < sizeLine := Nat.lt_of_le_of_lt h (by decide)

/-! ### expressions in short: the name that stands in the i-th slot -/
section
variable {X : Cx}
theorem pv (i : Nat) {x : Str} {pos : Pos} (hN : X.N[i]? = some x := by rfl) (hv : Vis X.env.scope x := by first | exact Or.inl rfl | exact Or.inr (Or.inl rfl) | exact Or.inr (Or.inr rfl)) (hd : (x == ("__debug__" : Str)) = false := by decide)
    (hcd : (x == ("__classdict__" : Str)) = false := by decide) : PE X (.Name x pos) (tVar i) := pe_var hN hv hd hcd
/-- len of a dict -/
theorem call_lenD : CallR X (.builtin "len") (fun xs H Q => ∃ a kvs, xs = [V.ref a] ∧ H a = some (.dK kvs) ∧ Q (.int kvs.length) H) := by
  intro pins s σ H xs us Q I r h
  obtain ⟨a, kvs, rfl, ha, q⟩ := h
  obtain ⟨u, rfl, ru⟩ := vals1 r
  cases ru
  exact d_len I (.inl ha) fun t s' I' => ⟨.int kvs.length, H, I', ⟨t, rfl⟩, q⟩
end

/-! ### tests -/
theorem iteF {A B : Prop} (h : B) : if false = true then A else B := by
  rw [if_neg Bool.false_ne_true]
  exact h
theorem iteT {A B : Prop} (h : A) : if true = true then A else B := by
  rw [if_pos rfl]
  exact h
theorem ite2 {c A B : Prop} [Decidable c] (h1 : c → A) (h2 : ¬ c → B) : if c then A else B := by
  by_cases h : c
  · rw [if_pos h]
    exact h1 h
  · rw [if_neg h]
    exact h2 h
theorem iteNS {c A B : Prop} [Decidable c] (hc : c) (h : B) : if (!decide c) = true then A else B := by
  rw [decide_eq_true hc]
  exact iteF h

/-! ### heaps -/
/-- all that was tracked is as it was -/
def Same (H H' : Hp) : Prop := ∀ b o, H b = some o → H' b = some o
theorem Same.refl (H : Hp) : Same H H := fun _ _ h => h
theorem Same.trans {H H1 H2 : Hp} (a : Same H H1) (b : Same H1 H2) : Same H H2 := fun c o h => b c o (a c o h)
theorem Same.free {H H' : Hp} (e : Same H H') {l : Addr} (h : H' l = Option.none) : H l = Option.none := by
  cases q : H l with
  | none => rfl
  | some o =>
    rw [e l o q] at h
    cases h
theorem Same.seq {K : PySem.W.Frag} {H H' : Hp} {a : Addr} {xs : List V} (e : Same H H') (h : SqL K H a xs) : SqL K H' a xs := by
  rcases h with (h | ⟨o, h⟩) | h
  · exact .inl (.inl (e _ _ h))
  · exact .inl (.inr ⟨o, e _ _ h⟩)
  · exact .inr h

/-! ### a dict's pairs: keys that differ -/
section
variable {κ : Type} [DecidableEq κ]
theorem valV_not {kvs : List (κ × V)} {k : κ} (h : valV kvs k = none) : ¬ k ∈ kvs.map (·.1) := by
  intro m
  obtain ⟨p, hp, e⟩ := List.mem_map.mp m
  have q : (kvs.any fun kv => decide (kv.1 = k)) = true := List.any_eq_true.mpr ⟨p, hp, decide_eq_true e⟩
  rw [valV_any, h] at q
  exact absurd q (by simp)
theorem valV_in {kvs : List (κ × V)} {k : κ} {v : V} (h : valV kvs k = some v) : k ∈ kvs.map (·.1) := by
  have q : (kvs.any fun kv => decide (kv.1 = k)) = true := by
    rw [valV_any, h]
    all_goals rfl
  obtain ⟨p, hp, e⟩ := List.any_eq_true.mp q
  exact List.mem_map.mpr ⟨p, hp, of_decide_eq_true e⟩
theorem nd_snoc : ∀ {l : List κ} {k : κ}, l.Nodup → ¬ k ∈ l → (l ++ [k]).Nodup
  | [], k, _, _ => by simp
  | a :: r, k, h, hk => by
    obtain ⟨h1, h2⟩ := List.nodup_cons.mp h
    show (a :: (r ++ [k])).Nodup
    refine List.nodup_cons.mpr ⟨fun m => ?_, nd_snoc h2 fun m => hk (List.mem_cons.mpr (Or.inr m))⟩
    rcases List.mem_append.mp m with q | q
    · exact h1 q
    · exact hk (List.mem_cons.mpr (Or.inl (List.mem_singleton.mp q).symm))
theorem nd_putK {kvs : List (κ × V)} {k : κ} (v : V) (hn : (kvs.map (·.1)).Nodup) (h : valV kvs k = none) : ((putK kvs k v).map (·.1)).Nodup := by
  rw [putK_new v h, List.map_append]
  exact nd_snoc hn (valV_not h)
theorem dropK_pos {p : κ × V} {r : List (κ × V)} {k : κ} (e : p.1 = k) : dropK (p :: r) k = dropK r k := by
  unfold dropK
  rw [List.filter_cons, if_neg (by simp [e])]
theorem dropK_neg {p : κ × V} {r : List (κ × V)} {k : κ} (e : ¬ p.1 = k) : dropK (p :: r) k = p :: dropK r k := by
  unfold dropK
  rw [List.filter_cons, if_pos (by simp [e])]
theorem dropK_no : ∀ {kvs : List (κ × V)} {k : κ}, ¬ k ∈ kvs.map (·.1) → dropK kvs k = kvs
  | [], _, _ => rfl
  | p :: r, k, h => by
    have h' : ¬ k ∈ r.map (·.1) := fun m => by
      obtain ⟨q, hq, e⟩ := List.mem_map.mp m
      exact h (List.mem_map.mpr ⟨q, List.mem_cons.mpr (Or.inr hq), e⟩)
    rw [dropK_neg fun e => h (List.mem_map.mpr ⟨p, List.mem_cons.mpr (Or.inl rfl), e⟩), dropK_no h']
theorem dropK_mem {kvs : List (κ × V)} {k : κ} {p : κ × V} (h : p ∈ dropK kvs k) : p ∈ kvs := (List.mem_filter.mp h).1
theorem nd_dropK : ∀ {kvs : List (κ × V)} {k : κ}, (kvs.map (·.1)).Nodup → ((dropK kvs k).map (·.1)).Nodup
  | [], _, _ => List.nodup_nil
  | p :: r, k, h => by
    have h : (p.1 :: r.map (·.1)).Nodup := h
    obtain ⟨h1, h2⟩ := List.nodup_cons.mp h
    by_cases e : p.1 = k
    · rw [dropK_pos e]
      exact nd_dropK h2
    · rw [dropK_neg e]
      show (p.1 :: (dropK r k).map (·.1)).Nodup
      refine List.nodup_cons.mpr ⟨fun m => h1 ?_, nd_dropK h2⟩
      obtain ⟨q, hq, eq⟩ := List.mem_map.mp m
      exact List.mem_map.mpr ⟨q, dropK_mem hq, eq⟩
theorem dropK_len : ∀ {kvs : List (κ × V)} {k : κ}, (kvs.map (·.1)).Nodup → k ∈ kvs.map (·.1) → (dropK kvs k).length + 1 = kvs.length
  | [], _, _, m => by simp at m
  | p :: r, k, h, m => by
    have h : (p.1 :: r.map (·.1)).Nodup := h
    have m : k = p.1 ∨ k ∈ r.map (·.1) := List.mem_cons.mp m
    obtain ⟨h1, h2⟩ := List.nodup_cons.mp h
    by_cases e : p.1 = k
    · subst e
      rw [dropK_pos rfl, dropK_no h1]
      all_goals rfl
    · have m' : k ∈ r.map (·.1) := m.resolve_left fun z => e z.symm
      have q := dropK_len h2 m'
      rw [dropK_neg e, List.length_cons, List.length_cons]
      omega
end
end L2

/-! ### a list comprehension of one clause -/
namespace L2
open PySem PySem.Spec PyProof.Rows

/-- the cells of the free names of a comprehension -/
def clOf (env : Env) : List (Str × NameKind) → List (Str × Addr) → List (Str × Addr)
  | [], cs => cs
  | (n, k) :: r, cs => clOf env r (if k == .free then (match env.cells.lookup n with | some a => (n, a) :: cs | none => cs) else cs)
theorem closureFor_go (env : Env) : ∀ (l : List (Str × NameKind)) (cs : List (Str × Addr)), (∀ x ∈ l, x.2 = .free → ∃ c, env.cells.lookup x.1 = some c) →
    (forIn l cs fun (x : Str × NameKind) r => if (x.2 == NameKind.free) = true then do let a ← cellOf env x.1; pure (ForInStep.yield ((x.1, a) :: r)) else pure (ForInStep.yield r) : Sem (List (Str × Addr))) = pure (clOf env l cs)
  | [], cs, _ => rfl
  | (n, k) :: r, cs, h => by
    have hr : ∀ x ∈ r, x.2 = .free → ∃ c, env.cells.lookup x.1 = some c := fun x hx => h x (List.mem_cons_of_mem _ hx)
    rw [List.forIn_cons, clOf]
    by_cases hk : (k == NameKind.free) = true
    · obtain ⟨c, hc⟩ := h (n, k) List.mem_cons_self (by simpa using hk)
      have hc' : env.cells.lookup n = some c := hc
      have e : cellOf env n = pure c := by unfold cellOf; rw [hc']
      simp only [hk, if_true, e, pure_bind, hc']
      exact closureFor_go env r _ hr
    · simp only [hk, if_false, pure_bind]
      exact closureFor_go env r _ hr
theorem closureFor_eq {scope : Scope} {env : Env} (h : ∀ x ∈ scope.names, x.2 = .free → ∃ c, env.cells.lookup x.1 = some c) : closureFor scope env = pure (clOf env scope.names []) := by
  have e := closureFor_go env scope.names [] h
  unfold closureFor
  show (forIn scope.names ([] : List (Str × Addr)) _ >>= fun r => pure r : Sem (List (Str × Addr))) = _
  rw [bind_pure]
  exact e
theorem clOf_old (env : Env) : ∀ (l : List (Str × NameKind)) (cs : List (Str × Addr)) (x : Str) (c : Addr), cs.lookup x = some c → env.cells.lookup x = some c → (clOf env l cs).lookup x = some c
  | [], _, _, _, h, _ => h
  | (n, k) :: r, cs, x, c, h, e => by
    rw [clOf]
    refine clOf_old env r _ x c ?_ e
    split
    · cases q : env.cells.lookup n with
      | none => exact h
      | some a =>
        show List.lookup x ((n, a) :: cs) = some c
        rw [List.lookup_cons]
        cases hx : x == n with
        | false => exact h
        | true =>
          have : x = n := by simpa using hx
          subst this
          rw [q] at e
          exact e
    · exact h
theorem clOf_sub (env : Env) : ∀ (l : List (Str × NameKind)) (cs : List (Str × Addr)) (x : Str) (c : Addr), (∀ y d, cs.lookup y = some d → env.cells.lookup y = some d) → (clOf env l cs).lookup x = some c → env.cells.lookup x = some c
  | [], cs, x, c, h, e => h x c e
  | (n, k) :: r, cs, x, c, h, e => by
    rw [clOf] at e
    refine clOf_sub env r _ x c ?_ e
    intro y d q
    split at q
    · cases z : env.cells.lookup n with
      | none => rw [z] at q; exact h y d q
      | some a =>
        rw [z] at q
        have q2 : List.lookup y ((n, a) :: cs) = some d := q
        rw [List.lookup_cons] at q2
        cases hx : y == n with
        | false => rw [hx] at q2; exact h y d q2
        | true =>
          rw [hx] at q2
          have hyn : y = n := by simpa using hx
          rw [hyn, z]
          exact q2
    · exact h y d q
theorem clOf_has (env : Env) : ∀ (l : List (Str × NameKind)) (cs : List (Str × Addr)) (x : Str) (c : Addr), (x, NameKind.free) ∈ l → env.cells.lookup x = some c → (clOf env l cs).lookup x = some c
  | [], _, _, _, h, _ => by simp at h
  | (n, k) :: r, cs, x, c, h, e => by
    rw [clOf]
    rcases List.mem_cons.mp h with h | h
    · have h1 : n = x := (congrArg Prod.fst h).symm
      have h2 : k = NameKind.free := (congrArg Prod.snd h).symm
      subst h1 h2
      refine clOf_old env r _ n c ?_ e
      rw [e]
      show List.lookup n (if (NameKind.free == NameKind.free) = true then (n, c) :: cs else cs) = some c
      rw [if_pos (by decide), List.lookup_cons]
      simp
    · exact clOf_has env r _ x c h e

/-- a name's kind within the comprehension -/
theorem relabel_look (scope : Scope) (env : Env) (x : Str) : (relabel scope env).names.lookup x =
    (scope.names.lookup x).map fun k => if (k == .free && env.scope.kind == .function && env.kindOf x == some .cell) = true then NameKind.cell else k := by
  show (scope.names.map fun (p : Str × NameKind) => if (p.2 == .free && env.scope.kind == .function && env.kindOf p.1 == some .cell) = true then (p.1, NameKind.cell) else (p.1, p.2)).lookup x = _
  induction scope.names with
  | nil => rfl
  | cons p r ih =>
    obtain ⟨n, k⟩ := p
    rw [List.map_cons]
    show List.lookup x ((if (k == .free && env.scope.kind == .function && env.kindOf n == some .cell) = true then (n, NameKind.cell) else (n, k)) :: _) = _
    cases hx : x == n with
    | false =>
      have e1 : List.lookup x ((n, k) :: r) = List.lookup x r := by rw [List.lookup_cons, hx]
      rw [e1]
      split <;> (rw [List.lookup_cons, hx]; exact ih)
    | true =>
      have : x = n := by simpa using hx
      subst this
      have e1 : List.lookup x ((x, k) :: r) = some k := by rw [List.lookup_cons, hx]
      rw [e1]
      show _ = some _
      split
      · rename_i hc
        rw [List.lookup_cons, hx]
        show some NameKind.cell = some (if _ then _ else _)
        rw [if_pos hc]
      · rename_i hc
        rw [List.lookup_cons, hx]
        show some k = some (if _ then _ else _)
        rw [if_neg hc]

/-- what a comprehension's scope must be; src: for each of its slots the slot of the enclosing body, none for its own names -/
structure CompScope (X : Cx) (N : List Str) (src : List (Option Nat)) (scope : Scope) : Prop where
  kind : scope.kind = .function
  nocell : ∀ y ∈ scope.names, y.2 ≠ .cell
  names : ∀ y ∈ scope.names, y.2 = .local → scope.names.lookup y.1 = some .local
  fre : ∀ y ∈ scope.names, y.2 = .free → X.env.kindOf y.1 = some .cell ∨ X.env.kindOf y.1 = some .free
  len : src.length = N.length
  nd : N.Nodup
  src : ∀ (j i : Nat) (x : Str), N[j]? = some x → src[j]? = some (some i) → X.N[i]? = some x ∧ scope.names.lookup x = some .free

def compOk (dsc : Scope) (XN N : List Str) (src : List (Option Nat)) (scope : Scope) : Bool :=
  decide (scope.kind = .function) && scope.names.all (fun y => decide (y.2 ≠ .cell)) && scope.names.all (fun y => !decide (y.2 = .local) || decide (scope.names.lookup y.1 = some .local)) &&
  scope.names.all (fun y => !decide (y.2 = .free) || decide (dsc.names.lookup y.1 = some .cell) || decide (dsc.names.lookup y.1 = some .free)) && decide (src.length = N.length) && decide N.Nodup &&
  (N.zip src).all fun p => match p.2 with
    | none => true
    | some i => decide (XN[i]? = some p.1) && decide (scope.names.lookup p.1 = some .free)
theorem CompScope.of {X : Cx} {dsc : Scope} {XN N : List Str} {src : List (Option Nat)} {scope : Scope} (he : X.env.scope = dsc) (hN : X.N = XN) (h : compOk dsc XN N src scope = true) : CompScope X N src scope := by
  subst he hN
  unfold compOk at h
  simp only [Bool.and_eq_true, decide_eq_true_eq, List.all_eq_true, Bool.or_eq_true, Bool.not_eq_true', decide_eq_false_iff_not] at h
  obtain ⟨⟨⟨⟨⟨⟨h1, h2⟩, h3⟩, h4⟩, h5⟩, h6⟩, h7⟩ := h
  refine ⟨h1, h2, fun y hy e => ?_, fun y hy e => ?_, h5, h6, fun j i x e1 e2 => ?_⟩
  · rcases h3 y hy with q | q
    · exact absurd e q
    · exact q
  · rcases h4 y hy with (q | q) | q
    · exact absurd e q
    · exact .inl q
    · exact .inr q
  · have hm : (x, some i) ∈ N.zip src := by
      have : (N.zip src)[j]? = some (x, some i) := by rw [List.getElem?_zip_eq_some]; exact ⟨e1, e2⟩
      exact List.mem_of_getElem? this
    have q := h7 _ hm
    simpa using q

/-- the context of a comprehension's block -/
def cxC (X : Cx) (scope : Scope) (N : List Str) (s : Shared) (H : Hp) (ex : List Addr) : Cx :=
  { X with
    N := N
    s₀ := s
    H₀ := H
    env := compEnvC scope (clOf X.env scope.names []) s.heap.objs.size X.env
    outer := X.stack
    ex := ex
    fn := fun _ => false
    pn := []
    xe := fun _ _ => False }
def subSt (src : List (Option Nat)) (σ : St) : St := src.map fun o => match o with | none => none | some i => (σ[i]?).join

section
variable {X : Cx} {pins : List (Addr × Obj)} {σ : St} {H : Hp} {s : Shared} {N : List Str} {src : List (Option Nat)} {scope : Scope} {ex : List Addr}
theorem CompScope.cells (S : CompScope X N src scope) (ok : X.Ok) : ∀ x ∈ scope.names, x.2 = .free → ∃ c, X.env.cells.lookup x.1 = some c := fun x hx e => ok.has _ (S.fre x hx e)
theorem Inv.enterC (I : Inv X pins σ H s) (S : CompScope X N src scope) (hf : ∀ b ∈ ex, FpOk X pins H b) (hlt : ∀ b ∈ ex, b < s.heap.objs.size) {h1 : Heap} {m : Str → Option Value} {tk : Nat}
    (hns : h1.Ns s.heap.objs.size m) (hk : ∀ b o, s.heap.get? b = some o → h1.get? b = some o) : Inv (cxC X scope N s H ex) [] (subSt src σ) H { s with heap := h1, toks := tk } := by
  have neC : ∀ b o, s.heap.get? b = some o → b ≠ s.heap.objs.size := fun b o e => Nat.ne_of_lt (Heap.lt_size e)
  have sub : ∀ x c, (clOf X.env scope.names []).lookup x = some c → X.env.cells.lookup x = some c := fun x c e => clOf_sub X.env _ _ x c (fun y d z => by simp at z) e
  refine ⟨⟨I.ok.mod, S.kind, I.ok.glob, I.ok.blt, Nat.le_refl _, fun x y c e1 e2 => I.ok.inj x y c (sub x c e1) (sub y c e2), fun x hx => ?_, fun x c z => absurd z (by simp [cxC]), I.ok.hd, I.ok.frames, .inl rfl, fun b hb => ?_, I.bs, Nat.le_trans I.ok.bsz I.sz, fun b o e hb => ?_, fun b hb hz => ?_, I.stack, I.stkFree⟩,
    rfl, I.bare, Un.kept hk, ⟨m, hns, fun j x v e1 e2 e3 => ?_⟩, fun x c e => ?_, I.hok.fresh (Nat.le_refl _), fun x c e => I.freeC x c (sub x c e), fun p hp => absurd (show p ∈ ([] : List (Addr × Obj)) from hp) (by simp), I.hok.kept hk, ?_⟩
  · have hx : (relabel scope X.env).names.lookup x = some .cell ∨ (relabel scope X.env).names.lookup x = some .free := hx
    have hm : (x, NameKind.free) ∈ scope.names := by
      rw [relabel_look] at hx
      cases q : scope.names.lookup x with
      | none => rw [q] at hx; simp at hx
      | some k =>
        have hm := PySem.mem_of_lookup q
        cases k with
        | free => exact hm
        | cell => exact absurd rfl (S.nocell _ hm)
        | _ => rw [q] at hx; simp at hx
    obtain ⟨c, hc⟩ := S.cells I.ok _ hm rfl
    exact ⟨c, clOf_has X.env _ _ x c hm hc⟩
  · obtain ⟨f0, f1, f2, f3, f4, f5⟩ := hf b hb
    exact ⟨Nat.ne_of_lt (hlt b hb), fun x c e => f4 x c (sub x c e)⟩
  · obtain ⟨f0, f1, f2, f3, f4, f5⟩ := hf b hb
    rcases f3 with z | z
    · exact I.ok.noex b o e z
    · exact absurd (Nat.lt_of_lt_of_le (Heap.lt_size (I.ok.bs b o e).1) z) (Nat.lt_irrefl _)
  · obtain ⟨f0, f1, f2, f3, f4, f5⟩ := hf b hb
    rcases List.mem_cons.mp (I.stkSub b hz) with z | z
    · exact f1 z
    · exact f2 z
  · have e2 : (subSt src σ)[j]? = some (some v) := e2
    unfold subSt at e2
    rw [List.getElem?_map] at e2
    cases q : src[j]? with
    | none => rw [q] at e2; simp at e2
    | some o =>
      rw [q] at e2
      cases o with
      | none => simp at e2
      | some i =>
        have e2 : (σ[i]?).join = some v := by simpa using e2
        have e2 : σ[i]? = some (some v) := by
          cases z : σ[i]? with
          | none => rw [z] at e2; simp at e2
          | some w => rw [z] at e2; simp at e2; rw [e2]
        obtain ⟨hX, hfr⟩ := S.src j i x e1 q
        have hm := PySem.mem_of_lookup hfr
        have hk2 := S.fre _ hm rfl
        obtain ⟨mX, hnX, hl⟩ := I.loc
        have hvis : Vis X.env.scope x := .inr hk2
        obtain ⟨u, r, l⟩ := hl i x v hX e2 hvis
        refine ⟨u, r, ?_⟩
        rcases l with ⟨l1, _⟩ | ⟨_, c, hc, hcell⟩
        · rcases hk2 with z | z
          · have : X.env.kindOf x = some .cell := z
            rw [l1] at this; cases this
          · have : X.env.kindOf x = some .free := z
            rw [l1] at this; cases this
        · refine .inr ⟨?_, c, clOf_has X.env _ _ x c hm hc, ?_⟩
          · show (relabel scope X.env).names.lookup x = some .cell ∨ (relabel scope X.env).names.lookup x = some .free
            rw [relabel_look, hfr]
            by_cases hcc : (NameKind.free == .free && X.env.scope.kind == .function && X.env.kindOf x == some .cell) = true
            · left
              show some (if _ then _ else _) = _
              rw [if_pos hcc]
            · right
              show some (if _ then _ else _) = _
              rw [if_neg hcc]
          · exact hcell.keeps hk
  · obtain ⟨v, z⟩ := I.cell x c (sub x c e)
    exact ⟨v, z.keeps hk⟩
  · show (subSt src σ).length = N.length
    unfold subSt
    rw [List.length_map]
    exact S.len
end

/-- the tests of a clause -/
def PIfs (X : Cx) (ifs : List Expr) (t : TT) : Prop :=
  ∀ (pins : List (Addr × Obj)) (s : Shared) (σ : St) (H : Hp) (Q : Bool → Hp → Prop), Inv X pins σ H s → t σ H Q →
    wpAny (model X.prog X.w) X.A (forIn ifs true fun c r => if r = true then do let ok ← isTrue c X.env (eval c X.env); pure (ForInStep.yield ok) else pure (ForInStep.yield r)) (TP X pins σ Q) X.xe s
def tNoIf : TT := fun _ H Q => Q true H
theorem pifs_nil {X : Cx} : PIfs X [] tNoIf := fun _ _ _ H _ I h => wpAny_tests_nil ⟨H, I, h⟩
theorem pifs_one {X : Cx} {c : Expr} {t : TT} (h : PT X c t) : PIfs X [c] t := fun pins s σ H Q I hw => wpAny_tests_one (h pins s σ H Q I hw)

/-- what is wanted of the walk: W by the turn, a measure, the items so far -/
def compWant (g : TG) (tt : TT) (te : TE) (src : List (Option Nat)) (σ : St) (Q : VK) (J : It) (H1 : Hp) : Prop :=
  ∃ W : Nat → Nat → List V → St → Hp → Prop, (∃ m, W 0 m [] (subSt src σ) H1) ∧ ∀ i m ys σ' H', W i m ys σ' H' →
    (J.stop i H' ∧ ∀ p, H' p = none → Q (.ref p) (upd H' p (.lst ys))) ∨
    (J.go i H' ∧ ys.length < sizeLine ∧ ∀ x H2, J.yld i H' x H2 → g x σ' H2 fun σ3 H3 => tt σ3 H3 fun b H4 =>
      if b = true then te σ3 H4 fun v H5 => ∃ m', m' < m ∧ W (i + 1) m' (ys ++ [v]) σ3 H5 else ∃ m', m' < m ∧ W (i + 1) m' ys σ3 H4)
def tComp (wi : TI) (g : TG) (tt : TT) (te : TE) (src : List (Option Nat)) : TE := fun σ H Q => wi σ H (compWant g tt te src σ Q)

/-- behind the block, ahead of the variables' end -/
def CompEnd (X : Cx) (pins : List (Addr × Obj)) (σ : St) (Q : VK) (acc : Value) (C : Addr) (r : Result) (s' : Shared) : Prop :=
  (∃ f, r = .ok f) ∧ ∃ D H', acc = .ref D ∧ Inv X pins σ H' s' ∧ (∃ m, s'.heap.Ns C m) ∧ FpOk X pins H' C ∧ Q (.ref D) H'

theorem compLoop_any {prog : Program} {w : World} {A : Around} {R : Result → Shared → Prop} {s : Shared} {elt target iter : Expr} {ifs : List Expr} {scope : Scope} {pos : Pos} {it acc : Value} {env : Env} (I : Nat → Shared → Prop)
    (turn : ∀ n s, I n s → wpAny (model prog w) A (pyNext it) (fun r s₁ => match r with
      | none => R (.ok .next) s₁
      | some v => wpAny (model prog w) A (letOwnedTupleGo target it v) (fun _ s₂ => wpAny (model prog w) A (assign target env v) (fun _ s₃ =>
          wpAny (model prog w) A (forIn ifs true fun c r => if r = true then do let ok ← isTrue c env (eval c env); pure (ForInStep.yield ok) else pure (ForInStep.yield r)) (fun ok s₄ =>
            if ok = true then wpAny (model prog w) A (eval elt env) (fun x s₅ => wpAny (model prog w) A (call (.builtin "list.append") [acc, x]) (fun _ s₆ => ∃ m, m < n ∧ I m s₆) (fun _ _ => False) s₅) (fun _ _ => False) s₄
            else ∃ m, m < n ∧ I m s₄) (fun _ _ => False) s₃) (fun _ _ => False) s₂) (fun _ _ => False) s₁) (fun _ _ => False) s)
    (n : Nat) (h : I n s) : codeAny (model prog w) A (.compLoop (.ListComp elt [⟨target, iter, ifs, 0⟩] scope pos) 0 it acc env) R s := by
  refine codeAny_loop rfl I (fun n s hI => ?_) n h
  show wpAny _ A ((compTurn (.ListComp elt [⟨target, iter, ifs, 0⟩] scope pos) 0 it acc env).onRaise (fun x => do noteFrame x env; theTreesLotGoes x)) _ _ s
  refine wpAny_noted ?_
  rw [compTurn_list]
  refine wpAny_bind (wpAny_standAt (wpAny_bind (wpAny_mono (turn n s hI) (fun r s₁ h₁ => ?_) fun _ _ f => f.elim)))
  cases r with
  | none => exact wpAny_pure h₁
  | some v =>
    refine wpAny_bind (wpAny_mono h₁ (fun _ s₂ h₂ => ?_) fun _ _ f => f.elim)
    refine wpAny_bind (wpAny_mono h₂ (fun _ s₃ h₃ => wpAny_bind (wpAny_mono h₃ (fun ok s₄ h₄ => ?_) fun _ _ f => f.elim)) fun _ _ f => f.elim)
    cases ok with
    | false => exact wpAny_pure ⟨rfl, h₄⟩
    | true =>
      exact wpAny_bind (wpAny_bind (wpAny_mono h₄ (fun x s₅ h₅ => wpAny_bind (wpAny_mono h₅ (fun _ s₆ h₆ => wpAny_pure (wpAny_pure ⟨rfl, h₆⟩)) fun _ _ f => f.elim)) fun _ _ f => f.elim))

abbrev lobj (us : List Value) (k : Nat) : Obj := { cls := .type "list", data := .seq us.toArray k }

section
variable {X : Cx} {N : List Str} {src : List (Option Nat)} {scope : Scope} {elt tg iter : Expr} {ifs : List Expr} {pos : Pos} {wi : TI} {g : TG} {tt : TT} {te : TE}
theorem comp_run (hc : X.calm = true) (S : CompScope X N src scope) (hg : ∀ s H ex, PG (cxC X scope N s H ex) tg g) (ht : ∀ s H ex, PIfs (cxC X scope N s H ex) ifs tt) (he : ∀ s H ex, PE (cxC X scope N s H ex) elt te)
    {pins : List (Addr × Obj)} {σ : St} {Q : VK} {itv : Value} {s2 : Shared} {E : Value → Shared → Prop} (h : PIE X pins σ tg (compWant g tt te src σ Q) itv s2) :
    wpAny (model X.prog X.w) X.A (newList []) (fun acc s₃ => wpAny (model X.prog X.w) X.A (newFunctionEnv scope X.env.globals (clOf X.env scope.names []) [] X.env.qual none .none (some X.env)) (fun cenv s₄ =>
      codeAny (model X.prog X.w) X.A (.compStart (.ListComp elt [⟨tg, iter, ifs, 0⟩] scope pos) 0 itv acc { cenv with scope := relabel scope X.env }) (CompEnd X pins σ Q acc cenv.locals) s₄) E s₃) E s2 := by
  obtain ⟨it, fp, tn, J, H1, e, I2, T, st2, f2, W, ⟨m0, w0⟩, turn⟩ := h
  subst e
  refine wpAny_newObj_type (wpAny_newFunctionEnv S.nocell (by intro y hy; simp at hy) (fun h₁ hns₁ hsb₁ => ?_) S.kind)
  dsimp only at hns₁ hsb₁ ⊢
  generalize hH2 : s2.heap.push { cls := .type "list", dict := none, data := .seq ([] : List Value).toArray } = H2 at hns₁ hsb₁ ⊢
  have hC : H2.objs.size = s2.heap.objs.size + 1 := by rw [← hH2, Heap.size_push]
  have push : ∀ b o, s2.heap.get? b = some o → H2.get? b = some o := fun b o e => hH2 ▸ Heap.get?_push_of_some _ e
  have hD2 : H2.get? s2.heap.objs.size = some (lobj [] 0) := hH2 ▸ Heap.get?_push_size _ rfl
  have hk : ∀ b o, H2.get? b = some o → h₁.get? b = some o := fun b o e => hsb₁.extBut b o (Nat.ne_of_lt (Heap.lt_size e)) (Heap.get?_push_of_some _ e)
  generalize hD : s2.heap.objs.size = D at *
  have I3 : Inv X pins σ H1 { s2 with heap := H2 } := I2.kept (t' := s2.toks) push
  have fD : FpOk X pins H1 D := I2.fpOk (Nat.le_of_eq hD) (I2.hok.fresh (Nat.le_of_eq hD))
  have fpl : ∀ b ∈ fp, b < D := fun b hb => by
    obtain ⟨o, e, _⟩ := T.obj _ _ st2 b hb
    rw [← hD]; exact Heap.lt_size e
  have fex : ∀ b ∈ D :: fp, FpOk X pins H1 b := fun b hb => by
    rcases List.mem_cons.mp hb with z | z
    · rw [z]; exact fD
    · exact f2 b z
  have lex : ∀ b ∈ D :: fp, b < ({ s2 with heap := H2 } : Shared).heap.objs.size := fun b hb => by
    show b < H2.objs.size
    rcases List.mem_cons.mp hb with z | z
    · rw [z, hC]; exact Nat.lt_succ_self _
    · rw [hC]; exact Nat.lt_succ_of_lt (fpl b z)
  have I4 := I3.enterC (N := N) S fex lex (h1 := h₁) (tk := s2.toks + ([] : List (Str × Value)).length) hns₁ hk
  generalize hY : cxC X scope N { s2 with heap := H2 } H1 (D :: fp) = Y at *
  have yP : Y.prog = X.prog := by rw [← hY]; rfl
  have yw : Y.w = X.w := by rw [← hY]; rfl
  have yA : Y.A = X.A := by rw [← hY]; rfl
  have yC : Y.env.locals = H2.objs.size := by rw [← hY]; rfl
  have yK : Y.K = X.K := by rw [← hY]; rfl
  have yc : Y.calm = true := by rw [← hY]; exact hc
  have yfs : Y.fs = frs X.stack := by rw [← hY]; rfl
  have yex : Y.ex = D :: fp := by rw [← hY]; rfl
  have ypn : Y.pn = [] := by rw [← hY]; rfl
  have yxe : Y.xe = fun _ _ => False := by rw [← hY]; rfl
  have ycl : ∀ x c, Y.env.cells.lookup x = some c → X.env.cells.lookup x = some c := by
    rw [← hY]
    exact fun x c e => clOf_sub X.env _ _ x c (fun y d z => by simp at z) e
  have ye : Y.env = compEnvC scope (clOf X.env scope.names []) H2.objs.size X.env := by rw [← hY]; rfl
  have ys0 : Y.s₀ = { s2 with heap := H2 } := by rw [← hY]; rfl
  have yH0 : Y.H₀ = H1 := by rw [← hY]; rfl
  have hgY : PG Y tg g := by rw [← hY]; exact hg _ _ _
  have htY : PIfs Y ifs tt := by rw [← hY]; exact ht _ _ _
  have heY : PE Y elt te := by rw [← hY]; exact he _ _ _
  -- what stays true of the iterator's objects
  have nfs : ∀ b ∈ D :: fp, b ∉ Y.fs := fun b hb z => by
    rw [yfs] at z
    obtain ⟨f0, f1, f2', _⟩ := fex b hb
    rcases List.mem_cons.mp (I2.stkSub b z) with q | q
    · exact f1 q
    · exact f2' q
  have ncl : ∀ b ∈ D :: fp, ∀ x c, Y.env.cells.lookup x = some c → c ≠ b := fun b hb x c e => (fex b hb).2.2.2.2.1 x c (ycl x c e)
  have nC : ∀ b ∈ D :: fp, b ≠ Y.env.locals := fun b hb => by rw [yC]; exact Nat.ne_of_lt (lex b hb)
  have stat : ∀ {H' : Hp} {us : List Value} {k : Nat}, (∀ b ∈ fp, H' b = none) → ∀ b ∈ fp, FpOk Y [(D, lobj us k)] H' b := fun {H' us k} hn b hb =>
    ⟨hn b hb, nC b (List.mem_cons_of_mem _ hb), nfs b (List.mem_cons_of_mem _ hb), .inl (by rw [yex]; exact List.mem_cons_of_mem _ hb), ncl b (List.mem_cons_of_mem _ hb), fun p hp => by
      rw [ypn] at hp
      have hp1 : p = (D, lobj us k) := by simpa using hp
      rw [hp1]
      exact Nat.ne_of_gt (fpl b hb)⟩
  have pinD : ∀ {σ' : St} {H' : Hp} {s' : Shared} {pl : List (Addr × Obj)} {us : List Value} {k : Nat}, Inv Y pl σ' H' s' → s'.heap.get? D = some (lobj us k) → H' D = none → Inv Y [(D, lobj us k)] σ' H' s' := fun {σ' H' s' pl us k} I' e n =>
    I'.pins_of fun p hp => by
      have hp1 : p = (D, lobj us k) := by simpa using hp
      subst hp1
      exact ⟨e, n, nC D List.mem_cons_self, nfs D List.mem_cons_self, fun v z => by cases z⟩
  have I4' : Inv Y [(D, lobj [] 0)] (subSt src σ) H1 { s2 with heap := h₁, toks := s2.toks + ([] : List (Str × Value)).length } := pinD I4 (hk _ _ hD2) fD.1
  have loop : codeAny (model X.prog X.w) X.A (.compLoop (.ListComp elt [⟨tg, iter, ifs, 0⟩] scope pos) 0 (.ref it) (.ref D) Y.env) (CompEnd X pins σ Q (.ref D) H2.objs.size) { s2 with heap := h₁, toks := s2.toks + ([] : List (Str × Value)).length } := by
    refine compLoop_any (fun n s' => ∃ i ys us k σ' H', Inv Y [(D, lobj us k)] σ' H' s' ∧ tn i s'.heap ∧ (∀ b ∈ fp, H' b = none) ∧ Vals ys us ∧ ys.length ≤ sizeLine ∧ W i n ys σ' H') ?_ m0
      ⟨0, [], [], 0, _, H1, I4', T.keep _ _ _ st2 fun b hb o e => hk _ _ (push b o e), fun b hb => (f2 b hb).1, .nil, Nat.zero_le _, w0⟩
    rintro n s3 ⟨i, ys, us, k, σ3, H3, I3', st3, fr3, rv, hz, w3⟩
    rcases turn i n ys σ3 H3 w3 with ⟨stop, q⟩ | ⟨go, hlen, step⟩
    · have hd := T.done Y yP yw yK yc i _ s3 σ3 H3 (fun _ _ => False) I3' (stat fr3) st3 stop
      rw [yA] at hd
      refine thn hd fun r s4 ⟨hr, I4⟩ => ?_
      subst hr
      obtain ⟨eD, nD, _⟩ := I4.pin (D, lobj us k) (by simp)
      have eD : s4.heap.get? D = some (lobj us k) := eD
      have nD : H3 D = none := nD
      have base : Un (frs X.stack) (D :: fp) H1 H3 H2 s4.heap := by
        have b := I4.base
        rw [yex, yH0, ys0, yfs] at b
        exact b
      have hnD : ∀ b o, s2.heap.get? b = some o → b ≠ D := fun b o e => by rw [← hD]; exact Nat.ne_of_lt (Heap.lt_size e)
      have nx : ∀ b o, s2.heap.get? b = some o → b ∉ fp → b ∉ D :: fp := fun b o e hb z => (List.mem_cons.mp z).elim (hnD b o e) hb
      have un : Un (frs X.stack) fp H1 (upd H3 D (.lst ys)) s2.heap s4.heap :=
        ⟨fun b o e n hb hx => base.keep b o (push b o e) n hb (nx b o e hx), fun b o e n hb hx => base.slot b o (push b o e) n hb (nx b o e hx), fun b o e n hx => by rw [upd_ne (hnD b o e)]; exact base.free b o (push b o e) n (nx b o e hx),
          fun b o e hx => base.there b o (push b o e) (nx b o e hx), fun b xs e => by rw [upd_ne (ne_of_none e fD.1)]; exact base.tups b xs e, fun b o u e => by rw [upd_ne (ne_of_none e fD.1)]; exact base.frzs b o u e,
          fun b ps e => by rw [upd_ne (ne_of_none e fD.1)]; exact base.tbls b ps e⟩
      have hok : HOk X.prog X.w (upd H3 D (.lst ys)) s4.heap := fun b u e => by
        by_cases hb : b = D
        · subst hb
          rw [upd_same] at e
          cases e
          exact ⟨hz, us, k, rv, eD⟩
        · rw [upd_ne hb] at e
          have x := I4.hok b u e
          rw [yP, yw] at x
          exact x.stay (fun c v _ z => z) (fun c z => by rw [upd_ne (ne_of_none z nD)]; exact z) fun c xs z => by rw [upd_ne (ne_of_none z nD)]; exact z
      have ho : s4.os = s2.os := by rw [I4.os, ys0]
      have J' : Inv X pins σ (upd H3 D (.lst ys)) s4 := I2.call' (ch := fp) ho un hok I4.bare fun b hb => ⟨(f2 b hb).2.2.2.1, (f2 b hb).2.1, (f2 b hb).2.2.2.2.1, (f2 b hb).2.2.2.2.2⟩
      refine ⟨⟨_, rfl⟩, D, _, rfl, J', ?_, ?_, q D nD⟩
      · obtain ⟨m, hm, _⟩ := I4.loc
        rw [yC] at hm
        exact ⟨m, hm⟩
      · refine I2.fpOk (by rw [hC, hD]; exact Nat.le_succ _) ?_
        rw [upd_ne (by rw [hC]; exact Nat.succ_ne_self D)]
        have z := I4.free
        rw [yC] at z
        exact z
    · have hd := T.item Y yP yw yK yc i _ s3 σ3 H3 (fun _ _ => False) I3' (stat fr3) st3 go
      rw [yA] at hd
      refine thn hd fun r s4 ⟨u, hr, h4⟩ => ?_
      subst hr
      refine thn h4 fun _ s5 ⟨x, H5, I5, r5, y5, st5, fr5⟩ => ?_
      have I5' := I5.pinned (stat fr5) (T.obj _ _ st5)
      have hg' := hgY _ s5 σ3 H5 x u _ I5' r5 (step x H5 y5)
      rw [yP, yw, yA, yxe] at hg'
      refine thn hg' fun _ s6 ⟨σ6, H6, I6, q6⟩ => ?_
      have ht' := htY _ s6 σ6 H6 _ I6 q6
      rw [yP, yw, yA, yxe] at ht'
      refine thn ht' fun ok s7 ⟨H7, I7, q7⟩ => ?_
      have again : ∀ {σ8 : St} {H8 : Hp} {s8 : Shared} {ys' : List V} {us' : List Value} {k' m' : Nat}, Inv Y ([(D, lobj us' k')] ++ pinsAt fp s5.heap) σ8 H8 s8 → Vals ys' us' → ys'.length ≤ sizeLine → m' < n → W (i + 1) m' ys' σ8 H8 →
          ∃ m, m < n ∧ ∃ i ys us k σ' H', Inv Y [(D, lobj us k)] σ' H' s8 ∧ tn i s8.heap ∧ (∀ b ∈ fp, H' b = none) ∧ Vals ys us ∧ ys.length ≤ sizeLine ∧ W i m ys σ' H' := fun {σ8 H8 s8 ys' us' k' m'} I8 rv' hz' hm w8 => by
        refine ⟨m', hm, i + 1, ys', us', k', σ8, H8, I8.unpinned, T.keep _ _ _ st5 fun b hb o e => (I8.pin (b, o) (List.mem_append_right _ (List.mem_append_right _ (mem_pinsAt hb e)))).1, fun b hb => ?_, rv', hz', w8⟩
        obtain ⟨o, e, d⟩ := T.obj _ _ st5 b hb
        exact (I8.pin (b, o) (List.mem_append_right _ (List.mem_append_right _ (mem_pinsAt hb e)))).2.1
      cases ok with
      | false =>
        obtain ⟨m', hm, w8⟩ := q7
        exact again I7 rv hz hm w8
      | true =>
        rw [if_pos rfl]
        have he' := heY _ s7 σ6 H7 _ I7 q7
        rw [yP, yw, yA, yxe] at he'
        refine thn he' fun u8 s8 ⟨v, H8, I8, r8, m', hm, w8⟩ => ?_
        obtain ⟨eD, nD, _⟩ := I8.pin (D, lobj us k) (by simp)
        have eD : s8.heap.get? D = some (lobj us k) := eD
        have nD : H8 D = none := nD
        have hl := rv.length
        refine call_meets F.slot_list_append ⟨_, eD, rfl⟩ F.entry_list_append (F.args_list_append_2 _ _) (PySem.list_append D us.toArray k u8 (by rw [List.size_toArray]; omega)) ⟨eD, ?_⟩
        have q := PySem.IsL.update eD (fun a => a.push u8)
        have eu : us.toArray.push u8 = (us ++ [u8]).toArray := by simp
        rw [eu] at q
        obtain ⟨k', q⟩ : ∃ k', (s8.heap.update D (Obj.mapSeq fun a => a.push u8)).get? D = some (lobj (us ++ [u8]) k') := ⟨_, q⟩
        have I8' : Inv Y (pinsAt fp s5.heap) σ6 H8 s8 := I8.pins_of fun p hp => I8.pin p (List.mem_append_right _ (List.mem_append_right _ hp))
        have I9 : Inv Y (pinsAt fp s5.heap) σ6 H8 { s8 with heap := s8.heap.update D (Obj.mapSeq fun a => a.push u8) } := I8'.turned (it := D) (t' := s8.toks) (fun b o hb e => (Heap.get?_update_other s8.heap _ (Ne.symm hb)).trans e) nD (nC D List.mem_cons_self)
          (.inl (by rw [yex]; exact List.mem_cons_self)) (ncl D List.mem_cons_self) fun p hp => by
            rw [ypn] at hp
            have hp : p ∈ pinsAt fp s5.heap := by simpa using hp
            exact Nat.ne_of_lt (fpl _ (of_pinsAt hp).1)
        refine again (us' := us ++ [u8]) (ys' := ys ++ [v]) (m' := m') (k' := k') (I9.pins_of fun p hp => ?_) (rv.append (.cons r8 .nil)) (by rw [List.length_append, List.length_singleton]; omega) hm w8
        rcases List.mem_append.mp hp with z | z
        · have hp1 : p = (D, lobj (us ++ [u8]) k') := by simpa using z
          subst hp1
          exact ⟨q, nD, nC D List.mem_cons_self, nfs D List.mem_cons_self, fun v z => by cases z⟩
        · exact I9.pin p (List.mem_append_right _ z)
  rw [ye] at loop
  exact codeAny_compStart_list loop (T.self _ 0 _ _ _ (T.keep _ _ _ st2 fun b hb o e => hk _ _ (push b o e)) loop)

theorem pe_comp (hc : X.calm = true) (S : CompScope X N src scope) (hi : PI X tg iter wi) (hg : ∀ s H ex, PG (cxC X scope N s H ex) tg g) (ht : ∀ s H ex, PIfs (cxC X scope N s H ex) ifs tt) (he : ∀ s H ex, PE (cxC X scope N s H ex) elt te)
    (hs : ∀ x, foldedSetIterable iter X.env x = pure x := by intro _; rfl) : PE X (.ListComp elt [⟨tg, iter, ifs, 0⟩] scope pos) (tComp wi g tt te src) := by
  intro pins s σ H Q I h
  rw [eval_ListComp]
  refine wpAny_comprehension_free (use := none) rfl hs (closureFor_eq (S.cells I.ok)) S.kind S.names (thn (hi pins s σ H _ I h) fun v s1 h1 => thn h1 fun it s2 h2 => ?_)
  refine thn (comp_run hc S hg ht he h2) fun acc s3 h3 => thn h3 fun cenv s4 h4 => codeAny_mono h4 fun r s' hr => ?_
  obtain ⟨⟨f, rfl⟩, D, H', rfl, J, ⟨m, hm⟩, hf, q⟩ := hr
  refine ⟨m, hm, fun h' sb => ?_⟩
  exact ⟨.ref D, H', J.turned (t' := s'.toks) (fun b o hb e => (sb.2 b hb).trans e) hf.1 hf.2.1 hf.2.2.2.1 hf.2.2.2.2.1 hf.2.2.2.2.2, rfl, q⟩

/-- name = a comprehension, where the stores are exchanged -/
theorem ps_setC {i : Nat} {y : Str} {py spos : Pos} (hc : X.calm = true) (S : CompScope X N src scope) (hi : PI X tg iter wi) (hg : ∀ s H ex, PG (cxC X scope N s H ex) tg g) (ht : ∀ s H ex, PIfs (cxC X scope N s H ex) ifs tt) (he : ∀ s H ex, PE (cxC X scope N s H ex) elt te)
    (hN : X.N.Nodup) (hy : X.N[i]? = some y) (hx : Loc X.env.scope y) (hsw : swapsWith (.ListComp elt [⟨tg, iter, ifs, 0⟩] scope pos) (some (.Name y py)) spos.line X.env = pure true) (hf : X.fn y = true ∨ X.env.scope.names.lookup y = some .local)
    (hs : ∀ x, foldedSetIterable iter X.env x = pure x := by intro _; rfl) : PS X (.Assign [.Name y py] (.ListComp elt [⟨tg, iter, ifs, 0⟩] scope pos) spos) (tAsg (tComp wi g tt te src) (gName i)) := by
  intro pins s σ H D I h
  rw [exec_Assign_Name_used _ _ _ _ hsw]
  refine wpAny_bind (wpAny_standAt (wpAny_bind ?_))
  show wpAny _ X.A (do let _ ← comprehension (.ListComp elt [⟨tg, iter, ifs, 0⟩] scope pos) scope X.env _ (newList []) false (eval iter X.env) (some (assign (.Name y py) X.env))) _ _ s
  refine wpAny_bind (wpAny_mono (wpAny_comprehension_free (use := some (assign (.Name y py) X.env)) (Q := fun _ s' => SP X pins D .next s') rfl hs (closureFor_eq (S.cells I.ok)) S.kind S.names (thn (hi pins s σ H _ I h) fun v s1 h1 => thn h1 fun it s2 h2 => ?_)) (fun _ s' hq => wpAny_pure (wpAny_pure hq)) fun _ _ e => e)
  refine thn (comp_run hc S hg ht he h2) fun acc s3 h3 => thn h3 fun cenv s4 h4 => codeAny_mono h4 fun r s' hr => ?_
  obtain ⟨⟨f, rfl⟩, D', H', rfl, J, ⟨m, hm⟩, hfp, q⟩ := hr
  show wpAny _ X.A (assign (.Name y py) X.env (.ref D')) _ _ _
  refine wpAny_assign_Name (store_ok2 J hN hy hx (v := .ref D') rfl (fun s5 I5 ⟨a, sb, ha⟩ => ?_) hf)
  have hne : cenv.locals ≠ a := by
    rcases ha with z | z
    · rw [z]; exact hfp.2.1
    · exact Ne.symm (hfp.2.2.2.2.1 y a z)
  refine ⟨m, hm.sameBut sb hne, fun h' sb' => ?_⟩
  exact ⟨_, H', I5.turned (t' := s5.toks) (fun b o hb e => (sb'.2 b hb).trans e) hfp.1 hfp.2.1 hfp.2.2.2.1 hfp.2.2.2.2.1 hfp.2.2.2.2.2, q⟩
end
end L2

/-! ### rules for texts and built-ins; readings that compute -/
namespace L2
open PySem PySem.Spec PyProof.Rows
section
variable {X : Cx}
theorem PE.imp {e : Expr} {t t' : TE} (h : PE X e t) (i : ∀ σ H Q, t' σ H Q → t σ H Q) : PE X e t' := fun pins s σ H Q I q => h pins s σ H Q I (i σ H Q q)
theorem PT.imp {e : Expr} {t t' : TT} (h : PT X e t) (i : ∀ σ H Q, t' σ H Q → t σ H Q) : PT X e t' := fun pins s σ H Q I q => h pins s σ H Q I (i σ H Q q)
theorem PS.imp {st : Stmt} {t t' : TS} (h : PS X st t) (i : ∀ D σ H, t' D σ H → t D σ H) : PS X st t' := fun pins s σ H D I q => h pins s σ H D I (i D σ H q)
theorem OpR.imp {f : Value → Value → Sem Value} {r r' : R2} (h : OpR X f r) (i : ∀ x y H Q, r' x y H Q → r x y H Q) : OpR X f r' := fun pins s σ H x y v u Q I rx ry q => h pins s σ H x y v u Q I rx ry (i x y H Q q)
theorem CallR.imp {f : Value} {r r' : List V → Hp → VK → Prop} (h : CallR X f r) (i : ∀ xs H Q, r' xs H Q → r xs H Q) : CallR X f r' := fun pins s σ H xs us Q I r q => h pins s σ H xs us Q I r (i xs H Q q)
theorem MtR.imp {id : String} {r r' : V → List V → Hp → VK → Prop} (h : MtR X id r) (i : ∀ x xs H Q, r' x xs H Q → r x xs H Q) : MtR X id r' := fun pins s σ H x xs v us Q I rx r q => h pins s σ H x xs v us Q I rx r (i x xs H Q q)

/-! #### texts -/
abbrev Str.tl (x : Str) : List Nat := x.cps.toList
theorem str_ext {x y : Str} (h : x.cps.toList = y.cps.toList) : x = y := by
  obtain ⟨a⟩ := x; obtain ⟨b⟩ := y
  have : a = b := Array.toList_inj.mp h
  rw [this]
theorem str_len (x : Str) : x.length = x.cps.toList.length := by simp [Str.length]
theorem str_app (x y : Str) : (x ++ y).cps.toList = x.cps.toList ++ y.cps.toList := by
  show (x.cps ++ y.cps).toList = _
  simp
theorem op_le_str : OpR X (compareOp .LtE) (fun x y H Q => ∃ i j, x = .str i ∧ y = .str j ∧ Q (.bl (!decide (j.cps.toList < i.cps.toList))) H) := by
  intro pins s σ H x y v u Q I rx ry h
  obtain ⟨i, j, rfl, rfl, q⟩ := h
  obtain ⟨t, rfl⟩ := rx
  obtain ⟨t', rfl⟩ := ry
  exact PySem.P.le_str (fin_bl I q rfl)

theorem sub_pre (x y : Str) : (decide (0 + y.length ≤ x.length) && Builtin.Str.subAt x y 0) = y.cps.toList.isPrefixOf x.cps.toList := by
  unfold Builtin.Str.subAt
  rw [Bool.eq_iff_iff]
  simp only [Bool.and_eq_true, decide_eq_true_eq, beq_iff_eq, List.isPrefixOf_iff_prefix]
  rw [List.prefix_iff_eq_take]
  have e1 : (x.cps.extract 0 (0 + y.length)).toList = x.cps.toList.take y.cps.toList.length := by
    rw [Array.toList_extract, str_len]; simp [List.extract]
  constructor
  · rintro ⟨_, h⟩
    rw [← e1, h]
  · intro h
    refine ⟨?_, Array.toList_inj.mp (e1.trans h.symm)⟩
    have := congrArg List.length h
    rw [List.length_take] at this
    rw [str_len, str_len]
    omega
theorem mt_startswith : MtR X "str.startswith" (fun x vs H Q => ∃ a b, x = .str a ∧ vs = [.str b] ∧ Q (.bl (b.cps.toList.isPrefixOf a.cps.toList)) H) := by
  intro pins s σ H x xs v us Q I rx r h
  obtain ⟨a, b, rfl, rfl, q⟩ := h
  obtain ⟨t, rfl⟩ := rx
  obtain ⟨u, rfl, t', rfl⟩ := vals1 r
  refine call_gives F.slot_str_startswith (typeIs_str _ _ _) F.entry_str_startswith (F.args_str_startswith_2 _ _) (gives_str_startswith a b t t') ?_
  exact fin_bl I q (sub_pre a b).symm
theorem mt_upper : MtR X "str.upper" (fun x vs H Q => ∃ a, x = .str a ∧ vs = [] ∧ a.length ≤ sizeLine ∧ (∀ c ∈ a.cps.toList, c < 128) ∧ Q (.str ⟨a.cps.map up1⟩) H) := by
  intro pins s σ H x xs v us Q I rx r h
  obtain ⟨a, rfl, rfl, hz, ha, q⟩ := h
  obtain ⟨t, rfl⟩ := rx
  cases r
  have e : placed a (fun _ c => Unicode.upperOf c) = a.cps.map up1 := placed_single a _ up1 fun i c hc => upperOf_ascii c (ha c (List.mem_of_getElem? hc))
  have hfit : Builtin.Str.tooLong (placed a fun _ c => Unicode.upperOf c).size = false := by
    rw [e, Array.size_map]
    unfold Builtin.Str.tooLong
    exact decide_eq_false (by show ¬ a.cps.size > sizeLine; have : a.length = a.cps.size := rfl; omega)
  refine call_gives F.slot_str_upper (typeIs_str _ _ _) F.entry_str_upper (F.args_str_upper_1 _) (gives_str_upper a t hfit) ?_
  rw [e]
  exact ⟨by show (a.cps.map up1).size ≤ sizeLine; rw [Array.size_map]; exact hz, ⟨.str _, H, I.tok _, ⟨_, rfl⟩, q⟩⟩

/-- the signs of x[lo:hi] -/
def cutS (x : Str) (lo hi : Option Int) : Str := ⟨((x.cps.toList.drop (HT.sIx x.length 0 lo)).take (HT.sIx x.length x.length hi - HT.sIx x.length 0 lo)).toArray⟩
theorem pick_go (l : List Nat) : ∀ (k i : Nat), i + k ≤ l.length → (List.range' i k).filterMap (fun m => l[m]?) = (l.drop i).take k
  | 0, i, _ => by simp
  | k + 1, i, h => by
    have ih := pick_go l k (i + 1) (by omega)
    rw [List.range'_succ, List.filterMap_cons, List.getElem?_eq_getElem (by omega), List.drop_eq_getElem_cons (by omega), List.take_succ_cons]
    show l[i] :: _ = _
    rw [ih]
theorem pick_str (x : Str) (i k : Nat) (h : i + k ≤ x.length) : ((List.range k).map fun (m : Nat) => i + m).filterMap (x.cps[·]?) = (x.cps.toList.drop i).take k := by
  have hx : x.cps.toList.length = x.length := (str_len x).symm
  rw [← List.range'_eq_map_range, ← pick_go _ _ _ (by omega)]
  congr 1
  funext m
  rw [Array.getElem?_toList]
theorem idx_str (lo hi : Option Int) (n : Nat) : Builtin.Str.strSliceIndices lo hi 1 n = (List.range (HT.sIx n n hi - HT.sIx n 0 lo)).map fun m => HT.sIx n 0 lo + m := by
  have cl : ∀ (v : Int) (d : Nat), max 0 (min (if v < 0 then v + (n : Int) else v) (n : Int)) = ((HT.sIx n d (some v) : Nat) : Int) := fun v d => by
    show _ = (((if v < 0 then (v + (n : Int)).toNat else min v.toNat n) : Nat) : Int)
    by_cases hv : v < 0
    · simp only [if_pos hv]; omega
    · simp only [if_neg hv]; omega
  have main : ∀ (a b : Nat), sliceRange (a : Int) (b : Int) 1 = (List.range (b - a)).map fun m => a + m := fun a b => by
    have e : (if (1 : Int) > 0 then (if (a : Int) < (b : Int) then ((b : Int) - a + 1 - 1) / 1 else 0) else (if (a : Int) > b then ((a : Int) - b - 1 - 1) / (-1) else 0)).toNat = b - a := by
      rw [if_pos (by decide)]
      split <;> omega
    show (List.range (if (1 : Int) > 0 then (if (a : Int) < (b : Int) then ((b : Int) - a + 1 - 1) / 1 else 0) else (if (a : Int) > b then ((a : Int) - b - 1 - 1) / (-1) else 0)).toNat).map (fun (k : Nat) => ((a : Int) + 1 * (k : Int)).toNat) = _
    rw [e]
    apply List.map_congr_left
    intro m _
    omega
  have e1 : HT.sIx n 0 none = 0 := rfl
  have e2 : HT.sIx n n none = n := rfl
  unfold Builtin.Str.strSliceIndices
  simp only [show (1 : Int) > 0 by decide, if_true]
  cases lo with
  | none =>
    cases hi with
    | none => exact main 0 n
    | some h => show sliceRange ((0 : Nat) : Int) (max 0 (min (if h < 0 then h + (n : Int) else h) (n : Int))) 1 = _; rw [cl h n]; exact main _ _
  | some l =>
    cases hi with
    | none => show sliceRange (max 0 (min (if l < 0 then l + (n : Int) else l) (n : Int))) (n : Int) 1 = _; rw [cl l 0]; exact main _ _
    | some h => show sliceRange (max 0 (min (if l < 0 then l + (n : Int) else l) (n : Int))) (max 0 (min (if h < 0 then h + (n : Int) else h) (n : Int))) 1 = _; rw [cl l 0, cl h n]; exact main _ _
theorem slice_str (x : Str) (lo hi : Option Int) : (⟨((Builtin.Str.strSliceIndices lo hi 1 x.length).filterMap (x.cps[·]?)).toArray⟩ : Str) = cutS x lo hi := by
  unfold cutS
  rw [idx_str]
  have h1 := HT.sIx_le x.length 0 (Nat.zero_le _) lo
  have h2 := HT.sIx_le x.length x.length (Nat.le_refl _) hi
  by_cases h : HT.sIx x.length 0 lo ≤ HT.sIx x.length x.length hi
  · rw [pick_str x _ _ (by omega)]
  · have e : HT.sIx x.length x.length hi - HT.sIx x.length 0 lo = 0 := by omega
    rw [e]
    simp
theorem cutS_list (x : Str) (lo hi : Option Int) : (cutS x lo hi).cps.toList = (x.cps.toList.drop (HT.sIx x.length 0 lo)).take (HT.sIx x.length x.length hi - HT.sIx x.length 0 lo) := by
  unfold cutS
  simp
theorem cutS_len (x : Str) (lo hi : Option Int) : (cutS x lo hi).length ≤ x.length := by
  rw [str_len, cutS_list, str_len x, List.length_take, List.length_drop]
  omega
theorem cutS_whole {x : Str} {lo hi : Option Int} (h : (Builtin.Str.strSliceIndices lo hi 1 x.length).length = x.length) : cutS x lo hi = x := by
  rw [idx_str, List.length_map, List.length_range] at h
  have h1 := HT.sIx_le x.length 0 (Nat.zero_le _) lo
  have h2 := HT.sIx_le x.length x.length (Nat.le_refl _) hi
  apply str_ext
  rw [cutS_list]
  by_cases z : x.length = 0
  · have e : x.cps.toList = [] := List.length_eq_zero_iff.mp (by rw [← str_len]; exact z)
    rw [e]; simp
  · have e1 : HT.sIx x.length 0 lo = 0 := by omega
    rw [h, e1, List.drop_zero, List.take_of_length_le (by rw [← str_len]; exact Nat.le_refl _)]
def rSlS : V → Option Int → Option Int → Hp → VK → Prop := fun x lo hi H Q => ∃ z, x = .str z ∧ z.length ≤ sizeLine ∧ Q (.str (cutS z lo hi)) H
theorem part_val {v : Value} {o : Option Int} (p : IsPart v o) : ∃ q : Option (Int × Tok), v = partValue q ∧ q.map (·.1) = o := by
  cases p with
  | none => exact ⟨none, rfl, rfl⟩
  | int i t => exact ⟨some (i, t), rfl, rfl⟩
theorem sl_str : SlR X rSlS := by
  intro pins s σ H x v vl vu lo hi sl Q I rx hs pl pu h
  obtain ⟨z, rfl, hz, q⟩ := h
  obtain ⟨t, rfl⟩ := rx
  obtain ⟨l, rfl, el⟩ := part_val pl
  obtain ⟨u, rfl, eu⟩ := part_val pu
  refine ⟨"str", _, F.slot_str_getitem.lookup, typeIs_str _ _ _, ?_⟩
  obtain ⟨o, ho, hc, hd⟩ := hs
  refine wpAny_getItem_str_slice (l := l) (u := u) (st := none) ⟨o, ho, hc, hd⟩ rfl ?_
  unfold sliceMade slicePicked
  rw [el, eu]
  split
  · rename_i hw
    have hw : (Builtin.Str.strSliceIndices lo hi 1 z.length).length = z.length := by simpa using hw
    rw [cutS_whole hw] at q
    exact ⟨.str z, H, I, ⟨t, rfl⟩, q⟩
  · have e := slice_str z lo hi
    have e' : (⟨((Builtin.Str.strSliceIndices lo hi ((Option.map (·.1) (none : Option (Int × Tok))).getD 1) z.length).filterMap (z.cps[·]?)).toArray⟩ : Str) = cutS z lo hi := e
    rw [e']
    exact ⟨Nat.le_trans (cutS_len z lo hi) hz, ⟨.str _, H, I.tok _, ⟨_, rfl⟩, q⟩⟩

theorem call_int_text : CallR X (.type "int") (fun xs H Q => ∃ x n, xs = [.str x] ∧ PySem.intText? x = some n ∧ x.length ≤ 640 ∧ Q (.int n) H) := by
  intro pins s σ H xs us Q I r h
  obtain ⟨x, n, rfl, hn, hl, q⟩ := h
  obtain ⟨u, rfl, t, rfl⟩ := vals1 r
  exact PySem.W.KIN.call_text hn hl ⟨.int n, H, I.tok _, ⟨_, rfl⟩, q⟩

theorem strsAre_of : ∀ {ys : List Str} {us : List Value}, Vals (ys.map V.str) us → StrsAre us ys
  | [], us, r => by rw [List.map_nil] at r; cases r; exact .nil
  | y :: ys, us, r => by
    rw [List.map_cons] at r
    cases r with
    | cons r1 r2 =>
      obtain ⟨t, e⟩ := r1
      subst e
      exact .cons y t (strsAre_of r2)
theorem mt_join : MtR X "str.join" (fun x vs H Q => ∃ sep p ys, x = .str sep ∧ vs = [.ref p] ∧ SqL X.K H p (ys.map V.str) ∧ (ys.map (·.length)).sum + ys.length * sep.length ≤ 16777216 ∧ Q (.str (Txt.join sep ys)) H) := by
  intro pins s σ H x xs v us Q I rx r h
  obtain ⟨sep, p, ys, rfl, rfl, hp, hz, q⟩ := h
  obtain ⟨t, rfl⟩ := rx
  obtain ⟨u, rfl, ru⟩ := vals1 r
  cases ru
  obtain ⟨its, rv, pl, hl⟩ := I.list hp
  exact join_list pl.isList (by simpa using strsAre_of rv) hz fun t' k => ⟨.str _, H, I.tok _, ⟨t', rfl⟩, q⟩

theorem truth_bl {P : Program} {w : World} {A : Around} {its : List Value} {ks : List Bool} (r : Vals (ks.map V.bl) its) : TruthOf P w A (fun i v => its.toArray[i]? = some v) (fun i => ks.getD i false) := by
  intro i v s Q E hv hq
  have hv : its[i]? = some v := by simpa using hv
  have hlen := r.length
  rw [List.length_map] at hlen
  have hi : i < its.length := (List.getElem?_eq_some_iff.mp hv).1
  have hk : (ks.map V.bl)[i]? = some (V.bl (ks.getD i false)) := by
    rw [List.getElem?_map, List.getElem?_eq_getElem (by omega), List.getD_eq_getElem?_getD, List.getElem?_eq_getElem (by omega)]
    rfl
  obtain ⟨u, hu, ru⟩ := r.get hk
  rw [hv] at hu
  cases hu
  cases ru
  exact wpAny_truthy_bool hq
theorem range_all (ks : List Bool) : (List.range ks.length).all (fun i => ks.getD i false) = ks.all id := by
  rw [Bool.eq_iff_iff, List.all_eq_true, List.all_eq_true]
  constructor
  · intro h b hb
    obtain ⟨i, hi, e⟩ := List.mem_iff_getElem.mp hb
    have := h i (List.mem_range.mpr hi)
    rw [List.getD_eq_getElem?_getD, List.getElem?_eq_getElem hi] at this
    rw [← e]
    exact this
  · intro h i hi
    have hi := List.mem_range.mp hi
    rw [List.getD_eq_getElem?_getD, List.getElem?_eq_getElem hi]
    exact h _ (List.getElem_mem hi)
theorem call_all (hc : X.calm = true) : CallR X (.builtin "all") (fun xs H Q => ∃ (p : Addr) (ks : List Bool), xs = [.ref p] ∧ SqL X.K H p (ks.map V.bl) ∧ Q (.bl (ks.all id)) H) := by
  intro pins s σ H xs us Q I r h
  obtain ⟨p, ks, rfl, hp, q⟩ := h
  obtain ⟨u, rfl, ru⟩ := vals1 r
  cases ru
  obtain ⟨its, rv, pl, hl⟩ := I.list hp
  have hlen := rv.length
  rw [List.length_map] at hlen
  refine call_all_walk (wpAny_pyIter_list pl.isList ?_)
  have hne : p ≠ s.heap.objs.size := by
    obtain ⟨o, ho, _⟩ := pl.isList
    exact Nat.ne_of_lt (Heap.lt_size ho)
  have W := Walks.list (prog := X.prog) (w := X.w) (A := X.A.in1) (show X.A.in1.handled = none from I.ok.hd hc) s.heap.objs.size p hne its.toArray
  have hpush : ∀ o b ob, s.heap.get? b = some ob → (s.heap.push o).get? b = some ob := fun o b ob e => Heap.get?_push_of_some _ e
  refine ⟨_, _, _, _, _, _, fun i => ks.getD i false, rfl, W, ⟨⟨_, Heap.get?_push_size _ rfl, rfl, rfl⟩, pl.isList.at fun o e => hpush _ _ o e⟩, truth_bl rv, fun h' tk k => ?_⟩
  have e : (List.range its.toArray.size).all (fun i => ks.getD i false) = ks.all id := by
    rw [← range_all, List.size_toArray, ← hlen]
  rw [e]
  refine ⟨.bl _, H, I.kept (t' := tk) (h' := h') fun b ob e => k b ob ?_ (hpush _ b ob e), rfl, q⟩
  intro hb
  have : b = s.heap.objs.size := by simpa using hb
  subst this
  exact absurd (Heap.lt_size e) (Nat.lt_irrefl _)
end
end L2

/-! ### readings that compute -/
namespace L2
open PySem PySem.Spec PyProof.Rows

/-! #### equality, deep -/
/-- == of two values by the heap: scalars, lists and tuples of such -/
inductive EqD (K : PySem.W.Frag) (H : Hp) : Nat → V → V → Bool → Prop
  | flat {n : Nat} {x y : V} (hx : flatV x = true) (hy : flatV y = true) : EqD K H n x y (eqV x y)
  | same {n : Nat} {a : Addr} : EqD K H n (.ref a) (.ref a) true
  | len {n : Nat} {a b : Addr} {xs ys : List V} (ha : SqL K H a xs) (hb : SqL K H b ys) (hab : a ≠ b) (hl : xs.length ≠ ys.length) : EqD K H (n + 1) (.ref a) (.ref b) false
  | lst {n : Nat} {a b : Addr} {xs ys : List V} {es : Nat → Bool} (ha : SqL K H a xs) (hb : SqL K H b ys) (hab : a ≠ b) (hl : xs.length = ys.length)
      (he : ∀ i x y, xs[i]? = some x → ys[i]? = some y → EqD K H n x y (es i)) : EqD K H (n + 1) (.ref a) (.ref b) ((List.range xs.length).all es)
  | tup {n : Nat} {a b : Addr} {xs ys : List V} {es : Nat → Bool} (ha : SqT K H a xs) (hb : SqT K H b ys) (hab : a ≠ b)
      (he : ∀ i x y, xs[i]? = some x → ys[i]? = some y → EqD K H n x y (es i)) : EqD K H (n + 1) (.ref a) (.ref b) ((List.range (min xs.length ys.length)).all es && xs.length == ys.length)
  | nref {n : Nat} {x : V} {a : Addr} {xs : List V} (hx : flatV x = true) (ha : SqL K H a xs ∨ SqT K H a xs) : EqD K H n x (.ref a) false
  | refn {n : Nat} {x : V} {a : Addr} {xs : List V} (hx : flatV x = true) (ha : SqL K H a xs ∨ SqT K H a xs) : EqD K H n (.ref a) x false
section
variable {X : Cx} {pins : List (Addr × Obj)} {σ : St} {H : Hp} {s : Shared}
theorem nth_of {xs : List V} {its : List Value} (r : Vals xs its) {j : Nat} (h : j < its.toArray.size) : ∃ x, xs[j]? = some x ∧ RelV x its.toArray[j] := by
  have hl := r.length
  have hj : j < its.length := by simpa using h
  have hx : xs[j]? = some (xs[j]'(by omega)) := List.getElem?_eq_getElem (by omega)
  obtain ⟨u, hu, ru⟩ := r.get hx
  refine ⟨_, hx, ?_⟩
  have e : its.toArray[j] = u := by
    rw [List.getElem?_eq_getElem hj] at hu
    simpa using Option.some.inj hu
  rw [e]
  exact ru
theorem eqAt_D (I : Inv X pins σ H s) : ∀ {n : Nat} {x y : V} {k : Bool}, EqD X.K H n x y k → ∀ (A : Around), A.units + n < cLine → ∀ {u v : Value}, RelV x u → RelV y v → SeqAt.EqAt A s u v k := by
  intro n x y k h
  induction h with
  | flat hx hy => exact fun A _ u v ru rv => eqAt_V ru rv hx hy
  | same =>
    intro A _ u v ru rv
    cases ru; cases rv
    exact SeqAt.EqAt.same _
  | len ha hb hab hl =>
    intro A hu u v ru rv
    cases ru; cases rv
    obtain ⟨its, r1, p1, _⟩ := I.list ha
    obtain ⟨its2, r2, p2, _⟩ := I.list hb
    have l1 := r1.length
    have l2 := r2.length
    refine .of_refs hab (.lists_lengths p1.isList p2.isList (by simp; omega) (by omega))
  | @lst n a b xs ys es ha hb hab hl he ih =>
    intro A hu u v ru rv
    cases ru; cases rv
    obtain ⟨its, r1, p1, _⟩ := I.list ha
    obtain ⟨its2, r2, p2, _⟩ := I.list hb
    have l1 := r1.length
    have l2 := r2.length
    have e : (List.range xs.length).all es = (List.range its.toArray.size).all es := by rw [List.size_toArray, l1]
    rw [e]
    refine .of_refs hab (.lists p1.isList p2.isList (by simp; omega) (by omega) fun j h1 h2 => ?_)
    obtain ⟨x, hx, rx⟩ := nth_of r1 h1
    obtain ⟨y, hy, ry⟩ := nth_of r2 h2
    exact ih j x y hx hy A.in1 (by show A.units + 1 + n < cLine; omega) rx ry
  | @tup n a b xs ys es ha hb hab he ih =>
    intro A hu u v ru rv
    cases ru; cases rv
    obtain ⟨its, r1, p1, _⟩ := I.tuple ha
    obtain ⟨its2, r2, p2, _⟩ := I.tuple hb
    have l1 := r1.length
    have l2 := r2.length
    have e : ((List.range (min xs.length ys.length)).all es && xs.length == ys.length) = ((List.range (min its.toArray.size its2.toArray.size)).all es && its.toArray.size == its2.toArray.size) := by rw [List.size_toArray, List.size_toArray, l1, l2]
    rw [e]
    refine .of_refs hab (.tuples (show s.heap.IsTuple a its.toArray from p1) (show s.heap.IsTuple b its2.toArray from p2) (by omega) fun j h1 h2 => ?_)
    obtain ⟨x, hx, rx⟩ := nth_of r1 h1
    obtain ⟨y, hy, ry⟩ := nth_of r2 h2
    exact ih j x y hx hy A.in1 (by show A.units + 1 + n < cLine; omega) rx ry
  | @nref n x a xs hx ha =>
    intro A hu u v ru rv
    cases rv
    rcases ha with ha | ha
    · obtain ⟨its, r1, p1, _⟩ := I.list ha
      have hl := p1.isList
      cases x with
      | non => cases ru; exact .none_list hl (by omega)
      | bl b => cases ru; exact .bool_list b hl (by omega)
      | int b => obtain ⟨t, rfl⟩ := ru; exact .int_list b t hl (by omega)
      | str b => obtain ⟨t, rfl⟩ := ru; exact .str_list b t hl (by omega)
      | _ => simp [flatV] at hx
    · obtain ⟨its, r1, p1, _⟩ := I.tuple ha
      have hl : s.heap.IsTuple a its.toArray := p1
      cases x with
      | non => cases ru; exact .none_tuple hl (by omega)
      | bl b => cases ru; exact .bool_tuple b hl (by omega)
      | int b => obtain ⟨t, rfl⟩ := ru; exact .int_tuple b t hl (by omega)
      | str b => obtain ⟨t, rfl⟩ := ru; exact .str_tuple b t hl (by omega)
      | _ => simp [flatV] at hx
  | @refn n x a xs hx ha =>
    intro A hu u v ru rv
    cases ru
    rcases ha with ha | ha
    · obtain ⟨its, r1, p1, _⟩ := I.list ha
      have hl := p1.isList
      cases x with
      | non => cases rv; exact .list_none hl (by omega)
      | bl b => cases rv; exact .list_bool b hl (by omega)
      | int b => obtain ⟨t, rfl⟩ := rv; exact .list_int b t hl (by omega)
      | str b => obtain ⟨t, rfl⟩ := rv; exact .list_str b t hl (by omega)
      | _ => simp [flatV] at hx
    · obtain ⟨its, r1, p1, _⟩ := I.tuple ha
      have hl : s.heap.IsTuple a its.toArray := p1
      cases x with
      | non => cases rv; exact .tuple_none hl (by omega)
      | bl b => cases rv; exact .tuple_bool b hl (by omega)
      | int b => obtain ⟨t, rfl⟩ := rv; exact .tuple_int b t hl (by omega)
      | str b => obtain ⟨t, rfl⟩ := rv; exact .tuple_str b t hl (by omega)
      | _ => simp [flatV] at hx
end

/-! #### == at the top: no look at identity -/
inductive EqT (K : PySem.W.Frag) (H : Hp) : Nat → V → V → Bool → Prop
  | len {n : Nat} {a b : Addr} {xs ys : List V} (ha : SqL K H a xs) (hb : SqL K H b ys) (hl : xs.length ≠ ys.length) : EqT K H (n + 1) (.ref a) (.ref b) false
  | lst {n : Nat} {a b : Addr} {xs ys : List V} {es : Nat → Bool} (ha : SqL K H a xs) (hb : SqL K H b ys) (hl : xs.length = ys.length)
      (he : ∀ i x y, xs[i]? = some x → ys[i]? = some y → EqD K H n x y (es i)) : EqT K H (n + 1) (.ref a) (.ref b) ((List.range xs.length).all es)
  | tup {n : Nat} {a b : Addr} {xs ys : List V} {es : Nat → Bool} (ha : SqT K H a xs) (hb : SqT K H b ys)
      (he : ∀ i x y, xs[i]? = some x → ys[i]? = some y → EqD K H n x y (es i)) : EqT K H (n + 1) (.ref a) (.ref b) ((List.range (min xs.length ys.length)).all es && xs.length == ys.length)
section
variable {X : Cx}
theorem op_eqT {n : Nat} (hu : X.A.units + n < cLine) : OpR X (compareOp .Eq) (fun x y H Q => ∃ k, EqT X.K H n x y k ∧ Q (.bl k) H) := by
  intro pins s σ H x y v u Q I rx ry h
  obtain ⟨k, h, q⟩ := h
  cases h with
  | @len n a b xs ys ha hb hl =>
    cases rx; cases ry
    obtain ⟨its, r1, p1, _⟩ := I.list ha
    obtain ⟨its2, r2, p2, _⟩ := I.list hb
    have l1 := r1.length
    have l2 := r2.length
    exact SeqAt.eq_list_lengthsAt p1.isList p2.isList (by simp; omega) (by omega) (fin_bl I q rfl)
  | @lst n a b xs ys es ha hb hl he =>
    cases rx; cases ry
    obtain ⟨its, r1, p1, _⟩ := I.list ha
    obtain ⟨its2, r2, p2, _⟩ := I.list hb
    have l1 := r1.length
    have l2 := r2.length
    refine SeqAt.eq_listAt (e := es) p1.isList p2.isList (by simp; omega) (by omega) (fun j h1 h2 => ?_) (fin_bl I q (by rw [List.size_toArray, l1]))
    obtain ⟨x, hx, rx⟩ := nth_of r1 h1
    obtain ⟨y, hy, ry⟩ := nth_of r2 h2
    exact eqAt_D I (he j x y hx hy) X.A.in1 (by show X.A.units + 1 + n < cLine; omega) rx ry
  | @tup n a b xs ys es ha hb he =>
    cases rx; cases ry
    obtain ⟨its, r1, p1, _⟩ := I.tuple ha
    obtain ⟨its2, r2, p2, _⟩ := I.tuple hb
    have l1 := r1.length
    have l2 := r2.length
    refine SeqAt.eq_tupleAt (e := es) (show s.heap.IsTuple a its.toArray from p1) (show s.heap.IsTuple b its2.toArray from p2) (by omega) (fun j h1 h2 => ?_) (fin_bl I q (by rw [List.size_toArray, List.size_toArray, l1, l2]))
    obtain ⟨x, hx, rx⟩ := nth_of r1 h1
    obtain ⟨y, hy, ry⟩ := nth_of r2 h2
    exact eqAt_D I (he j x y hx hy) X.A.in1 (by show X.A.units + 1 + n < cLine; omega) rx ry
theorem op_neT {n : Nat} (hu : X.A.units + n < cLine) : OpR X (compareOp .NotEq) (fun x y H Q => ∃ k, EqT X.K H n x y k ∧ Q (.bl (!k)) H) := by
  intro pins s σ H x y v u Q I rx ry h
  obtain ⟨k, h, q⟩ := h
  cases h with
  | @len n a b xs ys ha hb hl =>
    cases rx; cases ry
    obtain ⟨its, r1, p1, _⟩ := I.list ha
    obtain ⟨its2, r2, p2, _⟩ := I.list hb
    have l1 := r1.length
    have l2 := r2.length
    exact EqBoolInt.of_rcne (SeqAt.RcNeAt.lists_lengths p1.isList p2.isList (by simp; omega) (by omega)) (fin_bl I q rfl)
  | @lst n a b xs ys es ha hb hl he =>
    cases rx; cases ry
    obtain ⟨its, r1, p1, _⟩ := I.list ha
    obtain ⟨its2, r2, p2, _⟩ := I.list hb
    have l1 := r1.length
    have l2 := r2.length
    refine EqBoolInt.of_rcne (SeqAt.RcNeAt.lists (e := es) p1.isList p2.isList (by simp; omega) (by omega) (fun j h1 h2 => ?_)) (fin_bl I q (by rw [List.size_toArray, l1]))
    obtain ⟨x, hx, rx⟩ := nth_of r1 h1
    obtain ⟨y, hy, ry⟩ := nth_of r2 h2
    exact eqAt_D I (he j x y hx hy) X.A.in1 (by show X.A.units + 1 + n < cLine; omega) rx ry
  | @tup n a b xs ys es ha hb he =>
    cases rx; cases ry
    obtain ⟨its, r1, p1, _⟩ := I.tuple ha
    obtain ⟨its2, r2, p2, _⟩ := I.tuple hb
    have l1 := r1.length
    have l2 := r2.length
    refine EqBoolInt.of_rcne (SeqAt.RcNeAt.tuples (e := es) (show s.heap.IsTuple a its.toArray from p1) (show s.heap.IsTuple b its2.toArray from p2) (by omega) (fun j h1 h2 => ?_)) (fin_bl I q (by rw [List.size_toArray, List.size_toArray, l1, l2]))
    obtain ⟨x, hx, rx⟩ := nth_of r1 h1
    obtain ⟨y, hy, ry⟩ := nth_of r2 h2
    exact eqAt_D I (he j x y hx hy) X.A.in1 (by show X.A.units + 1 + n < cLine; omega) rx ry
end

/-! #### operators by their values -/
def binA (op : Operator) (x y : V) (H : Hp) (Q : VK) : Prop := match op, x, y with
  | .Add, .int i, .int j => Q (.int (i + j)) H
  | .Add, .str i, .str j => i.length + j.length ≤ sizeLine ∧ Q (.str (i ++ j)) H
  | .Add, .ref a, .ref b => rCat (.ref a) (.ref b) H Q
  | .Sub, .int i, .int j => Q (.int (i - j)) H
  | .Mult, .int i, .int j => CMul i j ∧ Q (.int (i * j)) H
  | .FloorDiv, .int i, .int j => CDiv i j ∧ Q (.int (i / j)) H
  | .Mod, .int i, .int j => 0 < j ∧ Q (.int (i % j)) H
  | .Pow, .int i, .int j => CPow i j ∧ Q (.int (i ^ j.toNat)) H
  | _, _, _ => False
section
variable {X : Cx} {a b c : Expr} {ta tb tc : TE} {pos : Pos}
theorem op_bin (op : Operator) : OpR X (binaryOp op) (binA op) := by
  intro pins s σ H x y v u Q I rx ry h
  unfold binA at h
  split at h
  · exact op_add pins s σ H _ _ v u Q I rx ry ⟨_, _, rfl, rfl, h⟩
  · exact op_add_str pins s σ H _ _ v u Q I rx ry ⟨_, _, rfl, rfl, h.1, h.2⟩
  · exact op_cat pins s σ H _ _ v u Q I rx ry h
  · exact op_sub pins s σ H _ _ v u Q I rx ry ⟨_, _, rfl, rfl, h⟩
  · exact op_mul pins s σ H _ _ v u Q I rx ry ⟨_, _, rfl, rfl, h.1, h.2⟩
  · exact op_fdiv pins s σ H _ _ v u Q I rx ry ⟨_, _, rfl, rfl, h.1, h.2⟩
  · exact op_mod pins s σ H _ _ v u Q I rx ry ⟨_, _, rfl, rfl, h.1, h.2⟩
  · exact op_pow pins s σ H _ _ v u Q I rx ry ⟨_, _, rfl, rfl, h.1, h.2⟩
  · exact h.elim
/-- == of scalars -/
def eqB : V → V → Option Bool
  | .non, .non => some true
  | .int i, .int j => some (decide (i = j))
  | .bl i, .bl j => some (decide (i = j))
  | .str i, .str j => some (decide (i = j))
  | .non, .int _ => some false | .int _, .non => some false | .non, .bl _ => some false | .bl _, .non => some false | .non, .str _ => some false | .str _, .non => some false
  | .int _, .str _ => some false | .str _, .int _ => some false | .bl _, .str _ => some false | .str _, .bl _ => some false
  | _, _ => none
theorem eqB_scal {x y : V} {k : Bool} (h : eqB x y = some k) : scal x y = true ∧ decide (x = y) = k := by
  cases x <;> cases y <;> simp [eqB, scal] at h ⊢ <;> first | exact h | (subst h; rfl)
def cmpA (K : PySem.W.Frag) (op : CmpOp) (x y : V) (H : Hp) (Q : VK) : Prop := match op, x, y with
  | .Eq, .ref a, .ref b => ∃ k, EqT K H 20 (.ref a) (.ref b) k ∧ Q (.bl k) H
  | .NotEq, .ref a, .ref b => ∃ k, EqT K H 20 (.ref a) (.ref b) k ∧ Q (.bl (!k)) H
  | .Eq, x, y => match eqB x y with | some k => Q (.bl k) H | none => False
  | .NotEq, x, y => match eqB x y with | some k => Q (.bl (!k)) H | none => False
  | .Lt, .int i, .int j => Q (.bl (decide (i < j))) H
  | .LtE, .int i, .int j => Q (.bl (decide (i ≤ j))) H
  | .Gt, .int i, .int j => Q (.bl (decide (j < i))) H
  | .GtE, .int i, .int j => Q (.bl (decide (j ≤ i))) H
  | .Lt, .str i, .str j => Q (.bl (decide (i.cps.toList < j.cps.toList))) H
  | .LtE, .str i, .str j => Q (.bl (!decide (j.cps.toList < i.cps.toList))) H
  | .In, .str i, .str j => Q (.bl (!(Builtin.Str.occurrences j i 0 j.length 1).isEmpty)) H
  | .NotIn, .str i, .str j => Q (.bl (!(!(Builtin.Str.occurrences j i 0 j.length 1).isEmpty))) H
  | .In, x, .ref p => rIn K false x (.ref p) H Q
  | .NotIn, x, .ref p => rIn K true x (.ref p) H Q
  | .Is, x, .non => Q (.bl (decide (x = .non))) H
  | .IsNot, x, .non => Q (.bl (!decide (x = .non))) H
  | _, _, _ => False
theorem op_cmp (op : CmpOp) (hu : X.A.units + 20 < cLine) : OpR X (compareOp op) (cmpA X.K op) := by
  intro pins s σ H x y v u Q I rx ry h
  unfold cmpA at h
  split at h
  · exact op_eqT hu pins s σ H _ _ v u Q I rx ry h
  · exact op_neT hu pins s σ H _ _ v u Q I rx ry h
  · split at h
    · rename_i k e
      obtain ⟨h1, h2⟩ := eqB_scal e
      exact op_eq pins s σ H _ _ v u Q I rx ry ⟨h1, by rw [h2]; exact h⟩
    · exact h.elim
  · split at h
    · rename_i k e
      obtain ⟨h1, h2⟩ := eqB_scal e
      exact op_ne pins s σ H _ _ v u Q I rx ry ⟨h1, by rw [h2]; exact h⟩
    · exact h.elim
  · exact op_lt pins s σ H _ _ v u Q I rx ry ⟨_, _, rfl, rfl, h⟩
  · exact op_le pins s σ H _ _ v u Q I rx ry ⟨_, _, rfl, rfl, h⟩
  · exact op_gt pins s σ H _ _ v u Q I rx ry ⟨_, _, rfl, rfl, h⟩
  · exact op_ge pins s σ H _ _ v u Q I rx ry ⟨_, _, rfl, rfl, h⟩
  · exact op_lt_str pins s σ H _ _ v u Q I rx ry ⟨_, _, rfl, rfl, h⟩
  · exact op_le_str pins s σ H _ _ v u Q I rx ry ⟨_, _, rfl, rfl, h⟩
  · exact op_in_str pins s σ H _ _ v u Q I rx ry ⟨_, _, rfl, rfl, h⟩
  · exact op_notin_str pins s σ H _ _ v u Q I rx ry ⟨_, _, rfl, rfl, h⟩
  · exact op_in_seq pins s σ H _ _ v u Q I rx ry h
  · exact op_notIn_seq pins s σ H _ _ v u Q I rx ry h
  · exact op_isN pins s σ H _ _ v u Q I rx ry ⟨rfl, h⟩
  · exact op_notN pins s σ H _ _ v u Q I rx ry ⟨rfl, h⟩
  · exact h.elim

/-! #### expressions -/
def cVar (i : Nat) : TE := fun σ H Q => match σ[i]? with | some (some v) => Q v H | _ => False
theorem cv (i : Nat) {x : Str} {pos : Pos} (hN : X.N[i]? = some x := by rfl) (hv : Vis X.env.scope x := by first | exact Or.inl rfl | exact Or.inr (Or.inl rfl) | exact Or.inr (Or.inr rfl)) (hd : (x == ("__debug__" : Str)) = false := by decide)
    (hcd : (x == ("__classdict__" : Str)) = false := by decide) : PE X (.Name x pos) (cVar i) := (pe_var hN hv hd hcd).imp fun σ H Q h => by
  unfold cVar at h
  split at h
  · rename_i v e; exact ⟨v, e, h⟩
  · exact h.elim
def cBin (op : Operator) (ta tb : TE) : TE := fun σ H Q => ta σ H fun x H1 => tb σ H1 fun y H2 => binA op x y H2 Q
theorem ce_bin {op : Operator} (ha : PE X a ta) (hb : PE X b tb) : PE X (.BinOp a op b pos) (cBin op ta tb) := pe_op (op_bin op) ha hb
def cCmp (K : PySem.W.Frag) (op : CmpOp) (ta tb : TE) : TE := fun σ H Q => ta σ H fun x H1 => tb σ H1 fun y H2 => cmpA K op x y H2 Q
/-- what a test wants of a value -/
def bOnly (Q : Bool → Hp → Prop) : VK := fun x H => match x with | .bl k => Q k H | _ => False
theorem bOnly_ex {Q : Bool → Hp → Prop} {x : V} {H : Hp} (h : bOnly Q x H) : ∃ k, x = .bl k ∧ Q k H := by
  unfold bOnly at h
  split at h
  · exact ⟨_, rfl, h⟩
  · exact h.elim
theorem ce_cmp {op : CmpOp} (hu : X.A.units + 20 < cLine) (ha : PE X a ta) (hb : PE X b tb) (hm : behindInMarks op b = false := by first | exact nomark _ | with_unfolding_all rfl) : PE X (.Compare a [op] [b] pos) (cCmp X.K op ta tb) := pe_cmpR (op_cmp op hu) ha hb hm
theorem mono_PE {t : TE} {e : Expr} (h : PE X e t) {pins : List (Addr × Obj)} {s : Shared} {σ : St} {H : Hp} {Q : VK} (I : Inv X pins σ H s) (q : t σ H Q) : wpAny (model X.prog X.w) X.A (eval e X.env) (EP X pins σ Q) X.xe s := h pins s σ H Q I q
def cTest (t : TE) : TT := fun σ H Q => t σ H (bOnly Q)
theorem ct_cmp {op : CmpOp} (hu : X.A.units + 20 < cLine) (ha : PE X a ta) (hb : PE X b tb) (hm : behindInMarks op b = false := by first | exact nomark _ | with_unfolding_all rfl) : PT X (.Compare a [op] [b] pos) (cTest (cCmp X.K op ta tb)) := by
  intro pins s σ H Q I h
  refine wpAny_isTrue_Compare1 (thn (ha pins s σ H _ I h) fun v s1 ⟨x, H1, I1, r1, q1⟩ => thn (hb pins s1 σ H1 _ I1 q1) fun u s2 ⟨y, H2, I2, r2, q2⟩ =>
    thn (op_cmp op hu pins s2 σ H2 x y v u _ I2 r1 r2 q2) fun c s3 ⟨z, H3, I3, r3, q3⟩ => ?_) hm
  obtain ⟨k, e, q3⟩ := bOnly_ex q3
  subst e
  cases r3
  exact wpAny_truthy_bool ⟨H3, I3, q3⟩
def cChain (K : PySem.W.Frag) (op op' : CmpOp) (ta tb tc : TE) : TE := fun σ H Q => ta σ H fun x H1 => tb σ H1 fun y H2 => cmpA K op x y H2 (bOnly fun k H3 => if k = true then tc σ H3 fun w' H4 => cmpA K op' y w' H4 Q else Q (.bl false) H3)
theorem ce_chain {op op' : CmpOp} (hu : X.A.units + 20 < cLine) (ha : PE X a ta) (hb : PE X b tb) (hc : PE X c tc) (hm : lastMarks [op, op'] [b, c] = false := by with_unfolding_all rfl) : PE X (.Compare a [op, op'] [b, c] pos) (cChain X.K op op' ta tb tc) := by
  intro pins s σ H Q I h
  refine Compare_chain (thn (ha pins s σ H _ I h) fun v s1 ⟨x, H1, I1, r1, q1⟩ => chain_link (thn (hb pins s1 σ H1 _ I1 q1) fun u s2 ⟨y, H2, I2, r2, q2⟩ =>
    thn (op_cmp op hu pins s2 σ H2 x y v u _ I2 r1 r2 q2) fun d s3 ⟨z, H3, I3, r3, q3⟩ => ?_)) hm
  obtain ⟨k, e, q3⟩ := bOnly_ex q3
  subst e
  cases r3
  refine wpAny_truthy_bool ?_
  cases k with
  | false => exact ite_ff ⟨.bl false, H3, I3, rfl, q3⟩
  | true => exact ite_tt (chain_last (thn (hc pins s3 σ H3 _ I3 q3) fun w' s4 ⟨z', H4, I4, r4, q4⟩ => op_cmp op' hu pins s4 σ H4 y z' u w' Q I4 r2 r4 q4))
def cChainT (K : PySem.W.Frag) (op op' : CmpOp) (ta tb tc : TE) : TT := fun σ H Q => ta σ H fun x H1 => tb σ H1 fun y H2 => cmpA K op x y H2 (bOnly fun k H3 => if k = true then tc σ H3 fun w' H4 => cmpA K op' y w' H4 (bOnly Q) else Q false H3)
theorem ct_chain {op op' : CmpOp} (hu : X.A.units + 20 < cLine) (ha : PE X a ta) (hb : PE X b tb) (hc : PE X c tc) (hm : lastMarks [op, op'] [b, c] = false := by with_unfolding_all rfl) : PT X (.Compare a [op, op'] [b, c] pos) (cChainT X.K op op' ta tb tc) := by
  intro pins s σ H Q I h
  refine isTrue_chain (thn (ha pins s σ H _ I h) fun v s1 ⟨x, H1, I1, r1, q1⟩ => test_link (thn (hb pins s1 σ H1 _ I1 q1) fun u s2 ⟨y, H2, I2, r2, q2⟩ =>
    thn (op_cmp op hu pins s2 σ H2 x y v u _ I2 r1 r2 q2) fun d s3 ⟨z, H3, I3, r3, q3⟩ => ?_)) hm
  obtain ⟨k, e, q3⟩ := bOnly_ex q3
  subst e
  cases r3
  refine wpAny_truthy_bool ?_
  cases k with
  | false => exact ite_ff ⟨H3, I3, q3⟩
  | true =>
    refine ite_tt (test_last (thn (hc pins s3 σ H3 _ I3 q3) fun w' s4 ⟨z', H4, I4, r4, q4⟩ => thn (op_cmp op' hu pins s4 σ H4 y z' u w' _ I4 r2 r4 q4) fun d' s5 ⟨z2, H5, I5, r5, q5⟩ => ?_))
    obtain ⟨k2, e2, q5⟩ := bOnly_ex q5
    subst e2
    cases r5
    exact wpAny_truthy_bool ⟨H5, I5, q5⟩
/-- an expression whose value is a bool, as a test -/
theorem ct_val {e : Expr} {t : TE} (h : PE X e t) (he : ∀ whole, isTrue e X.env whole = (do let v ← whole; standAt e.pos; holding [v] (truthy v)) := by intro _; rfl) : PT X e (cTest t) := by
  intro pins s σ H Q I hw
  refine isTrue_plain (thn (h pins s σ H _ I hw) fun v s1 ⟨x, H1, I1, r1, q1⟩ => ?_) (he _)
  obtain ⟨d, rfl, q⟩ := bOnly_ex q1
  cases r1
  exact wpAny_truthy_bool ⟨H1, I1, q⟩
variable {rest : List Expr}
def cAndV (ta tb : TE) : TE := fun σ H Q => ta σ H (bOnly fun c H1 => if c = true then tb σ H1 Q else Q (.bl false) H1)
def cOrV (ta tb : TE) : TE := fun σ H Q => ta σ H (bOnly fun c H1 => if c = true then Q (.bl true) H1 else tb σ H1 Q)
def cNotV (ta : TE) : TE := fun σ H Q => ta σ H (bOnly fun c H1 => Q (.bl (!c)) H1)
theorem ce_and (ha : PE X a ta) (hb : PE X (.BoolOp .And (b :: rest) pos) tb) : PE X (.BoolOp .And (a :: b :: rest) pos) (cAndV ta tb) := by
  intro pins s σ H Q I h
  refine BoolOp_and (thn (ha pins s σ H _ I h) fun v s1 ⟨x, H1, I1, r1, q1⟩ => ?_)
  obtain ⟨c, rfl, q1⟩ := bOnly_ex q1
  cases r1
  refine wpAny_truthy_bool ?_
  cases c with
  | true => exact hb pins s1 σ H1 Q I1 q1
  | false => exact ⟨.bl false, H1, I1, rfl, q1⟩
theorem ce_or (ha : PE X a ta) (hb : PE X (.BoolOp .Or (b :: rest) pos) tb) : PE X (.BoolOp .Or (a :: b :: rest) pos) (cOrV ta tb) := by
  intro pins s σ H Q I h
  refine BoolOp_or (thn (ha pins s σ H _ I h) fun v s1 ⟨x, H1, I1, r1, q1⟩ => ?_)
  obtain ⟨c, rfl, q1⟩ := bOnly_ex q1
  cases r1
  refine wpAny_truthy_bool ?_
  cases c with
  | false => exact hb pins s1 σ H1 Q I1 q1
  | true => exact ⟨.bl true, H1, I1, rfl, q1⟩
theorem ce_not (ha : PE X a ta) : PE X (.UnaryOp .Not a pos) (cNotV ta) := by
  intro pins s σ H Q I h
  refine UnaryOp_ (thn (ha pins s σ H _ I h) fun v s1 ⟨x, H1, I1, r1, q1⟩ => ?_)
  obtain ⟨c, rfl, q1⟩ := bOnly_ex q1
  cases r1
  exact not_of (wpAny_truthy_bool ⟨.bl (!c), H1, I1, rfl, q1⟩)
/-- -x -/
def cNeg (ta : TE) : TE := fun σ H Q => ta σ H fun x H1 => match x with | .int i => Q (.int (-i)) H1 | _ => False
theorem ce_neg (ha : PE X a ta) : PE X (.UnaryOp .USub a pos) (cNeg ta) := by
  intro pins s σ H Q I h
  refine UnaryOp_ (thn (ha pins s σ H _ I h) fun v s1 ⟨x, H1, I1, r1, q1⟩ => ?_)
  cases x with
  | int i => exact un_neg pins s1 σ H1 _ v Q I1 r1 ⟨i, rfl, q1⟩
  | _ => exact q1.elim
end
end L2

namespace L2
open PySem PySem.Spec PyProof.Rows
/-! #### the names of built-ins -/
theorem bo_len : bootBuiltins "len" = some (.builtin "len") := by decide +kernel
theorem bo_min : bootBuiltins "min" = some (.builtin "min") := by decide +kernel
theorem bo_max : bootBuiltins "max" = some (.builtin "max") := by decide +kernel
theorem bo_all : bootBuiltins "all" = some (.builtin "all") := by decide +kernel
theorem bo_any : bootBuiltins "any" = some (.builtin "any") := by decide +kernel
theorem bo_isinstance : bootBuiltins "isinstance" = some (.builtin "isinstance") := by decide +kernel
theorem bo_sorted : bootBuiltins "sorted" = some (.builtin "sorted") := by decide +kernel
theorem bo_sum : bootBuiltins "sum" = some (.builtin "sum") := by decide +kernel
theorem bo_abs : bootBuiltins "abs" = some (.builtin "abs") := by decide +kernel
theorem bo_repr : bootBuiltins "repr" = some (.builtin "repr") := by decide +kernel
theorem bo_ord : bootBuiltins "ord" = some (.builtin "ord") := by decide +kernel
theorem bo_chr : bootBuiltins "chr" = some (.builtin "chr") := by decide +kernel
theorem bo_int : bootBuiltins "int" = some (.type "int") := by decide +kernel
theorem bo_bool : bootBuiltins "bool" = some (.type "bool") := by decide +kernel
theorem bo_str : bootBuiltins "str" = some (.type "str") := by decide +kernel
theorem bo_list : bootBuiltins "list" = some (.type "list") := by decide +kernel
theorem bo_tuple : bootBuiltins "tuple" = some (.type "tuple") := by decide +kernel
theorem bo_dict : bootBuiltins "dict" = some (.type "dict") := by decide +kernel
theorem bo_set : bootBuiltins "set" = some (.type "set") := by decide +kernel
theorem bo_range : bootBuiltins "range" = some (.type "range") := by decide +kernel
theorem bo_reversed : bootBuiltins "reversed" = some (.type "reversed") := by decide +kernel
theorem bo_enumerate : bootBuiltins "enumerate" = some (.type "enumerate") := by decide +kernel
theorem bo_zip : bootBuiltins "zip" = some (.type "zip") := by decide +kernel
/-! #### isinstance of built-in types -/
inductive BT | int | bool | str | list | tuple | dict
  deriving DecidableEq
def BT.s : BT → String
  | .int => "int" | .bool => "bool" | .str => "str" | .list => "list" | .tuple => "tuple" | .dict => "dict"
def isSub : BT → BT → Bool
  | .bool, .int => true
  | .int, .int => true | .bool, .bool => true | .str, .str => true | .list, .list => true | .tuple, .tuple => true | .dict, .dict => true
  | _, _ => false
theorem kit_bt (K : PySem.W.Frag) (a T : BT) : PySem.W.kitOne K (.type a.s) (.type T.s) = some (isSub a T) := by
  cases a <;> cases T <;> kernel_rfl
theorem kit_non (K : PySem.W.Frag) (T : BT) : PySem.W.kitOne K (.type "NoneType") (.type T.s) = some false := by
  cases T <;> kernel_rfl
/-- a value's built-in type, none of None -/
def isA (T : BT) (x : V) (H : Hp) (Q : VK) : Prop := match x with
  | .non => Q (.bl false) H
  | .bl _ => Q (.bl (isSub .bool T)) H
  | .int _ => Q (.bl (isSub .int T)) H
  | .str _ => Q (.bl (isSub .str T)) H
  | .ref a => match H a with
    | some (.lst _) => Q (.bl (isSub .list T)) H
    | some (.frz _ (.lst _)) => Q (.bl (isSub .list T)) H
    | some (.tup _) => Q (.bl (isSub .tuple T)) H
    | some (.dK _) => Q (.bl (isSub .dict T)) H
    | _ => False
  | _ => False
section
variable {X : Cx} {a b c e o : Expr} {ta tb tc te to : TE} {p p2 pos : Pos} {es : List Expr} {t : TA}
theorem is_ok (T : BT) {pins : List (Addr × Obj)} {s : Shared} {σ : St} {H : Hp} {x : V} {u : Value} {Q : VK} (I : Inv X pins σ H s) (rx : RelV x u) (h : isA T x H Q) : wpAny (model X.prog X.w) X.A (call (.builtin "isinstance") [u, .type T.s]) (EP X pins σ Q) X.xe s := by
  have fin : ∀ {k : Bool} {tv : Value}, TyOf X.K H x tv → PySem.W.kitOne X.K tv (.type T.s) = some k → Q (.bl k) H → wpAny (model X.prog X.w) X.A (call (.builtin "isinstance") [u, .type T.s]) (EP X pins σ Q) X.xe s := fun ty e q =>
    isinst_ok I rx ty e fun tk => ⟨.bl _, H, I.tok tk, rfl, q⟩
  unfold isA at h
  cases x with
  | non => exact fin .non (kit_non _ T) h
  | bl y => exact fin (.bl y) (kit_bt _ .bool T) h
  | int y => exact fin (.int y) (kit_bt _ .int T) h
  | str y => exact fin (.str y) (kit_bt _ .str T) h
  | ref d =>
    dsimp only at h
    split at h
    · rename_i e; exact fin (.lst e) (kit_bt _ .list T) h
    · rename_i e; exact fin (.frz e) (kit_bt _ .list T) h
    · rename_i e; exact fin (.tup e) (kit_bt _ .tuple T) h
    · rename_i e; exact fin (.dK e) (kit_bt _ .dict T) h
    · exact h.elim
  | _ => exact h.elim
def cIs (T : BT) (ta : TE) : TE := fun σ H Q => ta σ H fun x H1 => isA T x H1 Q
theorem ce_is (T : BT) {n : Str} (ha : PE X a ta) (hg : Gl X "isinstance") (hm : X.mg "isinstance" = none) (hgT : Gl X n) (hmT : X.mg n = none) (hv : bootBuiltins n = some (.type T.s)) (hn : n ≠ "__name__" := by decide) (hdb : (n == ("__debug__" : Str)) = false := by decide)
    (he : starEach [a, .Name n p2] X.env = (false, eval a X.env) :: starEach [.Name n p2] X.env := by rfl) (he2 : starEach [.Name n p2] X.env = (false, eval (.Name n p2) X.env) :: starEach [] X.env := by rfl) (hpl : (backTo pos (starEach [.Name n p2] X.env)).any (·.1) = false := by rfl) :
    PE X (.Call (.Name "isinstance" p) [a, .Name n p2] [] pos) (cIs T ta) := by
  intro pins s σ H Q I h
  refine wpAny_Call_Name_kw (ld_blt I hg hm bo_isinstance ?_ (by decide) (by decide))
  have hA : PA X [a, .Name n p2] (tCons ta (tCons (tC (.ty T.s)) tNil)) := pa_cons ha (pa_cons (pe_bltn hgT hmT hv rfl hn hdb) pa_nil he2) he
  refine PyProof.Rows.callWith_builtin1 (thn (hA pos pins s σ H (fun vs H1 => ∃ x, vs = [x, .ty T.s] ∧ isA T x H1 Q) I ?_) fun us s1 ⟨vs, H1, I1, r1, x, e, q1⟩ => ?_) he hpl
  · have mono : (fun (x : V) H1 => isA T x H1 Q) = fun x H1 => (tCons (tC (.ty T.s)) tNil) σ H1 fun xs H2 => ∃ y, x :: xs = [y, .ty T.s] ∧ isA T y H2 Q := by
      funext x H1
      apply propext
      constructor
      · intro q; exact ⟨x, rfl, q⟩
      · rintro ⟨y, e, q⟩
        have : x = y := by injection e
        subst this
        exact q
    show ta σ H _
    rw [← mono]
    exact h
  · subst e
    obtain ⟨u, w', rfl, ru, rt⟩ := vals2 r1
    cases rt
    exact is_ok T I1 ru q1

/-! #### x[i], x[lo:hi] -/
theorem IxR.imp {r r' : R2} (h : IxR X r) (i : ∀ x y H Q, r' x y H Q → r x y H Q) : IxR X r' := fun va sl pins s σ H x y v u Q I rx ry q hs => h va sl pins s σ H x y v u Q I rx ry (i x y H Q q) hs
def ixA (K : PySem.W.Frag) (x y : V) (H : Hp) (Q : VK) : Prop := match x, y with
  | .str z, .int i => z.length ≤ sizeLine ∧ ∃ c, atI z.cps.toList i = some c ∧ Q (.str ⟨#[c]⟩) H
  | .ref q, .int i => ∃ xs v, (SqL K H q xs ∨ SqT K H q xs) ∧ atI xs i = some v ∧ Q v H
  | _, _ => False
theorem ix_A : IxR X (ixA X.K) := (ix_seq (X := X)).imp fun x y H Q h => by
  unfold ixA at h
  split at h
  · obtain ⟨h1, c, h2, q⟩ := h
    exact .inr (.inr ⟨_, _, c, rfl, rfl, h1, h2, q⟩)
  · obtain ⟨xs, v, h1, h2, q⟩ := h
    rcases h1 with h1 | h1
    · exact .inl ⟨_, xs, _, v, rfl, rfl, h1, h2, q⟩
    · exact .inr (.inl ⟨_, xs, _, v, rfl, rfl, h1, h2, q⟩)
  · exact h.elim
def cIx (K : PySem.W.Frag) (ta tb : TE) : TE := fun σ H Q => ta σ H fun x H1 => tb σ H1 fun y H2 => ixA K x y H2 Q
theorem ce_ix (ha : PE X a ta) (hb : PE X b tb) (hs : PlainIx b := by exact fun _ _ => rfl) : PE X (.Subscript a b pos) (cIx X.K ta tb) := pe_ix ix_A ha hb hs
def cPart (t : TE) : TO := fun σ H Q => t σ H fun x H1 => match x with | .int i => Q (some i) H1 | _ => False
theorem co_some (h : PE X e te) : PO X (some e) (cPart te) := by
  intro pins s σ H Q I hw
  rw [evalPart_some]
  refine thn (h pins s σ H _ I hw) fun u s1 ⟨x, H1, I1, r1, q1⟩ => ?_
  cases x with
  | int i =>
    obtain ⟨t, rfl⟩ := r1
    exact ⟨some i, H1, I1, .int i t, q1⟩
  | _ => exact q1.elim
theorem SlR.imp {r r' : V → Option Int → Option Int → Hp → VK → Prop} (h : SlR X r) (i : ∀ x lo hi H Q, r' x lo hi H Q → r x lo hi H Q) : SlR X r' := fun pins s σ H x v vl vu lo hi sl Q I rx hs pl pu q => h pins s σ H x v vl vu lo hi sl Q I rx hs pl pu (i x lo hi H Q q)
def slA (K : PySem.W.Frag) (x : V) (lo hi : Option Int) (H : Hp) (Q : VK) : Prop := match x with
  | .str z => z.length ≤ sizeLine ∧ Q (.str (cutS z lo hi)) H
  | .ref d => ∃ xs, SqL K H d xs ∧ ∀ q, H q = none → Q (.ref q) (upd H q (.lst (cutV xs lo hi)))
  | _ => False
theorem sl_A : SlR X (slA X.K) := ((sl_str (X := X)).or sl_list).imp fun x lo hi H Q h => by
  unfold slA at h
  split at h
  · exact .inl ⟨_, rfl, h.1, h.2⟩
  · obtain ⟨xs, h1, h2⟩ := h
    exact .inr ⟨_, xs, rfl, h1, h2⟩
  · exact h.elim
def cSl (K : PySem.W.Frag) (te : TE) (tl th : TO) : TE := fun σ H Q => te σ H fun x H1 => tl σ H1 fun l H2 => th σ H2 fun u H3 => slA K x l u H3 Q
theorem ce_sl {lo hi : Option Expr} {tl th : TO} (he : PE X e te) (hl : PO X lo tl) (hu : PO X hi th) : PE X (.Subscript e (.Slice lo hi none p2) pos) (cSl X.K te tl th) := pe_slice sl_A he hl hu

/-! #### built-in calls -/
def cB (r : List V → Hp → VK → Prop) (t : TA) : TE := fun σ H Q => t σ H fun vs H1 => r vs H1 Q
def lenA (K : PySem.W.Frag) (xs : List V) (H : Hp) (Q : VK) : Prop := match xs with
  | [.str z] => z.length ≤ sizeLine ∧ Q (.int z.length) H
  | [.ref d] => ∃ ys, (SqL K H d ys ∨ SqT K H d ys) ∧ Q (.int ys.length) H
  | _ => False
theorem call_lenA : CallR X (.builtin "len") (lenA X.K) := ((call_len_seq (X := X)).or call_len_str).imp fun xs H Q h => by
  unfold lenA at h
  split at h
  · exact .inr ⟨_, rfl, h.1, h.2⟩
  · obtain ⟨ys, h1, h2⟩ := h
    exact .inl ⟨_, ys, rfl, h1, h2⟩
  · exact h.elim
def minA (xs : List V) (H : Hp) (Q : VK) : Prop := match xs with
  | [.int i, .int j] => Q (.int (if j < i then j else i)) H
  | _ => False
theorem call_minA (hc : X.calm = true) : CallR X (.builtin "min") minA := (call_min2 hc).imp fun xs H Q h => by
  unfold minA at h
  split at h
  · exact ⟨_, _, rfl, h⟩
  · exact h.elim
def strA (xs : List V) (H : Hp) (Q : VK) : Prop := match xs with
  | [.int i] => i.natAbs.log2 < 1920 ∧ Q (.str (toString i)) H
  | _ => False
theorem call_strA : CallR X (.type "str") strA := (call_str_int (X := X)).imp fun xs H Q h => by
  unfold strA at h
  split at h
  · exact ⟨_, rfl, h.1, h.2⟩
  · exact h.elim
def intA (xs : List V) (H : Hp) (Q : VK) : Prop := match xs with
  | [.str x] => ∃ n, PySem.intText? x = some n ∧ x.length ≤ 640 ∧ Q (.int n) H
  | [.bl k] => Q (.int (if k then 1 else 0)) H
  | _ => False
theorem call_intA : CallR X (.type "int") intA := ((call_int_text (X := X)).or call_int1).imp fun xs H Q h => by
  unfold intA at h
  split at h
  · obtain ⟨n, h1, h2, q⟩ := h
    exact .inl ⟨_, n, rfl, h1, h2, q⟩
  · exact .inr (.inr ⟨_, rfl, h⟩)
  · exact h.elim
def allA (K : PySem.W.Frag) (xs : List V) (H : Hp) (Q : VK) : Prop := match xs with
  | [.ref d] => ∃ ks : List Bool, SqL K H d (ks.map V.bl) ∧ Q (.bl (ks.all id)) H
  | _ => False
theorem call_allA (hc : X.calm = true) : CallR X (.builtin "all") (allA X.K) := (call_all hc).imp fun xs H Q h => by
  unfold allA at h
  split at h
  · obtain ⟨ks, h1, q⟩ := h
    exact ⟨_, ks, rfl, h1, q⟩
  · exact h.elim
theorem ce_B {id : String} {x : Str} {r : List V → Hp → VK → Prop} (hc : CallR X (.builtin id) r) (hv : bootBuiltins x = some (.builtin id)) (hm : X.mg x = none) (ha : PA X (e :: es) t) (hg : Gl X x := by rfl) (hn : x ≠ "__name__" := by decide) (hdb : (x == ("__debug__" : Str)) = false := by decide)
    (he : starEach (e :: es) X.env = (false, eval e X.env) :: starEach es X.env := by rfl) (hpl : (backTo pos (starEach es X.env)).any (·.1) = false := by rfl) : PE X (.Call (.Name x p) (e :: es) [] pos) (cB r t) := pe_callB hc hg hm hv ha hn hdb he hpl
theorem ce_Ty {T : String} {x : Str} {r : List V → Hp → VK → Prop} (hc : CallR X (.type T) r) (hv : bootBuiltins x = some (.type T)) (hm : X.mg x = none) (ha : PA X (e :: es) t) (hg : Gl X x := by rfl) (hn : x ≠ "__name__" := by decide) (hdb : (x == ("__debug__" : Str)) = false := by decide)
    (he : starEach (e :: es) X.env = (false, eval e X.env) :: starEach es X.env := by rfl) (hpl : (backTo pos (starEach es X.env)).any (·.1) = false := by rfl) : PE X (.Call (.Name x p) (e :: es) [] pos) (cB r t) := pe_callTy hc hg hm hv ha hn hdb he hpl

/-! #### methods of texts and lists -/
/-- o.m(..), o a text -/
def cSM (r : V → List V → Hp → VK → Prop) (to : TE) (t : TA) : TE := fun σ H Q => to σ H fun x H1 => match x with | .str z => t σ H1 fun xs H2 => r (.str z) xs H2 Q | _ => False
theorem ce_sm {name : Str} {apos cpos : Pos} {id : String} {r : V → List V → Hp → VK → Prop} (slot : Slot "str" name id) (hty : typeOf (.builtin id) = pure (.type "method_descriptor")) (hm : MtR X id r) (ho : PE X o to) (ha : PA X (e :: es) t)
    (hbase : attributeBase o name X.env (eval o X.env) = eval o X.env := by rfl)
    (hfew : ((backTo cpos (starEach (e :: es) X.env)).all (fun x => !x.1) && (backToKw cpos (keywordEach [] X.env)).all (fun x => x.1.isSome)
      && decide ((e :: es).length + ([] : List Keyword).length + (if ([] : List Keyword).isEmpty then 0 else 1) < 30)) = true := by rfl)
    (hline : (apos.endLine == cpos.line) = true := by rfl) (hs : starEach (e :: es) X.env = (false, eval e X.env) :: starEach es X.env := by rfl) (hplain : (backTo cpos (starEach es X.env)).any (·.1) = false := by rfl) :
    PE X (.Call (.Attribute o name apos) (e :: es) [] cpos) (cSM r to t) := by
  intro pins s σ H Q I h
  refine wpAny_Call_method_late hbase hfew hline rfl (thn (ho pins s σ H _ I h) fun v s1 ⟨x, H1, I1, r1, q1⟩ => ?_)
  cases x with
  | str z =>
    have ty : tyV X.K "str" (.str z) H1 := rfl
    obtain ⟨h1, h2⟩ := tyV_is I1 r1 ty
    refine ⟨"str", id, PySem.F.plainAttrs_str, slot, hty, h1, h2, ?_⟩
    have hA := ha cpos pins s1 σ H1 _ I1 q1
    rw [hs] at hA ⊢
    refine Calls.callWith_builtin (by show (false || (backTo cpos (starEach es X.env)).any (·.1)) = false; rw [hplain] <;> rfl) (Calls.evalArgs_plain ?_)
    exact thn hA fun us s2 ⟨vs, H2, I2, r2, q2⟩ => hm pins s2 σ H2 _ vs v us Q I2 r1 r2 q2
  | _ => exact q1.elim
def cSM0 (r : V → List V → Hp → VK → Prop) (to : TE) : TE := fun σ H Q => to σ H fun x H1 => match x with | .str z => r (.str z) [] H1 Q | _ => False
theorem ce_sm0 {name : Str} {apos cpos : Pos} {id : String} {r : V → List V → Hp → VK → Prop} (slot : Slot "str" name id) (hty : typeOf (.builtin id) = pure (.type "method_descriptor")) (hm : MtR X id r) (ho : PE X o to)
    (hbase : attributeBase o name X.env (eval o X.env) = eval o X.env := by rfl) (hline : (apos.endLine == cpos.line) = true := by rfl) : PE X (.Call (.Attribute o name apos) [] [] cpos) (cSM0 r to) := by
  intro pins s σ H Q I h
  refine wpAny_Call_method0_late hbase hline (thn (ho pins s σ H _ I h) fun v s1 ⟨x, H1, I1, r1, q1⟩ => ?_)
  cases x with
  | str z =>
    have ty : tyV X.K "str" (.str z) H1 := rfl
    obtain ⟨h1, h2⟩ := tyV_is I1 r1 ty
    exact ⟨"str", id, PySem.F.plainAttrs_str, slot, hty, h1, h2, Calls.callWith_builtin rfl (PySem.evalArgs_none (hm pins s1 σ H1 _ [] v [] Q I1 r1 .nil q1))⟩
  | _ => exact q1.elim
def swA (x : V) (vs : List V) (H : Hp) (Q : VK) : Prop := match x, vs with
  | .str a, [.str b] => Q (.bl (b.cps.toList.isPrefixOf a.cps.toList)) H
  | _, _ => False
theorem mt_swA : MtR X "str.startswith" swA := (mt_startswith (X := X)).imp fun x vs H Q h => by
  unfold swA at h
  split at h
  · exact ⟨_, _, rfl, rfl, h⟩
  · exact h.elim
def joinA (K : PySem.W.Frag) (x : V) (vs : List V) (H : Hp) (Q : VK) : Prop := match x, vs with
  | .str sep, [.ref d] => ∃ ys : List Str, SqL K H d (ys.map V.str) ∧ (ys.map (·.length)).sum + ys.length * sep.length ≤ 16777216 ∧ Q (.str (Txt.join sep ys)) H
  | _, _ => False
theorem mt_joinA : MtR X "str.join" (joinA X.K) := (mt_join (X := X)).imp fun x vs H Q h => by
  unfold joinA at h
  split at h
  · obtain ⟨ys, h1, h2, q⟩ := h
    exact ⟨_, _, ys, rfl, rfl, h1, h2, q⟩
  · exact h.elim
def upA (x : V) (vs : List V) (H : Hp) (Q : VK) : Prop := match x, vs with
  | .str a, [] => a.length ≤ sizeLine ∧ (∀ c ∈ a.cps.toList, c < 128) ∧ Q (.str ⟨a.cps.map up1⟩) H
  | _, _ => False
theorem mt_upA : MtR X "str.upper" upA := (mt_upper (X := X)).imp fun x vs H Q h => by
  unfold upA at h
  split at h
  · exact ⟨_, rfl, rfl, h.1, h.2.1, h.2.2⟩
  · exact h.elim
/-- xs.append(e) -/
def cApp (to te : TE) : TE := fun σ H Q => to σ H fun x H1 => match x with
  | .ref l => (∃ xs, H1 l = some (.lst xs)) ∧ te σ H1 fun y H2 => ∃ xs, H2 l = some (.lst xs) ∧ xs.length < sizeLine ∧ Q .non (upd H2 l (.lst (xs ++ [y])))
  | _ => False
theorem ce_app {apos cpos : Pos} (ho : PE X o to) (he : PE X e te) (hbase : attributeBase o "append" X.env (eval o X.env) = eval o X.env := by rfl)
    (hfew : ((backTo cpos (starEach [e] X.env)).all (fun x => !x.1) && (backToKw cpos (keywordEach [] X.env)).all (fun x => x.1.isSome)
      && decide ([e].length + ([] : List Keyword).length + (if ([] : List Keyword).isEmpty then 0 else 1) < 30)) = true := by rfl)
    (hline : (apos.endLine == cpos.line) = true := by rfl) (hs : starEach [e] X.env = (false, eval e X.env) :: starEach [] X.env := by rfl) (hplain : (backTo cpos (starEach [] X.env)).any (·.1) = false := by rfl) :
    PE X (.Call (.Attribute o "append" apos) [e] [] cpos) (cApp to te) := by
  intro pins s σ H Q I h
  refine wpAny_Call_method_late hbase hfew hline rfl (thn (ho pins s σ H _ I h) fun v s1 ⟨x, H1, I1, r1, q1⟩ => ?_)
  cases x with
  | ref l =>
    obtain ⟨⟨xs0, e0⟩, q1⟩ := q1
    have ty : tyV X.K "list" (.ref l) H1 := .inl ⟨rfl, xs0, SqL.of e0⟩
    obtain ⟨h1, h2⟩ := tyV_is I1 r1 ty
    refine ⟨"list", "list.append", PySem.F.plainAttrs_list, PySem.F.slot_list_append, PySem.F.type_list_append, h1, h2, ?_⟩
    have hA := (pa_cons he pa_nil hs : PA X [e] (tCons te tNil)) cpos pins s1 σ H1 (fun vs H2 => ∃ y, vs = [y] ∧ ∃ xs, H2 l = some (.lst xs) ∧ xs.length < sizeLine ∧ Q .non (upd H2 l (.lst (xs ++ [y])))) I1 (by
      show te σ H1 fun y H2 => ∃ y', [y] = [y'] ∧ _
      have : (fun (y : V) (H2 : Hp) => ∃ xs, H2 l = some (.lst xs) ∧ xs.length < sizeLine ∧ Q .non (upd H2 l (.lst (xs ++ [y])))) = fun y H2 => ∃ y', [y] = [y'] ∧ ∃ xs, H2 l = some (.lst xs) ∧ xs.length < sizeLine ∧ Q .non (upd H2 l (.lst (xs ++ [y']))) := by
        funext y H2
        apply propext
        constructor
        · intro z; exact ⟨y, rfl, z⟩
        · rintro ⟨y', e, z⟩
          have : y = y' := by injection e
          subst this; exact z
      rw [← this]
      exact q1)
    rw [hs] at hA ⊢
    refine Calls.callWith_builtin (by show (false || (backTo cpos (starEach [] X.env)).any (·.1)) = false; rw [hplain] <;> rfl) (Calls.evalArgs_plain ?_)
    exact thn hA fun us s2 ⟨vs, H2, I2, r2, y, e, xs, q3, q4, q5⟩ => mt_append pins s2 σ H2 _ vs v us Q I2 r1 r2 ⟨l, xs, y, rfl, e, q3, q4, q5⟩
  | _ => exact q1.elim

/-! #### calls of the text's own defs -/
structure Cal (P : Program) (w : World) (K : PySem.W.Frag) (mg : Str → Option Value) (base : Heap) (name : Str) (ps : List Str) (k : Nat) (sp : Sp) : Prop where
  ex : ∃ f fd, FnOk P w K mg base CX0 k f fd ps sp ∧ mg name = some (.ref f) ∧ PySem.W.keepIn K (.ref f) = true ∧ Binds K fd ps []
theorem Cal.mono {P : Program} {w : World} {K : PySem.W.Frag} {mg : Str → Option Value} {base : Heap} {name : Str} {ps : List Str} {j k : Nat} {sp : Sp} (C : Cal P w K mg base name ps j sp) (h : j ≤ k) : Cal P w K mg base name ps k sp := by
  obtain ⟨f, fd, F, a, b, c⟩ := C.ex
  exact ⟨f, fd, F.mono h, a, b, c⟩
def cCall (sp : Sp) (t : TA) : TE := fun σ H Q => t σ H fun vs H1 => sp vs H1 Q E0
theorem ce_call {name : Str} {ps : List Str} {k j : Nat} {sp : Sp} (C : Cal X.prog X.w X.K X.mg X.base name ps k sp) (hr : Room j X.A) (hkj : k ≤ j) (ha : PA X (e :: es) t) (hg : Gl X name := by rfl) (hdb : (name == ("__debug__" : Str)) = false := by decide)
    (he : starEach (e :: es) X.env = (false, eval e X.env) :: starEach es X.env := by rfl) (hpl : (backTo pos (starEach es X.env)).any (·.1) = false := by rfl) : PE X (.Call (.Name name p) (e :: es) [] pos) (cCall sp t) := by
  obtain ⟨f, fd, F, hm, hk, hb⟩ := C.ex
  refine (pe_call F (hr.mono hkj) hg hm hk hb .nil pass0 ha hdb he hpl : PE X _ (tCall sp [] E0 t)).imp fun σ H Q h => ?_
  unfold tCall
  simp only [List.append_nil]
  exact h
end
end L2

/-! ### sep.join(reversed(xs)) -/
namespace PySem
namespace F
theorem nolen_lriQ : typeLookup (.type "list_reverseiterator") "__len__" = pure none := by rw [typeLookup_type, builtinLookup_eq_fast]; kernel_rfl
theorem hint_lriQ : typeLookup (.type "list_reverseiterator") "__length_hint__" = pure (some (.builtin "list_reverseiterator.__length_hint__")) := by rw [typeLookup_type, builtinLookup_eq_fast]; kernel_rfl
end F
end PySem
namespace L2
open PySem PySem.Spec PyProof.Rows
section
variable {prog : Program} {w : World} {A : Around} {E : Value → Shared → Prop} {s : Shared}
theorem walksS_rev (hh : A.handled = none) (I l : Addr) (hne : l ≠ I) (items : Array Value) :
    WalksS prog w A I [I, l] [I] (fun a b => a = b) items.size (fun i v => items[items.size - 1 - i]? = some v) (fun i s => i ≤ items.size ∧ s.heap.IsRevIter I l ((items.size : Int) - 1 - (i : Int)) ∧ s.heap.IsList l items) where
  sub := fun b hb => by simp at hb; simp [hb]
  grefl := fun _ => rfl
  gtrans := fun _ _ _ a b => a.trans b
  frame := fun _ _ _ _ x _ hk => ⟨x.1, x.2.1.at fun o e => hk I (by simp) o e, x.2.2.at fun o e => hk l (by simp) o e⟩
  item := fun i s Q E hi x hQ => by
    have e : (items.size : Int) - 1 - (i : Int) = ((items.size - 1 - i : Nat) : Int) := by omega
    have hit := x.2.1
    rw [e] at hit
    have hx : items[items.size - 1 - i]? = some (items[items.size - 1 - i]'(by omega)) := Array.getElem?_eq_getElem (by omega)
    refine wpAny_pyNext_rev_item hit x.2.2 hx fun h' hit' hs' => ?_
    have e2 : ((items.size - 1 - i : Nat) : Int) - 1 = (items.size : Int) - 1 - ((i + 1 : Nat) : Int) := by omega
    rw [e2] at hit'
    exact hQ _ _ hx ⟨hi, hit', x.2.2.at fun o eo => (hs'.2 l hne).trans eo⟩ ⟨fun b o hb eo => hs'.extBut b o (fun h => hb (by simp [h])) eo, rfl, rfl, rfl, Nat.le_refl _⟩
  done := fun s Q E x hQ => by
    have e : (items.size : Int) - 1 - (items.size : Int) = -1 := by omega
    have hit := x.2.1
    rw [e] at hit
    exact wpAny_pyNext_rev_end hh hit fun h' he' => hQ _ ⟨fun b o hb eo => he' b o (fun h => hb (by simp [h])) eo, rfl, rfl, rfl, Nat.le_refl _⟩
  self := fun _ _ _ _ x hQ => wpAny_pyIter_revIter x.2.1 hQ
theorem collect_rev {I : Addr} {fp wr : List Addr} {G : Array GenState → Array GenState → Prop} {n : Nat} {P : Nat → Value → Prop} {St : Nat → Shared → Prop} {Q : List Value → Shared → Prop}
    (W : WalksS prog w A.in1 I fp wr G n P St) (hT : ∀ i s, St i s → s.TypeIs (.ref I) "list_reverseiterator") (hst : St 0 s) (hfp : ∀ b ∈ fp, b < s.heap.objs.size) (hI : I ∈ fp)
    (hQ : ∀ s' acc, Moved wr G s s' → ItemsOf P acc n → Q acc.toList s') (hn : n ≤ sizeLine) : wpAny (model prog w) A (collect (.ref I)) Q E s := by
  have hSf : s.heap.objs.size ∉ fp := fun hm => Nat.lt_irrefl _ (hfp _ hm)
  have hSI : s.heap.objs.size ≠ I := fun e => hSf (e ▸ hI)
  unfold collect
  refine wpAny_bind (wpAny_runValue (codeAny_builtin F.entry_proto_collect ?_))
  rw [Around.under_plainId F.plain_proto_collect _]
  show wpAny _ A.in1 (newList [] >>= fun l => again (.builtin "list.__iadd__" ⟨[l, .ref I], []⟩)) _ _ s
  refine wpAny_bind (wpAny_newObj_type ?_)
  refine wpAny_pure ⟨plainId_quiet F.plain_list_iadd _, codeAny_builtin F.entry_list_iadd ?_⟩
  rw [Around.under_plainId F.plain_list_iadd _]
  have hst₁ := W.frame 0 s (s.heap.push { cls := .type "list", data := .seq ([] : List Value).toArray }) s.toks hst (Nat.le_refl _) fun b _ o e => Heap.get?_push_of_some _ e
  have hS₁ : (s.heap.push { cls := .type "list", data := .seq ([] : List Value).toArray }).get? s.heap.objs.size = some { cls := .type "list", data := .seq ([] : List Value).toArray } := Heap.get?_push_size _ rfl
  have h1 : Builtin.List.listSameRef (.ref s.heap.objs.size) (.ref I) = false := by simp [Builtin.List.listSameRef, hSI]
  show wpAny _ A.in1 (Builtin.List.listExtendWith (.ref s.heap.objs.size) (.ref I) (.ref s.heap.objs.size)) _ _ _
  unfold Builtin.List.listExtendWith
  refine wpAny_bind (wpAny_typeOf (hT 0 _ hst₁) ?_)
  rw [if_neg (by rw [h1]; decide)]
  refine wpAny_bind (W.self 0 _ _ _ hst₁ ?_)
  refine wpAny_bind (wpAny_holding ?_)
  unfold Builtin.List.listLengthHint
  refine wpAny_bind (wpAny_specialOf (hT 0 _ hst₁) F.nolen_lriQ ?_)
  show wpAny _ A.in1 (specialOf (Value.ref I) (Str.ofString "__length_hint__") >>= _) _ _ _
  refine wpAny_bind (wpAny_specialOf (hT 0 _ hst₁) F.hint_lriQ ?_)
  (generalize hid : ("list_reverseiterator.__length_hint__" : String) = id0; (fail_if_success (clear hid id0)); wp_delta; rw [show splitId id0 = some ("list_reverseiterator", "__length_hint__") from by subst hid; decide +kernel]; subst hid)
  refine wpAny_bind (wpAny_isInstance (b := true) (hT 0 _ hst₁) (by rw [isSubtype_type]; kernel_rfl) ?_)
  refine wpAny_pure ?_
  rw [if_neg (by decide)]
  refine wpAny_pure ⟨plainId_quiet F.plain_extend_loop _, codeAny_extend_loopS W hn _ hSf _ n 0 _ _ _ rfl (Nat.zero_le _) hst₁ hS₁ (ItemsOf.nil P) fun s' acc' c' hm hS' hacc => ?_⟩
  show wpAny _ A (load s.heap.objs.size >>= _) _ _ s'
  refine wpAny_bind (wpAny_load hS' ?_)
  exact wpAny_pure (hQ s' acc' (Moved.drop_new (o := { cls := .type "list", data := .seq ([] : List Value).toArray }) (tk := s.toks) hm (Nat.le_refl _)) hacc)
theorem strs_of_values : ∀ {l : List (Str × Tok)} {ys : List Str}, (∀ (i : Nat) (v : Value), (strValues l)[i]? = some v → ∃ y t, ys[i]? = some y ∧ v = Value.str y t) → l.length = ys.length → l.map (·.1) = ys := by
  intro l ys h hl
  apply List.ext_getElem?
  intro i
  rw [List.getElem?_map]
  by_cases hi : i < l.length
  · have e : (strValues l)[i]? = some (Value.str (l[i]).1 (l[i]).2) := by
      unfold strValues
      rw [List.getElem?_map, List.getElem?_eq_getElem hi]
      rfl
    obtain ⟨y, t, h1, h2⟩ := h i _ e
    injection h2 with h3 h4
    rw [List.getElem?_eq_getElem hi, h1, ← h3]
    rfl
  · rw [List.getElem?_eq_none (by omega), List.getElem?_eq_none (by omega)]
    rfl
theorem join_rev {x : Str} {t : Tok} {I l : Addr} {its : List Value} {ys : List Str} {Q : Value → Shared → Prop} (hh : A.handled = none) (hne : l ≠ I) (hit : s.heap.IsRevIter I l ((its.length : Int) - 1)) (hl : s.heap.IsList l its.toArray) (hi : StrsAre its ys)
    (hsz : its.length ≤ sizeLine) (hok : JoinOk x ys.reverse = true) (h : ∀ s' t' k, Moved [I] (fun a b => a = b) s s' → Q (.str (Txt.join x ys.reverse) t') { s' with toks := k }) :
    wpAny (model prog w) A (call (.builtin "str.join") [.str x t, .ref I]) Q E s := by
  have hlen : its.length = ys.length := hi.length
  have W := walksS_rev (prog := prog) (w := w) (A := A.in1.in1) (show A.in1.in1.handled = none from hh) I l hne its.toArray
  have hst : 0 ≤ its.toArray.size ∧ s.heap.IsRevIter I l ((its.toArray.size : Int) - 1 - ((0 : Nat) : Int)) ∧ s.heap.IsList l its.toArray := ⟨Nat.zero_le _, by simpa using hit, hl⟩
  have hfp : ∀ b ∈ [I, l], b < s.heap.objs.size := fun b hb => by
    rcases List.mem_cons.mp hb with e | hb
    · obtain ⟨o, ho, _⟩ := hit; rw [e]; exact Heap.lt_size ho
    · obtain ⟨o, ho, _⟩ := hl; rw [List.mem_singleton.mp hb]; exact Heap.lt_size ho
  refine wpAny_call (codeAny_call_builtin F.slot_str_join.plain F.entry_str_join (F.slot_str_join.check _ _ _ _ _ _ _ _ (typeIs_str _ _ _) (F.args_str_join_2 _ _) ?_))
  rw [join_tree_other]
  refine wpAny_bind (wpAny_typeOf hit.typeIs ?_)
  show wpAny _ A.in1 ((pyIter (.ref I)).tryCatch _ >>= fun it => collect it >>= fun items => joinTail x items) _ _ s
  refine wpAny_bind (wpAny_tryCatch (W.of_in1.self 0 s _ _ hst ?_))
  refine wpAny_bind (collect_rev W (fun i s x => x.2.1.typeIs) hst hfp (by simp) (fun s' acc hm hacc => ?_) (by simpa using hsz))
  obtain ⟨l', hl'⟩ := exists_strValues acc.toList fun v hv => by
    obtain ⟨j, hj, rfl⟩ := Array.mem_iff_getElem.mp (Array.mem_toList_iff.mp hv)
    have hP := hacc.2 j _ (Array.getElem?_eq_getElem hj)
    have hP : its[its.length - 1 - j]? = some acc[j] := by simpa using hP
    have hb : its.length - 1 - j < ys.length := by have := (List.getElem?_eq_some_iff.mp hP).1; omega
    obtain ⟨t', e⟩ := hi.get _ _ (List.getElem?_eq_getElem hb)
    rw [hP] at e
    exact ⟨_, t', Option.some.inj e⟩
  have hmap : l'.map (·.1) = ys.reverse := by
    refine strs_of_values (fun i v hv => ?_) ?_
    · rw [hl'] at hv
      have hv : acc[i]? = some v := by simpa using hv
      have hP := hacc.2 i v hv
      have hP : its[its.length - 1 - i]? = some v := by simpa using hP
      have hi2 : i < its.length := by
        have := (Array.getElem?_eq_some_iff.mp hv).1
        have := hacc.1
        simp at this
        omega
      have hb : its.length - 1 - i < ys.length := by omega
      obtain ⟨t', e⟩ := hi.get _ _ (List.getElem?_eq_getElem hb)
      rw [hP] at e
      refine ⟨_, t', ?_, Option.some.inj e⟩
      rw [List.getElem?_reverse (by omega)]
      have e3 : ys.length - 1 - i = its.length - 1 - i := by omega
      rw [e3, List.getElem?_eq_getElem hb]
    · have h1 : (strValues l').length = acc.toList.length := by rw [hl']
      have h2 : (strValues l').length = l'.length := by unfold strValues; simp
      have h3 := hacc.1
      rw [List.length_reverse]
      simp at h1 h3
      omega
  rw [← hl']
  have hok' := hok
  rw [← hmap] at hok'
  unfold JoinOk at hok'
  rw [Bool.not_eq_true'] at hok'
  have g : Gives (joinTail x (strValues l')) (joinMade x l') := by
    have g0 := gives_joinTail x l' hok'
    cases l' with
    | nil => exact g0
    | cons p r => cases r with
      | nil => exact g0
      | cons q r' => exact g0
  refine g prog w A (wants Q E) s' (post_join l' ⟨joinFit_length hok', fun t' k => ?_⟩)
  rw [hmap]
  exact h s' t' k hm
end
section
variable {X : Cx} {o e : Expr} {to te : TE}
def cJR (K : PySem.W.Frag) (to te : TE) : TE := fun σ H Q => to σ H fun x H1 => match x with
  | .str sep => te σ H1 fun y H2 => match y with
    | .ref d => ∃ ys : List Str, SqL K H2 d (ys.map V.str) ∧ (ys.map (·.length)).sum + ys.length * sep.length ≤ 16777216 ∧ Q (.str (Txt.join sep ys.reverse)) H2
    | _ => False
  | _ => False
theorem sum_reverse : ∀ l : List Nat, l.reverse.sum = l.sum := by
  intro l
  induction l with
  | nil => rfl
  | cons a l ih => rw [List.reverse_cons, List.sum_append, ih]; simp; omega
theorem ce_joinrev {p p2 apos cpos : Pos} (hc : X.calm = true) (ho : PE X o to) (he : PE X e te) (hm : X.mg "reversed" = none) (hg : Gl X "reversed" := by rfl)
    (hbase : attributeBase o "join" X.env (eval o X.env) = eval o X.env := by rfl)
    (hfew : ((backTo cpos (starEach [.Call (.Name "reversed" p) [e] [] p2] X.env)).all (fun x => !x.1) && (backToKw cpos (keywordEach [] X.env)).all (fun x => x.1.isSome)
      && decide ([Expr.Call (.Name "reversed" p) [e] [] p2].length + ([] : List Keyword).length + (if ([] : List Keyword).isEmpty then 0 else 1) < 30)) = true := by rfl)
    (hline : (apos.endLine == cpos.line) = true := by rfl) (hs : starEach [.Call (.Name "reversed" p) [e] [] p2] X.env = (false, eval (.Call (.Name "reversed" p) [e] [] p2) X.env) :: starEach [] X.env := by rfl) (hplain : (backTo cpos (starEach [] X.env)).any (·.1) = false := by rfl)
    (hs2 : starEach [e] X.env = (false, eval e X.env) :: starEach [] X.env := by rfl) (hpl2 : (backTo p2 (starEach [] X.env)).any (·.1) = false := by rfl) :
    PE X (.Call (.Attribute o "join" apos) [.Call (.Name "reversed" p) [e] [] p2] [] cpos) (cJR X.K to te) := by
  intro pins s σ H Q I h
  refine wpAny_Call_method_late hbase hfew hline rfl (thn (ho pins s σ H _ I h) fun v s1 ⟨x, H1, I1, r1, q1⟩ => ?_)
  cases x with
  | str sep =>
    have ty : tyV X.K "str" (.str sep) H1 := rfl
    obtain ⟨h1, h2⟩ := tyV_is I1 r1 ty
    obtain ⟨tk, rfl⟩ := r1
    refine ⟨"str", "str.join", PySem.F.plainAttrs_str, PySem.F.slot_str_join, PySem.F.type_str_join, h1, h2, ?_⟩
    rw [hs]
    refine Calls.callWith_builtin (by show (false || (backTo cpos (starEach [] X.env)).any (·.1)) = false; rw [hplain] <;> rfl) (Calls.evalArgs_plain ?_)
    show wpAny _ _ (spliced ((false, eval (.Call (.Name "reversed" p) [e] [] p2) X.env) :: backTo cpos (starEach [] X.env))) _ _ s1
    refine Calls.spliced_cons ?_
    refine wpAny_Call_Name_kw (ld_blt I1 hg hm bo_reversed ?_ (by decide) (by decide))
    have hA : PA X [e] (tCons te tNil) := pa_cons he pa_nil hs2
    refine PyProof.Rows.callWith_type1 (thn (hA p2 pins s1 σ H1 (fun vs H2 => ∃ y, vs = [y] ∧ (match y with
      | .ref d => ∃ ys : List Str, SqL X.K H2 d (ys.map V.str) ∧ (ys.map (·.length)).sum + ys.length * sep.length ≤ 16777216 ∧ Q (.str (Txt.join sep ys.reverse)) H2
      | _ => False)) I1 ?_) fun us s2 ⟨vs, H2, I2, r2, y, e2, q2⟩ => ?_) hs2 hpl2
    · show te σ H1 _
      have q1' := q1
      have : (fun (y : V) (H2 : Hp) => match y with
        | .ref d => ∃ ys : List Str, SqL X.K H2 d (ys.map V.str) ∧ (ys.map (·.length)).sum + ys.length * sep.length ≤ 16777216 ∧ Q (.str (Txt.join sep ys.reverse)) H2
        | _ => False) = fun y H2 => ∃ y', [y] = [y'] ∧ (match y' with
        | .ref d => ∃ ys : List Str, SqL X.K H2 d (ys.map V.str) ∧ (ys.map (·.length)).sum + ys.length * sep.length ≤ 16777216 ∧ Q (.str (Txt.join sep ys.reverse)) H2
        | _ => False) := by
        funext y H2
        apply propext
        constructor
        · intro z; exact ⟨y, rfl, z⟩
        · rintro ⟨y', e, z⟩
          have : y = y' := by injection e
          subst this; exact z
      dsimp only at q1'
      rw [this] at q1'
      exact q1'
    · subst e2
      obtain ⟨u, rfl, ru⟩ := vals1 r2
      cases y with
      | ref d =>
        obtain ⟨ys, hd, hz, q⟩ := q2
        cases ru
        obtain ⟨its, rv, pl, hl⟩ := I2.list hd
        have hlen := rv.length
        rw [List.length_map] at hlen hl
        refine call_reversed_list pl.isList ?_
        have I3 : Inv X pins σ H2 { s2 with heap := s2.heap.push (revObj d ((its.toArray.size : Int) - 1)) } := I2.kept (t' := s2.toks) fun b ob q => Heap.get?_push_of_some _ q
        refine Calls.spliced_nil ?_
        have hne : d ≠ s2.heap.objs.size := by
          obtain ⟨ob, hob, _⟩ := pl.isList
          exact Nat.ne_of_lt (Heap.lt_size hob)
        have hfp : FpOk X pins H2 s2.heap.objs.size := I2.fpOk (Nat.le_refl _) I2.fresh
        refine join_rev (its := its) (ys := ys) (I.ok.hd hc) hne ⟨_, Heap.get?_push_size _ rfl, rfl, by simp [revObj]⟩ (pl.isList.at fun ob q => Heap.get?_push_of_some _ q) (strsAre_of rv) (by omega) (joinOk_of ?_) fun s' t' k hm => ?_
        · rw [List.map_reverse, sum_reverse, List.length_reverse]
          exact hz
        · refine ⟨.str _, H2, ?_, ⟨t', rfl⟩, q⟩
          have J : Inv X pins σ H2 { s2 with heap := s'.heap, toks := k } := by
            have z := I3.turned (it := s2.heap.objs.size) (h' := s'.heap) (t' := k) (fun b ob hb e => hm.heap b ob (by simpa using hb) e) hfp.1 hfp.2.1 hfp.2.2.2.1 hfp.2.2.2.2.1 hfp.2.2.2.2.2
            exact z
          have e1 : s'.gens = s2.gens := hm.gens.symm
          have e2 : s'.drawn = s2.drawn := hm.drawn
          have e3 : s'.os = s2.os := hm.os
          obtain ⟨sh, sg, sd, st, so⟩ := s'
          cases e1; cases e2; cases e3
          exact J
      | _ => exact q2.elim
  | _ => exact q1.elim
end
end L2

namespace L2
open PySem PySem.Spec PyProof.Rows
/-! #### the signs of a text, one after another -/
def Its (x : Str) : It := ⟨fun i _ => i < x.length, fun i H v H' => H' = H ∧ ∃ c, x.cps.toList[i]? = some c ∧ v = .str ⟨#[c]⟩, fun i _ => x.length ≤ i⟩
def strIt (ty : String) : Prop := ty = "str_ascii_iterator" ∨ ty = "str_iterator"
theorem turn_str {P : Program} {w : World} {K : PySem.W.Frag} {tg : Expr} (it : Addr) {ty : String} (hty : strIt ty) (x : Str) (t : Tok) : Turn P w K tg (Its x) [it] it (fun i h => h.IsStrIter it ty x t i) where
  mem := by simp
  obj := fun i h st b hb => by
    have e : b = it := by simpa using hb
    subst e
    obtain ⟨o, e, c, d⟩ := st
    exact ⟨o, e, fun v z => by rw [d] at z; cases z⟩
  keep := fun i h h' st k => by
    obtain ⟨o, e, r⟩ := st
    exact ⟨o, k it (by simp) o e, r⟩
  item := by
    intro X hP hw hK hc i pins s σ H E I hf st hg
    subst hP hw hK
    obtain ⟨f0, f1, f2, f3, f4, f5⟩ := hf it (by simp)
    have hi : i < x.cps.size := hg
    have hx : x.cps[i]? = some x.cps[i] := Array.getElem?_eq_getElem hi
    have hx' : x.cps.toList[i]? = some x.cps[i] := by simpa using hx
    have go : ∀ (h' : Heap) (tk : Nat), h'.IsStrIter it ty x t (i + 1) → Heap.SameBut it s.heap h' → ∀ u, (∃ tt, u = Value.str ⟨#[x.cps[i]]⟩ tt) → wpAny (model X.prog X.w) X.A (letOwnedTupleGo tg (.ref it) u) (fun _ s2 => ∃ x_1 H', Inv X pins σ H' s2 ∧ RelV x_1 u ∧ (Its x).yld i H x_1 H' ∧ s2.heap.IsStrIter it ty x t (i + 1) ∧ ∀ b ∈ [it], H' b = none) E { s with heap := h', toks := tk } := by
      intro h' tk st' sb u hu
      have I1 : Inv X pins σ H { s with heap := h', toks := tk } := I.turned (t' := tk) (fun b o hb e => (sb.2 b hb).trans e) f0 f1 f3 f4 f5
      obtain ⟨o, e, c, d⟩ := id st'
      refine go_of (s := { s with heap := h', toks := tk }) e c d (by rcases hty with z | z <;> (rw [z]; decide)) ?_
      obtain ⟨tt, rfl⟩ := hu
      exact ⟨.str ⟨#[x.cps[i]]⟩, H, I1, ⟨tt, rfl⟩, ⟨rfl, _, hx', rfl⟩, st', fun b hb => (hf b hb).1⟩
    rcases hty with rfl | rfl
    · exact wpAny_pyNext_ascii_item st hx fun h' st' sb => ⟨_, rfl, go h' _ st' sb _ ⟨_, rfl⟩⟩
    · exact wpAny_pyNext_wide_item st hx fun h' st' sb => ⟨_, rfl, go h' _ st' sb _ ⟨_, rfl⟩⟩
  done := by
    intro X hP hw hK hc i pins s σ H E I hf st hg
    subst hP hw hK
    obtain ⟨f0, f1, f2, f3, f4, f5⟩ := hf it (by simp)
    have hi : x.cps.size ≤ i := hg
    have hx : x.cps[i]? = none := Array.getElem?_eq_none hi
    rcases hty with rfl | rfl
    · exact wpAny_pyNext_ascii_end (I.ok.hd hc) st hx fun h' eb => ⟨rfl, I.turned (t' := s.toks) (fun b o hb e => eb b o hb e) f0 f1 f3 f4 f5⟩
    · exact wpAny_pyNext_wide_end (I.ok.hd hc) st hx fun h' eb => ⟨rfl, I.turned (t' := s.toks) (fun b o hb e => eb b o hb e) f0 f1 f3 f4 f5⟩
  self := fun _ _ _ _ _ st h => by
    rcases hty with rfl | rfl
    · exact wpAny_pyIter_striter_ascii st h
    · exact wpAny_pyIter_striter_wide st h
section
variable {X : Cx} {tg : Expr}
def iStr (tl : TE) : TI := fun σ H R => tl σ H fun v H1 => match v with | .str x => R (Its x) H1 | _ => False
theorem pi_str {l : Expr} {tl : TE} (hl : PE X l tl) : PI X tg l (iStr tl) := by
  intro pins s σ H R I h
  refine thn (hl pins s σ H _ I h) fun v s1 ⟨x, H1, I1, r1, q1⟩ => ?_
  cases x with
  | str z =>
    obtain ⟨t, rfl⟩ := r1
    refine wpAny_pyIter_strU ?_
    have hty : strIt (strIterType z) := by
      unfold strIterType
      split
      · exact .inl rfl
      · exact .inr rfl
    refine ⟨s1.heap.objs.size, [s1.heap.objs.size], _, _, H1, rfl, I1.kept (t' := s1.toks) fun b o e => Heap.get?_push_of_some _ e, turn_str _ hty z t, ⟨_, Heap.get?_push_size _ rfl, rfl, rfl⟩, fun b hb => ?_, q1⟩
    have e : b = s1.heap.objs.size := by simpa using hb
    subst e
    exact I1.fpOk (Nat.le_refl _) (I1.hok.fresh (Nat.le_refl _))
  | _ => exact q1.elim

/-! #### a comprehension that leaves the heap's part R as it is: filter and map -/
theorem comp_pure {g : TG} {tt : TT} {te : TE} {src : List (Option Nat)} {σ : St} {Q : VK} {J : It} {H1 : Hp} (xs : List V) (R : Hp → Prop) (S : St → Prop) (p : V → Bool) (f : V → V) (hlen : xs.length ≤ sizeLine)
    (hgo : ∀ (i : Nat) H, R H → i < xs.length → J.go i H) (hstop : ∀ (i : Nat) H, R H → xs.length ≤ i → J.stop i H) (hyld : ∀ (i : Nat) H v H', R H → J.yld i H v H' → R H' ∧ xs[i]? = some v) (h0 : R H1) (s0 : S (subSt src σ))
    (hturn : ∀ (i : Nat) (x : V) (σ' : St) (H : Hp), S σ' → R H → xs[i]? = some x → ∀ (Kt : V → St → Hp → Prop) (Kf : St → Hp → Prop), (p x = true → ∀ σ3 H5, S σ3 → R H5 → Kt (f x) σ3 H5) → (p x = false → ∀ σ3 H4, S σ3 → R H4 → Kf σ3 H4) →
      g x σ' H fun σ3 H3 => tt σ3 H3 fun b H4 => if b = true then te σ3 H4 fun v H5 => Kt v σ3 H5 else Kf σ3 H4)
    (hQ : ∀ H' d, R H' → H' d = none → Q (.ref d) (upd H' d (.lst ((xs.filter p).map f)))) : compWant g tt te src σ Q J H1 := by
  refine ⟨fun i m ys σ' H' => m = xs.length - i ∧ i ≤ xs.length ∧ ys = ((xs.take i).filter p).map f ∧ S σ' ∧ R H', ⟨xs.length, by simp, Nat.zero_le _, by simp, s0, h0⟩, ?_⟩
  rintro i m ys σ' H' ⟨rfl, hi, rfl, hS, hR⟩
  by_cases hlt : i < xs.length
  · refine .inr ⟨hgo i H' hR hlt, ?_, fun x H2 y => ?_⟩
    · rw [List.length_map]
      have h1 := List.length_filter_le p (xs.take i)
      rw [List.length_take] at h1
      omega
    · obtain ⟨hR2, hx⟩ := hyld i H' x H2 hR y
      have tk : (xs.take (i + 1)).filter p = (xs.take i).filter p ++ (if p x then [x] else []) := take_succ_filter p xs i x hx
      refine hturn i x σ' H2 hS hR2 hx _ _ (fun hp σ3 H5 hS3 hR5 => ?_) (fun hp σ3 H4 hS3 hR4 => ?_)
      · refine ⟨xs.length - (i + 1), by omega, rfl, hlt, ?_, hS3, hR5⟩
        rw [tk, hp, if_pos rfl, List.map_append]
        rfl
      · refine ⟨xs.length - (i + 1), by omega, rfl, hlt, ?_, hS3, hR4⟩
        rw [tk, hp, if_neg (by simp), List.append_nil]
  · have e : i = xs.length := by omega
    subst e
    refine .inl ⟨hstop _ H' hR (Nat.le_refl _), fun d hd => ?_⟩
    rw [List.take_length]
    exact hQ H' d hR hd
end
end L2
namespace L2
open PySem PySem.Spec PyProof.Rows
section
variable {X : Cx}
/-- a constant of the module -/
theorem pe_globE {x : Str} {v : V} {pos : Pos} (hg : Gl X x) (h : ∃ u, X.mg x = some u ∧ RelV v u) (hd : (x == ("__debug__" : Str)) = false := by decide) : PE X (.Name x pos) (tC v) := by
  obtain ⟨u, hm, r⟩ := h
  exact pe_glob hg hm r hd
end
theorem hu20 {A : Around} {k : Nat} (hr : Room k A) : A.units + 20 < cLine := by
  have := hr.units
  omega
theorem Same.upd {H H' : Hp} {d : Addr} {o : HO} (h : Same H H') (hd : H' d = none) : Same H (upd H' d o) := fun b ob e => by
  have e' := h b ob e
  rw [upd_ne (ne_of_none e' hd)]
  exact e'
theorem Same.get {H H' : Hp} (h : Same H H') {b : Addr} {o : HO} (e : H b = some o) : H' b = some o := h b o e
end L2
namespace L2
open PySem PySem.Spec PyProof.Rows
/-! #### the same rules, the written part a letter: inside a comprehension's block nothing may hang on its state -/
section
variable {X : Cx} {a b c e o : Expr} {ta tb tc te to : TE} {p p2 pos : Pos} {es : List Expr} {t : TA}
theorem kcmp (K : PySem.W.Frag) {op : CmpOp} (hu : X.A.units + 20 < cLine) (ha : PE X a ta) (hb : PE X b tb) (hm : behindInMarks op b = false := by first | exact nomark _ | with_unfolding_all rfl) (hK : X.K = K := by rfl) : PE X (.Compare a [op] [b] pos) (cCmp K op ta tb) := by
  subst hK; exact ce_cmp hu ha hb hm
theorem ktcmp (K : PySem.W.Frag) {op : CmpOp} (hu : X.A.units + 20 < cLine) (ha : PE X a ta) (hb : PE X b tb) (hm : behindInMarks op b = false := by first | exact nomark _ | with_unfolding_all rfl) (hK : X.K = K := by rfl) : PT X (.Compare a [op] [b] pos) (cTest (cCmp K op ta tb)) := by
  subst hK; exact ct_cmp hu ha hb hm
theorem kchain (K : PySem.W.Frag) {op op' : CmpOp} (hu : X.A.units + 20 < cLine) (ha : PE X a ta) (hb : PE X b tb) (hc : PE X c tc) (hm : lastMarks [op, op'] [b, c] = false := by with_unfolding_all rfl) (hK : X.K = K := by rfl) : PE X (.Compare a [op, op'] [b, c] pos) (cChain K op op' ta tb tc) := by
  subst hK; exact ce_chain hu ha hb hc hm
theorem ktchain (K : PySem.W.Frag) {op op' : CmpOp} (hu : X.A.units + 20 < cLine) (ha : PE X a ta) (hb : PE X b tb) (hc : PE X c tc) (hm : lastMarks [op, op'] [b, c] = false := by with_unfolding_all rfl) (hK : X.K = K := by rfl) : PT X (.Compare a [op, op'] [b, c] pos) (cChainT K op op' ta tb tc) := by
  subst hK; exact ct_chain hu ha hb hc hm
theorem kix (K : PySem.W.Frag) (ha : PE X a ta) (hb : PE X b tb) (hs : PlainIx b := by exact fun _ _ => rfl) (hK : X.K = K := by rfl) : PE X (.Subscript a b pos) (cIx K ta tb) := by
  subst hK; exact ce_ix ha hb hs
theorem ksl (K : PySem.W.Frag) {lo hi : Option Expr} {tl th : TO} (he : PE X e te) (hl : PO X lo tl) (hu : PO X hi th) (hK : X.K = K := by rfl) : PE X (.Subscript e (.Slice lo hi none p2) pos) (cSl K te tl th) := by
  subst hK; exact ce_sl he hl hu
theorem klen (K : PySem.W.Frag) (hK : X.K = K := by rfl) : CallR X (.builtin "len") (lenA K) := by
  subst hK; exact call_lenA
theorem kall (K : PySem.W.Frag) (hc : X.calm = true := by rfl) (hK : X.K = K := by rfl) : CallR X (.builtin "all") (allA K) := by
  subst hK; exact call_allA hc
theorem kjoin (K : PySem.W.Frag) (hK : X.K = K := by rfl) : MtR X "str.join" (joinA K) := by
  subst hK; exact mt_joinA
theorem kpl (K : PySem.W.Frag) {tg l : Expr} {tl : TE} (hl : PE X l tl) (hK : X.K = K := by rfl) : PI X tg l (iList K tl) := by
  subst hK; exact pi_list hl
theorem kpt (K : PySem.W.Frag) {tg l : Expr} {tl : TE} (hl : PE X l tl) (hK : X.K = K := by rfl) : PI X tg l (iTup K tl) := by
  subst hK; exact pi_tup hl
theorem kgt (K : PySem.W.Frag) {n : Nat} {k : Nat} {t : TGs} (h : PGs X es t) (hc : X.calm = true := by rfl) (hn : (assignEach es X.env).length = n := by rfl) (hst : List.findIdx? (fun x => x.1) (assignEach es X.env) = none := by rfl) (hK : X.K = K := by rfl) : PG X (.Tuple es k pos) (gTup K n t) := by
  subst hK; exact pg_tup hc h hn hst
theorem kg {x : Str} {v : V} (h : ∃ u, X.mg x = some u ∧ RelV v u) (hg : Gl X x := by rfl) (hd : (x == ("__debug__" : Str)) = false := by decide) : PE X (.Name x pos) (tC v) := pe_globE hg h hd
theorem kis (T : BT) {n : Str} (hm : X.mg "isinstance" = none) (hmT : X.mg n = none) (hv : bootBuiltins n = some (.type T.s)) (ha : PE X a ta) (hg : Gl X "isinstance" := by rfl) (hgT : Gl X n := by rfl) (hn : n ≠ "__name__" := by decide) (hdb : (n == ("__debug__" : Str)) = false := by decide)
    (he : starEach [a, .Name n p2] X.env = (false, eval a X.env) :: starEach [.Name n p2] X.env := by rfl) (he2 : starEach [.Name n p2] X.env = (false, eval (.Name n p2) X.env) :: starEach [] X.env := by rfl) (hpl : (backTo pos (starEach [.Name n p2] X.env)).any (·.1) = false := by rfl) :
    PE X (.Call (.Name "isinstance" p) [a, .Name n p2] [] pos) (cIs T ta) := ce_is T ha hg hm hgT hmT hv hn hdb he he2 hpl
theorem kr1 {tg : Expr} {ta : TA} (hm : X.mg "range" = none) (ha : PA X [a] ta) (hg : Gl X "range" := by rfl) (hs : starEach [a] X.env = [(false, eval a X.env)] := by rfl) : PI X tg (.Call (.Name "range" p) [a] [] pos) (iRng1 ta) := pi_range1 hg hm ha hs
theorem kr2 {tg : Expr} {ta : TA} (hm : X.mg "range" = none) (ha : PA X [a, b] ta) (hg : Gl X "range" := by rfl) (hs : starEach [a, b] X.env = [(false, eval a X.env), (false, eval b X.env)] := by rfl) (hs2 : starEach [b] X.env = [(false, eval b X.env)] := by rfl) : PI X tg (.Call (.Name "range" p) [a, b] [] pos) (iRng2 ta) := pi_range2 hg hm ha hs hs2
theorem kjr (K : PySem.W.Frag) {apos cpos : Pos} (hm : X.mg "reversed" = none) (ho : PE X o to) (he : PE X e te) (hc : X.calm = true := by rfl) (hg : Gl X "reversed" := by rfl)
    (hbase : attributeBase o "join" X.env (eval o X.env) = eval o X.env := by rfl)
    (hfew : ((backTo cpos (starEach [.Call (.Name "reversed" p) [e] [] p2] X.env)).all (fun x => !x.1) && (backToKw cpos (keywordEach [] X.env)).all (fun x => x.1.isSome)
      && decide ([Expr.Call (.Name "reversed" p) [e] [] p2].length + ([] : List Keyword).length + (if ([] : List Keyword).isEmpty then 0 else 1) < 30)) = true := by rfl)
    (hline : (apos.endLine == cpos.line) = true := by rfl) (hs : starEach [.Call (.Name "reversed" p) [e] [] p2] X.env = (false, eval (.Call (.Name "reversed" p) [e] [] p2) X.env) :: starEach [] X.env := by rfl) (hplain : (backTo cpos (starEach [] X.env)).any (·.1) = false := by rfl)
    (hs2 : starEach [e] X.env = (false, eval e X.env) :: starEach [] X.env := by rfl) (hpl2 : (backTo p2 (starEach [] X.env)).any (·.1) = false := by rfl) (hK : X.K = K := by rfl) :
    PE X (.Call (.Attribute o "join" apos) [.Call (.Name "reversed" p) [e] [] p2] [] cpos) (cJR K to te) := by
  subst hK; exact ce_joinrev hc ho he hm hg hbase hfew hline hs hplain hs2 hpl2
/-- the scope of a comprehension in a def's body -/
theorem cscope {N : List Str} {src : List (Option Nat)} {scope : Scope} (dsc : Scope) (XN : List Str) (h : compOk dsc XN N src scope = true := by decide +kernel) (he : X.env.scope = dsc := by rfl) (hN : X.N = XN := by rfl) : CompScope X N src scope := CompScope.of he hN h
theorem pg_name' {i : Nat} {x : Str} (N : List Str) (hN : N.Nodup := by decide +kernel) (hi : X.N[i]? = some x := by rfl) (hx : Loc X.env.scope x := by first | exact Or.inl rfl | exact Or.inr rfl) (hf : X.fn x = true ∨ X.env.scope.names.lookup x = some .local := by first | exact .inl rfl | exact .inr rfl) (hNX : X.N = N := by rfl) : PG X (.Name x pos) (gName i) :=
  pg_name (hNX ▸ hN) hi hx hf
theorem kcomp {N : List Str} {src : List (Option Nat)} {scope : Scope} {tg iter : Expr} {ifs : List Expr} {wi : TI} {g : TG} {tt : TT} (S : CompScope X N src scope) (hi : PI X tg iter wi) (hg : ∀ s H ex, PG (cxC X scope N s H ex) tg g) (ht : ∀ s H ex, PIfs (cxC X scope N s H ex) ifs tt) (he : ∀ s H ex, PE (cxC X scope N s H ex) e te)
    (hc : X.calm = true := by rfl) (hs : ∀ x, foldedSetIterable iter X.env x = pure x := by intro _; rfl) : PE X (.ListComp e [⟨tg, iter, ifs, 0⟩] scope pos) (tComp wi g tt te src) := pe_comp hc S hi hg ht he hs
end
end L2

namespace L2
open PySem PySem.Spec PyProof.Rows
/-! #### the readings of operations by the kinds of their values -/
theorem r_eq_int {K : PySem.W.Frag} {i j : Int} {H : Hp} {Q : VK} : (cmpA K .Eq (.int i) (.int j) H Q) = (Q (.bl (decide (i = j))) H) := rfl
theorem r_ne_int {K : PySem.W.Frag} {i j : Int} {H : Hp} {Q : VK} : (cmpA K .NotEq (.int i) (.int j) H Q) = (Q (.bl (!decide (i = j))) H) := rfl
theorem r_eq_str {K : PySem.W.Frag} {i j : Str} {H : Hp} {Q : VK} : (cmpA K .Eq (.str i) (.str j) H Q) = (Q (.bl (decide (i = j))) H) := rfl
theorem r_ne_str {K : PySem.W.Frag} {i j : Str} {H : Hp} {Q : VK} : (cmpA K .NotEq (.str i) (.str j) H Q) = (Q (.bl (!decide (i = j))) H) := rfl
theorem r_eq_bl {K : PySem.W.Frag} {i j : Bool} {H : Hp} {Q : VK} : (cmpA K .Eq (.bl i) (.bl j) H Q) = (Q (.bl (decide (i = j))) H) := rfl
theorem r_ne_bl {K : PySem.W.Frag} {i j : Bool} {H : Hp} {Q : VK} : (cmpA K .NotEq (.bl i) (.bl j) H Q) = (Q (.bl (!decide (i = j))) H) := rfl
theorem r_eq_nn {K : PySem.W.Frag}  {H : Hp} {Q : VK} : (cmpA K .Eq .non .non H Q) = (Q (.bl true) H) := rfl
theorem r_ne_nn {K : PySem.W.Frag}  {H : Hp} {Q : VK} : (cmpA K .NotEq .non .non H Q) = (Q (.bl (!true)) H) := rfl
theorem r_eq_int_str {K : PySem.W.Frag} {i : Int} {j : Str} {H : Hp} {Q : VK} : (cmpA K .Eq (.int i) (.str j) H Q) = (Q (.bl false) H) := rfl
theorem r_ne_int_str {K : PySem.W.Frag} {i : Int} {j : Str} {H : Hp} {Q : VK} : (cmpA K .NotEq (.int i) (.str j) H Q) = (Q (.bl (!false)) H) := rfl
theorem r_eq_int_non {K : PySem.W.Frag} {i : Int}  {H : Hp} {Q : VK} : (cmpA K .Eq (.int i) .non H Q) = (Q (.bl false) H) := rfl
theorem r_ne_int_non {K : PySem.W.Frag} {i : Int}  {H : Hp} {Q : VK} : (cmpA K .NotEq (.int i) .non H Q) = (Q (.bl (!false)) H) := rfl
theorem r_eq_str_int {K : PySem.W.Frag} {i : Str} {j : Int} {H : Hp} {Q : VK} : (cmpA K .Eq (.str i) (.int j) H Q) = (Q (.bl false) H) := rfl
theorem r_ne_str_int {K : PySem.W.Frag} {i : Str} {j : Int} {H : Hp} {Q : VK} : (cmpA K .NotEq (.str i) (.int j) H Q) = (Q (.bl (!false)) H) := rfl
theorem r_eq_str_bl {K : PySem.W.Frag} {i : Str} {j : Bool} {H : Hp} {Q : VK} : (cmpA K .Eq (.str i) (.bl j) H Q) = (Q (.bl false) H) := rfl
theorem r_ne_str_bl {K : PySem.W.Frag} {i : Str} {j : Bool} {H : Hp} {Q : VK} : (cmpA K .NotEq (.str i) (.bl j) H Q) = (Q (.bl (!false)) H) := rfl
theorem r_eq_str_non {K : PySem.W.Frag} {i : Str}  {H : Hp} {Q : VK} : (cmpA K .Eq (.str i) .non H Q) = (Q (.bl false) H) := rfl
theorem r_ne_str_non {K : PySem.W.Frag} {i : Str}  {H : Hp} {Q : VK} : (cmpA K .NotEq (.str i) .non H Q) = (Q (.bl (!false)) H) := rfl
theorem r_eq_bl_str {K : PySem.W.Frag} {i : Bool} {j : Str} {H : Hp} {Q : VK} : (cmpA K .Eq (.bl i) (.str j) H Q) = (Q (.bl false) H) := rfl
theorem r_ne_bl_str {K : PySem.W.Frag} {i : Bool} {j : Str} {H : Hp} {Q : VK} : (cmpA K .NotEq (.bl i) (.str j) H Q) = (Q (.bl (!false)) H) := rfl
theorem r_eq_bl_non {K : PySem.W.Frag} {i : Bool}  {H : Hp} {Q : VK} : (cmpA K .Eq (.bl i) .non H Q) = (Q (.bl false) H) := rfl
theorem r_ne_bl_non {K : PySem.W.Frag} {i : Bool}  {H : Hp} {Q : VK} : (cmpA K .NotEq (.bl i) .non H Q) = (Q (.bl (!false)) H) := rfl
theorem r_eq_non_int {K : PySem.W.Frag}  {j : Int} {H : Hp} {Q : VK} : (cmpA K .Eq .non (.int j) H Q) = (Q (.bl false) H) := rfl
theorem r_ne_non_int {K : PySem.W.Frag}  {j : Int} {H : Hp} {Q : VK} : (cmpA K .NotEq .non (.int j) H Q) = (Q (.bl (!false)) H) := rfl
theorem r_eq_non_str {K : PySem.W.Frag}  {j : Str} {H : Hp} {Q : VK} : (cmpA K .Eq .non (.str j) H Q) = (Q (.bl false) H) := rfl
theorem r_ne_non_str {K : PySem.W.Frag}  {j : Str} {H : Hp} {Q : VK} : (cmpA K .NotEq .non (.str j) H Q) = (Q (.bl (!false)) H) := rfl
theorem r_eq_non_bl {K : PySem.W.Frag}  {j : Bool} {H : Hp} {Q : VK} : (cmpA K .Eq .non (.bl j) H Q) = (Q (.bl false) H) := rfl
theorem r_ne_non_bl {K : PySem.W.Frag}  {j : Bool} {H : Hp} {Q : VK} : (cmpA K .NotEq .non (.bl j) H Q) = (Q (.bl (!false)) H) := rfl
theorem r_eq_rr {K : PySem.W.Frag} {a b : Addr} {H : Hp} {Q : VK} : (cmpA K .Eq (.ref a) (.ref b) H Q) = (∃ k, EqT K H 20 (.ref a) (.ref b) k ∧ Q (.bl k) H) := rfl
theorem r_ne_rr {K : PySem.W.Frag} {a b : Addr} {H : Hp} {Q : VK} : (cmpA K .NotEq (.ref a) (.ref b) H Q) = (∃ k, EqT K H 20 (.ref a) (.ref b) k ∧ Q (.bl (!k)) H) := rfl
theorem r_lt_int {K : PySem.W.Frag} {i j : Int} {H : Hp} {Q : VK} : (cmpA K .Lt (.int i) (.int j) H Q) = (Q (.bl (decide (i < j))) H) := rfl
theorem r_lte_int {K : PySem.W.Frag} {i j : Int} {H : Hp} {Q : VK} : (cmpA K .LtE (.int i) (.int j) H Q) = (Q (.bl (decide (i ≤ j))) H) := rfl
theorem r_gt_int {K : PySem.W.Frag} {i j : Int} {H : Hp} {Q : VK} : (cmpA K .Gt (.int i) (.int j) H Q) = (Q (.bl (decide (j < i))) H) := rfl
theorem r_gte_int {K : PySem.W.Frag} {i j : Int} {H : Hp} {Q : VK} : (cmpA K .GtE (.int i) (.int j) H Q) = (Q (.bl (decide (j ≤ i))) H) := rfl
theorem r_lt_str {K : PySem.W.Frag} {i j : Str} {H : Hp} {Q : VK} : (cmpA K .Lt (.str i) (.str j) H Q) = (Q (.bl (decide (i.cps.toList < j.cps.toList))) H) := rfl
theorem r_lte_str {K : PySem.W.Frag} {i j : Str} {H : Hp} {Q : VK} : (cmpA K .LtE (.str i) (.str j) H Q) = (Q (.bl (!decide (j.cps.toList < i.cps.toList))) H) := rfl
theorem r_in_str {K : PySem.W.Frag} {i j : Str} {H : Hp} {Q : VK} : (cmpA K .In (.str i) (.str j) H Q) = (Q (.bl (!(Builtin.Str.occurrences j i 0 j.length 1).isEmpty)) H) := rfl
theorem r_notin_str {K : PySem.W.Frag} {i j : Str} {H : Hp} {Q : VK} : (cmpA K .NotIn (.str i) (.str j) H Q) = (Q (.bl (!(!(Builtin.Str.occurrences j i 0 j.length 1).isEmpty))) H) := rfl
theorem r_in_int_ref {K : PySem.W.Frag} {i : Int} {d : Addr} {H : Hp} {Q : VK} : (cmpA K .In (.int i) (.ref d) H Q) = (rIn K false (.int i) (.ref d) H Q) := rfl
theorem r_notin_int_ref {K : PySem.W.Frag} {i : Int} {d : Addr} {H : Hp} {Q : VK} : (cmpA K .NotIn (.int i) (.ref d) H Q) = (rIn K true (.int i) (.ref d) H Q) := rfl
theorem r_is_int {K : PySem.W.Frag} {i : Int} {H : Hp} {Q : VK} : (cmpA K .Is (.int i) .non H Q) = (Q (.bl false) H) := rfl
theorem r_isnot_int {K : PySem.W.Frag} {i : Int} {H : Hp} {Q : VK} : (cmpA K .IsNot (.int i) .non H Q) = (Q (.bl true) H) := rfl
theorem r_in_str_ref {K : PySem.W.Frag} {i : Str} {d : Addr} {H : Hp} {Q : VK} : (cmpA K .In (.str i) (.ref d) H Q) = (rIn K false (.str i) (.ref d) H Q) := rfl
theorem r_notin_str_ref {K : PySem.W.Frag} {i : Str} {d : Addr} {H : Hp} {Q : VK} : (cmpA K .NotIn (.str i) (.ref d) H Q) = (rIn K true (.str i) (.ref d) H Q) := rfl
theorem r_is_str {K : PySem.W.Frag} {i : Str} {H : Hp} {Q : VK} : (cmpA K .Is (.str i) .non H Q) = (Q (.bl false) H) := rfl
theorem r_isnot_str {K : PySem.W.Frag} {i : Str} {H : Hp} {Q : VK} : (cmpA K .IsNot (.str i) .non H Q) = (Q (.bl true) H) := rfl
theorem r_in_bl_ref {K : PySem.W.Frag} {i : Bool} {d : Addr} {H : Hp} {Q : VK} : (cmpA K .In (.bl i) (.ref d) H Q) = (rIn K false (.bl i) (.ref d) H Q) := rfl
theorem r_notin_bl_ref {K : PySem.W.Frag} {i : Bool} {d : Addr} {H : Hp} {Q : VK} : (cmpA K .NotIn (.bl i) (.ref d) H Q) = (rIn K true (.bl i) (.ref d) H Q) := rfl
theorem r_is_bl {K : PySem.W.Frag} {i : Bool} {H : Hp} {Q : VK} : (cmpA K .Is (.bl i) .non H Q) = (Q (.bl false) H) := rfl
theorem r_isnot_bl {K : PySem.W.Frag} {i : Bool} {H : Hp} {Q : VK} : (cmpA K .IsNot (.bl i) .non H Q) = (Q (.bl true) H) := rfl
theorem r_in_non_ref {K : PySem.W.Frag}  {d : Addr} {H : Hp} {Q : VK} : (cmpA K .In .non (.ref d) H Q) = (rIn K false .non (.ref d) H Q) := rfl
theorem r_notin_non_ref {K : PySem.W.Frag}  {d : Addr} {H : Hp} {Q : VK} : (cmpA K .NotIn .non (.ref d) H Q) = (rIn K true .non (.ref d) H Q) := rfl
theorem r_is_non {K : PySem.W.Frag}  {H : Hp} {Q : VK} : (cmpA K .Is .non .non H Q) = (Q (.bl true) H) := rfl
theorem r_isnot_non {K : PySem.W.Frag}  {H : Hp} {Q : VK} : (cmpA K .IsNot .non .non H Q) = (Q (.bl false) H) := rfl
theorem r_in_ref_ref {K : PySem.W.Frag} {i : Addr} {d : Addr} {H : Hp} {Q : VK} : (cmpA K .In (.ref i) (.ref d) H Q) = (rIn K false (.ref i) (.ref d) H Q) := rfl
theorem r_notin_ref_ref {K : PySem.W.Frag} {i : Addr} {d : Addr} {H : Hp} {Q : VK} : (cmpA K .NotIn (.ref i) (.ref d) H Q) = (rIn K true (.ref i) (.ref d) H Q) := rfl
theorem r_is_ref {K : PySem.W.Frag} {i : Addr} {H : Hp} {Q : VK} : (cmpA K .Is (.ref i) .non H Q) = (Q (.bl false) H) := rfl
theorem r_isnot_ref {K : PySem.W.Frag} {i : Addr} {H : Hp} {Q : VK} : (cmpA K .IsNot (.ref i) .non H Q) = (Q (.bl true) H) := rfl
theorem r_add {i j : Int} {H : Hp} {Q : VK} : (binA .Add (.int i) (.int j) H Q) = (Q (.int (i + j)) H) := rfl
theorem r_adds {i j : Str} {H : Hp} {Q : VK} : (binA .Add (.str i) (.str j) H Q) = (i.length + j.length ≤ sizeLine ∧ Q (.str (i ++ j)) H) := rfl
theorem r_addr {a b : Addr} {H : Hp} {Q : VK} : (binA .Add (.ref a) (.ref b) H Q) = (rCat (.ref a) (.ref b) H Q) := rfl
theorem r_sub {i j : Int} {H : Hp} {Q : VK} : (binA .Sub (.int i) (.int j) H Q) = (Q (.int (i - j)) H) := rfl
theorem r_mul {i j : Int} {H : Hp} {Q : VK} : (binA .Mult (.int i) (.int j) H Q) = (CMul i j ∧ Q (.int (i * j)) H) := rfl
theorem r_fdiv {i j : Int} {H : Hp} {Q : VK} : (binA .FloorDiv (.int i) (.int j) H Q) = (CDiv i j ∧ Q (.int (i / j)) H) := rfl
theorem r_mod {i j : Int} {H : Hp} {Q : VK} : (binA .Mod (.int i) (.int j) H Q) = (0 < j ∧ Q (.int (i % j)) H) := rfl
theorem r_pow {i j : Int} {H : Hp} {Q : VK} : (binA .Pow (.int i) (.int j) H Q) = (CPow i j ∧ Q (.int (i ^ j.toNat)) H) := rfl
theorem r_ixs {K : PySem.W.Frag} {z : Str} {i : Int} {H : Hp} {Q : VK} : (ixA K (.str z) (.int i) H Q) = (z.length ≤ sizeLine ∧ ∃ c, atI z.cps.toList i = some c ∧ Q (.str ⟨#[c]⟩) H) := rfl
theorem r_ixr {K : PySem.W.Frag} {d : Addr} {i : Int} {H : Hp} {Q : VK} : (ixA K (.ref d) (.int i) H Q) = (∃ xs v, (SqL K H d xs ∨ SqT K H d xs) ∧ atI xs i = some v ∧ Q v H) := rfl
theorem r_sls {K : PySem.W.Frag} {z : Str} {lo hi : Option Int} {H : Hp} {Q : VK} : (slA K (.str z) lo hi H Q) = (z.length ≤ sizeLine ∧ Q (.str (cutS z lo hi)) H) := rfl
theorem r_slr {K : PySem.W.Frag} {d : Addr} {lo hi : Option Int} {H : Hp} {Q : VK} : (slA K (.ref d) lo hi H Q) = (∃ xs, SqL K H d xs ∧ ∀ q, H q = none → Q (.ref q) (upd H q (.lst (cutV xs lo hi)))) := rfl
theorem r_lens {K : PySem.W.Frag} {z : Str} {H : Hp} {Q : VK} : (lenA K [.str z] H Q) = (z.length ≤ sizeLine ∧ Q (.int z.length) H) := rfl
theorem r_lenr {K : PySem.W.Frag} {d : Addr} {H : Hp} {Q : VK} : (lenA K [.ref d] H Q) = (∃ ys, (SqL K H d ys ∨ SqT K H d ys) ∧ Q (.int ys.length) H) := rfl
theorem r_min {i j : Int} {H : Hp} {Q : VK} : (minA [.int i, .int j] H Q) = (Q (.int (if j < i then j else i)) H) := rfl
theorem r_str {i : Int} {H : Hp} {Q : VK} : (strA [.int i] H Q) = (i.natAbs.log2 < 1920 ∧ Q (.str (toString i)) H) := rfl
theorem r_ints {z : Str} {H : Hp} {Q : VK} : (intA [.str z] H Q) = (∃ n, PySem.intText? z = some n ∧ z.length ≤ 640 ∧ Q (.int n) H) := rfl
theorem r_intb {k : Bool} {H : Hp} {Q : VK} : (intA [.bl k] H Q) = (Q (.int (if k then 1 else 0)) H) := rfl
theorem r_all {K : PySem.W.Frag} {d : Addr} {H : Hp} {Q : VK} : (allA K [.ref d] H Q) = (∃ ks : List Bool, SqL K H d (ks.map V.bl) ∧ Q (.bl (ks.all id)) H) := rfl
theorem r_sw {a b : Str} {H : Hp} {Q : VK} : (swA (.str a) [.str b] H Q) = (Q (.bl (b.cps.toList.isPrefixOf a.cps.toList)) H) := rfl
theorem r_join {K : PySem.W.Frag} {a : Str} {d : Addr} {H : Hp} {Q : VK} : (joinA K (.str a) [.ref d] H Q) = (∃ ys : List Str, SqL K H d (ys.map V.str) ∧ (ys.map (·.length)).sum + ys.length * a.length ≤ 16777216 ∧ Q (.str (Txt.join a ys)) H) := rfl
theorem r_up {a : Str} {H : Hp} {Q : VK} : (upA (.str a) [] H Q) = (a.length ≤ sizeLine ∧ (∀ c ∈ a.cps.toList, c < 128) ∧ Q (.str ⟨a.cps.map up1⟩) H) := rfl
theorem r_isa_non {T : BT} {H : Hp} {Q : VK} : (isA T .non H Q) = (Q (.bl false) H) := rfl
theorem r_isa_bl {T : BT} {b : Bool} {H : Hp} {Q : VK} : (isA T (.bl b) H Q) = (Q (.bl (isSub .bool T)) H) := rfl
theorem r_isa_int {T : BT} {b : Int} {H : Hp} {Q : VK} : (isA T (.int b) H Q) = (Q (.bl (isSub .int T)) H) := rfl
theorem r_isa_str {T : BT} {b : Str} {H : Hp} {Q : VK} : (isA T (.str b) H Q) = (Q (.bl (isSub .str T)) H) := rfl
theorem r_b {k : Bool} {Q : Bool → Hp → Prop} {H : Hp} : bOnly Q (.bl k) H = Q k H := rfl
end L2
namespace L2
open PySem PySem.Spec PyProof.Rows
/-! #### argument lists without stars: by the expressions' own forms -/
def plainE : Expr → Bool
  | .Starred _ _ => false
  | _ => true
theorem star_of {e : Expr} {es : List Expr} {env : Env} (h : plainE e = true) : starEach (e :: es) env = (false, eval e env) :: starEach es env := by
  cases e <;> first | rfl | cases h
theorem back_of {pos : Pos} {env : Env} : ∀ {es : List Expr}, es.all plainE = true → (backTo pos (starEach es env)).any (·.1) = false
  | [], _ => rfl
  | e :: es, h => by
    rw [List.all_cons, Bool.and_eq_true] at h
    rw [star_of h.1]
    show (false || (backTo pos (starEach es env)).any (·.1)) = false
    rw [back_of h.2]
    rfl
theorem all_of {pos : Pos} {env : Env} : ∀ {es : List Expr}, es.all plainE = true → (backTo pos (starEach es env)).all (fun x => !x.1) = true
  | [], _ => rfl
  | e :: es, h => by
    rw [List.all_cons, Bool.and_eq_true] at h
    rw [star_of h.1]
    show (!false && (backTo pos (starEach es env)).all (fun x => !x.1)) = true
    rw [all_of h.2]
    rfl
section
variable {X : Cx} {a b c e o : Expr} {ta tb tc te to : TE} {p p2 pos : Pos} {es : List Expr} {t : TA}
theorem pac (ha : PE X e te) (hr : PA X es t) (h : plainE e = true := by rfl) : PA X (e :: es) (tCons te t) := pa_cons ha hr (star_of h)
theorem kcall {name : Str} {ps : List Str} {k j : Nat} {sp : Sp} (C : Cal X.prog X.w X.K X.mg X.base name ps k sp) (hr : Room j X.A) (ha : PA X (e :: es) t) (hkj : k ≤ j := by decide) (hp : (e :: es).all plainE = true := by rfl) (hg : Gl X name := by rfl) (hdb : (name == ("__debug__" : Str)) = false := by decide) : PE X (.Call (.Name name p) (e :: es) [] pos) (cCall sp t) := by
  have hp' := hp
  rw [List.all_cons, Bool.and_eq_true] at hp'
  exact ce_call C hr hkj ha hg hdb (star_of hp'.1) (back_of hp'.2)
theorem kB {id : String} {x : Str} {r : List V → Hp → VK → Prop} (hc : CallR X (.builtin id) r) (hv : bootBuiltins x = some (.builtin id)) (hm : X.mg x = none) (ha : PA X (e :: es) t) (hp : (e :: es).all plainE = true := by rfl) (hg : Gl X x := by rfl) (hn : x ≠ "__name__" := by decide) (hdb : (x == ("__debug__" : Str)) = false := by decide) : PE X (.Call (.Name x p) (e :: es) [] pos) (cB r t) := by
  have hp' := hp
  rw [List.all_cons, Bool.and_eq_true] at hp'
  exact ce_B hc hv hm ha hg hn hdb (star_of hp'.1) (back_of hp'.2)
theorem kTy {T : String} {x : Str} {r : List V → Hp → VK → Prop} (hc : CallR X (.type T) r) (hv : bootBuiltins x = some (.type T)) (hm : X.mg x = none) (ha : PA X (e :: es) t) (hp : (e :: es).all plainE = true := by rfl) (hg : Gl X x := by rfl) (hn : x ≠ "__name__" := by decide) (hdb : (x == ("__debug__" : Str)) = false := by decide) : PE X (.Call (.Name x p) (e :: es) [] pos) (cB r t) := by
  have hp' := hp
  rw [List.all_cons, Bool.and_eq_true] at hp'
  exact ce_Ty hc hv hm ha hg hn hdb (star_of hp'.1) (back_of hp'.2)
theorem ksm {name : Str} {apos cpos : Pos} {id : String} {r : V → List V → Hp → VK → Prop} (slot : Slot "str" name id) (hty : typeOf (.builtin id) = pure (.type "method_descriptor")) (hm : MtR X id r) (ho : PE X o to) (ha : PA X (e :: es) t) (hp : (e :: es).all plainE = true := by rfl) (hl : (e :: es).length < 20 := by decide)
    (hbase : attributeBase o name X.env (eval o X.env) = eval o X.env := by rfl) (hline : (apos.endLine == cpos.line) = true := by rfl) : PE X (.Call (.Attribute o name apos) (e :: es) [] cpos) (cSM r to t) := by
  have hp' := hp
  rw [List.all_cons, Bool.and_eq_true] at hp'
  refine ce_sm slot hty hm ho ha hbase ?_ hline (star_of hp'.1) (back_of hp'.2)
  rw [all_of hp]
  show (true && true && decide ((e :: es).length + 0 + 0 < 30)) = true
  rw [decide_eq_true (by omega)]
  rfl
end
end L2
namespace L2
open PySem
/-! #### one statement at a time: what stands behind it is said, the rest is not looked at -/
theorem tSeq_of {t u : TS} {D : Ends} {σ : St} {H : Hp} (P : St → Hp → Prop) (h : ∀ K : St → Hp → Prop, (∀ σ' H', P σ' H' → K σ' H') → t { D with nx := K } σ H) (h2 : ∀ σ' H', P σ' H' → u D σ' H') : tSeq t u D σ H := h (u D) h2
theorem st_asg {te : TE} {i : Nat} {u : TS} {D : Ends} {σ : St} {H : Hp} (P : V → Hp → Prop) (h : ∀ Q : VK, (∀ v H', P v H' → Q v H') → te σ H Q) (h2 : ∀ v H', P v H' → u D (σ.set i (some v)) H') : tSeq (tAsg te (gName i)) u D σ H := h _ h2
theorem st_val {te : TE} {i : Nat} {u : TS} {D : Ends} {σ : St} {H : Hp} (v : V) (h : ∀ Q : VK, Q v H → te σ H Q) (h2 : u D (σ.set i (some v)) H) : tSeq (tAsg te (gName i)) u D σ H := h _ h2
theorem st_if {c : TT} {t u : TS} {D : Ends} {σ : St} {H : Hp} (b : Prop) [Decidable b] (hc : ∀ Q : Bool → Hp → Prop, Q (decide b) H → c σ H Q) (h1 : b → t { D with nx := u D } σ H) (h2 : ¬ b → u D σ H) : tSeq (tIfS c t tNext) u D σ H := by
  refine hc _ ?_
  by_cases hb : b
  · rw [decide_eq_true hb]; exact iteT (h1 hb)
  · rw [decide_eq_false hb]; exact iteF (h2 hb)
/-- a test that may grow the heap -/
theorem st_ifH {c : TT} {t u : TS} {D : Ends} {σ : St} {H : Hp} (P : Bool → Hp → Prop) (hc : ∀ Q : Bool → Hp → Prop, (∀ b H', P b H' → Q b H') → c σ H Q) (h1 : ∀ H', P true H' → t { D with nx := u D } σ H') (h2 : ∀ H', P false H' → u D σ H') : tSeq (tIfS c t tNext) u D σ H := by
  refine hc _ fun b H' p => ?_
  cases b with
  | true => exact iteT (h1 H' p)
  | false => exact iteF (h2 H' p)
end L2
namespace L2
open PySem
/-! #### a display of constants -/
def constVs : List Expr → Option (List V)
  | [] => some []
  | .Constant (.int i) _ _ :: r => (constVs r).map (V.int i :: ·)
  | .Constant (.str x) _ _ :: r => (constVs r).map (V.str x :: ·)
  | .Constant (.bool b) _ _ :: r => (constVs r).map (V.bl b :: ·)
  | .Constant .none _ _ :: r => (constVs r).map (V.non :: ·)
  | _ => none
def cCs (vs : List V) : TA := fun _ H Q => Q vs H
theorem pa_consts {X : Cx} : ∀ {es : List Expr} {vs : List V}, constVs es = some vs → PA X es (cCs vs) := by
  intro es
  induction es with
  | nil => intro vs h; cases h; exact pa_nil
  | cons e r ih =>
    intro vs h
    unfold constVs at h
    split at h
    · rename_i e1; cases e1
    · rename_i e1
      cases e1
      obtain ⟨ws, h1, h2⟩ := Option.map_eq_some_iff.mp h
      subst h2
      exact pac pe_int (ih h1)
    · rename_i e1
      cases e1
      obtain ⟨ws, h1, h2⟩ := Option.map_eq_some_iff.mp h
      subst h2
      exact pac pe_str (ih h1)
    · rename_i e1
      cases e1
      obtain ⟨ws, h1, h2⟩ := Option.map_eq_some_iff.mp h
      subst h2
      exact pac pe_bl (ih h1)
    · rename_i e1
      cases e1
      obtain ⟨ws, h1, h2⟩ := Option.map_eq_some_iff.mp h
      subst h2
      exact pac pe_non (ih h1)
    · cases h
end L2
namespace L2
open PySem
/-! #### a comprehension by an invariant over the items made so far -/
theorem comp_inv {g : TG} {tt : TT} {te : TE} {src : List (Option Nat)} {σ : St} {Q : VK} {J : It} {H1 : Hp} (n : Nat) (N : Nat → List V → St → Hp → Prop) (hn : n ≤ sizeLine) (hlen : ∀ i ys σ H, N i ys σ H → ys.length ≤ i)
    (hgo : ∀ i ys σ H, N i ys σ H → i < n → J.go i H) (hstop : ∀ ys σ H, N n ys σ H → J.stop n H) (h0 : N 0 [] (subSt src σ) H1)
    (hturn : ∀ i ys σ' H' x H2, i < n → N i ys σ' H' → J.yld i H' x H2 → ∀ (Kt : V → St → Hp → Prop) (Kf : St → Hp → Prop), (∀ v σ3 H5, N (i + 1) (ys ++ [v]) σ3 H5 → Kt v σ3 H5) → (∀ σ3 H4, N (i + 1) ys σ3 H4 → Kf σ3 H4) →
      g x σ' H2 fun σ3 H3 => tt σ3 H3 fun b H4 => if b = true then te σ3 H4 fun v H5 => Kt v σ3 H5 else Kf σ3 H4)
    (hQ : ∀ ys σ' H' d, N n ys σ' H' → H' d = none → Q (.ref d) (upd H' d (.lst ys))) : compWant g tt te src σ Q J H1 := by
  refine ⟨fun i m ys σ' H' => m = n - i ∧ i ≤ n ∧ N i ys σ' H', ⟨n, by simp, Nat.zero_le _, h0⟩, ?_⟩
  rintro i m ys σ' H' ⟨rfl, hi, hN⟩
  by_cases hlt : i < n
  · refine .inr ⟨hgo i ys σ' H' hN hlt, ?_, fun x H2 y => ?_⟩
    · have := hlen i ys σ' H' hN
      omega
    · exact hturn i ys σ' H' x H2 hlt hN y _ _ (fun v σ3 H5 h => ⟨n - (i + 1), by omega, rfl, hlt, h⟩) (fun σ3 H4 h => ⟨n - (i + 1), by omega, rfl, hlt, h⟩)
  · have e : i = n := by omega
    subst e
    exact .inl ⟨hstop ys σ' H' hN, fun d hd => hQ ys σ' H' d hN hd⟩
end L2
namespace L2
open PySem
theorem for_rng1 {ta : TA} {g : TG} {tb : TS} {D : Ends} {σ : St} {H : Hp} (n : Int) (hta : ∀ Q : List V → Hp → Prop, Q [.int n] H → ta σ H Q) (h0 : -(2 ^ 62) ≤ n) (h1 : n < 2 ^ 62) (Pv : Nat → St → Hp → Prop) (hp0 : Pv 0 σ H)
    (hs : ∀ i σ H, i < n.toNat → Pv i σ H → g (.int (0 + i)) σ H fun σ2 H2 => tb { D with nx := Pv (i + 1), ct := Pv (i + 1), bk := D.nx } σ2 H2) (hd : ∀ σ H, Pv n.toNat σ H → D.nx σ H) : tFor (iRng1 ta) g tb D σ H :=
  hta _ ⟨n, rfl, h0, h1, for_range Pv hp0 hs hd⟩
theorem for_lstP {K : PySem.W.Frag} {tl : TE} {g : TG} {tb : TS} {D : Ends} {σ : St} {H : Hp} (P : V → Hp → Prop) (htl : ∀ Q : VK, (∀ v H', P v H' → Q v H') → tl σ H Q)
    (h : ∀ v H', P v H' → ∃ d xs, v = .ref d ∧ SqL K H' d xs ∧ ∃ Pv : Nat → St → Hp → Prop, Pv 0 σ H' ∧ (∀ i σ H, i ≤ xs.length → Pv i σ H → SqL K H d xs) ∧
      (∀ (i : Nat) x σ H, xs[i]? = some x → Pv i σ H → g x σ H fun σ2 H2 => tb { D with nx := Pv (i + 1), ct := Pv (i + 1), bk := D.nx } σ2 H2) ∧ (∀ σ H, Pv xs.length σ H → D.nx σ H)) : tFor (iList K tl) g tb D σ H :=
  htl _ fun v H' p => by
    obtain ⟨d, xs, rfl, hq, Pv, a, b, c, e⟩ := h v H' p
    exact ⟨d, rfl, ⟨xs, hq⟩, for_list Pv a b c e⟩
/-- the last statement of a block, an if without else -/
theorem st_if1 {c : TT} {t : TS} {D : Ends} {σ : St} {H : Hp} (P : Bool → Hp → Prop) (hc : ∀ Q : Bool → Hp → Prop, (∀ b H', P b H' → Q b H') → c σ H Q) (h1 : ∀ H', P true H' → t D σ H') (h2 : ∀ H', P false H' → D.nx σ H') : tIfS c t tNext D σ H := by
  refine hc _ fun b H' p => ?_
  cases b with
  | true => exact iteT (h1 H' p)
  | false => exact iteF (h2 H' p)
end L2

namespace L2
open PySem PySem.Spec PyProof.Rows
/-! #### set(ints), its len; sorted(ints); list(xs), tuple(xs) -/
def uniq (ns : List Int) : List Int := firstMet (fun i => ns.getD i 0) ns.length
theorem range_getD (ns : List Int) : (List.range ns.length).map (fun i => ns.getD i 0) = ns := by
  apply List.ext_getElem?
  intro i
  rw [List.getElem?_map]
  by_cases h : i < ns.length
  · rw [List.getElem?_range h, List.getElem?_eq_getElem h]
    show some (ns.getD i 0) = _
    rw [List.getD_eq_getElem?_getD, List.getElem?_eq_getElem h]
    rfl
  · rw [List.getElem?_eq_none (by rw [List.length_range]; omega), List.getElem?_eq_none (by omega)]
    rfl
theorem firstMet_nodup (val : Nat → Int) : ∀ i, (firstMet val i).length = i ↔ ((List.range i).map val).Nodup
  | 0 => by simp [firstMet_zero]
  | i + 1 => by
    have ih := firstMet_nodup val i
    have hle := firstMet_length_le val i
    have ha := firstMet_any val i (val i)
    rw [firstMet_succ, List.range_succ, List.map_append, List.nodup_append]
    unfold step_dedup
    by_cases h : (firstMet val i).any (· == val i) = true
    · rw [if_pos h]
      constructor
      · intro e; omega
      · intro e
        rw [ha, List.any_eq_true] at h
        obtain ⟨x, hx, e2⟩ := h
        have : x = val i := beq_iff_eq.mp e2
        exact absurd this (e.2.2 x hx (val i) (by simp))
    · rw [if_neg h, List.length_append, List.length_singleton]
      constructor
      · intro e
        refine ⟨ih.mp (by omega), by simp, fun x hx y hy => ?_⟩
        have hy' : y = val i := by simpa using hy
        subst hy'
        intro e3
        apply h
        rw [ha, List.any_eq_true]
        exact ⟨x, hx, beq_iff_eq.mpr e3⟩
      · intro e
        rw [ih.mpr e.1]
theorem uniq_iff (ns : List Int) : (uniq ns).length = ns.length ↔ ns.Nodup := by
  unfold uniq
  rw [firstMet_nodup, range_getD]
section
variable {X : Cx}
def setA (K : PySem.W.Frag) (xs : List V) (H : Hp) (Q : VK) : Prop := match xs with
  | [.ref d] => ∃ ns : List Int, SqL K H d (ns.map V.int) ∧ ns.length + 1 < scanBound ∧ ∀ q, H q = none → Q (.ref q) (upd H q (.set (fun k => (uniq ns).any (· == k)) (uniq ns).length))
  | _ => False
theorem call_setA (hh : X.A.handled = none) : CallR X (.type "set") (setA X.K) := by
  intro pins s σ H xs us Q I r h
  unfold setA at h
  split at h
  · rename_i d
    obtain ⟨ns, hq, hb, q⟩ := h
    obtain ⟨u, rfl, rx⟩ := vals1 r
    cases rx
    obtain ⟨its, r', pl, hz⟩ := I.list hq
    have hlen := r'.length
    rw [List.length_map] at hlen
    have hi : IntsAre its.toArray.toList ns := intsAre_of r'
    have hs : its.toArray.size = ns.length := by rw [List.size_toArray, ← hlen]
    refine call_set_list hh pl.isList hi (by rw [hs]; exact hb) fun h' tk hS kp => ?_
    rw [hs] at hS
    have k2 : ∀ b u, s.heap.get? b = some u → h'.get? b = some u := fun b u e => kp b u (Heap.lt_size e) e
    exact ⟨.ref s.heap.objs.size, _, I.laid (t' := tk) k2 (Nat.le_refl _) (show ObjOk X.prog X.w _ h' _ (.set _ _) from hS), rfl, q _ (I.hok.fresh (Nat.le_refl _))⟩
  · exact h.elim
def lenSA (xs : List V) (H : Hp) (Q : VK) : Prop := match xs with
  | [.ref d] => ∃ S n, H d = some (.set S n) ∧ Q (.int n) H
  | _ => False
theorem call_lenSA : CallR X (.builtin "len") lenSA := by
  intro pins s σ H xs us Q I r h
  unfold lenSA at h
  split at h
  · rename_i d
    obtain ⟨S, n, hd, q⟩ := h
    obtain ⟨u, rfl, rx⟩ := vals1 r
    cases rx
    obtain ⟨o, es, ep, t, h1, h2, h3, _, _, h6, h7, h8⟩ := (show ObjOk X.prog X.w H s.heap d (.set S n) from I.hok d _ hd)
    subst h8
    have hb : es.size < 4096 := h6
    exact PySem.call_len_set h1 h2 h3 h7 (by omega) ⟨.int es.size, H, I.tok _, ⟨_, rfl⟩, q⟩
  · exact h.elim
def sortA (K : PySem.W.Frag) (xs : List V) (H : Hp) (Q : VK) : Prop := match xs with
  | [.ref d] => ∃ ns : List Int, SqL K H d (ns.map V.int) ∧ ns.length < 64 ∧ ∀ (ns' : List Int) q, ns'.Perm ns → ns'.Pairwise (· ≤ ·) → H q = none → Q (.ref q) (upd H q (.lst (ns'.map V.int)))
  | _ => False
theorem call_sortA : CallR X (.builtin "sorted") (sortA X.K) := by
  intro pins s σ H xs us Q I r h
  unfold sortA at h
  split at h
  · rename_i d
    obtain ⟨ns, hq, hb, q⟩ := h
    obtain ⟨u, rfl, rx⟩ := vals1 r
    cases rx
    obtain ⟨its, r', pl, hz⟩ := I.list hq
    have hlen := r'.length
    rw [List.length_map] at hlen
    refine sorted_ints pl.isList (intsAre_of r') (by omega) fun out ns' a1 a2 a3 => ?_
    obtain ⟨e, he⟩ := sortedAll_at s.heap its out
    have hl := a2.length_eq
    have hz' : (ns'.map V.int).length ≤ sizeLine := by rw [List.length_map, hl, sizeLine_eq]; omega
    exact ⟨.ref (s.heap.objs.size + 1), _, I.laid (t' := s.toks) (fun _ _ => sortedAll_old) (Nat.le_succ _) (show ObjOk X.prog X.w _ _ _ (.lst (ns'.map V.int)) from ⟨hz', out.toList, e, vals_ints a1, by simpa [seqObj] using he⟩), rfl, q ns' _ a2 a3 (I.hok.fresh (Nat.le_succ _))⟩
  · exact h.elim
def listA (K : PySem.W.Frag) (xs : List V) (H : Hp) (Q : VK) : Prop := match xs with
  | [.ref d] => ∃ ys, (SqL K H d ys ∨ SqT K H d ys) ∧ ∀ l, H l = none → Q (.ref l) (upd H l (.lst ys))
  | _ => False
theorem call_listA : CallR X (.type "list") (listA X.K) := (call_list_of (X := X)).imp fun xs H Q h => by
  unfold listA at h
  split at h
  · obtain ⟨ys, h1, q⟩ := h
    exact ⟨_, ys, rfl, h1, q⟩
  · exact h.elim
def tupleA (K : PySem.W.Frag) (xs : List V) (H : Hp) (Q : VK) : Prop := match xs with
  | [.ref d] => ∃ ys, (SqL K H d ys ∧ ∀ l, H l = none → Q (.ref l) (upd H l (.tup ys))) ∨ (SqT K H d ys ∧ Q (.ref d) H)
  | _ => False
theorem call_tupleA : CallR X (.type "tuple") (tupleA X.K) := (call_tuple_of (X := X)).imp fun xs H Q h => by
  unfold tupleA at h
  split at h
  · obtain ⟨ys, h1⟩ := h
    exact ⟨_, ys, rfl, h1⟩
  · exact h.elim
theorem kset (K : PySem.W.Frag) {j : Nat} (hr : Room j X.A) (hK : X.K = K := by rfl) : CallR X (.type "set") (setA K) := by
  subst hK; exact call_setA hr.hd
theorem ksort (K : PySem.W.Frag) (hK : X.K = K := by rfl) : CallR X (.builtin "sorted") (sortA K) := by
  subst hK; exact call_sortA
theorem klist (K : PySem.W.Frag) (hK : X.K = K := by rfl) : CallR X (.type "list") (listA K) := by
  subst hK; exact call_listA
theorem ktuple (K : PySem.W.Frag) (hK : X.K = K := by rfl) : CallR X (.type "tuple") (tupleA K) := by
  subst hK; exact call_tupleA
theorem r_set {K : PySem.W.Frag} {d : Addr} {H : Hp} {Q : VK} : (setA K [.ref d] H Q) = (∃ ns : List Int, SqL K H d (ns.map V.int) ∧ ns.length + 1 < scanBound ∧ ∀ q, H q = none → Q (.ref q) (upd H q (.set (fun k => (uniq ns).any (· == k)) (uniq ns).length))) := rfl
theorem r_lenS {d : Addr} {H : Hp} {Q : VK} : (lenSA [.ref d] H Q) = (∃ S n, H d = some (.set S n) ∧ Q (.int n) H) := rfl
theorem r_sort {K : PySem.W.Frag} {d : Addr} {H : Hp} {Q : VK} : (sortA K [.ref d] H Q) = (∃ ns : List Int, SqL K H d (ns.map V.int) ∧ ns.length < 64 ∧ ∀ (ns' : List Int) q, ns'.Perm ns → ns'.Pairwise (· ≤ ·) → H q = none → Q (.ref q) (upd H q (.lst (ns'.map V.int)))) := rfl
theorem r_list {K : PySem.W.Frag} {d : Addr} {H : Hp} {Q : VK} : (listA K [.ref d] H Q) = (∃ ys, (SqL K H d ys ∨ SqT K H d ys) ∧ ∀ l, H l = none → Q (.ref l) (upd H l (.lst ys))) := rfl
theorem r_tuple {K : PySem.W.Frag} {d : Addr} {H : Hp} {Q : VK} : (tupleA K [.ref d] H Q) = (∃ ys, (SqL K H d ys ∧ ∀ l, H l = none → Q (.ref l) (upd H l (.tup ys))) ∨ (SqT K H d ys ∧ Q (.ref d) H)) := rfl
theorem isA_lst {T : BT} {a : Addr} {xs : List V} {H : Hp} {Q : VK} (h : H a = some (.lst xs)) (q : Q (.bl (isSub .list T)) H) : isA T (.ref a) H Q := by
  simp only [isA, h]; exact q
theorem isA_tup {T : BT} {a : Addr} {xs : List V} {H : Hp} {Q : VK} (h : H a = some (.tup xs)) (q : Q (.bl (isSub .tuple T)) H) : isA T (.ref a) H Q := by
  simp only [isA, h]; exact q
end
/-! #### lists and tuples that are alike -/
theorem eqV_refl {x : V} (h : flatV x = true) : eqV x x = true := by
  cases x <;> simp_all [flatV, eqV]
theorem eqT_same {K : PySem.W.Frag} {H : Hp} {n : Nat} {a b : Addr} {xs : List V} (ha : SqL K H a xs) (hb : SqL K H b xs) (hf : xs.all flatV = true) : EqT K H (n + 1) (.ref a) (.ref b) true := by
  have h : EqT K H (n + 1) (.ref a) (.ref b) ((List.range xs.length).all fun _ => true) := .lst ha hb rfl fun i x y hx hy => by
    rw [hx] at hy
    cases hy
    have hfx := List.all_eq_true.mp hf x (List.mem_of_getElem? hx)
    have := EqD.flat (K := K) (H := H) (n := n) hfx hfx
    rwa [eqV_refl hfx] at this
  have e : ((List.range xs.length).all fun _ => true) = true := List.all_eq_true.mpr fun _ _ => rfl
  rwa [e] at h
theorem flat_ints (zs : List Int) : (zs.map V.int).all flatV = true := List.all_eq_true.mpr fun x hx => by
  obtain ⟨z, _, rfl⟩ := List.mem_map.mp hx
  rfl
theorem eqT_ints {K : PySem.W.Frag} {H : Hp} {n : Nat} {a b : Addr} {zs : List Int} (ha : SqL K H a (zs.map V.int)) (hb : SqL K H b (zs.map V.int)) : EqT K H (n + 1) (.ref a) (.ref b) true := eqT_same ha hb (flat_ints zs)
theorem eqT_pair {K : PySem.W.Frag} {H : Hp} {n : Nat} {a b : Addr} {x y z u : Int} (ha : SqT K H a [.int x, .int y]) (hb : SqT K H b [.int z, .int u]) : EqT K H (n + 1) (.ref a) (.ref b) (decide (x = z ∧ y = u)) := by
  have h : EqT K H (n + 1) (.ref a) (.ref b) ((List.range (min 2 2)).all (fun i => if i = 0 then eqV (.int x) (.int z) else eqV (.int y) (.int u)) && 2 == 2) := .tup ha hb fun i v v' h1 h2 => by
    match i, h1, h2 with
    | 0, h1, h2 => cases h1; cases h2; exact .flat rfl rfl
    | 1, h1, h2 => cases h1; cases h2; exact .flat rfl rfl
  have e : ((List.range (min 2 2)).all (fun i => if i = 0 then eqV (.int x) (.int z) else eqV (.int y) (.int u)) && 2 == 2) = decide (x = z ∧ y = u) := by
    have e1 : eqV (.int x) (.int z) = decide (x = z) := rfl
    have e2 : eqV (.int y) (.int u) = decide (y = u) := rfl
    show ((if 0 = 0 then eqV (.int x) (.int z) else eqV (.int y) (.int u)) && ((if 1 = 0 then eqV (.int x) (.int z) else eqV (.int y) (.int u)) && true) && true) = _
    rw [e1, e2]
    by_cases h1 : x = z <;> by_cases h2 : y = u <;> simp [h1, h2]
  rwa [e] at h
/-! #### objects of the text's own classes -/
/-- an attribute of the instance at p -/
def Fl (K : PySem.W.Frag) (H : Hp) (p : Addr) (f : Str) (v : V) : Prop := ∃ C dx fs, H p = some (.ins C dx fs) ∧ Cls K C ∧ NoAttr K C f ∧ fs.lookup f = some v
def fldA (K : PySem.W.Frag) (x : V) (f : Str) (H : Hp) (Q : VK) : Prop := match x with
  | .ref a => ∃ v, Fl K H a f v ∧ Q v H
  | _ => False
def cFld (K : PySem.W.Frag) (to : TE) (f : Str) : TE := fun σ H Q => to σ H fun x H1 => fldA K x f H1 Q
theorem r_fld {K : PySem.W.Frag} {a : Addr} {f : Str} {H : Hp} {Q : VK} : (fldA K (.ref a) f H Q) = (∃ v, Fl K H a f v ∧ Q v H) := rfl
/-- an instance of C without an own attribute of that name -/
def InsNo (C : Addr) (m : Str) (H : Hp) (a : Addr) : Prop := ∃ dx fs, H a = some (.ins C dx fs) ∧ fs.lookup m = none
structure MCal (P : Program) (w : World) (K : PySem.W.Frag) (mg : Str → Option Value) (base : Heap) (C : Addr) (m : Str) (ps : List Str) (k : Nat) (sp : Sp) : Prop where
  ex : ∃ f fd, FnOk P w K mg base CX0 k f fd ps sp ∧ Meth K C m f ∧ Binds K fd ps []
  cl : Cls K C
structure MkCal (P : Program) (w : World) (K : PySem.W.Frag) (mg : Str → Option Value) (base : Heap) (name : Str) (C : Addr) (ps : List Str) (k : Nat) (sp : Sp) : Prop where
  ex : ∃ f fd, Mk K C f ∧ FnOk P w K mg base CX0 k f fd ps sp ∧ mg name = some (.ref C) ∧ Binds K fd ps []
def methA (C : Addr) (m : Str) (x : V) (H : Hp) (R : Addr → Prop) : Prop := match x with
  | .ref a => InsNo C m H a ∧ R a
  | _ => False
def cMeth (C : Addr) (m : Str) (sp : Sp) (to : TE) (t : TA) : TE := fun σ H Q => to σ H fun x H1 => methA C m x H1 fun a => t σ H1 fun vs H2 => sp (.ref a :: vs) H2 Q E0
theorem r_meth {C : Addr} {m : Str} {a : Addr} {H : Hp} {R : Addr → Prop} : (methA C m (.ref a) H R) = (InsNo C m H a ∧ R a) := rfl
def cMake (C : Addr) (sp : Sp) (t : TA) : TE := fun σ H Q => t σ H fun vs H1 => ∀ x dx, H1 x = none → H1 dx = none → dx ≠ x → sp (.ref x :: vs) (upd (upd H1 dx (.own x)) x (.ins C dx [])) (fun v H2 => v = .non ∧ Q (.ref x) H2) E0
section
variable {X : Cx} {e o value : Expr} {te to tv : TE} {p pos pos' apos : Pos} {es : List Expr} {t : TA} {f m : Str}
theorem kfld (K : PySem.W.Frag) (ho : PE X o to) (hb : attributeBase o f X.env (eval o X.env) = eval o X.env := by rfl) (hK : X.K = K := by rfl) : PE X (.Attribute o f pos) (cFld K to f) := by
  subst hK
  intro pins s σ H Q I h
  refine attr_of hb (thn (ho pins s σ H _ I h) fun u s1 ⟨x, H1, I1, rx, q1⟩ => ?_)
  cases x with
  | ref a =>
    obtain ⟨v, ⟨C, dx, fs, ea, c, n, l⟩, q⟩ := q1
    obtain rfl : u = Value.ref a := rx
    exact getattr_ok I1 ea c n l fun u' s2 I2 ru => ⟨v, H1, I2, ru, q⟩
  | _ => exact q1.elim
theorem ksfld (K : PySem.W.Frag) (ho : PE X o to) (hv : PE X value tv) (hs : swapsWith value (some (.Attribute o f pos')) pos.line X.env = pure false := by rfl) (hK : X.K = K := by rfl) : PS X (.Assign [.Attribute o f pos'] value pos) (sFld K to tv f) := by
  subst hK; exact ps_fld ho hv hs
theorem kmeth {C : Addr} {ps : List Str} {k j : Nat} {sp : Sp} {pl : Sem Bool} (M : MCal X.prog X.w X.K X.mg X.base C m ps k sp) (hr : Room j X.A) (ho : PE X o to) (ha : PA X (e :: es) t) (hkj : k ≤ j := by decide) (hp : (e :: es).all plainE = true := by rfl)
    (ht : eval (.Call (.Attribute o m apos) (e :: es) [] pos) X.env = (do
      let ov ← eval o X.env
      standAt apos.atName
      let (f, first) ← holding [ov] (getMethod ov m pl)
      callWith pos f first (backTo pos (starEach (e :: es) X.env)) (backToKw pos (keywordEach [] X.env))) := by rfl) : PE X (.Call (.Attribute o m apos) (e :: es) [] pos) (cMeth C m sp to t) := by
  obtain ⟨f, fd, F, hm, hb⟩ := M.ex
  have hp' := hp
  rw [List.all_cons, Bool.and_eq_true] at hp'
  intro pins s σ H Q I h
  refine PySem.W.methodCall_KW (pl := pl) (thn (ho pins s σ H _ I h) fun u s1 ⟨x, H1, I1, rx, q⟩ => ?_) ht
  cases x with
  | ref a =>
    obtain ⟨⟨dx, fs, ea, l⟩, q⟩ := q
    obtain rfl : u = Value.ref a := rx
    refine getmeth_ok I1 ea M.cl hm l ?_
    refine PySem.W.callWith_K (first := [.ref a]) (h₀ := X.base) I.ok.mod.kin hm.kp (thn (ha pos pins s1 σ H1 _ I1 q) fun us s2 ⟨vs, H2, I2, r, q2⟩ => ⟨I2.kIn, ?_⟩) (star_of hp'.1) (back_of hp'.2)
    refine run_fn (us := .ref a :: us) (vs := .ref a :: vs) (dvs := []) (ds := []) F (hr.mono hkj) hb .nil pass0 I2 (.cons rfl r) ?_
    rw [List.append_nil]
    exact q2
  | _ => exact q.elim
theorem kmeth0 {C : Addr} {ps : List Str} {k j : Nat} {sp : Sp} {pl : Sem Bool} (M : MCal X.prog X.w X.K X.mg X.base C m ps k sp) (hr : Room j X.A) (ho : PE X o to) (hkj : k ≤ j := by decide)
    (ht : eval (.Call (.Attribute o m apos) [] [] pos) X.env = (do
      let ov ← eval o X.env
      standAt apos.atName
      let (f, first) ← holding [ov] (getMethod ov m pl)
      callWith pos f first (backTo pos (starEach [] X.env)) (backToKw pos (keywordEach [] X.env))) := by rfl) : PE X (.Call (.Attribute o m apos) [] [] pos) (cMeth C m sp to tNil) := by
  obtain ⟨f, fd, F, hm, hb⟩ := M.ex
  intro pins s σ H Q I h
  refine PySem.W.methodCall_KW (pl := pl) (thn (ho pins s σ H _ I h) fun u s1 ⟨x, H1, I1, rx, q⟩ => ?_) ht
  cases x with
  | ref a =>
    obtain ⟨⟨dx, fs, ea, l⟩, q⟩ := q
    obtain rfl : u = Value.ref a := rx
    refine getmeth_ok I1 ea M.cl hm l ?_
    refine PySem.W.callWith_K0 (first := [.ref a]) I1.kIn hm.kp (run_fn (us := [.ref a]) (vs := [.ref a]) (dvs := []) (ds := []) F (hr.mono hkj) hb .nil pass0 I1 (.cons rfl .nil) ?_)
    exact q
  | _ => exact q.elim
theorem kmake {name : Str} {C : Addr} {ps : List Str} {k j : Nat} {sp : Sp} (M : MkCal X.prog X.w X.K X.mg X.base name C ps k sp) (hr : Room j X.A) (ha : PA X (e :: es) t) (hkj : k + 1 ≤ j := by decide) (hp : (e :: es).all plainE = true := by rfl) (hg : Gl X name := by rfl) (hdb : (name == ("__debug__" : Str)) = false := by decide) :
    PE X (.Call (.Name name p) (e :: es) [] pos) (cMake C sp t) := by
  obtain ⟨f, fd, MK, F, hm, hb⟩ := M.ex
  have hp' := hp
  rw [List.all_cons, Bool.and_eq_true] at hp'
  refine (pe_make MK F (hr.mono hkj) hg hm hb .nil pass0 ha hdb (star_of hp'.1) (back_of hp'.2) : PE X _ (tMake C sp [] E0 t)).imp fun σ H Q h => ?_
  unfold tMake
  simp only [List.append_nil]
  exact h
/-! #### a display of tuples of constants -/
def constWs : List Expr → Option (List V)
  | [] => some []
  | .Constant (.int i) _ _ :: r => (constWs r).map (V.int i :: ·)
  | .Constant (.str x) _ _ :: r => (constWs r).map (V.str x :: ·)
  | .UnaryOp .USub (.Constant (.int i) _ _) _ :: r => (constWs r).map (V.int (-i) :: ·)
  | _ => none
theorem pa_constWs : ∀ {es : List Expr} {vs : List V}, constWs es = some vs → PA X es (cCs vs) := by
  intro es
  induction es with
  | nil => intro vs h; cases h; exact pa_nil
  | cons e r ih =>
    intro vs h
    unfold constWs at h
    split at h
    · rename_i e1; cases e1
    · rename_i e1
      cases e1
      obtain ⟨ws, h1, h2⟩ := Option.map_eq_some_iff.mp h
      subst h2
      exact pac pe_int (ih h1)
    · rename_i e1
      cases e1
      obtain ⟨ws, h1, h2⟩ := Option.map_eq_some_iff.mp h
      subst h2
      exact pac pe_str (ih h1)
    · rename_i e1
      cases e1
      obtain ⟨ws, h1, h2⟩ := Option.map_eq_some_iff.mp h
      subst h2
      exact pac (ce_neg pe_int) (ih h1)
    · cases h
def constTs : List Expr → Option (List (List V))
  | [] => some []
  | .Tuple es _ _ :: r => match constWs es, constTs r with
    | some v, some vs => some (v :: vs)
    | _, _ => none
  | _ => none
def cTs (vss : List (List V)) : TA := fun _ H Q => ∀ (qs : List Addr) (H' : Hp), qs.length = vss.length → (∀ (i : Nat) (q : Addr), qs[i]? = some q → ∃ v, vss[i]? = some v ∧ H' q = some (.tup v)) → Same H H' → Q (qs.map V.ref) H'
theorem pa_imp {t' : TA} (h : PA X es t) (hi : ∀ σ H Q, t' σ H Q → t σ H Q) : PA X es t' := fun pos pins s σ H Q I q => h pos pins s σ H Q I (hi σ H Q q)
theorem pa_tups : ∀ {es : List Expr} {vss : List (List V)}, constTs es = some vss → (vss.all fun v => decide (v.length ≤ 20)) = true → PA X es (cTs vss) := by
  intro es
  induction es with
  | nil =>
    intro vss h _
    cases h
    refine pa_imp pa_nil fun σ H Q q => ?_
    exact q [] H rfl (fun i q h => by simp at h) (Same.refl H)
  | cons e r ih =>
    intro vss h hl
    unfold constTs at h
    split at h
    · rename_i e1; cases e1
    · rename_i e1
      cases e1
      split at h
      · rename_i v vs h1 h2
        cases h
        rw [List.all_cons, Bool.and_eq_true] at hl
        refine pa_imp (pac (pe_tup (pa_constWs h1)) (ih h2 hl.2)) fun σ H Q q => ?_
        show v.length ≤ sizeLine ∧ _
        refine ⟨Nat.le_trans (of_decide_eq_true hl.1) (by decide), fun p hp => ?_⟩
        intro qs H' h1 h2 h3
        have hs : Same H H' := ((Same.refl H).upd hp).trans h3
        refine q (p :: qs) H' (by rw [List.length_cons, List.length_cons, h1]) (fun i z hz => ?_) hs
        cases i with
        | zero =>
          cases hz
          exact ⟨v, rfl, h3 _ _ upd_same⟩
        | succ i => exact h2 i z hz
      · cases h
    · cases h
end
/-! #### heaps that differ at one place -/
def SameBut (k : Addr) (H H' : Hp) : Prop := ∀ b o, H b = some o → b ≠ k → H' b = some o
theorem SameBut.refl {k : Addr} (H : Hp) : SameBut k H H := fun _ _ h _ => h
theorem Same.but {k : Addr} {H H' : Hp} (h : Same H H') : SameBut k H H' := fun b o e _ => h b o e
theorem SameBut.trans {k : Addr} {H H1 H2 : Hp} (a : SameBut k H H1) (b : SameBut k H1 H2) : SameBut k H H2 := fun c o e n => b c o (a c o e n) n
theorem SameBut.self {k : Addr} {H H' : Hp} {o : HO} (a : SameBut k H H') : SameBut k H (upd H' k o) := fun c ob e n => by
  rw [upd_ne n]; exact a c ob e n
theorem SameBut.new {k d : Addr} {H H' : Hp} {o : HO} (a : SameBut k H H') (hd : H d = none) : SameBut k H (upd H' d o) := fun c ob e n => by
  rw [upd_ne (ne_of_none e hd)]; exact a c ob e n
theorem Same.put {d : Addr} {H H' : Hp} {o : HO} (a : Same H H') (hd : H d = none) : Same H (L2.upd H' d o) := fun c ob e => by
  rw [upd_ne (ne_of_none e hd)]; exact a c ob e
theorem ne_of_get {H : Hp} {a b : Addr} {o o' : HO} (ha : H a = some o) (hb : H b = some o') (h : o ≠ o') : a ≠ b := fun e => by
  subst e; rw [ha] at hb; exact h (Option.some.inj hb)
/-! #### steps -/
theorem st_asgH {to tv : TE} {f : Str} {K : PySem.W.Frag} {u : TS} {D : Ends} {σ : St} {H : Hp} (P : V → Hp → Prop) (h : ∀ Q : VK, (∀ v H', P v H' → Q v H') → tv σ H Q) (p C dx : Addr) (hto : ∀ H' (Q : VK), Q (.ref p) H' → to σ H' Q) (hc : Cls K C) (hn : NoAttr K C f)
    (h2 : ∀ v H', P v H' → ∃ fs, H' p = some (.ins C dx fs) ∧ fs.length < 1000 ∧ u D σ (upd H' p (.ins C dx (putF f v fs)))) : tSeq (sFld K to tv f) u D σ H :=
  h _ fun v H' q => by
    obtain ⟨fs, e, l, r⟩ := h2 v H' q
    exact hto _ _ ⟨p, C, dx, fs, rfl, e, hc, hn, l, r⟩
theorem st_fld1 {to tv : TE} {f : Str} {K : PySem.W.Frag} {D : Ends} {σ : St} {H : Hp} (P : V → Hp → Prop) (h : ∀ Q : VK, (∀ v H', P v H' → Q v H') → tv σ H Q) (p C dx : Addr) (hto : ∀ H' (Q : VK), Q (.ref p) H' → to σ H' Q) (hc : Cls K C) (hn : NoAttr K C f)
    (h2 : ∀ v H', P v H' → ∃ fs, H' p = some (.ins C dx fs) ∧ fs.length < 1000 ∧ D.nx σ (upd H' p (.ins C dx (putF f v fs)))) : sFld K to tv f D σ H :=
  h _ fun v H' q => by
    obtain ⟨fs, e, l, r⟩ := h2 v H' q
    exact hto _ _ ⟨p, C, dx, fs, rfl, e, hc, hn, l, r⟩
theorem for_rng2 {ta : TA} {g : TG} {tb : TS} {D : Ends} {σ : St} {H : Hp} (m n : Int) (hta : ∀ Q : List V → Hp → Prop, Q [.int m, .int n] H → ta σ H Q) (h0 : -(2 ^ 62) ≤ m ∧ m < 2 ^ 62 ∧ -(2 ^ 62) ≤ n ∧ n < 2 ^ 62) (Pv : Nat → St → Hp → Prop) (hp0 : Pv 0 σ H)
    (hs : ∀ i σ H, i < (n - m).toNat → Pv i σ H → g (.int (m + i)) σ H fun σ2 H2 => tb { D with nx := Pv (i + 1), ct := Pv (i + 1), bk := D.nx } σ2 H2) (hd : ∀ σ H, Pv (n - m).toNat σ H → D.nx σ H) : tFor (iRng2 ta) g tb D σ H :=
  hta _ ⟨m, n, rfl, h0, for_range Pv hp0 hs hd⟩
/-- an expression statement -/
theorem st_exp {te : TE} {u : TS} {D : Ends} {σ : St} {H : Hp} (P : Hp → Prop) (h : ∀ Q : VK, (∀ v H', P H' → Q v H') → te σ H Q) (h2 : ∀ H', P H' → u D σ H') : tSeq (tDrop te) u D σ H := h _ fun _ H' p => h2 H' p
end L2

namespace L2
open PySem PySem.Spec PyProof.Rows
/-! #### expressions and tests that tell one value and leave the heap as it is -/
def Ev (t : TE) (σ : St) (H : Hp) (v : V) : Prop := ∀ Q : VK, Q v H → t σ H Q
def Tv (t : TT) (σ : St) (H : Hp) (b : Bool) : Prop := ∀ Q : Bool → Hp → Prop, Q b H → t σ H Q
def Av (t : TA) (σ : St) (H : Hp) (vs : List V) : Prop := ∀ Q : List V → Hp → Prop, Q vs H → t σ H Q
section
variable {K : PySem.W.Frag} {σ : St} {H : Hp} {ta tb tc te to : TE} {t u : TT} {x y : V} {i j k : Int} {a b : Bool} {z z' : Str}
theorem ev_c : Ev (tC x) σ H x := fun Q q => q
theorem ev_v {n : Nat} (h : σ[n]? = some (some x)) : Ev (cVar n) σ H x := fun Q q => by unfold cVar; rw [h]; exact q
theorem ev_add (ha : Ev ta σ H (.int i)) (hb : Ev tb σ H (.int j)) : Ev (cBin .Add ta tb) σ H (.int (i + j)) := fun Q q => ha _ (hb _ q)
theorem ev_sub (ha : Ev ta σ H (.int i)) (hb : Ev tb σ H (.int j)) : Ev (cBin .Sub ta tb) σ H (.int (i - j)) := fun Q q => ha _ (hb _ q)
theorem ev_mul (ha : Ev ta σ H (.int i)) (hb : Ev tb σ H (.int j)) (h : CMul i j) : Ev (cBin .Mult ta tb) σ H (.int (i * j)) := fun Q q => ha _ (hb _ ⟨h, q⟩)
theorem ev_div (ha : Ev ta σ H (.int i)) (hb : Ev tb σ H (.int j)) (h : CDiv i j) : Ev (cBin .FloorDiv ta tb) σ H (.int (i / j)) := fun Q q => ha _ (hb _ ⟨h, q⟩)
theorem ev_mod (ha : Ev ta σ H (.int i)) (hb : Ev tb σ H (.int j)) (h : 0 < j) : Ev (cBin .Mod ta tb) σ H (.int (i % j)) := fun Q q => ha _ (hb _ ⟨h, q⟩)
theorem ev_neg (ha : Ev ta σ H (.int i)) : Ev (cNeg ta) σ H (.int (-i)) := fun Q q => ha _ q
theorem ev_adds (ha : Ev ta σ H (.str z)) (hb : Ev tb σ H (.str z')) (h : z.length + z'.length ≤ sizeLine) : Ev (cBin .Add ta tb) σ H (.str (z ++ z')) := fun Q q => ha _ (hb _ ⟨h, q⟩)
theorem ev_fld {p : Addr} {f : Str} (ho : Ev to σ H (.ref p)) (h : Fl K H p f x) : Ev (cFld K to f) σ H x := fun Q q => ho _ ⟨x, h, q⟩
theorem ev_ix {p : Addr} {xs : List V} (ho : Ev to σ H (.ref p)) (hi : Ev ta σ H (.int i)) (h : SqL K H p xs ∨ SqT K H p xs) (e : atI xs i = some x) : Ev (cIx K to ta) σ H x := fun Q q => ho _ (hi _ ⟨xs, x, h, e, q⟩)
theorem ev_ixs {c : Nat} (ho : Ev to σ H (.str z)) (hi : Ev ta σ H (.int i)) (h : z.length ≤ sizeLine) (e : atI z.cps.toList i = some c) : Ev (cIx K to ta) σ H (.str ⟨#[c]⟩) := fun Q q => ho _ (hi _ ⟨h, c, e, q⟩)
theorem ev_len {p : Addr} {xs : List V} (ho : Ev to σ H (.ref p)) (h : SqL K H p xs ∨ SqT K H p xs) : Ev (cB (lenA K) (tCons to tNil)) σ H (.int xs.length) := fun Q q => ho _ ⟨xs, h, q⟩
theorem ev_lens (ho : Ev to σ H (.str z)) (h : z.length ≤ sizeLine) : Ev (cB (lenA K) (tCons to tNil)) σ H (.int z.length) := fun Q q => ho _ ⟨h, q⟩
theorem ev_min (ha : Ev ta σ H (.int i)) (hb : Ev tb σ H (.int j)) : Ev (cB minA (tCons ta (tCons tb tNil))) σ H (.int (if j < i then j else i)) := fun Q q => ha _ (hb _ q)
theorem ev_isl {p : Addr} {xs : List V} {T : BT} (ho : Ev to σ H (.ref p)) (h : H p = some (.lst xs)) : Ev (cIs T to) σ H (.bl (isSub .list T)) := fun Q q => ho _ (isA_lst h q)
theorem ev_ist {p : Addr} {xs : List V} {T : BT} (ho : Ev to σ H (.ref p)) (h : H p = some (.tup xs)) : Ev (cIs T to) σ H (.bl (isSub .tuple T)) := fun Q q => ho _ (isA_tup h q)
theorem ev_isi {T : BT} (ho : Ev to σ H (.int i)) : Ev (cIs T to) σ H (.bl (isSub .int T)) := fun Q q => ho _ q
theorem ev_iss {T : BT} (ho : Ev to σ H (.str z)) : Ev (cIs T to) σ H (.bl (isSub .str T)) := fun Q q => ho _ q
theorem ev_not (ha : Ev ta σ H (.bl a)) : Ev (cNotV ta) σ H (.bl (!a)) := fun Q q => ha _ q
theorem ev_and (ha : Ev ta σ H (.bl a)) (hb : a = true → Ev tb σ H (.bl b)) : Ev (cAndV ta tb) σ H (.bl (a && b)) := fun Q q => ha _ (by
  cases a with
  | true => exact hb rfl Q q
  | false => exact q)
theorem ev_or (ha : Ev ta σ H (.bl a)) (hb : a = false → Ev tb σ H (.bl b)) : Ev (cOrV ta tb) σ H (.bl (a || b)) := fun Q q => ha _ (by
  cases a with
  | true => exact q
  | false => exact hb rfl Q q)
theorem ev_if (ht : Tv t σ H b) (h1 : b = true → Ev ta σ H x) (h2 : b = false → Ev tb σ H y) : Ev (tIf t ta tb) σ H (if b = true then x else y) := fun Q q => ht _ (by
  cases b with
  | true => exact iteT (h1 rfl _ q)
  | false => exact iteF (h2 rfl _ q))
theorem ev_eq (ha : Ev ta σ H (.int i)) (hb : Ev tb σ H (.int j)) : Ev (cCmp K .Eq ta tb) σ H (.bl (decide (i = j))) := fun Q q => ha _ (hb _ q)
theorem ev_ne (ha : Ev ta σ H (.int i)) (hb : Ev tb σ H (.int j)) : Ev (cCmp K .NotEq ta tb) σ H (.bl (!decide (i = j))) := fun Q q => ha _ (hb _ q)
theorem ev_lt (ha : Ev ta σ H (.int i)) (hb : Ev tb σ H (.int j)) : Ev (cCmp K .Lt ta tb) σ H (.bl (decide (i < j))) := fun Q q => ha _ (hb _ q)
theorem ev_le (ha : Ev ta σ H (.int i)) (hb : Ev tb σ H (.int j)) : Ev (cCmp K .LtE ta tb) σ H (.bl (decide (i ≤ j))) := fun Q q => ha _ (hb _ q)
theorem ev_gt (ha : Ev ta σ H (.int i)) (hb : Ev tb σ H (.int j)) : Ev (cCmp K .Gt ta tb) σ H (.bl (decide (j < i))) := fun Q q => ha _ (hb _ q)
theorem ev_ge (ha : Ev ta σ H (.int i)) (hb : Ev tb σ H (.int j)) : Ev (cCmp K .GtE ta tb) σ H (.bl (decide (j ≤ i))) := fun Q q => ha _ (hb _ q)
theorem ev_eqs (ha : Ev ta σ H (.str z)) (hb : Ev tb σ H (.str z')) : Ev (cCmp K .Eq ta tb) σ H (.bl (decide (z = z'))) := fun Q q => ha _ (hb _ q)
theorem ev_nes (ha : Ev ta σ H (.str z)) (hb : Ev tb σ H (.str z')) : Ev (cCmp K .NotEq ta tb) σ H (.bl (!decide (z = z'))) := fun Q q => ha _ (hb _ q)
theorem ev_eqr {p q : Addr} (ha : Ev ta σ H (.ref p)) (hb : Ev tb σ H (.ref q)) (h : EqT K H 20 (.ref p) (.ref q) a) : Ev (cCmp K .Eq ta tb) σ H (.bl a) := fun Q k => ha _ (hb _ ⟨a, h, k⟩)
theorem ev_ner {p q : Addr} (ha : Ev ta σ H (.ref p)) (hb : Ev tb σ H (.ref q)) (h : EqT K H 20 (.ref p) (.ref q) a) : Ev (cCmp K .NotEq ta tb) σ H (.bl (!a)) := fun Q k => ha _ (hb _ ⟨a, h, k⟩)
theorem inV_ints (i : Int) (ns : List Int) : inV (.int i) (ns.map V.int) = decide (i ∈ ns) := by
  unfold inV
  rw [List.any_map]
  by_cases h : i ∈ ns
  · rw [decide_eq_true h]
    exact List.any_eq_true.mpr ⟨i, h, by simp [eqV]⟩
  · rw [decide_eq_false h]
    apply List.any_eq_false.mpr
    intro y hy
    have : y ≠ i := fun e => h (e ▸ hy)
    simp [eqV, this]
theorem ev_in {p : Addr} {ns : List Int} (ha : Ev ta σ H (.int i)) (hb : Ev tb σ H (.ref p)) (h : SqL K H p (ns.map V.int) ∨ SqT K H p (ns.map V.int)) : Ev (cCmp K .In ta tb) σ H (.bl (decide (i ∈ ns))) := fun Q q => ha _ (hb _ (by
  rw [r_in_int_ref]
  refine ⟨p, _, rfl, h, rfl, flat_ints ns, ?_⟩
  rw [inV_ints]
  exact q))
theorem ev_nin {p : Addr} {ns : List Int} (ha : Ev ta σ H (.int i)) (hb : Ev tb σ H (.ref p)) (h : SqL K H p (ns.map V.int) ∨ SqT K H p (ns.map V.int)) : Ev (cCmp K .NotIn ta tb) σ H (.bl (!decide (i ∈ ns))) := fun Q q => ha _ (hb _ (by
  rw [r_notin_int_ref]
  refine ⟨p, _, rfl, h, rfl, flat_ints ns, ?_⟩
  rw [inV_ints]
  exact q))
theorem ev_isnot_i (ha : Ev ta σ H (.int i)) (hb : Ev tb σ H .non) : Ev (cCmp K .IsNot ta tb) σ H (.bl true) := fun Q q => ha _ (hb _ q)
theorem ev_isnot_n (ha : Ev ta σ H .non) (hb : Ev tb σ H .non) : Ev (cCmp K .IsNot ta tb) σ H (.bl false) := fun Q q => ha _ (hb _ q)
theorem ev_is_i (ha : Ev ta σ H (.int i)) (hb : Ev tb σ H .non) : Ev (cCmp K .Is ta tb) σ H (.bl false) := fun Q q => ha _ (hb _ q)
theorem ev_is_n (ha : Ev ta σ H .non) (hb : Ev tb σ H .non) : Ev (cCmp K .Is ta tb) σ H (.bl true) := fun Q q => ha _ (hb _ q)
theorem ev_clel (ha : Ev ta σ H (.int i)) (hb : Ev tb σ H (.int j)) (hc : i ≤ j → Ev tc σ H (.int k)) : Ev (cChain K .LtE .Lt ta tb tc) σ H (.bl (decide (i ≤ j ∧ j < k))) := fun Q q => ha _ (hb _ (by
  rw [r_lte_int]
  by_cases h : i ≤ j
  · rw [decide_eq_true h]
    refine hc h _ ?_
    have e : decide (i ≤ j ∧ j < k) = decide (j < k) := by simp [h]
    rw [e] at q
    exact q
  · rw [decide_eq_false h]
    have e : decide (i ≤ j ∧ j < k) = false := by simp [h]
    rw [e] at q
    exact q))
theorem ev_clee (ha : Ev ta σ H (.int i)) (hb : Ev tb σ H (.int j)) (hc : i ≤ j → Ev tc σ H (.int k)) : Ev (cChain K .LtE .LtE ta tb tc) σ H (.bl (decide (i ≤ j ∧ j ≤ k))) := fun Q q => ha _ (hb _ (by
  rw [r_lte_int]
  by_cases h : i ≤ j
  · rw [decide_eq_true h]
    refine hc h _ ?_
    have e : decide (i ≤ j ∧ j ≤ k) = decide (j ≤ k) := by simp [h]
    rw [e] at q
    exact q
  · rw [decide_eq_false h]
    have e : decide (i ≤ j ∧ j ≤ k) = false := by simp [h]
    rw [e] at q
    exact q))
theorem ev_call {sp : Sp} {t : TA} {vs : List V} (ht : Av t σ H vs) (h : ∀ Q : VK, Q x H → sp vs H Q E0) : Ev (cCall sp t) σ H x := fun Q q => ht _ (h Q q)
theorem av_nil : Av tNil σ H [] := fun Q q => q
theorem av_cons {t : TA} {vs : List V} (ha : Ev ta σ H x) (ht : Av t σ H vs) : Av (tCons ta t) σ H (x :: vs) := fun Q q => ha _ (ht _ q)
theorem av_cs {vs : List V} : Av (cCs vs) σ H vs := fun Q q => q
theorem tv_e (h : Ev te σ H (.bl b)) : Tv (cTest te) σ H b := fun Q q => h _ q
theorem tv_not (h : Tv t σ H b) : Tv (tNot t) σ H (!b) := fun Q q => h _ q
theorem tv_and (ha : Tv t σ H a) (hb : a = true → Tv u σ H b) : Tv (tAnd t u) σ H (a && b) := fun Q q => ha _ (by
  cases a with
  | true => exact iteT (hb rfl _ q)
  | false => exact iteF q)
theorem tv_or (ha : Tv t σ H a) (hb : a = false → Tv u σ H b) : Tv (tOr t u) σ H (a || b) := fun Q q => ha _ (by
  cases a with
  | true => exact iteT q
  | false => exact iteF (hb rfl _ q))
theorem tv_clel (ha : Ev ta σ H (.int i)) (hb : Ev tb σ H (.int j)) (hc : i ≤ j → Ev tc σ H (.int k)) : Tv (cChainT K .LtE .Lt ta tb tc) σ H (decide (i ≤ j ∧ j < k)) := fun Q q => ha _ (hb _ (by
  rw [r_lte_int]
  by_cases h : i ≤ j
  · rw [decide_eq_true h]
    refine hc h _ ?_
    have e : decide (i ≤ j ∧ j < k) = decide (j < k) := by simp [h]
    rw [e] at q
    exact q
  · rw [decide_eq_false h]
    have e : decide (i ≤ j ∧ j < k) = false := by simp [h]
    rw [e] at q
    exact q))
theorem tv_clee (ha : Ev ta σ H (.int i)) (hb : Ev tb σ H (.int j)) (hc : i ≤ j → Ev tc σ H (.int k)) : Tv (cChainT K .LtE .LtE ta tb tc) σ H (decide (i ≤ j ∧ j ≤ k)) := fun Q q => ha _ (hb _ (by
  rw [r_lte_int]
  by_cases h : i ≤ j
  · rw [decide_eq_true h]
    refine hc h _ ?_
    have e : decide (i ≤ j ∧ j ≤ k) = decide (j ≤ k) := by simp [h]
    rw [e] at q
    exact q
  · rw [decide_eq_false h]
    have e : decide (i ≤ j ∧ j ≤ k) = false := by simp [h]
    rw [e] at q
    exact q))
end
/-! #### steps by these -/
section
variable {te : TE} {c : TT} {t u : TS} {D : Ends} {σ : St} {H : Hp} {v : V} {b : Bool}
theorem st_set {i : Nat} (h : Ev te σ H v) (h2 : u D (σ.set i (some v)) H) : tSeq (tAsg te (gName i)) u D σ H := h _ h2
theorem st_set1 {i : Nat} (h : Ev te σ H v) (h2 : D.nx (σ.set i (some v)) H) : tAsg te (gName i) D σ H := h _ h2
theorem st_ret (h : Ev te σ H v) (h2 : D.rt v H) : tRet te D σ H := h _ h2
/-- if c: t (no else), then u -/
theorem st_tst (hc : Tv c σ H b) (h1 : b = true → t { D with nx := u D } σ H) (h2 : b = false → u D σ H) : tSeq (tIfS c t tNext) u D σ H := hc _ (by
  cases b with
  | true => exact iteT (h1 rfl)
  | false => exact iteF (h2 rfl))
theorem st_tst1 (hc : Tv c σ H b) (h1 : b = true → t D σ H) (h2 : b = false → D.nx σ H) : tIfS c t tNext D σ H := hc _ (by
  cases b with
  | true => exact iteT (h1 rfl)
  | false => exact iteF (h2 rfl))
/-- if c: t else: t' -/
theorem st_els {t' : TS} (hc : Tv c σ H b) (h1 : b = true → t { D with nx := u D } σ H) (h2 : b = false → t' { D with nx := u D } σ H) : tSeq (tIfS c t t') u D σ H := hc _ (by
  cases b with
  | true => exact iteT (h1 rfl)
  | false => exact iteF (h2 rfl))
end
/-! #### comprehensions whose parts tell one value and leave the heap -/
section
variable {K : PySem.W.Frag} {σ rest : St} {H : Hp} {tl te : TE} {tt : TT} {src : List (Option Nat)} {Q : VK}
theorem tv_noif : Tv tNoIf σ H true := fun Q q => q
theorem comp_evI {J : It} {xs : List V} (hz : xs.length ≤ sizeLine) (hs : subSt src σ = none :: rest) (p : V → Bool) (f : V → V) (hgo : ∀ i, i < xs.length → J.go i H) (hstop : J.stop xs.length H) (hyld : ∀ i v H', i < xs.length → J.yld i H v H' → H' = H ∧ xs[i]? = some v)
    (ht : ∀ x ∈ xs, Tv tt (some x :: rest) H (p x)) (he : ∀ x ∈ xs, p x = true → Ev te (some x :: rest) H (f x)) (q : ∀ d', H d' = none → Q (.ref d') (upd H d' (.lst ((xs.filter p).map f)))) : compWant (gName 0) tt te src σ Q J H := by
  refine ⟨fun i m ys σ' H' => m = xs.length - i ∧ i ≤ xs.length ∧ ys = ((xs.take i).filter p).map f ∧ (∃ o, σ' = o :: rest) ∧ H' = H, ⟨xs.length, by simp, Nat.zero_le _, by simp, ⟨none, hs⟩, rfl⟩, ?_⟩
  rintro i m ys σ' H' ⟨rfl, hi, rfl, ⟨o, rfl⟩, rfl⟩
  by_cases hlt : i < xs.length
  · refine .inr ⟨hgo i hlt, ?_, fun x H2 y => ?_⟩
    · rw [List.length_map]
      have h1 := List.length_filter_le p (xs.take i)
      rw [List.length_take] at h1
      omega
    · obtain ⟨rfl, hx⟩ := hyld i x H2 hlt y
      have tk : (xs.take (i + 1)).filter p = (xs.take i).filter p ++ (if p x then [x] else []) := take_succ_filter p xs i x hx
      have hm : x ∈ xs := List.mem_of_getElem? hx
      show tt (some x :: rest) H2 _
      refine ht x hm _ ?_
      cases hp : p x with
      | true =>
        refine iteT (he x hm hp _ ?_)
        refine ⟨xs.length - (i + 1), by omega, rfl, hlt, ?_, ⟨_, rfl⟩, rfl⟩
        rw [tk, hp, if_pos rfl, List.map_append]
        rfl
      | false =>
        refine iteF ?_
        refine ⟨xs.length - (i + 1), by omega, rfl, hlt, ?_, ⟨_, rfl⟩, rfl⟩
        rw [tk, hp, if_neg (by simp), List.append_nil]
  · have e : i = xs.length := by omega
    subst e
    refine .inl ⟨hstop, fun d hd => ?_⟩
    rw [List.take_length]
    exact q d hd
theorem comp_ev {d : Addr} {xs : List V} (hl : Ev tl σ H (.ref d)) (hx : SqL K H d xs) (hz : xs.length ≤ sizeLine) (hs : subSt src σ = none :: rest) (p : V → Bool) (f : V → V)
    (ht : ∀ x ∈ xs, Tv tt (some x :: rest) H (p x)) (he : ∀ x ∈ xs, p x = true → Ev te (some x :: rest) H (f x)) (q : ∀ d', H d' = none → Q (.ref d') (upd H d' (.lst ((xs.filter p).map f)))) : tComp (iList K tl) (gName 0) tt te src σ H Q :=
  hl _ ⟨d, rfl, ⟨xs, hx⟩, comp_evI hz hs p f (fun i hi => ⟨xs, xs[i], hx, List.getElem?_eq_getElem hi⟩) ⟨xs, hx, Nat.le_refl _⟩ (fun i v H' _ y => ⟨y.1, y.2 xs hx⟩) ht he q⟩
theorem comp_evR {ta : TA} {n : Int} (hl : Av ta σ H [.int n]) (h0 : 0 ≤ n) (hz : n.toNat ≤ sizeLine) (h1 : n < 2 ^ 62) (hs : subSt src σ = none :: rest) (p : V → Bool) (f : V → V)
    (ht : ∀ i : Nat, i < n.toNat → Tv tt (some (.int (0 + (i : Int))) :: rest) H (p (.int (0 + (i : Int))))) (he : ∀ i : Nat, i < n.toNat → p (.int (0 + (i : Int))) = true → Ev te (some (.int (0 + (i : Int))) :: rest) H (f (.int (0 + (i : Int)))))
    (q : ∀ d', H d' = none → Q (.ref d') (upd H d' (.lst ((((List.range n.toNat).map fun (i : Nat) => V.int (0 + (i : Int))).filter p).map f)))) : tComp (iRng1 ta) (gName 0) tt te src σ H Q := by
  have hin : ∀ x ∈ (List.range n.toNat).map fun (i : Nat) => V.int (0 + (i : Int)), ∃ i : Nat, i < n.toNat ∧ x = .int (0 + (i : Int)) := fun x hx => by
    obtain ⟨i, hi, rfl⟩ := List.mem_map.mp hx
    exact ⟨i, List.mem_range.mp hi, rfl⟩
  have hlen : ((List.range n.toNat).map fun (i : Nat) => V.int (0 + (i : Int))).length = n.toNat := by simp
  refine hl _ ⟨n, rfl, by omega, h1, comp_evI (xs := (List.range n.toNat).map fun (i : Nat) => V.int (0 + (i : Int))) (by rw [hlen]; exact hz) hs p f (fun i hi => by rw [hlen] at hi; exact hi) (by rw [hlen]; exact Nat.le_refl _) (fun i v H' hi y => ⟨y.1, ?_⟩) (fun x hx => ?_) (fun x hx hp => ?_) q⟩
  · rw [hlen] at hi
    rw [List.getElem?_map, List.getElem?_range hi, y.2]
    rfl
  · obtain ⟨i, hi, rfl⟩ := hin x hx
    exact ht i hi
  · obtain ⟨i, hi, rfl⟩ := hin x hx
    exact he i hi hp
end
section
variable {K : PySem.W.Frag} {te to tv : TE} {t : TA} {c : TT} {u : TS} {D : Ends} {σ : St} {H : Hp} {v x y : V}
theorem ev_meth {C p : Addr} {m : Str} {sp : Sp} {vs : List V} (ho : Ev to σ H (.ref p)) (hi : InsNo C m H p) (ht : Av t σ H vs) (h : ∀ Q : VK, Q x H → sp (.ref p :: vs) H Q E0) : Ev (cMeth C m sp to t) σ H x := fun Q q => ho _ ⟨hi, ht _ (h Q q)⟩
theorem st_app {l : Addr} {xs : List V} (ho : Ev to σ H (.ref l)) (he : Ev te σ H y) (hl : H l = some (.lst xs)) (hz : xs.length < sizeLine) (h2 : u D σ (upd H l (.lst (xs ++ [y])))) : tSeq (tDrop (cApp to te)) u D σ H := ho _ ⟨⟨xs, hl⟩, he _ ⟨xs, hl, hz, h2⟩⟩
theorem st_app1 {l : Addr} {xs : List V} (ho : Ev to σ H (.ref l)) (he : Ev te σ H y) (hl : H l = some (.lst xs)) (hz : xs.length < sizeLine) (h2 : D.nx σ (upd H l (.lst (xs ++ [y])))) : tDrop (cApp to te) D σ H := ho _ ⟨⟨xs, hl⟩, he _ ⟨xs, hl, hz, h2⟩⟩
theorem st_fld {f : Str} {p C dx : Addr} {fs : List (Str × V)} (h : Ev tv σ H v) (ho : Ev to σ H (.ref p)) (hp : H p = some (.ins C dx fs)) (hc : Cls K C) (hn : NoAttr K C f) (hl : fs.length < 1000) (h2 : u D σ (upd H p (.ins C dx (putF f v fs)))) : tSeq (sFld K to tv f) u D σ H := h _ (ho _ ⟨p, C, dx, fs, rfl, hp, hc, hn, hl, h2⟩)
/-- x = [] -/
theorem st_nil {i : Nat} (h2 : ∀ q, H q = none → u D (σ.set i (some (.ref q))) (upd H q (.lst []))) : tSeq (tAsg (tLst tNil) (gName i)) u D σ H := ⟨Nat.zero_le _, fun q hq => h2 q hq⟩
end
/-! #### one step into an expression -/
section
variable {K : PySem.W.Frag} {te to ta tb ti : TE} {t : TA} {c : TT} {σ : St} {H : Hp} {Q : VK} {R : Bool → Hp → Prop} {v x y : V} {vs : List V} {sp : Sp}
theorem evk (h : Ev te σ H v) (q : Q v H) : te σ H Q := h Q q
theorem cal_k (h : Av t σ H vs) (q : sp vs H Q E0) : cCall sp t σ H Q := h _ q
theorem calT_k (h : Av t σ H vs) (q : sp vs H (bOnly R) E0) : cTest (cCall sp t) σ H R := h _ q
theorem calN_k (h : Av t σ H vs) (q : sp vs H (bOnly fun c H1 => R (!c) H1) E0) : tNot (cTest (cCall sp t)) σ H R := h _ q
theorem b1_k {r : List V → Hp → VK → Prop} (h : Ev to σ H v) (q : r [v] H Q) : cB r (tCons to tNil) σ H Q := h _ q
theorem tup2_k (ha : Ev ta σ H x) (hb : Ev tb σ H y) (q : ∀ p, H p = none → Q (.ref p) (upd H p (.tup [x, y]))) : tTup (tCons ta (tCons tb tNil)) σ H Q := ha _ (hb _ ⟨by show 2 ≤ sizeLine; decide, q⟩)
/-- [..][i], a display of values -/
theorem lix_k {i : Int} (h : Av t σ H vs) (hz : vs.length ≤ 1000) (hi : ∀ H', Ev ti σ H' (.int i)) (e : atI vs i = some v) (q : ∀ H', Same H H' → Q v H') : cIx K (tLst t) ti σ H Q := h _ ⟨Nat.le_trans hz (by decide), fun p hp => hi _ _ ⟨vs, v, .inl (SqL.of upd_same), e, q _ ((Same.refl H).upd hp)⟩⟩
/-- x == (a, b) -/
theorem eqp_k {p : Addr} {i j i' j' : Int} (hx : Ev te σ H (.ref p)) (hp : H p = some (.tup [.int i, .int j])) (ha : Ev ta σ H (.int i')) (hb : Ev tb σ H (.int j')) (q : ∀ H', Same H H' → R (decide (i = i' ∧ j = j')) H') : cTest (cCmp K .Eq te (tTup (tCons ta (tCons tb tNil)))) σ H R :=
  hx _ (ha _ (hb _ ⟨by show 2 ≤ sizeLine; decide, fun t ht => by
    show cmpA K .Eq (.ref p) (.ref t) _ (bOnly R)
    rw [r_eq_rr]
    exact ⟨_, eqT_pair (SqT.of (by rw [upd_ne (ne_of_none hp ht)]; exact hp)) (SqT.of upd_same), q _ ((Same.refl H).upd ht)⟩⟩))
end
section
variable {K : PySem.W.Frag} {te to ta tb : TE} {D : Ends} {σ : St} {H : Hp} {Q : VK} {x y : V}
theorem app_k {l : Addr} (ho : Ev to σ H (.ref l)) (hl : ∃ xs, H l = some (.lst xs)) (q : te σ H fun y H2 => ∃ xs, H2 l = some (.lst xs) ∧ xs.length < sizeLine ∧ D.nx σ (upd H2 l (.lst (xs ++ [y])))) : tDrop (cApp to te) D σ H := ho _ ⟨hl, q⟩
/-- (x, list(y)) -/
theorem tupl_k {d : Addr} {ys : List V} (ha : Ev ta σ H x) (hb : Ev tb σ H (.ref d)) (hd : SqL K H d ys ∨ SqT K H d ys) (q : ∀ c, H c = none → ∀ t, (upd H c (.lst ys)) t = none → Q (.ref t) (upd (upd H c (.lst ys)) t (.tup [x, .ref c]))) : tTup (tCons ta (tCons (cB (listA K) (tCons tb tNil)) tNil)) σ H Q :=
  ha _ (hb _ ⟨ys, hd, fun c hc => ⟨by show 2 ≤ sizeLine; decide, fun t ht => q c hc t ht⟩⟩)
/-- C(a, b, list(y)) -/
theorem make3_k {C d : Addr} {sp : Sp} {tc : TE} {ys : List V} (ha : Ev ta σ H x) (hb : Ev tb σ H y) (hc : Ev tc σ H (.ref d)) (hd : SqL K H d ys ∨ SqT K H d ys)
    (q : ∀ l, H l = none → ∀ p dx, (upd H l (.lst ys)) p = none → (upd H l (.lst ys)) dx = none → dx ≠ p → sp [.ref p, x, y, .ref l] (upd (upd (upd H l (.lst ys)) dx (.own p)) p (.ins C dx [])) (fun v H2 => v = .non ∧ Q (.ref p) H2) E0) :
    cMake C sp (tCons ta (tCons tb (tCons (cB (listA K) (tCons tc tNil)) tNil))) σ H Q := ha _ (hb _ (hc _ ⟨ys, hd, fun l hl => fun p dx np nd ne => q l hl p dx np nd ne⟩))
end
end L2

namespace L2
open PySem PySem.Spec PyProof.Rows
/-! #### boards as objects -/
def oI : Option Int → V
  | some n => .int n
  | none => .non
/-- what the class Board must be -/
structure BrdC (K : PySem.W.Frag) (C : Addr) : Prop where
  cl : Cls K C
  wide : NoAttr K C "wide"
  high : NoAttr K C "high"
  holes : NoAttr K C "holes"
  firm : NoAttr K C "firm"
def bflds (wi hi : Int) (ph pf : Addr) : List (Str × V) := putF "firm" (.ref pf) (putF "holes" (.ref ph) (putF "high" (.int hi) (putF "wide" (.int wi) [])))
theorem bf_wide (wi hi : Int) (ph pf : Addr) : (bflds wi hi ph pf).lookup ("wide" : Str) = some (.int wi) := by
  unfold bflds
  rw [lookup_putF, if_neg (by decide +kernel), lookup_putF, if_neg (by decide +kernel), lookup_putF, if_neg (by decide +kernel), lookup_putF, if_pos rfl]
theorem bf_high (wi hi : Int) (ph pf : Addr) : (bflds wi hi ph pf).lookup ("high" : Str) = some (.int hi) := by
  unfold bflds
  rw [lookup_putF, if_neg (by decide +kernel), lookup_putF, if_neg (by decide +kernel), lookup_putF, if_pos rfl]
theorem bf_holes (wi hi : Int) (ph pf : Addr) : (bflds wi hi ph pf).lookup ("holes" : Str) = some (.ref ph) := by
  unfold bflds
  rw [lookup_putF, if_neg (by decide +kernel), lookup_putF, if_pos rfl]
theorem bf_firm (wi hi : Int) (ph pf : Addr) : (bflds wi hi ph pf).lookup ("firm" : Str) = some (.ref pf) := by
  unfold bflds
  rw [lookup_putF, if_pos rfl]
theorem bf_no (wi hi : Int) (ph pf : Addr) {m : Str} (h1 : ¬ m = "wide") (h2 : ¬ m = "high") (h3 : ¬ m = "holes") (h4 : ¬ m = "firm") : (bflds wi hi ph pf).lookup m = none := by
  unfold bflds
  rw [lookup_putF, if_neg h4, lookup_putF, if_neg h3, lookup_putF, if_neg h2, lookup_putF, if_neg h1]
  rfl
def firmL (wi hi : Int) (hs : List Int) : List Bool := (List.range (wi * hi).toNat).map fun (s : Nat) => !decide ((s : Int) ∈ hs)
structure BrdAt (K : PySem.W.Frag) (C : Addr) (H : Hp) (p : Addr) (wi hi : Int) (hs : List Int) : Prop where
  ex : ∃ dx ph pf, H p = some (.ins C dx (bflds wi hi ph pf)) ∧ H ph = some (.lst (hs.map V.int)) ∧ H pf = some (.lst ((firmL wi hi hs).map V.bl))
  w1 : 1 ≤ wi
  w8 : wi ≤ 8
  h1 : 1 ≤ hi
  h8 : hi ≤ 8
  good : ∀ h ∈ hs, 0 ≤ h ∧ h < wi * hi
  srt : hs.Pairwise (· ≤ ·)
  nd : hs.Nodup
section
variable {K : PySem.W.Frag} {C : Addr} {H H' : Hp} {p : Addr} {wi hi : Int} {hs : List Int}
theorem BrdAt.same (B : BrdAt K C H p wi hi hs) (s : Same H H') : BrdAt K C H' p wi hi hs := by
  obtain ⟨⟨dx, ph, pf, a, b, c⟩, w1, w8, h1, h8, g, sr, nd⟩ := B
  exact ⟨⟨dx, ph, pf, s _ _ a, s _ _ b, s _ _ c⟩, w1, w8, h1, h8, g, sr, nd⟩
theorem BrdAt.wide (B : BrdAt K C H p wi hi hs) (D : BrdC K C) : Fl K H p "wide" (.int wi) := by
  obtain ⟨dx, ph, pf, a, _, _⟩ := B.ex
  exact ⟨C, dx, _, a, D.cl, D.wide, bf_wide _ _ _ _⟩
theorem BrdAt.high (B : BrdAt K C H p wi hi hs) (D : BrdC K C) : Fl K H p "high" (.int hi) := by
  obtain ⟨dx, ph, pf, a, _, _⟩ := B.ex
  exact ⟨C, dx, _, a, D.cl, D.high, bf_high _ _ _ _⟩
theorem BrdAt.firm (B : BrdAt K C H p wi hi hs) (D : BrdC K C) : ∃ pf, Fl K H p "firm" (.ref pf) ∧ H pf = some (.lst ((firmL wi hi hs).map V.bl)) := by
  obtain ⟨dx, ph, pf, a, _, c⟩ := B.ex
  exact ⟨pf, ⟨C, dx, _, a, D.cl, D.firm, bf_firm _ _ _ _⟩, c⟩
theorem BrdAt.holes (B : BrdAt K C H p wi hi hs) (D : BrdC K C) : ∃ ph, Fl K H p "holes" (.ref ph) ∧ H ph = some (.lst (hs.map V.int)) := by
  obtain ⟨dx, ph, pf, a, b, c⟩ := B.ex
  exact ⟨ph, ⟨C, dx, _, a, D.cl, D.holes, bf_holes _ _ _ _⟩, b⟩
theorem BrdAt.no (B : BrdAt K C H p wi hi hs) {m : Str} (h1 : ¬ m = "wide" := by decide +kernel) (h2 : ¬ m = "high" := by decide +kernel) (h3 : ¬ m = "holes" := by decide +kernel) (h4 : ¬ m = "firm" := by decide +kernel) : InsNo C m H p := by
  obtain ⟨dx, ph, pf, a, b, c⟩ := B.ex
  exact ⟨dx, _, a, bf_no _ _ _ _ h1 h2 h3 h4⟩
theorem BrdAt.many (B : BrdAt K C H p wi hi hs) : 1 ≤ wi * hi ∧ wi * hi ≤ 64 := by
  have a := B.w1; have b := B.w8; have c := B.h1; have d := B.h8
  have e1 : 1 * 1 ≤ wi * hi := Int.mul_le_mul a c (by omega) (by omega)
  have e2 : wi * hi ≤ 8 * 8 := Int.mul_le_mul b d (by omega) (by omega)
  omega
theorem firm_at {s : Int} (h0 : 0 ≤ s) (h1 : s < wi * hi) : atI ((firmL wi hi hs).map V.bl) s = some (.bl (!decide (s ∈ hs))) := by
  have e : s = ((s.toNat : Nat) : Int) := by omega
  have hl : s.toNat < (wi * hi).toNat := by omega
  have : ((firmL wi hi hs).map V.bl)[s.toNat]? = some (.bl (!decide (((s.toNat : Nat) : Int) ∈ hs))) := by
    unfold firmL
    rw [List.getElem?_map, List.getElem?_map, List.getElem?_range hl]
    rfl
  have q := atI_nat this
  rw [← e] at q
  exact q
theorem firm_len : (firmL wi hi hs).length = (wi * hi).toNat := by unfold firmL; simp
end
/-! #### where a step leads, and a ray -/
def mvd (wi hi : Int) (hs : List Int) (s ax up : Int) : Option Int :=
  if 0 ≤ s % wi + ax ∧ s % wi + ax < wi ∧ 0 ≤ s / wi + up ∧ s / wi + up < hi then (if (s / wi + up) * wi + (s % wi + ax) ∈ hs then none else some ((s / wi + up) * wi + (s % wi + ax))) else none
/-- the square k steps on -/
def sqK (wi s ax up : Int) (k : Nat) : Int := (s / wi + k * up) * wi + (s % wi + k * ax)
def okK (wi hi : Int) (hs : List Int) (s ax up : Int) (k : Nat) : Prop := 0 ≤ s % wi + k * ax ∧ s % wi + k * ax < wi ∧ 0 ≤ s / wi + k * up ∧ s / wi + k * up < hi ∧ ¬ sqK wi s ax up k ∈ hs
instance {wi hi : Int} {hs : List Int} {s ax up : Int} {k : Nat} : Decidable (okK wi hi hs s ax up k) := by unfold okK; infer_instance
def IsRay (wi hi : Int) (hs : List Int) (s ax up : Int) (n : Nat) : Prop := (∀ j < n, okK wi hi hs s ax up (j + 1)) ∧ ¬ okK wi hi hs s ax up (n + 1)
def rayL (wi s ax up : Int) (n : Nat) : List Int := (List.range n).map fun j => sqK wi s ax up (j + 1)
theorem IsRay.uniq {wi hi : Int} {hs hs' : List Int} {s ax up : Int} {m n : Nat} (h : IsRay wi hi hs s ax up m) (h' : IsRay wi hi hs' s ax up n) (e : ∀ x, x ∈ hs ↔ x ∈ hs') : m = n := by
  have c : ∀ k, okK wi hi hs s ax up k ↔ okK wi hi hs' s ax up k := fun k => by unfold okK; rw [e]
  rcases Nat.lt_trichotomy m n with l | l | l
  · exact absurd ((c _).mpr (h'.1 m l)) h.2
  · exact l
  · exact absurd ((c _).mp (h.1 n l)) h'.2
theorem rayL_len {wi s ax up : Int} {n : Nat} : (rayL wi s ax up n).length = n := by unfold rayL; simp
theorem rayL_succ {wi s ax up : Int} {n : Nat} : rayL wi s ax up (n + 1) = rayL wi s ax up n ++ [sqK wi s ax up (n + 1)] := by
  unfold rayL; rw [List.range_succ, List.map_append]; rfl
theorem okK_le {wi hi : Int} {hs : List Int} {s ax up : Int} {k : Nat} (w8 : wi ≤ 8) (h8 : hi ≤ 8) (w1 : 1 ≤ wi) (s0 : 0 ≤ s) (s1 : s < wi * hi) (n0 : ¬ (ax = 0 ∧ up = 0)) (h : okK wi hi hs s ax up k) : k < 8 := by
  obtain ⟨a, b, c, d, _⟩ := h
  have m0 := Int.emod_nonneg s (by omega : wi ≠ 0)
  have m1 := Int.emod_lt_of_pos s (by omega : 0 < wi)
  have d0 : 0 ≤ s / wi := Int.ediv_nonneg s0 (by omega)
  have d1 : s / wi < hi := Int.ediv_lt_of_lt_mul (by omega) (by rw [Int.mul_comm]; exact s1)
  apply Classical.byContradiction
  intro hk
  have hk : 8 ≤ k := by omega
  have k8 : (8 : Int) ≤ (k : Int) := by omega
  rcases Int.lt_trichotomy ax 0 with l | l | l
  · have : (k : Int) * ax ≤ (k : Int) * (-1) := Int.mul_le_mul_of_nonneg_left (by omega) (by omega)
    omega
  · rcases Int.lt_trichotomy up 0 with l' | l' | l'
    · have : (k : Int) * up ≤ (k : Int) * (-1) := Int.mul_le_mul_of_nonneg_left (by omega) (by omega)
      omega
    · exact n0 ⟨l, l'⟩
    · have : (k : Int) * 1 ≤ (k : Int) * up := Int.mul_le_mul_of_nonneg_left (by omega) (by omega)
      omega
  · have : (k : Int) * 1 ≤ (k : Int) * ax := Int.mul_le_mul_of_nonneg_left (by omega) (by omega)
    omega
theorem sqK_div {wi s ax up : Int} {k : Nat} (w1 : 1 ≤ wi) (a : 0 ≤ s % wi + k * ax) (b : s % wi + k * ax < wi) : sqK wi s ax up k % wi = s % wi + k * ax ∧ sqK wi s ax up k / wi = s / wi + k * up := by
  unfold sqK
  rw [Int.add_comm ((s / wi + k * up) * wi)]
  constructor
  · rw [Int.add_mul_emod_self_right]; exact Int.emod_eq_of_lt a b
  · rw [Int.add_mul_ediv_right _ _ (by omega), Int.ediv_eq_zero_of_lt a b]; omega
theorem sqK_zero {wi s ax up : Int} (w1 : 1 ≤ wi) : sqK wi s ax up 0 = s := by
  unfold sqK
  have e := Int.mul_ediv_add_emod s wi
  rw [Int.mul_comm] at e
  have z : ((0 : Nat) : Int) = 0 := rfl
  rw [z, Int.zero_mul, Int.zero_mul, Int.add_zero, Int.add_zero]
  exact e
theorem mvd_sqK {wi hi : Int} {hs : List Int} {s ax up : Int} {k : Nat} (w1 : 1 ≤ wi) (a : 0 ≤ s % wi + k * ax) (b : s % wi + k * ax < wi) : mvd wi hi hs (sqK wi s ax up k) ax up = if okK wi hi hs s ax up (k + 1) then some (sqK wi s ax up (k + 1)) else none := by
  obtain ⟨e1, e2⟩ := sqK_div (up := up) w1 a b
  unfold mvd
  rw [e1, e2]
  have ze : ((k + 1 : Nat) : Int) = (k : Int) + 1 := rfl
  have f1 : s % wi + (k : Int) * ax + ax = s % wi + ((k + 1 : Nat) : Int) * ax := by rw [ze, Int.add_mul, Int.one_mul]; omega
  have f2 : s / wi + (k : Int) * up + up = s / wi + ((k + 1 : Nat) : Int) * up := by rw [ze, Int.add_mul, Int.one_mul]; omega
  rw [f1, f2]
  have f3 : (s / wi + ((k + 1 : Nat) : Int) * up) * wi + (s % wi + ((k + 1 : Nat) : Int) * ax) = sqK wi s ax up (k + 1) := rfl
  rw [f3]
  by_cases c : 0 ≤ s % wi + ((k + 1 : Nat) : Int) * ax ∧ s % wi + ((k + 1 : Nat) : Int) * ax < wi ∧ 0 ≤ s / wi + ((k + 1 : Nat) : Int) * up ∧ s / wi + ((k + 1 : Nat) : Int) * up < hi
  · rw [if_pos c]
    by_cases m : sqK wi s ax up (k + 1) ∈ hs
    · rw [if_pos m, if_neg (show ¬ okK wi hi hs s ax up (k + 1) from fun z => z.2.2.2.2 m)]
    · rw [if_neg m, if_pos (show okK wi hi hs s ax up (k + 1) from ⟨c.1, c.2.1, c.2.2.1, c.2.2.2, m⟩)]
  · rw [if_neg c, if_neg (show ¬ okK wi hi hs s ax up (k + 1) from fun z => c ⟨z.1, z.2.1, z.2.2.1, z.2.2.2.1⟩)]
/-! #### what a law keeps of lists that were told: pairs of the list and a copy -/
structure KeptOk (H : Hp) (kl : Addr) (es : List V) : Prop where
  at_ : H kl = some (.lst es)
  all : ∀ e ∈ es, ∃ (t f c : Addr) (zs : List Int), e = V.ref t ∧ t ≠ kl ∧ f ≠ kl ∧ c ≠ kl ∧ H t = some (.tup [.ref f, .ref c]) ∧ H f = some (.lst (zs.map V.int)) ∧ H c = some (.lst (zs.map V.int))
theorem KeptOk.same {H H' : Hp} {kl : Addr} {es : List V} (k : KeptOk H kl es) (s : Same H H') : KeptOk H' kl es := ⟨s _ _ k.at_, fun e he => by
  obtain ⟨t, f, c, zs, h1, h2, h3, h4, h5, h6, h7⟩ := k.all e he
  exact ⟨t, f, c, zs, h1, h2, h3, h4, s _ _ h5, s _ _ h6, s _ _ h7⟩⟩
theorem KeptOk.add {H H' : Hp} {kl t f c : Addr} {es : List V} {zs : List Int} (k : KeptOk H kl es) (s : Same H H') (nt : t ≠ kl) (nf : f ≠ kl) (nc : c ≠ kl) (ht : H' t = some (.tup [.ref f, .ref c])) (hf : H' f = some (.lst (zs.map V.int))) (hc : H' c = some (.lst (zs.map V.int))) :
    KeptOk (upd H' kl (.lst (es ++ [.ref t]))) kl (es ++ [.ref t]) := ⟨upd_same, fun e he => by
  rcases List.mem_append.mp he with h | h
  · obtain ⟨t', f', c', zs', h1, h2, h3, h4, h5, h6, h7⟩ := k.all e h
    exact ⟨t', f', c', zs', h1, h2, h3, h4, by rw [upd_ne h2]; exact s _ _ h5, by rw [upd_ne h3]; exact s _ _ h6, by rw [upd_ne h4]; exact s _ _ h7⟩
  · have e1 : e = .ref t := by simpa using h
    exact ⟨t, f, c, zs, e1, nt, nf, nc, by rw [upd_ne nt]; exact ht, by rw [upd_ne nf]; exact hf, by rw [upd_ne nc]; exact hc⟩⟩
/-! #### what the defs of the program promise -/
def spWhI : Sp := fun vs H Q _ => ∃ n : Int, vs = [.int n] ∧ Q (.bl true) H
def spAmI : Sp := fun vs H Q _ => ∃ t a b : Int, vs = [.int t, .int a, .int b] ∧ Q (.bl (decide (a ≤ t ∧ t ≤ b))) H
def spCol : Sp := fun vs H Q _ => ∃ w s : Int, vs = [.int w, .int s] ∧ 0 < w ∧ Q (.int (s % w)) H
def spRow : Sp := fun vs H Q _ => ∃ w s : Int, vs = [.int w, .int s] ∧ 0 < w ∧ w < 100 ∧ Q (.int (s / w)) H
def spSqAt : Sp := fun vs H Q _ => ∃ w c r : Int, vs = [.int w, .int c, .int r] ∧ -100 < w ∧ w < 100 ∧ Q (.int (r * w + c)) H
def spHolesT : Sp := fun vs H Q _ => ∃ (d : Addr) (m : Int) (hs : List Int), vs = [.ref d, .int m] ∧ H d = some (.lst (hs.map V.int)) ∧ (∀ h ∈ hs, 0 ≤ h ∧ h < m) ∧ hs.Nodup ∧ (hs.length : Int) < m ∧ m ≤ 64 ∧ ∀ H', Same H H' → Q (.bl true) H'
def spBInit (K : PySem.W.Frag) (C : Addr) : Sp := fun vs H Q _ => ∃ (p d dx : Addr) (wi hi : Int) (hs : List Int), vs = [.ref p, .int wi, .int hi, .ref d] ∧ H p = some (.ins C dx []) ∧ H d = some (.lst (hs.map V.int)) ∧ 1 ≤ wi ∧ wi ≤ 8 ∧ 1 ≤ hi ∧ hi ≤ 8 ∧ (∀ h ∈ hs, 0 ≤ h ∧ h < wi * hi) ∧ hs.Nodup ∧ (hs.length : Int) < wi * hi ∧
  ∀ (hs' : List Int) H', hs'.Perm hs → BrdAt K C H' p wi hi hs' → SameBut p H H' → Q .non H'
def spMoved (K : PySem.W.Frag) (C : Addr) : Sp := fun vs H Q _ => ∃ (p : Addr) (wi hi : Int) (hs : List Int) (s ax up : Int), vs = [.ref p, .int s, .int ax, .int up] ∧ BrdAt K C H p wi hi hs ∧ Q (oI (mvd wi hi hs s ax up)) H
def spRay (K : PySem.W.Frag) (C : Addr) : Sp := fun vs H Q _ => ∃ (p : Addr) (wi hi : Int) (hs : List Int) (s ax up : Int), vs = [.ref p, .int s, .int ax, .int up] ∧ BrdAt K C H p wi hi hs ∧ 0 ≤ s ∧ s < wi * hi ∧ ¬ (ax = 0 ∧ up = 0) ∧
  ∀ (n : Nat) (q : Addr) (H' : Hp), IsRay wi hi hs s ax up n → n ≤ 8 → H q = none → H' q = some (.lst ((rayL wi s ax up n).map V.int)) → Same H H' → Q (.ref q) H'
structure CW (P : Program) (w : World) (K : PySem.W.Frag) (mg : Str → Option Value) (base : Heap) : Prop where
  is_whole : Cal P w K mg base "is_whole" ["thing"] 1 spWhI
structure CA (P : Program) (w : World) (K : PySem.W.Frag) (mg : Str → Option Value) (base : Heap) : Prop where
  is_among : Cal P w K mg base "is_among" ["thing", "least", "most"] 2 spAmI
structure CB (P : Program) (w : World) (K : PySem.W.Frag) (mg : Str → Option Value) (base : Heap) : Prop where
  column_of : Cal P w K mg base "column_of" ["wide", "square"] 1 spCol
  row_of : Cal P w K mg base "row_of" ["wide", "square"] 1 spRow
  square_at : Cal P w K mg base "square_at" ["wide", "column", "row"] 1 spSqAt
structure CB2 (P : Program) (w : World) (K : PySem.W.Frag) (mg : Str → Option Value) (base : Heap) : Prop extends CA P w K mg base where
  are_holes : Cal P w K mg base "are_holes" ["thing", "many"] 3 spHolesT
structure CB3 (P : Program) (w : World) (K : PySem.W.Frag) (mg : Str → Option Value) (base : Heap) (cB : Addr) : Prop extends CB2 P w K mg base where
  Board : MkCal P w K mg base "Board" cB ["self", "wide", "high", "holes"] 4 (spBInit K cB)
  Board_moved : MCal P w K mg base cB "moved" ["self", "square", "across", "up"] 2 (spMoved K cB)
end L2

namespace L2
open PySem PySem.Spec PyProof.Rows
/-! #### for a, b in enumerate(xs) -/
section
variable {X : Cx} {pins : List (Addr × Obj)} {σ : St} {H : Hp} {s : Shared} {h' : Heap}
theorem Inv.turned_laid {t' : Nat} {e it a : Addr} {o : HO} (I : Inv X pins σ H s) (k : ∀ b ob, b ≠ e → b ≠ it → s.heap.get? b = some ob → h'.get? b = some ob) (he : FpOk X pins H e) (hi : FpOk X pins H it) (hp : s.heap.objs.size ≤ a) (new : ObjOk X.prog X.w (upd H a o) h' a o) :
    Inv X pins σ (upd H a o) { s with heap := h', toks := t' } := by
  obtain ⟨e0, e1, e2, e3, e4, e5⟩ := he
  obtain ⟨i0, i1, i2, i3, i4, i5⟩ := hi
  have hn : H a = none := I.hok.fresh hp
  have ne : ∀ b u, H b = some u → b ≠ e := fun b u q z => by rw [z, e0] at q; cases q
  have nit : ∀ b u, H b = some u → b ≠ it := fun b u q z => by rw [z, i0] at q; cases q
  have kk : ∀ b ob, b ∉ [e, it] → s.heap.get? b = some ob → h'.get? b = some ob := fun b ob hc q => k b ob (fun z => hc (by simp [z])) (fun z => hc (by simp [z])) q
  refine I.step (g' := s.gens) (d' := s.drawn) (ch := [e, it]) (fun b hb => ?_) (fun b ob _ _ hc q _ => kk b ob hc q) (fun b ob _ _ hc q _ => ⟨ob.slots, kk b ob hc q⟩)
    (fun b ob hc q n => by rw [upd_ne (Nat.ne_of_lt (Nat.lt_of_lt_of_le (Heap.lt_size q) hp))]; exact n) (fun b ob hc q => ⟨ob, kk b ob hc q⟩) (fun b xs q => by rw [upd_ne (ne_of_none q hn)]; exact q) (fun b ob u q => by rw [upd_ne (ne_of_none q hn)]; exact q)
    (fun b ps q => ⟨#[], by rw [upd_ne (ne_of_none q hn), q]; simp⟩) (fun m hm => ?_) (fun b u q => ?_) I.bare
  · rcases List.mem_cons.mp hb with rfl | hb
    · exact ⟨e3, e1, e4, e5⟩
    · rw [List.mem_singleton.mp hb]; exact ⟨i3, i1, i4, i5⟩
  · obtain ⟨ob, es, ep, ho, r⟩ := hm
    exact ⟨ob, es, ep, k _ ob (Ne.symm e1) (Ne.symm i1) ho, r⟩
  · by_cases hb : b = a
    · subst hb; rw [upd_same] at q; cases q; exact new
    · rw [upd_ne hb] at q
      refine (I.hok b u q).stay (fun c v hc z => k c v ?_ ?_ z) (fun c z => by rw [upd_ne (ne_of_none z hn)]; exact z) fun c xs z => by rw [upd_ne (ne_of_none z hn)]; exact z
      · rcases hc with z | z
        · rw [z]; exact ne b u q
        · exact ne c _ z
      · rcases hc with z | z
        · rw [z]; exact nit b u q
        · exact nit c _ z
theorem Inv.turned2 {t' : Nat} {e it : Addr} (I : Inv X pins σ H s) (k : ∀ b ob, b ≠ e → b ≠ it → s.heap.get? b = some ob → h'.get? b = some ob) (he : FpOk X pins H e) (hi : FpOk X pins H it) : Inv X pins σ H { s with heap := h', toks := t' } := by
  obtain ⟨e0, e1, e2, e3, e4, e5⟩ := he
  obtain ⟨i0, i1, i2, i3, i4, i5⟩ := hi
  have ne : ∀ b u, H b = some u → b ≠ e := fun b u q z => by rw [z, e0] at q; cases q
  have nit : ∀ b u, H b = some u → b ≠ it := fun b u q z => by rw [z, i0] at q; cases q
  have kk : ∀ b ob, b ∉ [e, it] → s.heap.get? b = some ob → h'.get? b = some ob := fun b ob hc q => k b ob (fun z => hc (by simp [z])) (fun z => hc (by simp [z])) q
  refine I.step (g' := s.gens) (d' := s.drawn) (ch := [e, it]) (fun b hb => ?_) (fun b ob _ _ hc q _ => kk b ob hc q) (fun b ob _ _ hc q _ => ⟨ob.slots, kk b ob hc q⟩)
    (fun _ _ _ _ n => n) (fun b ob hc q => ⟨ob, kk b ob hc q⟩) (fun _ _ q => q) (fun _ _ _ q => q)
    (fun b ps q => ⟨#[], by rw [q]; simp⟩) (fun m hm => ?_) (fun b u q => ?_) I.bare
  · rcases List.mem_cons.mp hb with rfl | hb
    · exact ⟨e3, e1, e4, e5⟩
    · rw [List.mem_singleton.mp hb]; exact ⟨i3, i1, i4, i5⟩
  · obtain ⟨ob, es, ep, ho, r⟩ := hm
    exact ⟨ob, es, ep, k _ ob (Ne.symm e1) (Ne.symm i1) ho, r⟩
  · refine (I.hok b u q).stay (fun c v hc z => k c v ?_ ?_ z) (fun c z => z) fun c xs z => z
    · rcases hc with z | z
      · rw [z]; exact ne b u q
      · exact ne c _ z
    · rcases hc with z | z
      · rw [z]; exact nit b u q
      · exact nit c _ z
end
/-- enumerate of the list at a: at each turn a new pair -/
def ItE (K : PySem.W.Frag) (a : Addr) : It :=
  ⟨fun i H => ∃ xs x, SqL K H a xs ∧ xs[i]? = some x, fun i H x H' => ∃ t v, x = .ref t ∧ H t = none ∧ H' = upd H t (.tup [.int (i : Int), v]) ∧ ∀ xs, SqL K H a xs → xs[i]? = some v, fun i H => ∃ xs, SqL K H a xs ∧ xs.length ≤ i⟩
theorem turn_enumL {P : Program} {w : World} {K : PySem.W.Frag} {elts : List Expr} {k0 : Nat} {pos : Pos} (a e it : Addr) (hne : e ≠ it) : Turn P w K (.Tuple elts k0 pos) (ItE K a) [e, it] e (fun i h => (∃ old, IsEnum h e it (i : Int) old) ∧ h.IsListIter it a i) where
  mem := by simp
  obj := fun i h st b hb => by
    obtain ⟨⟨old, he⟩, o, ho, c, d⟩ := st
    rcases List.mem_cons.mp hb with rfl | hb
    · exact ⟨_, he, fun v z => by cases z⟩
    · rw [List.mem_singleton.mp hb]
      exact ⟨o, ho, fun v z => by rw [d] at z; cases z⟩
  keep := fun i h h' st k => by
    obtain ⟨⟨old, he⟩, hi⟩ := st
    exact ⟨⟨old, k e (by simp) _ he⟩, hi.at fun o x => k it (by simp) o x⟩
  item := by
    intro X hP hw hK hc i pins s σ H E I hf st hg
    subst hP hw hK
    obtain ⟨xs, x, hq, hx⟩ := hg
    obtain ⟨its, rv, p, hz⟩ := I.list hq
    obtain ⟨u, hu, ru⟩ := rv.get hx
    obtain ⟨⟨old, he⟩, hit⟩ := st
    have fe := hf e (by simp)
    have fi := hf it (by simp)
    obtain ⟨oL, hoL, hcL, nL, hdL⟩ := p.isList
    have hai : a ≠ it := fun z => by
      subst z
      obtain ⟨o', ho', hc', _⟩ := hit
      rw [hoL] at ho'
      cases ho'
      rw [hcL] at hc'
      injection hc' with hz'
      exact absurd hz' (by decide)
    have hae : a ≠ e := fun z => by
      subst z
      have he' : s.heap.get? a = _ := he
      rw [hoL] at he'
      cases he'
      injection hcL with hz'
      exact absurd hz' (by decide)
    have D := Draws.list (prog := X.prog) (w := X.w) (A := X.A.in1) (by show X.A.handled = none; exact I.ok.hd hc) it a hai its.toArray
    have hlt : i < its.toArray.size := by
      have := (List.getElem?_eq_some_iff.mp hu).1
      simpa using this
    refine wpAny_pyNext_enum_itemD D he ⟨hit, p.isList⟩ hlt hne (by simp [hne, hae.symm]) fun x' h1 tk hP' ho hs' hT hsz hk => ?_
    have ex : x' = u := by
      have : its.toArray[i]? = some x' := hP'
      rw [List.getElem?_toArray, hu] at this
      exact (Option.some.inj this).symm
    subst ex
    refine ⟨_, rfl, wpAny_letOwnedTupleGo_enum ho fun h2 he2 sb => ?_⟩
    have hlt2 : e < s.heap.objs.size := Heap.lt_size he
    have kk : ∀ b ob, b ≠ e → b ≠ it → s.heap.get? b = some ob → h2.get? b = some ob := fun b ob b1 b2 q => (sb.2 b b1).trans (hk b ob b1 b2 q)
    have hT2 : h2.get? s.heap.objs.size = some { cls := .type "tuple", data := .seq #[.int i tk, x'] } := (sb.2 _ (Nat.ne_of_gt hlt2)).trans hT
    have new : ObjOk X.prog X.w (upd H s.heap.objs.size (.tup [.int (i : Int), x])) h2 s.heap.objs.size (.tup [.int (i : Int), x]) :=
      ⟨by show 2 ≤ sizeLine; decide, [.int i tk, x'], .cons ⟨tk, rfl⟩ (.cons ru .nil), ⟨_, hT2, rfl, _, rfl⟩⟩
    have I2 := I.turned_laid (t' := tk + 1) kk fe fi (Nat.le_refl _) new
    refine ⟨.ref s.heap.objs.size, _, I2, rfl, ⟨_, x, rfl, I.hok.fresh (Nat.le_refl _), rfl, fun ys hy => by rw [I.list_inj hy hq]; exact hx⟩, ⟨⟨_, by simpa using he2⟩, hs'.1.at fun o z => (sb.2 it (Ne.symm hne)).trans z⟩, fun b hb => ?_⟩
    rcases List.mem_cons.mp hb with rfl | hb
    · rw [upd_ne (Nat.ne_of_lt hlt2)]; exact fe.1
    · rw [List.mem_singleton.mp hb]
      obtain ⟨o', ho', _⟩ := hit
      rw [upd_ne (Nat.ne_of_lt (Heap.lt_size ho'))]; exact fi.1
  done := by
    intro X hP hw hK hc i pins s σ H E I hf st hg
    subst hP hw hK
    obtain ⟨xs, hq, hx⟩ := hg
    obtain ⟨its, rv, p, hz⟩ := I.list hq
    obtain ⟨⟨old, he⟩, hit⟩ := st
    have fe := hf e (by simp)
    have fi := hf it (by simp)
    have hl := rv.length
    obtain ⟨oL, hoL, hcL, nL, hdL⟩ := p.isList
    have hai : a ≠ it := fun z => by
      subst z
      obtain ⟨o', ho', hc', _⟩ := hit
      rw [hoL] at ho'
      cases ho'
      rw [hcL] at hc'
      injection hc' with hz'
      exact absurd hz' (by decide)
    have hT : s.TypeIs (.ref e) "enumerate" := ⟨_, he, rfl⟩
    unfold pyNext
    refine wpAny_bind (wpAny_attempt (wpAny_callSpecial?_slot (name := Str.ofString "__next__") hT F.slot_enumerate_next
      (wpAny_call_entry F.slot_enumerate_next hT F.entry_enumerate_next ?_ (F.args_enumerate_next_1 _))))
    show wpAny _ _ (field (.ref e) 2 >>= _) _ _ _
    refine wpAny_bind (wpAny_field he rfl (x := .ref it) rfl ?_)
    refine wpAny_bind (wpAny_nextOf_list_end (by show X.A.handled = none; exact I.ok.hd hc) hit p.isList (by simp; omega) fun h' x he' hx' => ?_)
    obtain ⟨o, ho, hcx⟩ := hx'
    refine wpAny_bind (wpAny_isInstance (T := "StopIteration") (b := true) ⟨o, ho, hcx⟩ isSubtype_stop ?_)
    exact wpAny_pure ⟨rfl, I.turned2 (t' := s.toks) (fun b ob _ b2 q => he' b ob b2 q) fe fi⟩
  self := fun A i s Q E st h => by
    obtain ⟨⟨old, he⟩, _⟩ := st
    exact wpAny_pyIter_enum he h
end L2
namespace L2
open PySem PySem.Spec PyProof.Rows
/-- enumerate of a text -/
def ItES (x : Str) : It :=
  ⟨fun i _ => i < x.cps.size, fun i H v H' => ∃ t c, v = .ref t ∧ H t = none ∧ x.cps.toList[i]? = some c ∧ H' = upd H t (.tup [.int (i : Int), .str ⟨#[c]⟩]), fun i _ => i = x.cps.size⟩
theorem draws_str {prog : Program} {w : World} {A : Around} (hh : A.handled = none) (it : Addr) (x : Str) (t : Tok) : Draws prog w A it [it] x.cps.size (fun i v => ∃ c u, x.cps[i]? = some c ∧ v = .str ⟨#[c]⟩ u) (fun i h => h.IsStrIter it (strIterType x) x t i) := by
  unfold strIterType
  split
  · exact Draws.strAscii hh it x t
  · exact Draws.strWide hh it x t
theorem turn_enumS {P : Program} {w : World} {K : PySem.W.Frag} {elts : List Expr} {k0 : Nat} {pos : Pos} (e it : Addr) (x : Str) (t : Tok) (hne : e ≠ it) : Turn P w K (.Tuple elts k0 pos) (ItES x) [e, it] e (fun i h => (∃ old, IsEnum h e it (i : Int) old) ∧ h.IsStrIter it (strIterType x) x t i) where
  mem := by simp
  obj := fun i h st b hb => by
    obtain ⟨⟨old, he⟩, o, ho, c, d⟩ := st
    rcases List.mem_cons.mp hb with rfl | hb
    · exact ⟨_, he, fun v z => by cases z⟩
    · rw [List.mem_singleton.mp hb]
      exact ⟨o, ho, fun v z => by rw [d] at z; cases z⟩
  keep := fun i h h' st k => by
    obtain ⟨⟨old, he⟩, o, ho, r⟩ := st
    exact ⟨⟨old, k e (by simp) _ he⟩, o, k it (by simp) o ho, r⟩
  item := by
    intro X hP hw hK hc i pins s σ H E I hf st hg
    subst hP hw hK
    obtain ⟨⟨old, he⟩, hit⟩ := st
    have fe := hf e (by simp)
    have fi := hf it (by simp)
    have D := draws_str (prog := X.prog) (w := X.w) (A := X.A.in1) (by show X.A.handled = none; exact I.ok.hd hc) it x t
    refine wpAny_pyNext_enum_itemD D he hit hg hne (by simp [hne]) fun x' h1 tk hP' ho hs' hT hsz hk => ?_
    obtain ⟨c, u, hcx, rfl⟩ := hP'
    refine ⟨_, rfl, wpAny_letOwnedTupleGo_enum ho fun h2 he2 sb => ?_⟩
    have hlt2 : e < s.heap.objs.size := Heap.lt_size he
    have kk : ∀ b ob, b ≠ e → b ≠ it → s.heap.get? b = some ob → h2.get? b = some ob := fun b ob b1 b2 q => (sb.2 b b1).trans (hk b ob b1 b2 q)
    have hT2 : h2.get? s.heap.objs.size = some { cls := .type "tuple", data := .seq #[.int i tk, .str ⟨#[c]⟩ u] } := (sb.2 _ (Nat.ne_of_gt hlt2)).trans hT
    have new : ObjOk X.prog X.w (upd H s.heap.objs.size (.tup [.int (i : Int), .str ⟨#[c]⟩])) h2 s.heap.objs.size (.tup [.int (i : Int), .str ⟨#[c]⟩]) :=
      ⟨by show 2 ≤ sizeLine; decide, [.int i tk, .str ⟨#[c]⟩ u], .cons ⟨tk, rfl⟩ (.cons ⟨u, rfl⟩ .nil), ⟨_, hT2, rfl, _, rfl⟩⟩
    have I2 := I.turned_laid (t' := tk + 1) kk fe fi (Nat.le_refl _) new
    have hs2 : h2.IsStrIter it (strIterType x) x t (i + 1) := by
      obtain ⟨o', ho', r⟩ := hs'
      exact ⟨o', (sb.2 it (Ne.symm hne)).trans ho', r⟩
    refine ⟨.ref s.heap.objs.size, _, I2, rfl, ⟨_, c, rfl, I.hok.fresh (Nat.le_refl _), by rw [Array.getElem?_toList]; exact hcx, rfl⟩, ⟨⟨_, by simpa using he2⟩, hs2⟩, fun b hb => ?_⟩
    rcases List.mem_cons.mp hb with rfl | hb
    · rw [upd_ne (Nat.ne_of_lt hlt2)]; exact fe.1
    · rw [List.mem_singleton.mp hb]
      obtain ⟨o', ho', _⟩ := hit
      rw [upd_ne (Nat.ne_of_lt (Heap.lt_size ho'))]; exact fi.1
  done := by
    intro X hP hw hK hc i pins s σ H E I hf st hg
    subst hP hw hK
    obtain ⟨⟨old, he⟩, hit⟩ := st
    have hg : i = x.cps.size := hg
    subst hg
    have fe := hf e (by simp)
    have fi := hf it (by simp)
    have D := draws_str (prog := X.prog) (w := X.w) (A := X.A.in1) (by show X.A.handled = none; exact I.ok.hd hc) it x t
    exact wpAny_pyNext_enum_endD D he hit fun h' hx => ⟨rfl, I.turned2 (t' := s.toks) (fun b ob _ b2 q => hx b ob b2 q) fe fi⟩
  self := fun A i s Q E st h => by
    obtain ⟨⟨old, he⟩, _⟩ := st
    exact wpAny_pyIter_enum he h
section
variable {X : Cx} {p pos pos2 : Pos} {a : Expr} {elts : List Expr} {k0 : Nat} {ta : TE}
def iEnum (K : PySem.W.Frag) (ta : TE) : TI := fun σ H R => ta σ H fun x H1 => match x with
  | .ref d => (∃ xs, SqL K H1 d xs) ∧ R (ItE K d) H1
  | .str z => R (ItES z) H1
  | _ => False
theorem pi_enum (hm : X.mg "enumerate" = none) (ha : PE X a ta) (hg : Gl X "enumerate" := by rfl) (hs : starEach [a] X.env = [(false, eval a X.env)] := by rfl) : PI X (.Tuple elts k0 pos2) (.Call (.Name "enumerate" p) [a] [] pos) (iEnum X.K ta) := by
  intro pins s σ H R I h
  have hA : PA X [a] (tCons ta tNil) := pa_cons ha pa_nil (by rw [hs]; rfl)
  refine Call_ (ld_blt I hg hm bo_enumerate (PyProof.Rows.callWith_type1 (thn (hA pos pins s σ H (fun vs H1 => ∃ x, vs = [x] ∧ (match x with | .ref d => (∃ xs, SqL X.K H1 d xs) ∧ R (ItE X.K d) H1 | .str z => R (ItES z) H1 | _ => False)) I ?_) fun us s1 ⟨vs, H1, I1, r1, x, e1, q1⟩ => ?_) (by rw [hs]; rfl) rfl) (by decide) (by decide))
  · show ta σ H _
    have e : (fun (x : V) (H1 : Hp) => match x with | .ref d => (∃ xs, SqL X.K H1 d xs) ∧ R (ItE X.K d) H1 | .str z => R (ItES z) H1 | _ => False) = fun x H1 => tNil σ H1 fun xs H2 => ∃ y, x :: xs = [y] ∧ (match y with | .ref d => (∃ xs, SqL X.K H2 d xs) ∧ R (ItE X.K d) H2 | .str z => R (ItES z) H2 | _ => False) := by
      funext x H1
      apply propext
      constructor
      · intro q; exact ⟨x, rfl, q⟩
      · rintro ⟨y, e, q⟩
        have : x = y := by injection e
        subst this
        exact q
    rw [← e]
    exact h
  · subst e1
    obtain ⟨u, rfl, ru⟩ := vals1 r1
    cases x with
    | ref d =>
      obtain ⟨⟨xs, hq⟩, q⟩ := q1
      cases ru
      obtain ⟨its, rv, pl, hz⟩ := I1.list hq
      refine call_enumerate_list pl.isList fun h' he hit hsz hk => ?_
      have I2 : Inv X pins σ H1 { s1 with heap := h' } := I1.kept (t' := s1.toks) hk
      refine wpAny_pyIter_enum he ⟨s1.heap.objs.size + 1, [s1.heap.objs.size + 1, s1.heap.objs.size], _, _, H1, rfl, I2, turn_enumL d _ _ (Nat.succ_ne_self _), ⟨⟨_, he⟩, hit⟩, fun b hb => ?_, q⟩
      rcases List.mem_cons.mp hb with rfl | hb
      · exact I1.fpOk (Nat.le_succ _) (I1.hok.fresh (Nat.le_succ _))
      · rw [List.mem_singleton.mp hb]
        exact I1.fpOk (Nat.le_refl _) (I1.hok.fresh (Nat.le_refl _))
    | str z =>
      obtain ⟨t, rfl⟩ := ru
      refine call_enumerate_str fun h' he hit hsz hk => ?_
      have I2 : Inv X pins σ H1 { s1 with heap := h' } := I1.kept (t' := s1.toks) hk
      refine wpAny_pyIter_enum he ⟨s1.heap.objs.size + 1, [s1.heap.objs.size + 1, s1.heap.objs.size], _, _, H1, rfl, I2, turn_enumS _ _ z t (Nat.succ_ne_self _), ⟨⟨_, he⟩, hit⟩, fun b hb => ?_, q1⟩
      rcases List.mem_cons.mp hb with rfl | hb
      · exact I1.fpOk (Nat.le_succ _) (I1.hok.fresh (Nat.le_succ _))
      · rw [List.mem_singleton.mp hb]
        exact I1.fpOk (Nat.le_refl _) (I1.hok.fresh (Nat.le_refl _))
    | _ => exact q1.elim
theorem kenum (K : PySem.W.Frag) (hm : X.mg "enumerate" = none) (ha : PE X a ta) (hg : Gl X "enumerate" := by rfl) (hs : starEach [a] X.env = [(false, eval a X.env)] := by rfl) (hK : X.K = K := by rfl) : PI X (.Tuple elts k0 pos2) (.Call (.Name "enumerate" p) [a] [] pos) (iEnum K ta) := by
  subst hK; exact pi_enum hm ha hg hs
end
end L2
namespace L2
open PySem PySem.Spec PyProof.Rows
section
variable {X : Cx}
def loA (x : V) (vs : List V) (H : Hp) (Q : VK) : Prop := match x, vs with
  | .str a, [] => a.length ≤ sizeLine ∧ (∀ c ∈ a.cps.toList, c < 128) ∧ Q (.str ⟨a.cps.map lo1⟩) H
  | _, _ => False
theorem mt_loA : MtR X "str.lower" loA := by
  unfold MtR
  intro pins s σ H x xs v us Q I rx r h
  unfold loA at h
  split at h
  · rename_i a
    obtain ⟨hz, ha, q⟩ := h
    obtain ⟨t, rfl⟩ := rx
    cases r
    have e : placed a (fun i _ => Unicode.lowerAt a.cps i) = a.cps.map lo1 := placed_single a _ lo1 fun i c hc => by
      have hc' : a.cps[i]? = some c := by simpa using hc
      have hlt := ha c (List.mem_of_getElem? hc)
      unfold Unicode.lowerAt
      rw [hc']
      have hne : (c == 0x3A3) = false := by rw [beq_eq_false_iff_ne]; omega
      simp only [hne, Bool.false_and, Bool.false_eq_true, if_false]
      exact lowerOf_ascii c hlt
    have hfit : Builtin.Str.tooLong (placed a fun i _ => Unicode.lowerAt a.cps i).size = false := by
      rw [e, Array.size_map]
      unfold Builtin.Str.tooLong
      exact decide_eq_false (by show ¬ a.cps.size > sizeLine; have : a.length = a.cps.size := rfl; omega)
    refine call_gives F.slot_str_lower (typeIs_str _ _ _) F.entry_str_lower (F.args_str_lower_1 _) (gives_str_lower a t hfit) ?_
    rw [e]
    exact ⟨by show (a.cps.map lo1).size ≤ sizeLine; rw [Array.size_map]; exact hz, ⟨.str _, H, I.tok _, ⟨_, rfl⟩, q⟩⟩
  · exact h.elim
theorem isup_ascii : ∀ c, c < 128 → (Unicode.isUpper c && !(Unicode.isLower c || Unicode.isTitle c)) = decide (65 ≤ c ∧ c ≤ 90) := by decide +kernel
def iuA (x : V) (vs : List V) (H : Hp) (Q : VK) : Prop := match x, vs with
  | .str a, [] => ∃ c, a = ⟨#[c]⟩ ∧ c < 128 ∧ Q (.bl (decide (65 ≤ c ∧ c ≤ 90))) H
  | _, _ => False
theorem mt_iuA : MtR X "str.isupper" iuA := by
  unfold MtR
  intro pins s σ H x xs v us Q I rx r h
  unfold iuA at h
  split at h
  · rename_i a
    obtain ⟨c, rfl, hc, q⟩ := h
    obtain ⟨t, rfl⟩ := rx
    cases r
    refine call_gives F.slot_str_isupper (typeIs_str _ _ _) F.entry_str_isupper (F.args_str_isupper_1 _) (gives_str_isupper _ t) ?_
    refine fin_bl I q ?_
    rw [← isup_ascii c hc]
    simp
  · exact h.elim
theorem r_lo {a : Str} {H : Hp} {Q : VK} : (loA (.str a) [] H Q) = (a.length ≤ sizeLine ∧ (∀ c ∈ a.cps.toList, c < 128) ∧ Q (.str ⟨a.cps.map lo1⟩) H) := rfl
theorem r_iu {a : Str} {H : Hp} {Q : VK} : (iuA (.str a) [] H Q) = (∃ c, a = ⟨#[c]⟩ ∧ c < 128 ∧ Q (.bl (decide (65 ≤ c ∧ c ≤ 90))) H) := rfl
end
end L2

namespace L2
open PySem PySem.Spec PyProof.Rows
/-! #### signs and rows -/
abbrev one (c : Nat) : Str := ⟨#[c]⟩
def Ltr (c : Nat) : Prop := 97 ≤ c ∧ c ≤ 122
def Sg (c : Nat) : Prop := c = 46 ∨ c = 35 ∨ (97 ≤ c ∧ c ≤ 122) ∨ (65 ≤ c ∧ c ≤ 90)
theorem Sg.lt {c : Nat} (h : Sg c) : c < 128 := by unfold Sg at h; omega
theorem Ltr.sg {c : Nat} (h : Ltr c) : Sg c := .inr (.inr (.inl h))
def kindV (c : Nat) : V := if c = 46 ∨ c = 35 then .non else .str (one (lo1 c))
def sideV (c : Nat) : V := if c = 46 ∨ c = 35 then .non else .int (if 65 ≤ c ∧ c ≤ 90 then 0 else 1)
theorem lo_up {c : Nat} (h : Ltr c) : lo1 (c - 32) = c := by
  have h1 := h.1; have h2 := h.2
  unfold lo1
  rw [if_pos ⟨by omega, by omega⟩]
  omega
theorem lo_lo {c : Nat} (h : Ltr c) : lo1 c = c := by
  have h1 := h.1
  unfold lo1
  rw [if_neg (by omega)]
theorem abc_list : ("abcdefghijklmnopqrstuvwxyz" : Str).cps.toList = [97, 98, 99, 100, 101, 102, 103, 104, 105, 106, 107, 108, 109, 110, 111, 112, 113, 114, 115, 116, 117, 118, 119, 120, 121, 122] := by decide +kernel
theorem abc_in (c : Nat) : decide (c ∈ ("abcdefghijklmnopqrstuvwxyz" : Str).cps.toList) = decide (97 ≤ c ∧ c ≤ 122) := by
  rw [abc_list, Bool.eq_iff_iff]
  simp only [decide_eq_true_eq, List.mem_cons, List.not_mem_nil, or_false]
  omega
theorem dh_in (c : Nat) : decide (c ∈ (".#" : Str).cps.toList) = decide (c = 46 ∨ c = 35) := by
  have e : (".#" : Str).cps.toList = [46, 35] := by decide +kernel
  rw [e, Bool.eq_iff_iff]
  simp only [decide_eq_true_eq, List.mem_cons, List.not_mem_nil, or_false]
theorem abc_at {i : Int} (h0 : 0 ≤ i) (h1 : i < 26) : atI ("abcdefghijklmnopqrstuvwxyz" : Str).cps.toList i = some (97 + i.toNat) := by
  have e : i = ((i.toNat : Nat) : Int) := by omega
  have hx : ∀ k < 26, ("abcdefghijklmnopqrstuvwxyz" : Str).cps.toList[k]? = some (97 + k) := by rw [abc_list]; decide
  have q := atI_nat (hx i.toNat (by omega))
  rw [← e] at q
  exact q
theorem dh_at (b : Bool) : atI (".#" : Str).cps.toList (if b = true then 1 else 0) = some (if b = true then 35 else 46) := by
  have e : (".#" : Str).cps.toList = [46, 35] := by decide +kernel
  rw [e]
  cases b <;> decide
theorem str_dot : (".": Str) = one 46 := by decide +kernel
theorem str_hash : ("#": Str) = one 35 := by decide +kernel
section
variable {K : PySem.W.Frag} {σ rest : St} {H : Hp} {te ta tb tl : TE} {tt : TT} {R : Bool → Hp → Prop} {Q : VK} {c : Nat} {z : Str} {src : List (Option Nat)}
/-- sign in (".", "#") -/
theorem in2_k (h : Ev te σ H (.str (one c))) (ha : Ev ta σ H (.str (one 46))) (hb : Ev tb σ H (.str (one 35))) (q : ∀ H', Same H H' → R (decide (c = 46 ∨ c = 35)) H') : cTest (cCmp K .In te (tTup (tCons ta (tCons tb tNil)))) σ H R :=
  h _ (ha _ (hb _ ⟨by show 2 ≤ sizeLine; decide, fun t ht => by
    show cmpA K .In (.str (one c)) (.ref t) _ (bOnly R)
    rw [r_in_str_ref]
    refine ⟨t, _, rfl, .inr (SqT.of upd_same), rfl, rfl, ?_⟩
    have e : inV (.str (one c)) [.str (one 46), .str (one 35)] = decide (c = 46 ∨ c = 35) := by
      unfold inV
      have e1 : eqV (.str (one 46)) (.str (one c)) = decide (c = 46) := by
        show ((one 46) == (one c)) = _
        by_cases h : c = 46
        · subst h; simp
        · rw [decide_eq_false h]
          exact beq_eq_false_iff_ne.mpr (fun e => h (by have := congrArg (fun x : Str => x.cps.toList) e; simp [one] at this; omega))
      have e2 : eqV (.str (one 35)) (.str (one c)) = decide (c = 35) := by
        show ((one 35) == (one c)) = _
        by_cases h : c = 35
        · subst h; simp
        · rw [decide_eq_false h]
          exact beq_eq_false_iff_ne.mpr (fun e => h (by have := congrArg (fun x : Str => x.cps.toList) e; simp [one] at this; omega))
      show (eqV (.str (one 46)) (.str (one c)) || (eqV (.str (one 35)) (.str (one c)) || false)) = _
      rw [e1, e2]
      by_cases h1 : c = 46 <;> by_cases h2 : c = 35 <;> simp [h1, h2]
    show bOnly R (.bl (if false then _ else inV (.str (one c)) [.str (one 46), .str (one 35)])) _
    rw [e]
    exact q _ ((Same.refl H).upd ht)⟩))
theorem ev_ins (ha : Ev ta σ H (.str (one c))) (hb : Ev tb σ H (.str z)) : Ev (cCmp K .In ta tb) σ H (.bl (decide (c ∈ z.cps.toList))) := fun Q q => ha _ (hb _ (by
  show cmpA K .In _ _ _ _
  rw [r_in_str, StrLaws.found_one]
  exact q))
theorem ev_nins (ha : Ev ta σ H (.str (one c))) (hb : Ev tb σ H (.str z)) : Ev (cCmp K .NotIn ta tb) σ H (.bl (!decide (c ∈ z.cps.toList))) := fun Q q => ha _ (hb _ (by
  show cmpA K .NotIn _ _ _ _
  rw [r_notin_str, StrLaws.found_one]
  exact q))
theorem ev_eqb {a b : Bool} (ha : Ev ta σ H (.bl a)) (hb : Ev tb σ H (.bl b)) : Ev (cCmp K .Eq ta tb) σ H (.bl (decide (a = b))) := fun Q q => ha _ (hb _ q)
theorem ev_up (ha : Ev ta σ H (.str (one c))) (hc : Ltr c) : Ev (cSM0 upA ta) σ H (.str (one (c - 32))) := fun Q q => ha _ (by
  show upA (.str (one c)) [] H Q
  rw [r_up]
  refine ⟨by show 1 ≤ sizeLine; decide, fun d hd => ?_, ?_⟩
  · have e : d = c := by simpa [one] using hd
    have := hc.2
    omega
  have e : (⟨(one c).cps.map up1⟩ : Str) = one (c - 32) := by
    show (⟨#[c].map up1⟩ : Str) = _
    have : up1 c = c - 32 := by unfold up1; exact if_pos hc
    simp [one, this]
  rw [e]
  exact q)
theorem ev_lo (ha : Ev ta σ H (.str (one c))) (hc : c < 128) : Ev (cSM0 loA ta) σ H (.str (one (lo1 c))) := fun Q q => ha _ (by
  show loA (.str (one c)) [] H Q
  rw [r_lo]
  refine ⟨by show 1 ≤ sizeLine; decide, fun d hd => ?_, ?_⟩
  · have e : d = c := by simpa [one] using hd
    omega
  have e : (⟨(one c).cps.map lo1⟩ : Str) = one (lo1 c) := by
    show (⟨#[c].map lo1⟩ : Str) = _
    simp [one]
  rw [e]
  exact q)
theorem ev_iu (ha : Ev ta σ H (.str (one c))) (hc : c < 128) : Ev (cSM0 iuA ta) σ H (.bl (decide (65 ≤ c ∧ c ≤ 90))) := fun Q q => ha _ (by
  show iuA (.str (one c)) [] H Q
  exact ⟨c, rfl, hc, q⟩)
theorem ev_sl {lo hi : Option Int} {tl' th : TO} (ha : Ev ta σ H (.str z)) (hl : ∀ Q : Option Int → Hp → Prop, Q lo H → tl' σ H Q) (hh : ∀ Q : Option Int → Hp → Prop, Q hi H → th σ H Q) (hz : z.length ≤ sizeLine) : Ev (cSl K ta tl' th) σ H (.str (cutS z lo hi)) := fun Q q => ha _ (hl _ (hh _ ⟨hz, q⟩))
theorem po_no : ∀ Q : Option Int → Hp → Prop, Q none H → tNoPart σ H Q := fun Q q => q
theorem po_ev {i : Int} (h : Ev te σ H (.int i)) : ∀ Q : Option Int → Hp → Prop, Q (some i) H → cPart te σ H Q := fun Q q => h _ q
/-- == of a side and a number -/
theorem side_eq {sd : Int} : cmpA K .Eq (sideV c) (.int sd) H Q = Q (.bl (decide (sideV c = .int sd))) H := by
  unfold sideV
  by_cases h : c = 46 ∨ c = 35
  · rw [if_pos h]
    show Q (.bl false) H = Q (.bl (decide (V.non = V.int sd))) H
    rw [decide_eq_false (by intro z; cases z)]
  · rw [if_neg h]
    show Q (.bl (decide (_ = sd))) H = Q (.bl (decide (V.int _ = V.int sd))) H
    have : ∀ i : Int, decide (i = sd) = decide (V.int i = V.int sd) := fun i => by
      by_cases e : i = sd
      · rw [decide_eq_true e, decide_eq_true (congrArg V.int e)]
      · rw [decide_eq_false e, decide_eq_false (fun z => e (by injection z))]
    rw [this]
/-- what a comprehension over enumerate of a text makes -/
def enL (l : List Nat) (p : Nat → Nat → Bool) (f : Nat → Nat → V) (n : Nat) : List V := ((List.range n).filter fun i => p i (l.getD i 0)).map fun i => f i (l.getD i 0)
theorem enL_succ {l : List Nat} {p : Nat → Nat → Bool} {f : Nat → Nat → V} {n : Nat} : enL l p f (n + 1) = enL l p f n ++ (if p n (l.getD n 0) = true then [f n (l.getD n 0)] else []) := by
  unfold enL
  rw [List.range_succ, List.filter_append, List.map_append]
  congr 1
  by_cases h : p n (l.getD n 0) = true
  · rw [if_pos h]
    have e : (List.filter (fun i => p i (l.getD i 0)) [n]) = [n] := by rw [List.filter_cons]; exact if_pos h
    rw [e]; rfl
  · rw [if_neg h]
    have e : (List.filter (fun i => p i (l.getD i 0)) [n]) = [] := by rw [List.filter_cons]; exact if_neg h
    rw [e]; rfl
theorem enL_len {l : List Nat} {p : Nat → Nat → Bool} {f : Nat → Nat → V} {n : Nat} : (enL l p f n).length ≤ n := by
  unfold enL
  rw [List.length_map]
  exact Nat.le_trans (List.length_filter_le _ _) (by rw [List.length_range]; exact Nat.le_refl _)
theorem comp_enS (hl : Ev tl σ H (.str z)) (hz : z.length ≤ 1000) (hs : subSt src σ = none :: none :: rest) (p : Nat → Nat → Bool) (f : Nat → Nat → V)
    (ht : ∀ (i c : Nat) (H' : Hp), z.cps.toList[i]? = some c → Same H H' → ∀ R : Bool → Hp → Prop, (∀ H'', Same H' H'' → R (p i c) H'') → tt (some (.int (i : Int)) :: some (.str (one c)) :: rest) H' R)
    (he : ∀ (i c : Nat) (H' : Hp), z.cps.toList[i]? = some c → p i c = true → Same H H' → Ev te (some (.int (i : Int)) :: some (.str (one c)) :: rest) H' (f i c))
    (q : ∀ H' d, Same H H' → H' d = none → Q (.ref d) (upd H' d (.lst (enL z.cps.toList p f z.length)))) : tComp (iEnum K tl) (gTup K 2 (gCons (gName 0) (gCons (gName 1) gNil))) tt te src σ H Q := by
  refine hl _ ?_
  show compWant _ tt te src σ Q (ItES z) H
  refine comp_inv z.length (fun i ys σ' H' => Same H H' ∧ (∃ o0 o1, σ' = o0 :: o1 :: rest) ∧ ys = enL z.cps.toList p f i) (Nat.le_trans hz (by decide)) (fun i ys σ H h => by rw [h.2.2]; exact enL_len) (fun i ys σ H h hi => hi) (fun ys σ H h => rfl) ⟨Same.refl H, ⟨_, _, hs⟩, rfl⟩ ?_ ?_
  · rintro i ys _ H1 x H2 hi ⟨s1, ⟨o0, o1, rfl⟩, rfl⟩ ⟨t, c, rfl, ht0, hc, rfl⟩ Kt Kf kt kf
    have s2 : Same H (upd H1 t (.tup [.int (i : Int), .str ⟨#[c]⟩])) := s1.upd ht0
    refine ⟨t, _, rfl, SqT.of upd_same, rfl, _, _, rfl, _, _, rfl, rfl, ?_⟩
    have eg : z.cps.toList.getD i 0 = c := by rw [List.getD_eq_getElem?_getD, hc]; rfl
    show tt (some (.int (i : Int)) :: some (.str (one c)) :: rest) _ _
    refine ht i c _ hc s2 _ (fun H3 s3 => ?_)
    cases hp : p i c with
    | true =>
      refine iteT (he i c _ hc hp (s2.trans s3) _ (kt _ _ _ ⟨s2.trans s3, ⟨_, _, rfl⟩, ?_⟩))
      rw [enL_succ, eg, hp, if_pos rfl]
    | false =>
      refine iteF (kf _ _ ⟨s2.trans s3, ⟨_, _, rfl⟩, ?_⟩)
      rw [enL_succ, eg, hp, if_neg (by simp), List.append_nil]
  · rintro ys σ' H' d ⟨s1, _, rfl⟩ hd
    exact q H' d s1 hd
end
theorem join_ones (cs : List Nat) : Txt.join ("" : Str) (cs.map one) = ⟨cs.toArray⟩ := by
  have key : ∀ (r : List Nat) (acc : Array Nat), (r.map one).foldl (fun acc p => acc ++ ("" : Str).cps ++ p.cps) acc = acc ++ r.toArray := by
    intro r
    induction r with
    | nil => intro acc; simp
    | cons a r ih =>
      intro acc
      rw [List.map_cons, List.foldl_cons, ih]
      have e : ("" : Str).cps = #[] := by decide +kernel
      rw [e]
      apply Array.toList_inj.mp
      simp [one]
  unfold Txt.join Builtin.Str.glued
  cases cs with
  | nil => rfl
  | cons a r =>
    show (⟨((r.map one).foldl (fun acc p => acc ++ ("" : Str).cps ++ p.cps) (one a).cps)⟩ : Str) = _
    rw [key]
    apply str_ext
    simp [one]
def emptyT (wi hi : Int) (hs : List Int) : Str := ⟨((List.range (wi * hi).toNat).map fun (s : Nat) => if (s : Int) ∈ hs then 35 else 46).toArray⟩
theorem emptyT_len {wi hi : Int} {hs : List Int} : (emptyT wi hi hs).length = (wi * hi).toNat := by
  unfold emptyT Str.length
  simp
theorem emptyT_perm {wi hi : Int} {hs hs' : List Int} (h : hs'.Perm hs) : emptyT wi hi hs' = emptyT wi hi hs := by
  unfold emptyT
  congr 2
  refine List.map_congr_left fun s _ => ?_
  by_cases e : (s : Int) ∈ hs
  · rw [if_pos e, if_pos (h.mem_iff.mpr e)]
  · rw [if_neg e, if_neg (fun z => e (h.mem_iff.mp z))]
theorem emptyT_sg {wi hi : Int} {hs : List Int} : ∀ c ∈ (emptyT wi hi hs).cps.toList, Sg c := by
  intro c hc
  unfold emptyT at hc
  simp only [List.mem_map] at hc
  obtain ⟨s, _, rfl⟩ := hc
  split
  · exact .inr (.inl rfl)
  · exact .inl rfl
/-- a row with another sign at a square -/
def putT (row : Str) (s : Int) (sg : Str) : Str := cutS row none (some s) ++ sg ++ cutS row (some (s + 1)) none
def sqsOf (row : Str) (sd : Int) : List Int := ((List.range row.length).filter fun i => decide (sideV (row.cps.toList.getD i 0) = .int sd)).map fun (i : Nat) => (i : Int)
theorem putT_list {row : Str} {s : Int} {c : Nat} (h0 : 0 ≤ s) (h1 : s < row.length) : (putT row s (one c)).cps.toList = row.cps.toList.take s.toNat ++ [c] ++ row.cps.toList.drop (s.toNat + 1) := by
  unfold putT
  have e : s = ((s.toNat : Nat) : Int) := by omega
  have e1 : s + 1 = ((s.toNat + 1 : Nat) : Int) := by omega
  rw [str_app, str_app, cutS_list, cutS_list]
  have hl : s.toNat < row.length := by omega
  have f1 : HT.sIx row.length row.length (some s) = s.toNat := by rw [e, HT.sIx_nat]; omega
  have f2 : HT.sIx row.length 0 (some (s + 1)) = s.toNat + 1 := by rw [e1, HT.sIx_nat]; omega
  have f3 : HT.sIx row.length 0 none = 0 := rfl
  have f4 : HT.sIx row.length row.length none = row.length := rfl
  rw [f1, f2, f3, f4, List.drop_zero, Nat.sub_zero]
  congr 1
  rw [List.take_of_length_le]
  rw [List.length_drop, str_len]
  exact Nat.le_refl _
theorem putT_len {row : Str} {s : Int} {c : Nat} (h0 : 0 ≤ s) (h1 : s < row.length) : (putT row s (one c)).length = row.length := by
  rw [str_len, putT_list h0 h1, List.length_append, List.length_append, List.length_take, List.length_drop, ← str_len]
  show min s.toNat row.length + 1 + (row.length - (s.toNat + 1)) = row.length
  omega
theorem putT_sg {row : Str} {s : Int} {c : Nat} (h0 : 0 ≤ s) (h1 : s < row.length) (hr : ∀ d ∈ row.cps.toList, Sg d) (hc : Sg c) : ∀ d ∈ (putT row s (one c)).cps.toList, Sg d := by
  intro d hd
  rw [putT_list h0 h1] at hd
  rcases List.mem_append.mp hd with h | h
  · rcases List.mem_append.mp h with h | h
    · exact hr d (List.mem_of_mem_take h)
    · rw [List.mem_singleton.mp h]; exact hc
  · exact hr d (List.mem_of_mem_drop h)
/-! #### what the defs of places promise -/
def spSign : Sp := fun vs H Q _ => ∃ (c : Nat) (sd : Int), vs = [.str (one c), .int sd] ∧ Ltr c ∧ Q (.str (one (if sd = 0 then c - 32 else c))) H
def spKind : Sp := fun vs H Q _ => ∃ c : Nat, vs = [.str (one c)] ∧ c < 128 ∧ ∀ H', Same H H' → Q (kindV c) H'
def spSideOf : Sp := fun vs H Q _ => ∃ c : Nat, vs = [.str (one c)] ∧ c < 128 ∧ ∀ H', Same H H' → Q (sideV c) H'
def spHas (K : PySem.W.Frag) (C : Addr) : Sp := fun vs H Q _ => ∃ (p : Addr) (wi hi : Int) (hs : List Int) (s : Int), vs = [.ref p, .int s] ∧ BrdAt K C H p wi hi hs ∧ Q (.bl (decide (0 ≤ s ∧ s < wi * hi ∧ ¬ s ∈ hs))) H
def spEmpty (K : PySem.W.Frag) (C : Addr) : Sp := fun vs H Q _ => ∃ (p : Addr) (wi hi : Int) (hs : List Int), vs = [.ref p] ∧ BrdAt K C H p wi hi hs ∧ ∀ H', Same H H' → Q (.str (emptyT wi hi hs)) H'
def spPut : Sp := fun vs H Q _ => ∃ (row : Str) (s : Int) (c : Nat), vs = [.str row, .int s, .str (one c)] ∧ 0 ≤ s ∧ row.length ≤ 100 ∧ Q (.str (putT row s (one c))) H
def spSquares : Sp := fun vs H Q _ => ∃ (row : Str) (sd : Int), vs = [.str row, .int sd] ∧ row.length ≤ 100 ∧ (∀ c ∈ row.cps.toList, c < 128) ∧ ∀ (q : Addr) (H' : Hp), H q = none → H' q = some (.lst ((sqsOf row sd).map V.int)) → Same H H' → Q (.ref q) H'
section
variable {K : PySem.W.Frag} {σ : St} {H : Hp} {tb : TE} {t : TA} {op : CmpOp} {R : Bool → Hp → Prop} {vs : List V} {sp : Sp}
theorem ev_dot : Ev (tC (.str ".")) σ H (.str (one 46)) := by rw [← str_dot]; exact ev_c
theorem ev_hash : Ev (tC (.str "#")) σ H (.str (one 35)) := by rw [← str_hash]; exact ev_c
theorem eqc_k (h : Av t σ H vs) (q : sp vs H (fun x H1 => tb σ H1 fun y H2 => cmpA K op x y H2 (bOnly R)) E0) : cTest (cCmp K op (cCall sp t) tb) σ H R := h _ q
end
theorem sm1_k {σ : St} {H : Hp} {Q : VK} {to te : TE} {z : Str} {r : V → List V → Hp → VK → Prop} (ho : Ev to σ H (.str z)) (q : te σ H fun x H2 => r (.str z) [x] H2 Q) : cSM r to (tCons te tNil) σ H Q := ho _ q
structure CP1 (P : Program) (w : World) (K : PySem.W.Frag) (mg : Str → Option Value) (base : Heap) : Prop where
  side_of : Cal P w K mg base "side_of" ["sign"] 1 spSideOf
structure CP2 (P : Program) (w : World) (K : PySem.W.Frag) (mg : Str → Option Value) (base : Heap) (cB : Addr) : Prop where
  Board_has : MCal P w K mg base cB "has" ["self", "square"] 3 (spHas K cB)
end L2

namespace L2
open PySem PySem.Spec PyProof.Rows
section
variable {K : PySem.W.Frag} {σ rest : St} {H : Hp} {te to ta tb tl : TE} {t : TA} {tt u : TT} {src : List (Option Nat)} {Q : VK} {R : Bool → Hp → Prop} {D : Ends} {g : TG} {tB : TS} {v x y : V} {vs : List V} {sp : Sp}
theorem ev_intb {b : Bool} (h : Ev te σ H (.bl b)) : Ev (cB intA (tCons te tNil)) σ H (.int (if b then 1 else 0)) := fun Q q => h _ q
/-- a comprehension over a range whose bound may lay something -/
theorem comp_evRH {ta : TA} {n : Int} (hl : ∀ Q : List V → Hp → Prop, (∀ H', Same H H' → Q [.int n] H') → ta σ H Q) (h0 : 0 ≤ n) (hz : n.toNat ≤ sizeLine) (h1 : n < 2 ^ 62) (hs : subSt src σ = none :: rest) (p : V → Bool) (f : V → V)
    (ht : ∀ (i : Nat) H', Same H H' → i < n.toNat → Tv tt (some (.int (0 + (i : Int))) :: rest) H' (p (.int (0 + (i : Int))))) (he : ∀ (i : Nat) H', Same H H' → i < n.toNat → p (.int (0 + (i : Int))) = true → Ev te (some (.int (0 + (i : Int))) :: rest) H' (f (.int (0 + (i : Int)))))
    (q : ∀ H' d', Same H H' → H' d' = none → Q (.ref d') (upd H' d' (.lst ((((List.range n.toNat).map fun (i : Nat) => V.int (0 + (i : Int))).filter p).map f)))) : tComp (iRng1 ta) (gName 0) tt te src σ H Q := by
  have hin : ∀ x ∈ (List.range n.toNat).map fun (i : Nat) => V.int (0 + (i : Int)), ∃ i : Nat, i < n.toNat ∧ x = .int (0 + (i : Int)) := fun x hx => by
    obtain ⟨i, hi, rfl⟩ := List.mem_map.mp hx
    exact ⟨i, List.mem_range.mp hi, rfl⟩
  have hlen : ((List.range n.toNat).map fun (i : Nat) => V.int (0 + (i : Int))).length = n.toNat := by simp
  refine hl _ fun H' s => ⟨n, rfl, by omega, h1, comp_evI (xs := (List.range n.toNat).map fun (i : Nat) => V.int (0 + (i : Int))) (by rw [hlen]; exact hz) hs p f (fun i hi => by rw [hlen] at hi; exact hi) (by rw [hlen]; exact Nat.le_refl _) (fun i v H2 hi y => ⟨y.1, ?_⟩) (fun x hx => ?_) (fun x hx hp => ?_) (fun d' hd' => q H' d' s hd')⟩
  · rw [hlen] at hi
    rw [List.getElem?_map, List.getElem?_range hi, y.2]
    rfl
  · obtain ⟨i, hi, rfl⟩ := hin x hx
    exact ht i H' s hi
  · obtain ⟨i, hi, rfl⟩ := hin x hx
    exact he i H' s hi hp
theorem for_rng1H {ta : TA} (n : Int) (hta : ∀ Q : List V → Hp → Prop, (∀ H', Same H H' → Q [.int n] H') → ta σ H Q) (h0 : -(2 ^ 62) ≤ n) (h1 : n < 2 ^ 62) (Pv : Nat → St → Hp → Prop) (hp0 : ∀ H', Same H H' → Pv 0 σ H')
    (hs : ∀ i σ H, i < n.toNat → Pv i σ H → g (.int (0 + i)) σ H fun σ2 H2 => tB { D with nx := Pv (i + 1), ct := Pv (i + 1), bk := D.nx } σ2 H2) (hd : ∀ σ H, Pv n.toNat σ H → D.nx σ H) : tFor (iRng1 ta) g tB D σ H :=
  hta _ fun H' s => ⟨n, rfl, h0, h1, for_range Pv (hp0 H' s) hs hd⟩
/-- range([..][i]) -/
theorem rix_k {i : Int} {Q : List V → Hp → Prop} (h : Av t σ H vs) (hz : vs.length ≤ 1000) (hi : ∀ H', Ev te σ H' (.int i)) (e : atI vs i = some v) (q : ∀ H', Same H H' → Q [v] H') : tCons (cIx K (tLst t) te) tNil σ H Q := lix_k (K := K) (Q := fun x H1 => Q [x] H1) h hz hi e q
theorem tup3_k {tc : TE} {z : V} (ha : Ev ta σ H x) (hb : Ev tb σ H y) (hc : Ev tc σ H z) (q : ∀ p, H p = none → Q (.ref p) (upd H p (.tup [x, y, z]))) : tTup (tCons ta (tCons tb (tCons tc tNil))) σ H Q := ha _ (hb _ (hc _ ⟨by show 3 ≤ sizeLine; decide, q⟩))
theorem tor_k (h : Tv tt σ H false) (q : u σ H R) : tOr tt u σ H R := h _ (iteF q)
/-- not f(g(..)) or .. -/
theorem nwc_k {sp' : Sp} (h : Av t σ H vs) (q : sp' vs H (fun x H1 => sp [x] H1 (bOnly fun c H2 => if (!c) = true then R true H2 else u σ H2 R) E0) E0) : tOr (tNot (cTest (cCall sp (tCons (cCall sp' t) tNil)))) u σ H R := h _ q
theorem nis_k {T : BT} (h : Av t σ H vs) (q : sp vs H (fun x H1 => isA T x H1 (bOnly fun c H2 => if (!c) = true then R true H2 else u σ H2 R)) E0) : tOr (tNot (cTest (cIs T (cCall sp t)))) u σ H R := h _ q
theorem norn_k {sp' : Sp} {t' : TA} {vs' : List V} (h : Av t σ H vs) (q : sp vs H (bOnly fun c H1 => if (!c) = true then R true H1 else tNot (cTest (cCall sp' t')) σ H1 R) E0) : tOr (tNot (cTest (cCall sp t))) (tNot (cTest (cCall sp' t'))) σ H R := h _ q
theorem eqcc_k {sp' : Sp} {t' : TA} {op : CmpOp} (h : Av t σ H vs) (q : sp vs H (fun x H1 => cCall sp' t' σ H1 fun y H2 => cmpA K op x y H2 Q) E0) : cCmp K op (cCall sp t) (cCall sp' t') σ H Q := h _ q
theorem eqcv_k {op : CmpOp} (h : Av t σ H vs) (q : sp vs H (fun x H1 => tb σ H1 fun y H2 => cmpA K op x y H2 Q) E0) : cCmp K op (cCall sp t) tb σ H Q := h _ q
theorem andc_k {op : CmpOp} (h : Av t σ H vs) (q : sp vs H (fun x H1 => tb σ H1 fun y H2 => cmpA K op x y H2 (bOnly fun c H3 => if c = true then te σ H3 Q else Q (.bl false) H3)) E0) : cAndV (cCmp K op (cCall sp t) tb) te σ H Q := h _ q
/-- x == y + [i] -/
theorem eqcat_k {p d : Addr} {i : Int} {zs ws : List Int} (hx : Ev ta σ H (.ref p)) (hp : H p = some (.lst (zs.map V.int))) (hy : Ev tb σ H (.ref d)) (hd : H d = some (.lst (ws.map V.int))) (hi : Ev te σ H (.int i)) (hl : ws.length ≤ 1000) (e : zs = ws ++ [i]) (q : ∀ H', Same H H' → Q (.bl true) H') :
    cCmp K .Eq ta (cBin .Add tb (tLst (tCons te tNil))) σ H Q := by
  refine hx _ (hy _ (hi _ ⟨by show 1 ≤ sizeLine; decide, fun l hl' => ?_⟩))
  show binA .Add (.ref d) (.ref l) _ _
  rw [r_addr]
  have nd : d ≠ l := ne_of_none hd hl'
  have np : p ≠ l := ne_of_none hp hl'
  refine ⟨d, l, _, _, rfl, rfl, by rw [upd_ne nd]; exact hd, upd_same, ?_, fun b hb => ?_⟩
  · rw [List.length_map, sizeLine_eq]; show ws.length + 1 ≤ _; omega
  · show cmpA K .Eq (.ref p) (.ref b) _ Q
    rw [r_eq_rr]
    have hp1 : (upd H l (HO.lst [V.int i])) p = some (.lst (zs.map V.int)) := by rw [upd_ne np]; exact hp
    have npb : p ≠ b := ne_of_none hp1 hb
    refine ⟨true, eqT_ints (zs := zs) (SqL.of (by rw [upd_ne npb]; exact hp1)) (SqL.of ?_), q _ (((Same.refl H).upd hl').upd hb)⟩
    rw [upd_same, e, List.map_append]
    rfl
/-- for c in a text -/
theorem for_strP {z : Str} (hl : Ev tl σ H (.str z)) (Pv : Nat → St → Hp → Prop) (hp0 : Pv 0 σ H)
    (hs : ∀ (i c : Nat) σ' H', z.cps.toList[i]? = some c → Pv i σ' H' → g (.str (one c)) σ' H' fun σ2 H2 => tB { D with nx := Pv (i + 1), ct := Pv (i + 1), bk := D.nx } σ2 H2) (hd : ∀ σ' H', Pv z.length σ' H' → D.nx σ' H') : tFor (iStr tl) g tB D σ H := by
  refine hl _ ?_
  refine ⟨fun i m σ' H' => m = z.length - i ∧ i ≤ z.length ∧ Pv i σ' H', ⟨_, rfl, Nat.zero_le _, hp0⟩, ?_⟩
  rintro i m σ' H' ⟨rfl, hi, pv⟩
  by_cases hlt : i < z.length
  · refine .inr ⟨hlt, Pv (i + 1), fun σ2 H2 p2 => ⟨z.length - (i + 1), by omega, rfl, hlt, p2⟩, ?_⟩
    rintro x H2 ⟨rfl, c, hc, rfl⟩
    exact hs i c σ' _ hc pv
  · have e : i = z.length := by omega
    subst e
    exact .inl ⟨Nat.le_refl _, hd σ' H' pv⟩
theorem for_enLP (P0 : Addr → Hp → Prop) (htl : ∀ Q : VK, (∀ d H', P0 d H' → Q (.ref d) H') → tl σ H Q)
    (h : ∀ d H', P0 d H' → ∃ xs, SqL K H' d xs ∧ ∃ Pv : Nat → St → Hp → Prop, Pv 0 σ H' ∧ (∀ i σ' H', Pv i σ' H' → SqL K H' d xs) ∧
      (∀ (i : Nat) x σ' H' t, xs[i]? = some x → Pv i σ' H' → H' t = none → g (.ref t) σ' (upd H' t (.tup [.int (i : Int), x])) fun σ2 H2 => tB { D with nx := Pv (i + 1), ct := Pv (i + 1), bk := D.nx } σ2 H2) ∧ (∀ σ' H', Pv xs.length σ' H' → D.nx σ' H')) : tFor (iEnum K tl) g tB D σ H := by
  refine htl _ fun d H1 p1 => ?_
  obtain ⟨xs, hq, Pv, hp0, hl, hs, hd⟩ := h d H1 p1
  refine ⟨⟨xs, hq⟩, fun i m σ' H' => m = xs.length - i ∧ i ≤ xs.length ∧ Pv i σ' H', ⟨_, rfl, Nat.zero_le _, hp0⟩, ?_⟩
  rintro i m σ' H' ⟨rfl, hi, pv⟩
  have hS := hl i σ' H' pv
  by_cases hlt : i < xs.length
  · refine .inr ⟨⟨xs, xs[i], hS, List.getElem?_eq_getElem hlt⟩, Pv (i + 1), fun σ2 H2 p2 => ⟨xs.length - (i + 1), by omega, rfl, hlt, p2⟩, ?_⟩
    rintro x H2 ⟨t, w, rfl, ht, rfl, hx⟩
    exact hs i w σ' H' t (hx xs hS) pv ht
  · have e : i = xs.length := by omega
    subst e
    exact .inl ⟨⟨xs, hS, Nat.le_refl _⟩, hd σ' H' pv⟩
/-- xs[lo:hi] of a list -/
theorem sll_k {d : Addr} {xs : List V} {lo hi : Option Int} {tl' th : TO} (ha : Ev ta σ H (.ref d)) (hl : ∀ Q : Option Int → Hp → Prop, Q lo H → tl' σ H Q) (hh : ∀ Q : Option Int → Hp → Prop, Q hi H → th σ H Q) (hx : SqL K H d xs) (q : ∀ p, H p = none → Q (.ref p) (upd H p (.lst (cutV xs lo hi)))) : cSl K ta tl' th σ H Q := ha _ (hl _ (hh _ ⟨xs, hx, q⟩))
/-- a list of constants picked from -/
theorem pickN {ns : List Int} {i : Int} (h0 : 0 ≤ i) (h1 : i < ns.length) : ∃ n : Int, atI (ns.map V.int) i = some (.int n) ∧ n ∈ ns := by
  have hlt : i.toNat < ns.length := by omega
  have e : (ns.map V.int)[i.toNat]? = some (.int ns[i.toNat]) := by rw [List.getElem?_map, List.getElem?_eq_getElem hlt]; rfl
  have q := atI_nat e
  have ei : ((i.toNat : Nat) : Int) = i := by omega
  rw [ei] at q
  exact ⟨_, q, List.getElem_mem hlt⟩
theorem pickV {xs : List V} {i : Int} (h0 : 0 ≤ i) (h1 : i < xs.length) : ∃ v, atI xs i = some v ∧ v ∈ xs := by
  have hlt : i.toNat < xs.length := by omega
  have q := atI_nat (List.getElem?_eq_getElem hlt)
  have ei : ((i.toNat : Nat) : Int) = i := by omega
  rw [ei] at q
  exact ⟨_, q, List.getElem_mem hlt⟩
/-- the walk over enumerate of a list that stays -/
theorem for_enL {d : Addr} {xs : List V} (P0 : Hp → Prop) (htl : ∀ Q : VK, (∀ H', P0 H' → Q (.ref d) H') → tl σ H Q) (hq : ∀ H', P0 H' → SqL K H' d xs) (Pv : Nat → St → Hp → Prop) (hp0 : ∀ H', P0 H' → Pv 0 σ H') (hl : ∀ i σ' H', Pv i σ' H' → SqL K H' d xs)
    (hs : ∀ (i : Nat) x σ' H' t, xs[i]? = some x → Pv i σ' H' → H' t = none → g (.ref t) σ' (upd H' t (.tup [.int (i : Int), x])) fun σ2 H2 => tB { D with nx := Pv (i + 1), ct := Pv (i + 1), bk := D.nx } σ2 H2) (hd : ∀ σ' H', Pv xs.length σ' H' → D.nx σ' H') : tFor (iEnum K tl) g tB D σ H := by
  refine htl _ fun H1 p1 => ?_
  refine ⟨⟨xs, hq H1 p1⟩, fun i m σ' H' => m = xs.length - i ∧ i ≤ xs.length ∧ Pv i σ' H', ⟨_, rfl, Nat.zero_le _, hp0 H1 p1⟩, ?_⟩
  rintro i m σ' H' ⟨rfl, hi, pv⟩
  have hS := hl i σ' H' pv
  by_cases hlt : i < xs.length
  · refine .inr ⟨⟨xs, xs[i], hS, List.getElem?_eq_getElem hlt⟩, Pv (i + 1), fun σ2 H2 p2 => ⟨xs.length - (i + 1), by omega, rfl, hlt, p2⟩, ?_⟩
    rintro x H2 ⟨t, w, rfl, ht, rfl, hx⟩
    exact hs i w σ' H' t (hx xs hS) pv ht
  · have e : i = xs.length := by omega
    subst e
    exact .inl ⟨⟨xs, hS, Nat.le_refl _⟩, hd σ' H' pv⟩
/-- (a, b) = the pair just made -/
theorem gpair {i j : Nat} {d : Addr} {a b : V} {R : St → Hp → Prop} (h : H d = some (.tup [a, b])) (q : R ((σ.set i (some a)).set j (some b)) H) : gTup K 2 (gCons (gName i) (gCons (gName j) gNil)) (.ref d) σ H R := ⟨d, _, rfl, SqT.of h, rfl, _, _, rfl, _, _, rfl, rfl, q⟩
theorem gtrip {i j l : Nat} {d : Addr} {a b c : V} {R : St → Hp → Prop} (h : H d = some (.tup [a, b, c])) (q : R (((σ.set i (some a)).set j (some b)).set l (some c)) H) : gTup K 3 (gCons (gName i) (gCons (gName j) (gCons (gName l) gNil))) (.ref d) σ H R := ⟨d, _, rfl, SqT.of h, rfl, _, _, rfl, _, _, rfl, _, _, rfl, rfl, q⟩
theorem asgc_k (h : Av t σ H vs) (q : sp vs H (fun x H1 => g x σ H1 D.nx) E0) : tAsg (cCall sp t) g D σ H := h _ q
theorem cutV_mem {xs : List V} {lo hi : Option Int} {v : V} (h : v ∈ cutV xs lo hi) : v ∈ xs := List.mem_of_mem_drop (List.mem_of_mem_take h)
end
/-! #### a square that is no hole -/
theorem pigeon : ∀ (n : Nat) (l : List Int), l.length < n → ∃ s : Nat, s < n ∧ ¬ ((s : Int) ∈ l)
  | 0, l, h => by omega
  | n + 1, l, h => by
    by_cases m : ((n : Nat) : Int) ∈ l
    · have hl := List.length_erase_of_mem m
      have hp := List.length_pos_of_mem m
      obtain ⟨s, h1, h2⟩ := pigeon n (l.erase ((n : Nat) : Int)) (by omega)
      refine ⟨s, by omega, fun z => h2 ?_⟩
      exact (List.mem_erase_of_ne (by omega)).mpr z
    · exact ⟨n, by omega, m⟩
def freeL (wi hi : Int) (hs : List Int) : List Int := ((List.range (wi * hi).toNat).map fun (i : Nat) => (i : Int)).filter fun i => !decide (i ∈ hs)
theorem freeL_in {wi hi : Int} {hs : List Int} {s : Int} (h : s ∈ freeL wi hi hs) : 0 ≤ s ∧ s < wi * hi ∧ ¬ s ∈ hs := by
  unfold freeL at h
  rw [List.mem_filter] at h
  obtain ⟨h1, h2⟩ := h
  obtain ⟨i, hi, rfl⟩ := List.mem_map.mp h1
  have hi := List.mem_range.mp hi
  refine ⟨by omega, by omega, ?_⟩
  intro z
  rw [decide_eq_true z] at h2
  cases h2
theorem freeL_pos {wi hi : Int} {hs : List Int} (h : (hs.length : Int) < wi * hi) : 0 < (freeL wi hi hs).length := by
  obtain ⟨s, h1, h2⟩ := pigeon (wi * hi).toNat hs (by omega)
  refine List.length_pos_of_mem (a := (s : Int)) ?_
  unfold freeL
  rw [List.mem_filter]
  refine ⟨List.mem_map.mpr ⟨s, List.mem_range.mpr h1, rfl⟩, ?_⟩
  rw [decide_eq_false h2]
  rfl
def freeP (hs : List Int) : V → Bool
  | .int i => !decide (i ∈ hs)
  | _ => false
theorem freeL_comp {wi hi : Int} {hs : List Int} : (((List.range (wi * hi).toNat).map fun (i : Nat) => V.int (0 + (i : Int))).filter (freeP hs)).map (fun v => v) = (freeL wi hi hs).map V.int := by
  unfold freeL
  rw [List.map_id', List.filter_map, List.filter_map, List.map_map]
  have e : (freeP hs ∘ fun (i : Nat) => V.int (0 + (i : Int))) = ((fun i => !decide (i ∈ hs)) ∘ fun (i : Nat) => (i : Int)) := by
    funext i
    show (!decide (0 + (i : Int) ∈ hs)) = !decide ((i : Int) ∈ hs)
    rw [Int.zero_add]
  rw [e]
  refine List.map_congr_left fun i _ => ?_
  show V.int (0 + (i : Int)) = V.int (i : Int)
  rw [Int.zero_add]
/-- the look of the law at a sign: of a side -/
theorem side_law {c : Nat} {sd : Int} (h : Sg c) (hs : sd = 0 ∨ sd = 1) : (!decide (c ∈ (".#" : Str).cps.toList) && decide (decide (c ∈ ("abcdefghijklmnopqrstuvwxyz" : Str).cps.toList) = decide (sd = 1))) = decide (sideV c = .int sd) := by
  rw [dh_in, abc_in]
  unfold sideV
  unfold Sg at h
  by_cases h1 : c = 46 ∨ c = 35
  · rw [if_pos h1, decide_eq_true h1, decide_eq_false (show ¬ (V.non = V.int sd) from fun z => by cases z)]
    rfl
  · rw [if_neg h1, decide_eq_false h1]
    have inj : ∀ i : Int, decide (V.int i = V.int sd) = decide (i = sd) := fun i => by
      by_cases e : i = sd
      · rw [decide_eq_true e, decide_eq_true (congrArg V.int e)]
      · rw [decide_eq_false e, decide_eq_false (fun z => e (by injection z))]
    rw [inj]
    by_cases h2 : 65 ≤ c ∧ c ≤ 90
    · rw [if_pos h2, decide_eq_false (by omega : ¬ (97 ≤ c ∧ c ≤ 122))]
      rcases hs with rfl | rfl <;> decide
    · rw [if_neg h2, decide_eq_true (by omega : 97 ≤ c ∧ c ≤ 122)]
      rcases hs with rfl | rfl <;> decide
theorem sqs_succ {row : Str} {sd : Int} {i : Nat} : ((List.range (i + 1)).filter fun j => decide (sideV (row.cps.toList.getD j 0) = .int sd)).map (fun (j : Nat) => (j : Int)) = ((List.range i).filter fun j => decide (sideV (row.cps.toList.getD j 0) = .int sd)).map (fun (j : Nat) => (j : Int)) ++ (if decide (sideV (row.cps.toList.getD i 0) = .int sd) = true then [(i : Int)] else []) := by
  rw [List.range_succ, List.filter_append, List.map_append]
  congr 1
  by_cases h : decide (sideV (row.cps.toList.getD i 0) = .int sd) = true
  · rw [if_pos h]
    have e : (List.filter (fun j => decide (sideV (row.cps.toList.getD j 0) = .int sd)) [i]) = [i] := by rw [List.filter_cons]; exact if_pos h
    rw [e]; rfl
  · rw [if_neg h]
    have e : (List.filter (fun j => decide (sideV (row.cps.toList.getD j 0) = .int sd)) [i]) = [] := by rw [List.filter_cons]; exact if_neg h
    rw [e]; rfl
/-! #### the defs of the laws of places and moves -/
def cellAt (ns : List Int) (k : Int) : Int := ns.getD k.toNat 0
def mixed (c k : Int) : Int := (c + 7919 * k + 3) * 48271 % 2147483647
theorem mixed_rg (c k : Int) : 0 ≤ mixed c k ∧ mixed c k < 2147483647 := by unfold mixed; omega
def kindsL (b s : Int) (n : Nat) : List Nat := (List.range n).map fun (k : Nat) => 97 + ((b + s * (k : Int)) % 26).toNat
theorem kindsL_ltr {b s : Int} {n : Nat} : ∀ c ∈ kindsL b s n, Ltr c := by
  intro c hc
  obtain ⟨k, _, rfl⟩ := List.mem_map.mp hc
  unfold Ltr
  omega
theorem kindsL_nd {b s : Int} {n : Nat} (hn : n ≤ 6) (hs : s ∈ ([1, 3, 5, 7, 9, 11] : List Int)) : (kindsL b s n).Nodup := by
  unfold kindsL
  rw [List.nodup_iff_pairwise_ne, List.pairwise_map]
  refine List.Pairwise.imp_of_mem ?_ (List.nodup_iff_pairwise_ne.mp List.nodup_range)
  intro i j hi hj ne e
  have hi := List.mem_range.mp hi
  have hj := List.mem_range.mp hj
  apply ne
  simp only [List.mem_cons, List.not_mem_nil, or_false] at hs
  rcases hs with rfl | rfl | rfl | rfl | rfl | rfl
  all_goals omega
def strV (c : Nat) : V := .str (one c)
def spCellAt (K : PySem.W.Frag) : Sp := fun vs H Q _ => ∃ (a : Addr) (ns : List Int) (k : Int), vs = [.ref a, .int k] ∧ SqL K H a (ns.map V.int) ∧ 0 ≤ k ∧ Q (.int (cellAt ns k)) H
def spMixed : Sp := fun vs H Q _ => ∃ c k : Int, vs = [.int c, .int k] ∧ Q (.int (mixed c k)) H
def spLBoard (K : PySem.W.Frag) : Sp := fun vs H Q _ => ∃ (a : Addr) (ns : List Int), vs = [.ref a] ∧ SqL K H a (ns.map V.int) ∧ ∀ (t q : Addr) (wi hi : Int) (hs : List Int) (H' : Hp), 1 ≤ wi → wi ≤ 8 → 1 ≤ hi → hi ≤ 8 → H' t = some (.tup [.int wi, .int hi, .ref q]) → H' q = some (.lst (hs.map V.int)) → (∀ h ∈ hs, 0 ≤ h ∧ h < wi * hi) → hs.Nodup → (hs.length : Int) < wi * hi → hs.length ≤ 2 → H q = none → H t = none → Same H H' → Q (.ref t) H'
def spLKinds : Sp := fun vs H Q _ => ∃ c : Int, vs = [.int c] ∧ ∀ (q : Addr) (ks : List Nat) (H' : Hp), H q = none → H' q = some (.lst (ks.map strV)) → (∀ k ∈ ks, Ltr k) → ks.Nodup → 1 ≤ ks.length → ks.length ≤ 6 → Same H H' → Q (.ref q) H'
def spWhL : Sp := fun vs H Q _ => ∃ n : Int, vs = [.int n] ∧ Q (.bl true) H
structure LG1 (P : Program) (w : World) (K : PySem.W.Frag) (mg : Str → Option Value) (base : Heap) : Prop where
  _law_cell_at : Cal P w K mg base "_law_cell_at" ["_law_script", "_law_k"] 1 (spCellAt K)
  _law_mixed : Cal P w K mg base "_law_mixed" ["_law_cell", "_law_k"] 1 spMixed
end L2

local macro_rules | `(tactic| walk_at "rd") => `(tactic| simp only [L2.tSeq, L2.tIfS, L2.tRet, L2.tAsg, L2.gName, L2.tNext, L2.tDrop, L2.cVar, L2.tC, L2.cBin, L2.binA, L2.cCmp, L2.cmpA, L2.eqB, L2.cTest, L2.bOnly, L2.cAndV, L2.cOrV, L2.cNotV, L2.cNeg, L2.cIs, L2.isA, L2.cIx, L2.ixA, L2.cSl, L2.slA, L2.cPart, L2.tNoPart, L2.cB, L2.tCons, L2.tNil, L2.cSM, L2.cSM0, L2.cCall, L2.tNot, L2.tAnd, L2.tOr, L2.tIf, L2.cChain, L2.cChainT, L2.lenA, L2.minA, L2.strA, L2.intA, L2.swA, L2.upA, L2.cJR, List.getElem?_cons_zero, List.getElem?_cons_succ, List.set_cons_zero, List.set_cons_succ])
seal L2.PE L2.PT L2.PA L2.PS L2.PSs L2.PG L2.PGs L2.PI L2.PO L2.PIfs L2.PW L2.CallR L2.MtR L2.OpR L2.UnR L2.IxR L2.SlR
namespace L2
open PySem PySem.Spec PyProof.Rows
theorem FnOk.or {P : Program} {w : World} {K : PySem.W.Frag} {mg : Str → Option Value} {base : Heap} {CX : CXT} {k : Nat} {f : Addr} {fd : FuncData} {ps : List Str} {sp sp' : Sp} (F : FnOk P w K mg base CX k f fd ps sp) (G : FnOk P w K mg base CX k f fd ps sp') :
    FnOk P w K mg base CX k f fd ps (fun vs H Q E => sp vs H Q E ∨ sp' vs H Q E) :=
  ⟨fun vs H Q E h => h.elim (F.len vs H Q E) (G.len vs H Q E), fun A outer s H args us vs Q E hr he hb hv hs => hs.elim (F.run A outer s H args us vs Q E hr he hb hv) (G.run A outer s H args us vs Q E hr he hb hv)⟩
theorem ofS_list (s : String) : (Str.ofString s).cps.toList = s.toList.map Char.toNat := by
  rw [Str.ofString_eq_toList]
theorem str_neg {n : Int} (h : n < 0) : ("-" : Str) ++ Str.ofString (toString (-n)) = Str.ofString (toString n) := by
  apply str_ext
  have e : (0 : Int) - n = -n := by omega
  rw [PyProof.Rows.toString_neg h, e, str_app, ofS_list, ofS_list, ofS_list, String.toList_append, List.map_append]
def spTextN : Sp := fun vs H Q _ => ∃ n : Int, vs = [.int n] ∧ 0 ≤ n ∧ n < 10 ^ 60 ∧ ∀ H', Same H H' → Q (.str (Str.ofString (toString n))) H'
def spText : Sp := fun vs H Q _ => ∃ n : Int, vs = [.int n] ∧ n.natAbs < 10 ^ 60 ∧ ∀ H', Same H H' → Q (.str (Str.ofString (toString n))) H'
def spTextM : Sp := fun vs H Q _ => ∃ n : Int, vs = [.int n] ∧ n < 0 ∧ n.natAbs < 10 ^ 60 ∧ ∀ H', Same H H' → Q (.str (Str.ofString (toString n))) H'
/-- the figures of a text that is read as a number -/
def figL (l : List Nat) : List Nat := match l with
  | 45 :: r => r
  | l => l
def okNum (l : List Nat) : Bool := decide (1 ≤ (figL l).length) && decide ((figL l).length ≤ 9) && (figL l).all (fun c => decide (48 ≤ c ∧ c ≤ 57)) && !((figL l).head? == some 48 && !(l == [48]))
def numO (x : Str) : Option Int := if okNum x.cps.toList = true then PySem.intText? x else none
def numV (x : Str) : V := match numO x with
  | some n => .int n
  | none => .non
theorem okNum_int {x : Str} (h : okNum x.cps.toList = true) (hl : x.length ≤ 600) : ∃ n, PySem.intText? x = some n := by
  unfold okNum at h
  simp only [Bool.and_eq_true, decide_eq_true_eq, List.all_eq_true] at h
  obtain ⟨⟨⟨h1, h2⟩, h3⟩, h4⟩ := h
  match e : x.cps.toList, h1, h3 with
  | [], h1, _ => simp [figL] at h1
  | c :: r, h1, h3 =>
    by_cases hc : c = 45
    · subst hc
      exact ⟨_, PySem.intText_neg e (fun d hd => h3 d hd) (by intro z; subst z; simp [figL] at h1) (by omega)⟩
    · have ef : figL (c :: r) = c :: r := by
        unfold figL
        split
        · rename_i z; cases z; exact absurd rfl hc
        · rfl
      rw [ef] at h3
      refine ⟨_, PySem.intText_digits (x := x) (by rw [e]; exact fun d hd => h3 d hd) (by rw [e]; simp) (by omega)⟩
def spNum : Sp := fun vs H Q _ => ∃ x, vs = [.str x] ∧ x.length ≤ 100 ∧ ∀ H', Same H H' → Q (numV x) H'
/-- the part behind a minus -/
def fig (x : Str) : Str := if [45].isPrefixOf x.cps.toList = true then cutS x (some 1) none else x
theorem str_minus : ("-" : Str).cps.toList = [45] := by decide +kernel
theorem str_0 : ("0" : Str).cps.toList = [48] := by decide +kernel
theorem str_fig : ("0123456789" : Str).cps.toList = [48, 49, 50, 51, 52, 53, 54, 55, 56, 57] := by decide +kernel
theorem cut1 (x : Str) : (cutS x (some 1) none).cps.toList = x.cps.toList.drop 1 := by
  rw [cutS_list]
  show ((x.cps.toList.drop (min 1 x.length)).take (x.length - min 1 x.length)) = _
  rw [str_len]
  by_cases h : x.cps.toList.length = 0
  · have : x.cps.toList = [] := List.length_eq_zero_iff.mp h
    rw [this]; simp
  · have e : min 1 x.cps.toList.length = 1 := by omega
    rw [e, List.take_of_length_le (by rw [List.length_drop]; exact Nat.le_refl _)]
theorem fig_list (x : Str) : (fig x).cps.toList = figL x.cps.toList := by
  unfold fig
  match e : x.cps.toList with
  | [] => simp [figL, List.isPrefixOf, e]
  | c :: r =>
    by_cases hc : c = 45
    · subst hc
      rw [if_pos (by simp [List.isPrefixOf]), cut1, e]
      rfl
    · rw [if_neg (by simp [List.isPrefixOf]; exact fun z => hc z.symm), e]
      unfold figL
      split
      · rename_i z; cases z; exact absurd rfl hc
      · rfl
theorem figL_len (l : List Nat) : (figL l).length ≤ l.length := by
  unfold figL
  split
  · simp
  · exact Nat.le_refl _
theorem fig_len (x : Str) : (fig x).length ≤ x.length := by
  rw [str_len, fig_list, str_len x]
  exact figL_len _
theorem in_fig (c : Nat) : decide (c ∈ ("0123456789" : Str).cps.toList) = decide (48 ≤ c ∧ c ≤ 57) := by
  rw [str_fig, Bool.eq_iff_iff]
  simp only [decide_eq_true_eq, List.mem_cons, List.not_mem_nil, or_false]
  omega
section
variable {P : Program} {w : World} {K : PySem.W.Frag} {mg : Str → Option Value} {base : Heap}
theorem rd_fig (x : Str) (H : Hp) (k : VK) (hx : x.length ≤ 100) (h : k (.str (fig x)) H) :
    tIf (cTest (cSM swA (cVar 0) (tCons (tC (.str "-")) tNil))) (cSl K (cVar 0) (cPart (tC (.int 1))) tNoPart) (cVar 0) [some (.str x), none] H k := by
  walk_at "rd"
  rw [str_minus]
  unfold fig at h
  by_cases hp : [45].isPrefixOf x.cps.toList = true
  · rw [if_pos hp] at h
    rw [if_pos hp]
    exact ⟨Nat.le_trans hx (by decide), h⟩
  · rw [if_neg hp] at h
    rw [if_neg hp]
    exact h
theorem rd_all (x y : Str) (H : Hp) (k : VK) (hy : y.length ≤ 100) (h : ∀ H' d, Same H H' → H' d = none → k (.ref d) (upd H' d (.lst ((y.cps.toList.map fun c => decide (48 ≤ c ∧ c ≤ 57)).map V.bl)))) :
    tComp (iStr (cVar 1)) (gName 0) tNoIf (cCmp K .In (cVar 0) (tC (.str "0123456789"))) [none] [some (.str x), some (.str y)] H k := by
  unfold tComp
  simp only [iStr, cVar, List.getElem?_cons_succ, List.getElem?_cons_zero]
  have hl : (y.cps.toList.map fun c => V.str ⟨#[c]⟩).length = y.length := by rw [List.length_map, ← str_len]
  refine comp_pure (y.cps.toList.map fun c => V.str ⟨#[c]⟩) (fun H' => Same H H') (fun σ => ∃ v, σ = [v]) (fun _ => true) (fun v => match v with | .str z => .bl (decide (z.cps.toList.headD 0 ∈ ("0123456789" : Str).cps.toList)) | _ => .non) (by rw [hl]; exact Nat.le_trans hy (by decide))
    (fun i H' _ hi => by rw [hl] at hi; exact hi) (fun i H' _ hi => by rw [hl] at hi; exact hi) (fun i H' v H'' hR hv => ?_) (Same.refl H) ⟨none, rfl⟩ (fun i v σ' H' hS hR hv Kt Kf ht hf => ?_) (fun H' d hR hd => ?_)
  · obtain ⟨rfl, c, hc, rfl⟩ := hv
    exact ⟨hR, by rw [List.getElem?_map, hc]; rfl⟩
  · obtain ⟨v0, rfl⟩ := hS
    rw [List.getElem?_map] at hv
    cases hc : y.cps.toList[i]? with
    | none => rw [hc] at hv; cases hv
    | some c =>
      rw [hc] at hv
      have hv : V.str ⟨#[c]⟩ = v := Option.some.inj hv
      subst hv
      simp only [gName, tNoIf, List.set_cons_zero, if_true]
      walk_at "rd"
      rw [StrLaws.found_one]
      exact ht rfl _ _ ⟨_, rfl⟩ hR
  · have := h H' d hR hd
    rw [List.filter_eq_self.mpr (fun _ _ => rfl), List.map_map]
    rw [List.map_map] at this
    have e : (y.cps.toList.map ((fun v => match v with | V.str z => V.bl (decide (z.cps.toList.headD 0 ∈ ("0123456789" : Str).cps.toList)) | _ => V.non) ∘ fun c => V.str ⟨#[c]⟩)) = y.cps.toList.map (V.bl ∘ fun c => decide (48 ≤ c ∧ c ≤ 57)) := by
      apply List.map_congr_left
      intro c _
      show V.bl (decide (c ∈ ("0123456789" : Str).cps.toList)) = V.bl (decide (48 ≤ c ∧ c ≤ 57))
      rw [in_fig]
    rw [e]
    exact this
theorem numV_ok {x : Str} {n : Int} (h : okNum x.cps.toList = true) (e : PySem.intText? x = some n) : numV x = .int n := by
  unfold numV numO
  rw [if_pos h, e]
theorem numV_no {x : Str} (h : ¬ okNum x.cps.toList = true) : numV x = .non := by
  unfold numV numO
  rw [if_neg h]
theorem pre_head (c : Nat) (l : List Nat) : [c].isPrefixOf l = (l.head? == some c) := by
  cases l with
  | nil => rfl
  | cons a r =>
    show (c == a && true) = (some a == some c)
    rw [Bool.and_true, Bool.eq_iff_iff]
    simp
    exact eq_comm
theorem x_zero (x : Str) : (x = ("0" : Str)) ↔ x.cps.toList = [48] := by
  constructor
  · intro h; rw [h, str_0]
  · intro h; apply str_ext; rw [h, str_0]
end
def lawAt (ns : List Int) (k : Int) : Int := ((if 0 < ns.length then ns.getD (k % (ns.length : Int)).toNat 0 else 0) + 17 * k) * 48271 % 1000003
theorem lawAt_rg (ns : List Int) (k : Int) : 0 ≤ lawAt ns k ∧ lawAt ns k < 1000003 := by
  unfold lawAt
  exact ⟨Int.emod_nonneg _ (by decide), Int.emod_lt_of_pos _ (by decide)⟩
theorem atI_in {α : Type} {xs : List α} {i : Int} (h0 : 0 ≤ i) (h1 : i < xs.length) : ∃ v, atI xs i = some v ∧ xs[i.toNat]? = some v := by
  have hx : xs[i.toNat]? = some (xs[i.toNat]'(by omega)) := List.getElem?_eq_getElem (by omega)
  refine ⟨_, ?_, hx⟩
  have e : i = ((i.toNat : Nat) : Int) := by omega
  have := atI_nat hx
  rw [← e] at this
  exact this
def spAt (K : PySem.W.Frag) : Sp := fun vs H Q _ => ∃ a ns k, vs = [.ref a, .int k] ∧ SqL K H a (ns.map V.int) ∧ 0 ≤ k ∧ k ≤ 1000 ∧ Q (.int (lawAt ns k)) H
theorem pick {xs : List V} {i : Int} {n : Nat} (hn : xs.length = n) (h0 : 0 ≤ i) (h1 : i < n) : ∃ v, atI xs i = some v ∧ v ∈ xs := by
  obtain ⟨v, e1, e2⟩ := atI_in (xs := xs) h0 (by rw [hn]; exact h1)
  exact ⟨v, e1, List.mem_of_getElem? e2⟩
theorem log_small {n : Int} (h : n.natAbs < 10 ^ 60) : n.natAbs.log2 < 1920 := by
  have hz : n.natAbs < 2 ^ 200 := by
    have : (10 : Nat) ^ 60 < 2 ^ 200 := by decide
    omega
  by_cases hz0 : n.natAbs = 0
  · rw [hz0]; decide
  · have := (Nat.log2_lt hz0).mpr hz
    omega
theorem app_len (x y : Str) : (x ++ y).length = x.length + y.length := by rw [str_len, str_app, List.length_append, ← str_len, ← str_len]
/-! #### str.find of one sign -/
def findV (a b : Str) : Int := match Builtin.Str.occurrences a b 0 a.length 1 with
  | i :: _ => (i : Int)
  | [] => -1
def findA (x : V) (vs : List V) (H : Hp) (Q : VK) : Prop := match x, vs with
  | .str a, [.str b] => Q (.int (findV a b)) H
  | _, _ => False
theorem mt_findA {X : Cx} : MtR X "str.find" findA := by
  unfold MtR
  intro pins s σ H x xs v us Q I rx r h
  unfold findA at h
  split at h
  · rename_i a b
    obtain ⟨t, rfl⟩ := rx
    obtain ⟨u, rfl, t', rfl⟩ := vals1 r
    refine call_gives F.slot_str_find (typeIs_str _ _ _) F.entry_str_find (F.args_str_find_2 _ _) (gives_str_find a b t t') ?_
    exact ⟨.int _, H, I.tok _, ⟨_, rfl⟩, h⟩
  · exact h.elim
theorem r_find {a b : Str} {H : Hp} {Q : VK} : (findA (.str a) [.str b] H Q) = (Q (.int (findV a b)) H) := rfl
theorem findV_one (x : Str) (c : Nat) : (findV x ⟨#[c]⟩ = -1 ∧ c ∉ x.cps.toList) ∨ ∃ k : Nat, findV x ⟨#[c]⟩ = (k : Int) ∧ x.cps.toList[k]? = some c := by
  unfold findV
  rcases StrLaws.occ_head x ⟨#[c]⟩ 1 (Nat.le_refl 1) with ⟨h0, hn⟩ | ⟨k, r, h0, hk, _⟩
  · rw [h0]
    refine .inl ⟨rfl, fun hc => ?_⟩
    obtain ⟨i, hi⟩ := List.mem_iff_getElem?.mp hc
    exact hn i ((StrLaws.subAt_one x c i).mpr hi)
  · rw [h0]
    exact .inr ⟨k, rfl, (StrLaws.subAt_one x c k).mp hk⟩
/-! #### the value of figures -/
theorem dv_go : ∀ (l : List Nat) (a : Nat), a ≤ l.foldl (fun acc c => acc * 10 + (c - 48)) a
  | [], a => Nat.le_refl a
  | c :: r, a => Nat.le_trans (by omega) (dv_go r (a * 10 + (c - 48)))
theorem dv_big {a b : Nat} {r : List Nat} (ha : 49 ≤ a) : 10 ≤ PySem.NumText.digitsVal (a :: b :: r) := by
  show 10 ≤ r.foldl (fun acc c => acc * 10 + (c - 48)) ((0 * 10 + (a - 48)) * 10 + (b - 48))
  exact Nat.le_trans (by omega) (dv_go r _)
/-- what small numbers are read of -/
theorem num_small {x : Str} {n : Int} (hl : x.length ≤ 600) (h : numO x = some n) (h1 : 1 ≤ n) (h9 : n ≤ 9) : x.cps.toList = [48 + n.toNat] := by
  unfold numO at h
  split at h
  · rename_i ok
    unfold okNum at ok
    simp only [Bool.and_eq_true, decide_eq_true_eq, List.all_eq_true] at ok
    obtain ⟨⟨⟨o1, o2⟩, o3⟩, o4⟩ := ok
    match e : x.cps.toList, o1, o3, o4 with
    | [], o1, _, _ => simp [figL] at o1
    | c :: r, o1, o3, o4 =>
      by_cases hc : c = 45
      · subst hc
        have := PySem.intText_neg e (fun d hd => o3 d hd) (by intro z; subst z; simp [figL] at o1) (by omega)
        rw [this] at h
        have h := Option.some.inj h
        omega
      · have ef : figL (c :: r) = c :: r := by
          unfold figL
          split
          · rename_i z; cases z; exact absurd rfl hc
          · rfl
        rw [ef] at o3 o4
        have hd := PySem.intText_digits (x := x) (by rw [e]; exact fun d hd => o3 d hd) (by rw [e]; simp) (by omega)
        rw [hd, e] at h
        have h := Option.some.inj h
        have hc := o3 c List.mem_cons_self
        match r, o4, h with
        | [], _, h =>
          have : PySem.NumText.digitsVal [c] = 0 * 10 + (c - 48) := rfl
          rw [this] at h
          congr 1
          omega
        | b :: r, o4, h =>
          have h48 : c ≠ 48 := by
            intro z
            subst z
            simp at o4
          have := dv_big (a := c) (b := b) (r := r) (by omega)
          omega
  · cases h
theorem num_fig {x : Str} {d : Nat} (h : x.cps.toList = [d]) (h1 : 49 ≤ d) (h9 : d ≤ 57) : numO x = some ((d : Int) - 48) := by
  unfold numO
  have ok : okNum x.cps.toList = true := by
    rw [h]
    unfold okNum
    have ef : figL [d] = [d] := by
      unfold figL
      split
      · rename_i z; cases z; omega
      · rfl
    rw [ef]
    simp
    omega
  rw [if_pos ok, PySem.intText_digits (x := x) (by rw [h]; intro c hc; rw [List.mem_singleton.mp hc]; exact ⟨by omega, by omega⟩) (by rw [h]; simp) (by rw [str_len, h]; show 1 ≤ 4300; decide), h]
  have : PySem.NumText.digitsVal [d] = 0 * 10 + (d - 48) := rfl
  rw [this]
  congr 1
  omega
end L2

namespace K09
open PySem L2
def top (i : Nat) : Stmt := PySem.Challenge.pw_playboard_k09_rows.main.body.getD i (.Pass ⟨0, 0, 0, 0⟩)
abbrev s__wall : Stmt := top 0
theorem sc__wall : FnScope ["k"] ["k"] (defScope s__wall) := ⟨rfl, rfl, rfl, by decide +kernel, rfl, by decide +kernel, by decide +kernel⟩
abbrev s_is_whole : Stmt := top 2
theorem sc_is_whole : FnScope ["thing"] ["thing"] (defScope s_is_whole) := ⟨rfl, rfl, rfl, by decide +kernel, rfl, by decide +kernel, by decide +kernel⟩
abbrev s_is_among : Stmt := top 3
theorem sc_is_among : FnScope ["thing", "least", "most"] ["thing", "least", "most"] (defScope s_is_among) := ⟨rfl, rfl, rfl, by decide +kernel, rfl, by decide +kernel, by decide +kernel⟩
abbrev s_sign_of : Stmt := top 7
theorem sc_sign_of : FnScope ["kind", "side"] ["kind", "side"] (defScope s_sign_of) := ⟨rfl, rfl, rfl, by decide +kernel, rfl, by decide +kernel, by decide +kernel⟩
abbrev s_kind_of : Stmt := top 8
theorem sc_kind_of : FnScope ["sign"] ["sign"] (defScope s_kind_of) := ⟨rfl, rfl, rfl, by decide +kernel, rfl, by decide +kernel, by decide +kernel⟩
abbrev s_side_of : Stmt := top 9
theorem sc_side_of : FnScope ["sign"] ["sign"] (defScope s_side_of) := ⟨rfl, rfl, rfl, by decide +kernel, rfl, by decide +kernel, by decide +kernel⟩
abbrev s_empty_row : Stmt := top 10
theorem sc_empty_row : FnScope ["board"] ["board"] (defScope s_empty_row) := ⟨rfl, rfl, rfl, by decide +kernel, rfl, by decide +kernel, by decide +kernel⟩
abbrev s_put : Stmt := top 11
theorem sc_put : FnScope ["row", "square", "sign"] ["row", "square", "sign"] (defScope s_put) := ⟨rfl, rfl, rfl, by decide +kernel, rfl, by decide +kernel, by decide +kernel⟩
abbrev s_squares_of : Stmt := top 12
theorem sc_squares_of : FnScope ["row", "side"] ["row", "side"] (defScope s_squares_of) := ⟨rfl, rfl, rfl, by decide +kernel, rfl, by decide +kernel, by decide +kernel⟩
abbrev s_are_holes : Stmt := top 18
theorem sc_are_holes : FnScope ["thing", "many"] ["thing", "many"] (defScope s_are_holes) := ⟨rfl, rfl, rfl, by decide +kernel, rfl, by decide +kernel, by decide +kernel⟩
abbrev s_Board___init__ : Stmt := inClass (top 19) 0
theorem sc_Board___init__ : FnScope ["self", "wide", "high", "holes"] ["self", "wide", "high", "holes"] (defScope s_Board___init__) := ⟨rfl, rfl, rfl, by decide +kernel, rfl, by decide +kernel, by decide +kernel⟩
abbrev s_Board_has : Stmt := inClass (top 19) 1
theorem sc_Board_has : FnScope ["self", "square"] ["self", "square"] (defScope s_Board_has) := ⟨rfl, rfl, rfl, by decide +kernel, rfl, by decide +kernel, by decide +kernel⟩
abbrev s_Board_squares : Stmt := inClass (top 19) 2
theorem sc_Board_squares : FnScope ["self"] ["self"] (defScope s_Board_squares) := ⟨rfl, rfl, rfl, by decide +kernel, rfl, by decide +kernel, by decide +kernel⟩
abbrev s_Board_moved : Stmt := inClass (top 19) 3
theorem sc_Board_moved : FnScope ["self", "square", "across", "up"] ["self", "square", "across", "up"] (defScope s_Board_moved) := ⟨rfl, rfl, rfl, by decide +kernel, rfl, by decide +kernel, by decide +kernel⟩
abbrev s_Board_far_row : Stmt := inClass (top 19) 4
theorem sc_Board_far_row : FnScope ["self", "side"] ["self", "side"] (defScope s_Board_far_row) := ⟨rfl, rfl, rfl, by decide +kernel, rfl, by decide +kernel, by decide +kernel⟩
abbrev s__law_cell_at : Stmt := top 21
theorem sc__law_cell_at : FnScope ["_law_script", "_law_k"] ["_law_script", "_law_k"] (defScope s__law_cell_at) := ⟨rfl, rfl, rfl, by decide +kernel, rfl, by decide +kernel, by decide +kernel⟩
abbrev s__law_mixed : Stmt := top 22
theorem sc__law_mixed : FnScope ["_law_cell", "_law_k"] ["_law_cell", "_law_k"] (defScope s__law_mixed) := ⟨rfl, rfl, rfl, by decide +kernel, rfl, by decide +kernel, by decide +kernel⟩
abbrev s__law_whole : Stmt := top 23
theorem sc__law_whole : FnScope ["_law_thing"] ["_law_thing"] (defScope s__law_whole) := ⟨rfl, rfl, rfl, by decide +kernel, rfl, by decide +kernel, by decide +kernel⟩
abbrev s__law_board : Stmt := top 24
theorem sc__law_board : FnScope ["_law_script", "_law_cell", "_law_wide", "_law_high", "_law_holes", "_law_k", "_law_hole"] ["_law_script"] (defScope s__law_board) := ⟨rfl, rfl, rfl, by decide +kernel, rfl, by decide +kernel, by decide +kernel⟩
abbrev s__law_kinds : Stmt := top 25
theorem sc__law_kinds : FnScope ["_law_cell", "_law_letters", "_law_step"] ["_law_cell"] (defScope s__law_kinds) := ⟨rfl, rfl, rfl, by decide +kernel, rfl, by decide +kernel, by decide +kernel⟩
abbrev s__law_empty : Stmt := top 26
theorem sc__law_empty : FnScope ["_law_wide", "_law_high", "_law_holes"] ["_law_wide", "_law_high", "_law_holes"] (defScope s__law_empty) := ⟨rfl, rfl, rfl, by decide +kernel, rfl, by decide +kernel, by decide +kernel⟩
abbrev s__law_signs_good : Stmt := top 27
theorem sc__law_signs_good : FnScope ["_law_kind", "_law_side", "_law_sign"] ["_law_kind"] (defScope s__law_signs_good) := ⟨rfl, rfl, rfl, by decide +kernel, rfl, by decide +kernel, by decide +kernel⟩
abbrev s__law_squares_good : Stmt := top 28
theorem sc__law_squares_good : FnScope ["_law_row", "_law_side", "_law_due", "_law_square", "_law_found"] ["_law_row", "_law_side"] (defScope s__law_squares_good) := ⟨rfl, rfl, rfl, by decide +kernel, rfl, by decide +kernel, by decide +kernel⟩
abbrev s_law : Stmt := top 29
theorem sc_law : FnScope ["_law_script", "_law_wide", "_law_high", "_law_holes", "_law_kinds_here", "_law_letter", "_law_row", "_law_board_here", "_law_free", "_law_k", "_law_cell", "_law_mixed_here", "_law_square", "_law_kind", "_law_sign", "_law_due", "_law_found"] ["_law_script"] (defScope s_law) := ⟨rfl, rfl, rfl, by decide +kernel, rfl, by decide +kernel, by decide +kernel⟩
structure Txt (mg : Str → Option Value) : Prop where
  isinstance : mg "isinstance" = none
  int : mg "int" = none
  bool : mg "bool" = none
  str : mg "str" = none
  list : mg "list" = none
  len : mg "len" = none
  range : mg "range" = none
  all : mg "all" = none
  set : mg "set" = none
  sorted : mg "sorted" = none
  enumerate : mg "enumerate" = none
  LONGEST : ∃ u, mg "LONGEST" = some u ∧ RelV (.int 8) u
  EMPTY : ∃ u, mg "EMPTY" = some u ∧ RelV (.str ".") u
  HOLE : ∃ u, mg "HOLE" = some u ∧ RelV (.str "#") u
section
variable {P : Program} {w : World} {K : PySem.W.Frag} {mg : Str → Option Value} {base : Heap}
theorem ok_is_whole {f : Addr} {fd : FuncData} (F : Fun K "is_whole" "is_whole" s_is_whole f fd) (T : Txt mg) : FnOk P w K mg base CX0 1 f fd ["thing"] spWhI := by
  refine F.ok sc_is_whole (fun vs H Q E h => ?_) (fun cdv A outer s H vs Q E hr h => ?_)
  · obtain ⟨v, rfl, _⟩ := h
    rfl
  · obtain ⟨v, rfl, q⟩ := h
    refine ⟨_, (pss_one (ps_ret (ce_and (kis .int T.isinstance T.int bo_int (cv 0)) (pe_one (ce_not (kis .bool T.isinstance T.bool bo_bool (cv 0))))))), ?_⟩
    show tRet _ _ [some (.int v)] H
    exact st_ret (ev_and (ev_isi (ev_v rfl)) (fun _ => ev_not (ev_isi (ev_v rfl)))) q
theorem ok_is_among {f : Addr} {fd : FuncData} (F : Fun K "is_among" "is_among" s_is_among f fd) (T : Txt mg) (C : CW P w K mg base) : FnOk P w K mg base CX0 2 f fd ["thing", "least", "most"] spAmI := by
  refine F.ok sc_is_among (fun vs H Q E h => ?_) (fun cdv A outer s H vs Q E hr h => ?_)
  · obtain ⟨v, a, b, rfl, _⟩ := h
    rfl
  · obtain ⟨v, a, b, rfl, q⟩ := h
    have hu := hu20 hr
    refine ⟨_, (pss_one (ps_ret (ce_and (kcall C.is_whole hr (pac (cv 0) pa_nil)) (pe_one (kchain K hu (cv 1) (cv 0) (cv 2)))))), ?_⟩
    show tRet _ _ [some (.int v), some (.int a), some (.int b)] H
    exact st_ret (ev_and (ev_call (av_cons (ev_v rfl) av_nil) (fun Q q => ⟨v, rfl, q⟩)) (fun _ => (ev_clee (ev_v rfl) (ev_v rfl) (fun _ => (ev_v rfl))))) q
theorem ok_are_holes {f : Addr} {fd : FuncData} (F : Fun K "are_holes" "are_holes" s_are_holes f fd) (T : Txt mg) (C : CA P w K mg base) : FnOk P w K mg base CX0 3 f fd ["thing", "many"] spHolesT := by
  refine F.ok sc_are_holes (fun vs H Q E h => ?_) (fun cdv A outer s H vs Q E hr h => ?_)
  · obtain ⟨d, m, hs, rfl, _⟩ := h
    rfl
  · obtain ⟨d, m, hs, rfl, hd, good, nd, hl, m64, k⟩ := h
    have hu := hu20 hr
    have hS : SqL K H d (hs.map V.int) := SqL.of hd
    refine ⟨_, (pss_cons (ps_if (pw_or (pt_not (ct_val (kis .list T.isinstance T.list bo_list (cv 0)))) (pw_or1 (ktcmp K hu (kB (klen K) bo_len T.len (pac (cv 0) pa_nil)) (cv 1)))).pt (pss_one (ps_ret pe_bl)) pss_nil)
      (pss_cons (ps_if (pt_not (ct_val (kB (kall K) bo_all T.all (pac (kcomp (cscope (N := ["hole", "many"]) (src := [none, some 1]) (defScope s_are_holes) ["thing", "many"]) (kpl K (cv 0)) (fun _ _ _ => (pg_name' (i := 0) ["hole", "many"])) (fun _ _ _ => pifs_nil) (fun _ _ _ => (kcall C.is_among hr (pac (cv 0) (pac pe_int (pac (ce_bin (cv 1) pe_int) pa_nil)))))) pa_nil)))) (pss_one (ps_ret pe_bl)) pss_nil)
      (pss_one (ps_ret (kcmp K hu (kB call_lenSA bo_len T.len (pac (kTy (kset K hr) bo_set T.set (pac (cv 0) pa_nil)) pa_nil)) (kB (klen K) bo_len T.len (pac (cv 0) pa_nil))))))), ?_⟩
    show tSeq _ _ _ [some (.ref d), some (.int m)] H
    refine st_tst (tv_or (tv_not (tv_e (ev_isl (ev_v rfl) hd))) (fun _ => (tv_e (ev_ge (ev_len (ev_v rfl) (.inl hS)) (ev_v rfl))))) (fun h => ?_) (fun _ => ?_)
    · have h : decide (m ≤ ((hs.map V.int).length : Int)) = true := h
      have h := of_decide_eq_true h
      rw [List.length_map] at h
      omega
    refine st_ifH (fun b H' => b = false ∧ Same H H') (fun Q q => ?_) (fun H' h => by cases h.1) (fun H1 h => ?_)
    · refine comp_ev (d := d) (xs := hs.map V.int) (rest := [some (.int m)]) (ev_v rfl) hS (by rw [List.length_map, sizeLine_eq]; omega) rfl (fun _ => true) (fun _ => .bl true) (fun x hx => tv_noif) (fun x hx _ => ?_) (fun d' hd' => ?_)
      · obtain ⟨z, hz, rfl⟩ := List.mem_map.mp hx
        have g := good z hz
        refine ev_call (av_cons (ev_v rfl) (av_cons ev_c (av_cons (ev_sub (ev_v rfl) ev_c) av_nil))) (fun Q q => ⟨z, 0, m - 1, rfl, ?_⟩)
        rw [decide_eq_true (by omega : 0 ≤ z ∧ z ≤ m - 1)]
        exact q
      · refine ⟨List.replicate hs.length true, ?_, ?_⟩
        · have e : ((hs.map V.int).filter fun _ => true).map (fun _ => V.bl true) = (List.replicate hs.length true).map V.bl := by
            rw [List.filter_eq_self.mpr (fun _ _ => rfl), List.map_map, List.map_replicate]
            show hs.map (fun _ => V.bl true) = _
            rw [List.map_const']
          rw [← e]
          exact SqL.of upd_same
        · have e : (List.replicate hs.length true).all id = true := by simp
          rw [e]
          exact q _ _ ⟨rfl, (Same.refl H).upd hd'⟩
    obtain ⟨_, s1⟩ := h
    have hS1 := s1.seq hS
    simp only [tRet, cCmp, cB, tCons, tNil]
    refine evk (ev_v rfl) ?_
    refine ⟨hs, hS1, by have : scanBound = 4096 := rfl; omega, fun q hq => ?_⟩
    refine ⟨_, _, upd_same, ?_⟩
    have s2 : Same H1 (upd H1 q (.set (fun k => (uniq hs).any (· == k)) (uniq hs).length)) := (Same.refl H1).upd hq
    refine evk (v := .ref d) (ev_v rfl) ⟨_, .inl (s2.seq hS1), ?_⟩
    rw [List.length_map, (uniq_iff hs).mpr nd]
    show Q (.bl (decide ((hs.length : Int) = hs.length))) _
    rw [decide_eq_true rfl]
    exact k _ (s1.trans ((Same.refl H1).upd hq))
theorem ok_Board_init {f cB : Addr} {fd : FuncData} (F : Fun K "__init__" "Board.__init__" s_Board___init__ f fd) (T : Txt mg) (B : BrdC K cB) (C : CB2 P w K mg base) : FnOk P w K mg base CX0 4 f fd ["self", "wide", "high", "holes"] (spBInit K cB) := by
  refine F.ok sc_Board___init__ (fun vs H Q E h => ?_) (fun cdv A outer s H vs Q E hr h => ?_)
  · obtain ⟨p, d, dx, wi, hi, hs, rfl, _⟩ := h
    rfl
  · obtain ⟨p, d, dx, wi, hi, hs, rfl, hp, hd, w1, w8, h1, h8, good, nd, hl, k⟩ := h
    have hu := hu20 hr
    have m1 : wi * hi ≤ 8 * 8 := Int.mul_le_mul w8 h8 (by omega) (by omega)
    have m0 : 0 ≤ wi * hi := Int.mul_nonneg (by omega) (by omega)
    have npd : p ≠ d := ne_of_get hp hd (by intro z; cases z)
    refine ⟨_, (pss_cons (ps_if (pw_or (pt_not (ct_val (kcall C.is_among hr (pac (cv 1) (pac pe_int (pac (kg T.LONGEST) pa_nil)))))) (pw_or1 (pt_not (ct_val (kcall C.is_among hr (pac (cv 2) (pac pe_int (pac (kg T.LONGEST) pa_nil)))))))).pt (pss_one ps_never) pss_nil)
      (pss_cons (ps_if (pt_not (ct_val (kcall C.are_holes hr (pac (cv 3) (pac (ce_bin (cv 1) (cv 2)) pa_nil))))) (pss_one ps_never) pss_nil)
      (pss_cons (ksfld K (cv 0) (cv 1))
      (pss_cons (ksfld K (cv 0) (cv 2))
      (pss_cons (ksfld K (cv 0) (kB (ksort K) bo_sorted T.sorted (pac (cv 3) pa_nil)))
      (pss_one (ksfld K (cv 0) (kcomp (cscope (N := ["square", "self"]) (src := [none, some 0]) (defScope s_Board___init__) ["self", "wide", "high", "holes"]) (kr1 T.range (pac (ce_bin (cv 1) (cv 2)) pa_nil)) (fun _ _ _ => (pg_name' (i := 0) ["square", "self"])) (fun _ _ _ => pifs_nil) (fun _ _ _ => (kcmp K hu (cv 0) (kfld K (cv 1)))))))))))), ?_⟩
    show tSeq _ _ _ [some (.ref p), some (.int wi), some (.int hi), some (.ref d)] H
    refine st_tst (tv_or (tv_not (tv_e (ev_call (av_cons (ev_v rfl) (av_cons ev_c (av_cons ev_c av_nil))) (fun Q q => ⟨wi, 1, 8, rfl, q⟩)))) (fun _ => (tv_not (tv_e (ev_call (av_cons (ev_v rfl) (av_cons ev_c (av_cons ev_c av_nil))) (fun Q q => ⟨hi, 1, 8, rfl, q⟩)))))) (fun h => ?_) (fun _ => ?_)
    · rw [decide_eq_true (⟨w1, w8⟩ : 1 ≤ wi ∧ wi ≤ 8), decide_eq_true (⟨h1, h8⟩ : 1 ≤ hi ∧ hi ≤ 8)] at h
      cases h
    refine st_ifH (fun b H' => b = false ∧ Same H H') (fun Q q => ?_) (fun H' h => by cases h.1) (fun H1 h => ?_)
    · exact calN_k (av_cons (ev_v rfl) (av_cons (ev_mul (ev_v rfl) (ev_v rfl) (.inl ⟨by omega, by omega⟩)) av_nil)) ⟨d, wi * hi, hs, rfl, hd, good, nd, hl, by omega, fun H' s => q _ _ ⟨rfl, s⟩⟩
    obtain ⟨_, s1⟩ := h
    refine st_fld (ev_v rfl) (ev_v rfl) (s1 _ _ hp) B.cl B.wide (by decide) ?_
    have a1 := length_putF "wide" (V.int wi) []
    have a2 := length_putF "high" (V.int hi) (putF "wide" (V.int wi) [])
    simp only [List.length_nil] at a1
    refine st_fld (ev_v rfl) (ev_v rfl) upd_same B.cl B.high (by omega) ?_
    generalize hH3 : upd (upd H1 p (HO.ins cB dx (putF "wide" (V.int wi) []))) p (HO.ins cB dx (putF "high" (V.int hi) (putF "wide" (V.int wi) []))) = H3
    have p3 : H3 p = some (.ins cB dx (putF "high" (V.int hi) (putF "wide" (V.int wi) []))) := hH3 ▸ upd_same
    have s3 : SameBut p H H3 := hH3 ▸ (s1.but.self.self)
    have d3 : H3 d = some (.lst (hs.map V.int)) := s3 _ _ hd npd.symm
    refine st_asgH (fun v H' => ∃ (hs' : List Int) (q : Addr), v = .ref q ∧ hs'.Perm hs ∧ hs'.Pairwise (· ≤ ·) ∧ H3 q = none ∧ H' = upd H3 q (.lst (hs'.map V.int))) (fun Q q => ?_) p cB dx (fun H' Q q => ev_v rfl Q q) B.cl B.holes ?_
    · exact b1_k (ev_v rfl) ⟨hs, SqL.of d3, by omega, fun hs' q' h1 h2 h3 => q _ _ ⟨hs', q', rfl, h1, h2, h3, rfl⟩⟩
    rintro _ _ ⟨hs', q, rfl, pm, sr, hq, rfl⟩
    have npq : p ≠ q := ne_of_none p3 hq
    have a3 := length_putF "holes" (V.ref q) (putF "high" (V.int hi) (putF "wide" (V.int wi) []))
    refine ⟨_, (by rw [upd_ne npq]; exact p3), (by omega), ?_⟩
    generalize hH4 : upd (upd H3 q (HO.lst (hs'.map V.int))) p (HO.ins cB dx (putF "holes" (V.ref q) (putF "high" (V.int hi) (putF "wide" (V.int wi) [])))) = H4
    have p4 : H4 p = some (.ins cB dx (putF "holes" (V.ref q) (putF "high" (V.int hi) (putF "wide" (V.int wi) [])))) := hH4 ▸ upd_same
    have q4 : H4 q = some (.lst (hs'.map V.int)) := by rw [← hH4, upd_ne npq.symm, upd_same]
    have hqH : H q = none := by
      cases e : H q with
      | none => rfl
      | some o =>
        have := s3 q o e npq.symm
        rw [hq] at this
        cases this
    have s4 : SameBut p H H4 := hH4 ▸ ((s3.new hqH).self)
    have f4 : Fl K H4 p "holes" (.ref q) := ⟨cB, dx, _, p4, B.cl, B.holes, by rw [lookup_putF, if_pos rfl]⟩
    refine st_fld1 (fun v H' => ∃ (pf : Addr), v = .ref pf ∧ H4 pf = none ∧ H' = upd H4 pf (.lst ((firmL wi hi hs').map V.bl))) (fun Q k' => ?_) p cB dx (fun H' Q q => ev_v rfl Q q) B.cl B.firm ?_
    · refine comp_evR (n := wi * hi) (rest := [some (.ref p)]) (av_cons (ev_mul (ev_v rfl) (ev_v rfl) (.inl ⟨by omega, by omega⟩)) av_nil) m0 (by rw [sizeLine_eq]; omega) (by omega) rfl (fun _ => true) (fun x => match x with | .int i => .bl (!decide (i ∈ hs')) | _ => .non) (fun i hi => tv_noif) (fun i hi _ => ?_) (fun d' hd' => ?_)
      · exact (ev_nin (ev_v rfl) (ev_fld (ev_v rfl) (f4)) (.inl (SqL.of q4)))
      · refine k' _ _ ⟨d', rfl, hd', ?_⟩
        have e : (((List.range (wi * hi).toNat).map fun (i : Nat) => V.int (0 + (i : Int))).filter fun _ => true).map (fun x => match x with | .int i => V.bl (!decide (i ∈ hs')) | _ => .non) = (firmL wi hi hs').map V.bl := by
          rw [List.filter_eq_self.mpr (fun _ _ => rfl), List.map_map]
          unfold firmL
          rw [List.map_map]
          refine List.map_congr_left fun i _ => ?_
          show V.bl (!decide (0 + (i : Int) ∈ hs')) = V.bl (!decide ((i : Int) ∈ hs'))
          rw [Int.zero_add]
        rw [e]
    rintro _ _ ⟨pf, rfl, hpf, rfl⟩
    have npf : p ≠ pf := ne_of_none p4 hpf
    have nqf : q ≠ pf := ne_of_none q4 hpf
    have hfH : H pf = none := by
      cases e : H pf with
      | none => rfl
      | some o =>
        have := s4 pf o e npf.symm
        rw [hpf] at this
        cases this
    refine ⟨_, (by rw [upd_ne npf]; exact p4), (by omega), ?_⟩
    refine k hs' _ pm ⟨⟨dx, q, pf, upd_same, by rw [upd_ne npq.symm, upd_ne nqf]; exact q4, by rw [upd_ne npf.symm, upd_same]⟩, w1, w8, h1, h8, fun h hh => good h (pm.mem_iff.mp hh), sr, pm.nodup_iff.mpr nd⟩ ((s4.new hfH).self)

theorem ok_sign_of {f : Addr} {fd : FuncData} (F : Fun K "sign_of" "sign_of" s_sign_of f fd) (T : Txt mg) : FnOk P w K mg base CX0 1 f fd ["kind", "side"] spSign := by
  refine F.ok sc_sign_of (fun vs H Q E h => ?_) (fun cdv A outer s H vs Q E hr h => ?_)
  · obtain ⟨c, sd, rfl, _⟩ := h
    rfl
  · obtain ⟨c, sd, rfl, hc, q⟩ := h
    have hu := hu20 hr
    refine ⟨_, (pss_one (ps_ret (pe_ifExp (ktcmp K hu (cv 1) pe_int) (ce_sm0 PySem.F.slot_str_upper PySem.F.type_str_upper mt_upA (cv 0)) (cv 0)))), ?_⟩
    show tRet _ _ [some (.str (one c)), some (.int sd)] H
    refine st_ret (ev_if (tv_e (ev_eq (ev_v rfl) ev_c)) (fun _ => ev_up (ev_v rfl) hc) (fun _ => ev_v rfl)) ?_
    by_cases h : sd = 0
    · rw [decide_eq_true h]
      rw [if_pos h] at q
      exact q
    · rw [decide_eq_false h]
      rw [if_neg h] at q
      exact q
theorem ok_kind_of {f : Addr} {fd : FuncData} (F : Fun K "kind_of" "kind_of" s_kind_of f fd) (T : Txt mg) : FnOk P w K mg base CX0 1 f fd ["sign"] spKind := by
  refine F.ok sc_kind_of (fun vs H Q E h => ?_) (fun cdv A outer s H vs Q E hr h => ?_)
  · obtain ⟨c, rfl, _⟩ := h
    rfl
  · obtain ⟨c, rfl, hc, q⟩ := h
    have hu := hu20 hr
    refine ⟨_, (pss_one (ps_ret (pe_ifExp (ktcmp K hu (cv 0) (pe_tup (pac (kg T.EMPTY) (pac (kg T.HOLE) pa_nil)))) pe_non (ce_sm0 PySem.F.slot_str_lower PySem.F.type_str_lower mt_loA (cv 0))))), ?_⟩
    show tRet _ _ [some (.str (one c))] H
    simp only [tRet, tIf]
    refine in2_k (ev_v rfl) ev_dot ev_hash (fun H' s => ?_)
    have k := q H' s
    unfold kindV at k
    by_cases h : c = 46 ∨ c = 35
    · rw [decide_eq_true h]
      rw [if_pos h] at k
      exact iteT (evk ev_c k)
    · rw [decide_eq_false h]
      rw [if_neg h] at k
      exact iteF (evk (ev_lo (ev_v rfl) hc) k)
theorem ok_side_of {f : Addr} {fd : FuncData} (F : Fun K "side_of" "side_of" s_side_of f fd) (T : Txt mg) : FnOk P w K mg base CX0 1 f fd ["sign"] spSideOf := by
  refine F.ok sc_side_of (fun vs H Q E h => ?_) (fun cdv A outer s H vs Q E hr h => ?_)
  · obtain ⟨c, rfl, _⟩ := h
    rfl
  · obtain ⟨c, rfl, hc, q⟩ := h
    have hu := hu20 hr
    refine ⟨_, (pss_cons (ps_if (ktcmp K hu (cv 0) (pe_tup (pac (kg T.EMPTY) (pac (kg T.HOLE) pa_nil)))) (pss_one (ps_ret pe_non)) pss_nil)
      (pss_one (ps_ret (pe_ifExp (ct_val (ce_sm0 PySem.F.slot_str_isupper PySem.F.type_str_isupper mt_iuA (cv 0))) pe_int pe_int)))), ?_⟩
    show tSeq _ _ _ [some (.str (one c))] H
    unfold sideV at q
    refine st_ifH (fun b H' => b = decide (c = 46 ∨ c = 35) ∧ Same H H') (fun Q q => in2_k (ev_v rfl) ev_dot ev_hash (fun H' s => q _ _ ⟨rfl, s⟩)) (fun H1 h => ?_) (fun H1 h => ?_)
    · have k := q H1 h.2
      rw [if_pos (of_decide_eq_true h.1.symm)] at k
      exact st_ret ev_c k
    · have k := q H1 h.2
      rw [if_neg (of_decide_eq_false h.1.symm)] at k
      refine st_ret (ev_if (tv_e (ev_iu (ev_v rfl) hc)) (fun _ => ev_c) (fun _ => ev_c)) ?_
      by_cases g : 65 ≤ c ∧ c ≤ 90
      · rw [decide_eq_true g]
        rw [if_pos g] at k
        exact k
      · rw [decide_eq_false g]
        rw [if_neg g] at k
        exact k
theorem ok_put {f : Addr} {fd : FuncData} (F : Fun K "put" "put" s_put f fd) (T : Txt mg) : FnOk P w K mg base CX0 1 f fd ["row", "square", "sign"] spPut := by
  refine F.ok sc_put (fun vs H Q E h => ?_) (fun cdv A outer s H vs Q E hr h => ?_)
  · obtain ⟨row, sq, c, rfl, _⟩ := h
    rfl
  · obtain ⟨row, sq, c, rfl, s0, hz, q⟩ := h
    have hu := hu20 hr
    have z1 : row.length ≤ sizeLine := Nat.le_trans hz (by decide)
    have l1 := cutS_len row none (some sq)
    have l2 := cutS_len row (some (sq + 1)) none
    have l3 : (cutS row none (some sq) ++ one c).length = (cutS row none (some sq)).length + 1 := by
      rw [str_len, str_app, List.length_append, ← str_len]
      rfl
    refine ⟨_, (pss_one (ps_ret (ce_bin (ce_bin (ksl K (cv 0) po_none (co_some (cv 1))) (cv 2)) (ksl K (cv 0) (co_some (ce_bin (cv 1) pe_int)) po_none)))), ?_⟩
    show tRet _ _ [some (.str row), some (.int sq), some (.str (one c))] H
    refine st_ret (ev_adds (ev_adds (ev_sl (ev_v rfl) po_no (po_ev (ev_v rfl)) z1) (ev_v rfl) ?_) (ev_sl (ev_v rfl) (po_ev (ev_add (ev_v rfl) ev_c)) po_no z1) ?_) q
    · show _ + 1 ≤ sizeLine
      rw [sizeLine_eq]
      omega
    · rw [l3, sizeLine_eq]
      omega
theorem ok_squares_of {f : Addr} {fd : FuncData} (F : Fun K "squares_of" "squares_of" s_squares_of f fd) (T : Txt mg) (C : CP1 P w K mg base) : FnOk P w K mg base CX0 2 f fd ["row", "side"] spSquares := by
  refine F.ok sc_squares_of (fun vs H Q E h => ?_) (fun cdv A outer s H vs Q E hr h => ?_)
  · obtain ⟨row, sd, rfl, _⟩ := h
    rfl
  · obtain ⟨row, sd, rfl, hz, ha, q⟩ := h
    have hu := hu20 hr
    refine ⟨_, (pss_one (ps_ret (kcomp (cscope (N := ["square", "sign", "side"]) (src := [none, none, some 1]) (defScope s_squares_of) ["row", "side"]) (kenum K T.enumerate (cv 0)) (fun _ _ _ => (kgt K (n := 2) (pgs_cons (pg_name' (i := 0) ["square", "sign", "side"]) (pgs_cons (pg_name' (i := 1) ["square", "sign", "side"]) pgs_nil)))) (fun _ _ _ => (pifs_one (ktcmp K hu (kcall C.side_of hr (pac (cv 1) pa_nil)) (cv 2)))) (fun _ _ _ => (cv 0))))), ?_⟩
    show tComp _ _ _ _ _ [some (.str row), some (.int sd)] H Q
    refine comp_enS (z := row) (rest := [some (.int sd)]) (ev_v rfl) (by omega) rfl (fun i c => decide (sideV c = .int sd)) (fun i c => .int (i : Int)) (fun i c H' hc s R r => ?_) (fun i c H' hc hp s => ev_v rfl) (fun H' d s hd => ?_)
    · refine eqc_k (av_cons (ev_v rfl) av_nil) ⟨c, rfl, ha c (List.mem_of_getElem? hc), fun H2 s2 => evk (v := .int sd) (ev_v rfl) ?_⟩
      rw [side_eq]
      exact r H2 s2
    · have e : enL row.cps.toList (fun i c => decide (sideV c = .int sd)) (fun i c => .int (i : Int)) row.length = (sqsOf row sd).map V.int := by
        unfold enL sqsOf
        rw [List.map_map]
        rfl
      rw [e]
      exact q d _ (s.free hd) upd_same (s.upd hd)
theorem ok_Board_has {f cB : Addr} {fd : FuncData} (F : Fun K "has" "Board.has" s_Board_has f fd) (T : Txt mg) (B : BrdC K cB) (C : CA P w K mg base) : FnOk P w K mg base CX0 3 f fd ["self", "square"] (spHas K cB) := by
  refine F.ok sc_Board_has (fun vs H Q E h => ?_) (fun cdv A outer s H vs Q E hr h => ?_)
  · obtain ⟨p, wi, hi, hs, sq, rfl, _⟩ := h
    rfl
  · obtain ⟨p, wi, hi, hs, sq, rfl, O, k⟩ := h
    have hu := hu20 hr
    obtain ⟨pf, ff, hf⟩ := O.firm B
    have mm := O.many
    have hl : (((firmL wi hi hs).map V.bl).length : Int) = wi * hi := by rw [List.length_map, firm_len]; omega
    refine ⟨_, (pss_one (ps_ret (ce_and (kcall C.is_among hr (pac (cv 1) (pac pe_int (pac (ce_bin (kB (klen K) bo_len T.len (pac (kfld K (cv 0)) pa_nil)) pe_int) pa_nil)))) (pe_one (kix K (kfld K (cv 0)) (cv 1)))))), ?_⟩
    show tRet _ _ [some (.ref p), some (.int sq)] H
    refine st_ret (ev_and (b := !decide (sq ∈ hs)) (ev_call (av_cons (ev_v rfl) (av_cons ev_c (av_cons (ev_sub (ev_len (ev_fld (ev_v rfl) ff) (.inl (SqL.of hf))) ev_c) av_nil))) (fun Q q => ⟨sq, 0, _, rfl, q⟩)) (fun h => ?_)) ?_
    · have h := of_decide_eq_true h
      rw [hl] at h
      exact ev_ix (ev_fld (ev_v rfl) ff) (ev_v rfl) (.inl (SqL.of hf)) (firm_at h.1 (by omega))
    · rw [hl]
      have e : (decide (0 ≤ sq ∧ sq ≤ wi * hi - 1) && !decide (sq ∈ hs)) = decide (0 ≤ sq ∧ sq < wi * hi ∧ ¬ sq ∈ hs) := by
        rw [Bool.eq_iff_iff]
        simp only [Bool.and_eq_true, decide_eq_true_eq, Bool.not_eq_true', decide_eq_false_iff_not]
        constructor
        · rintro ⟨⟨a, b⟩, c⟩
          exact ⟨a, by omega, c⟩
        · rintro ⟨a, b, c⟩
          exact ⟨⟨a, by omega⟩, c⟩
      show Q (.bl (decide (0 ≤ sq ∧ sq ≤ wi * hi - 1) && !decide (sq ∈ hs))) H
      rw [e]
      exact k
theorem ok_empty_row {f cB : Addr} {fd : FuncData} (F : Fun K "empty_row" "empty_row" s_empty_row f fd) (T : Txt mg) (B : BrdC K cB) (C : CP2 P w K mg base cB) : FnOk P w K mg base CX0 4 f fd ["board"] (spEmpty K cB) := by
  refine F.ok sc_empty_row (fun vs H Q E h => ?_) (fun cdv A outer s H vs Q E hr h => ?_)
  · obtain ⟨p, wi, hi, hs, rfl, _⟩ := h
    rfl
  · obtain ⟨p, wi, hi, hs, rfl, O, k⟩ := h
    have hu := hu20 hr
    have mm := O.many
    have fw := O.wide B
    have fh := O.high B
    have w8 := O.w8
    have w1 := O.w1
    refine ⟨_, (pss_one (ps_ret (ksm PySem.F.slot_str_join PySem.F.type_str_join (kjoin K) pe_str (pac (kcomp (cscope (N := ["square", "board"]) (src := [none, some 0]) (defScope s_empty_row) ["board"]) (kr1 T.range (pac (ce_bin (kfld K (cv 0)) (kfld K (cv 0))) pa_nil)) (fun _ _ _ => (pg_name' (i := 0) ["square", "board"])) (fun _ _ _ => pifs_nil) (fun _ _ _ => (pe_ifExp (ct_val (kmeth C.Board_has hr (cv 1) (pac (cv 0) pa_nil))) (kg T.EMPTY) (kg T.HOLE)))) pa_nil)))), ?_⟩
    show tRet _ _ [some (.ref p)] H
    refine sm1_k ev_c ?_
    refine comp_evR (n := wi * hi) (rest := [some (.ref p)]) (av_cons (ev_mul (ev_fld (ev_v rfl) fw) (ev_fld (ev_v rfl) fh) (.inl ⟨by omega, by omega⟩)) av_nil) (by omega) (by rw [sizeLine_eq]; omega) (by omega) rfl (fun _ => true)
      (fun x => match x with | .int i => if i ∈ hs then .str (one 35) else .str (one 46) | _ => .non) (fun i hi => tv_noif) (fun i hi' _ => ?_) (fun d hd => ?_)
    · have e : (if decide (0 ≤ 0 + (i : Int) ∧ 0 + (i : Int) < wi * hi ∧ ¬ (0 + (i : Int)) ∈ hs) = true then V.str (one 46) else V.str (one 35)) = (if 0 + (i : Int) ∈ hs then V.str (one 35) else V.str (one 46)) := by
        by_cases m : 0 + (i : Int) ∈ hs
        · rw [if_pos m, if_neg (by rw [decide_eq_true_eq]; exact fun z => z.2.2 m)]
        · rw [if_neg m, if_pos (by rw [decide_eq_true_eq]; exact ⟨by omega, by omega, m⟩)]
      show Ev _ _ _ (if 0 + (i : Int) ∈ hs then V.str (one 35) else V.str (one 46))
      rw [← e]
      exact ev_if (tv_e (ev_meth (p := p) (ev_v rfl) O.no (av_cons (ev_v rfl) av_nil) (fun Q q => ⟨p, wi, hi, hs, _, rfl, O, q⟩))) (fun _ => ev_dot) (fun _ => ev_hash)
    · have e : (((List.range (wi * hi).toNat).map fun (i : Nat) => V.int (0 + (i : Int))).filter fun _ => true).map (fun x => match x with | .int i => if i ∈ hs then V.str (one 35) else V.str (one 46) | _ => .non) = (((List.range (wi * hi).toNat).map fun (s : Nat) => if (s : Int) ∈ hs then 35 else 46).map one).map V.str := by
        rw [List.filter_eq_self.mpr (fun _ _ => rfl), List.map_map, List.map_map, List.map_map]
        refine List.map_congr_left fun i _ => ?_
        show (if 0 + (i : Int) ∈ hs then V.str (one 35) else V.str (one 46)) = V.str (one (if (i : Int) ∈ hs then 35 else 46))
        rw [Int.zero_add]
        split <;> rfl
      rw [e]
      show joinA K (.str "") [.ref d] _ Q
      rw [r_join]
      refine ⟨_, SqL.of upd_same, ?_, ?_⟩
      · rw [List.map_map]
        have es : ∀ l : List Nat, (l.map ((fun x : Str => x.length) ∘ one)).sum = l.length := fun l => by
          induction l with
          | nil => rfl
          | cons a r ih => rw [List.map_cons, List.sum_cons, ih, List.length_cons]; show 1 + r.length = _; omega
        have ez : ("" : Str).length = 0 := by decide +kernel
        rw [es, ez, List.length_map, List.length_range]
        omega
      · rw [join_ones]
        exact k _ ((Same.refl H).upd hd)

end
end K09

namespace K09
open PySem L2
section
variable {P : Program} {w : World} {K : PySem.W.Frag} {mg : Str → Option Value} {base : Heap}
theorem ok__law_cell_at {f : Addr} {fd : FuncData} (F : Fun K "_law_cell_at" "_law_cell_at" s__law_cell_at f fd) (T : Txt mg) : FnOk P w K mg base CX0 1 f fd ["_law_script", "_law_k"] (spCellAt K) := by
  refine F.ok sc__law_cell_at (fun vs H Q E h => ?_) (fun cdv A outer s H vs Q E hr h => ?_)
  · obtain ⟨a, ns, k, rfl, _⟩ := h
    rfl
  · obtain ⟨a, ns, k, rfl, hS, k0, q⟩ := h
    have hu := hu20 hr
    refine ⟨_, (pss_cons (ps_if (ktcmp K hu (cv 1) (kB (klen K) bo_len T.len (pac (cv 0) pa_nil))) (pss_one (ps_ret (kix K (cv 0) (cv 1)))) pss_nil)
      (pss_one (ps_ret pe_int))), ?_⟩
    show tSeq _ _ _ [some (.ref a), some (.int k)] H
    unfold cellAt at q
    refine st_tst (tv_e (ev_lt (ev_v rfl) (ev_len (ev_v rfl) (.inl hS)))) (fun h => ?_) (fun h => ?_)
    · have h := of_decide_eq_true h
      rw [List.length_map] at h
      have hlt : k.toNat < ns.length := by omega
      have e : (ns.map V.int)[k.toNat]? = some (.int (ns.getD k.toNat 0)) := by
        rw [List.getElem?_map, List.getD_eq_getElem?_getD, List.getElem?_eq_getElem hlt]
        rfl
      have e2 := atI_nat e
      have ei : ((k.toNat : Nat) : Int) = k := by omega
      rw [ei] at e2
      exact st_ret (ev_ix (ev_v rfl) (ev_v rfl) (.inl hS) e2) q
    · have h := of_decide_eq_false h
      rw [List.length_map] at h
      rw [List.getD_eq_getElem?_getD, List.getElem?_eq_none (by omega)] at q
      exact st_ret ev_c q
theorem ok__law_mixed {f : Addr} {fd : FuncData} (F : Fun K "_law_mixed" "_law_mixed" s__law_mixed f fd) (T : Txt mg) : FnOk P w K mg base CX0 1 f fd ["_law_cell", "_law_k"] spMixed := by
  refine F.ok sc__law_mixed (fun vs H Q E h => ?_) (fun cdv A outer s H vs Q E hr h => ?_)
  · obtain ⟨c, k, rfl, _⟩ := h
    rfl
  · obtain ⟨c, k, rfl, q⟩ := h
    refine ⟨_, (pss_one (ps_ret (ce_bin (ce_bin (ce_bin (ce_bin (cv 0) (ce_bin pe_int (cv 1))) pe_int) pe_int) pe_int))), ?_⟩
    show tRet _ _ [some (.int c), some (.int k)] H
    exact st_ret (ev_mod (ev_mul (ev_add (ev_add (ev_v rfl) (ev_mul ev_c (ev_v rfl) (.inl ⟨by decide, by decide⟩))) ev_c) ev_c (.inr ⟨by decide, by decide⟩)) ev_c (by decide)) q
theorem ok__law_whole {f : Addr} {fd : FuncData} (F : Fun K "_law_whole" "_law_whole" s__law_whole f fd) (T : Txt mg) : FnOk P w K mg base CX0 1 f fd ["_law_thing"] spWhL := by
  refine F.ok sc__law_whole (fun vs H Q E h => ?_) (fun cdv A outer s H vs Q E hr h => ?_)
  · obtain ⟨v, rfl, _⟩ := h
    rfl
  · obtain ⟨v, rfl, q⟩ := h
    refine ⟨_, (pss_one (ps_ret (ce_and (kis .int T.isinstance T.int bo_int (cv 0)) (pe_one (ce_not (kis .bool T.isinstance T.bool bo_bool (cv 0))))))), ?_⟩
    show tRet _ _ [some (.int v)] H
    exact st_ret (ev_and (ev_isi (ev_v rfl)) (fun _ => ev_not (ev_isi (ev_v rfl)))) q
theorem ok__law_kinds {f : Addr} {fd : FuncData} (F : Fun K "_law_kinds" "_law_kinds" s__law_kinds f fd) (T : Txt mg) : FnOk P w K mg base CX0 1 f fd ["_law_cell"] spLKinds := by
  refine F.ok sc__law_kinds (fun vs H Q E h => ?_) (fun cdv A outer s H vs Q E hr h => ?_)
  · obtain ⟨c, rfl, _⟩ := h
    rfl
  · obtain ⟨c, rfl, k⟩ := h
    have hu := hu20 hr
    refine ⟨_, (pss_cons (ps_set (i := 1) sc__law_kinds.nd rfl (Or.inr rfl) pe_str)
      (pss_cons (ps_set (i := 2) sc__law_kinds.nd rfl (Or.inr rfl) (kix K (pe_lst (pa_consts rfl)) (ce_bin (ce_bin (cv 0) pe_int) pe_int)))
      (pss_one (ps_ret (kcomp (cscope (N := ["_law_k", "_law_letters", "_law_cell", "_law_step"]) (src := [none, some 1, some 0, some 2]) (defScope s__law_kinds) ["_law_cell", "_law_letters", "_law_step"]) (kr1 T.range (pac (kix K (pe_lst (pa_consts rfl)) (ce_bin (cv 0) pe_int)) pa_nil)) (fun _ _ _ => (pg_name' (i := 0) ["_law_k", "_law_letters", "_law_cell", "_law_step"])) (fun _ _ _ => pifs_nil) (fun _ _ _ => (kix K (cv 1) (ce_bin (ce_bin (ce_bin (cv 2) pe_int) (ce_bin (cv 3) (cv 0))) pe_int)))))))), ?_⟩
    show tSeq _ _ _ [some (.int c), none, none] H
    refine st_set ev_c ?_
    refine st_asg (fun v H' => ∃ st : Int, v = .int st ∧ st ∈ ([1, 3, 5, 7, 9, 11] : List Int) ∧ Same H H') (fun Q q => ?_) ?_
    · obtain ⟨n, e, hn⟩ := pickN (ns := [1, 3, 5, 7, 9, 11]) (i := c / 208 % 6) (by omega) (by show _ < (6 : Int); omega)
      exact lix_k av_cs (by decide) (fun H' => (ev_mod (ev_div (ev_v rfl) ev_c ⟨by decide, by decide⟩) ev_c (by decide))) e (fun H' s => q _ _ ⟨n, rfl, hn, s⟩)
    rintro _ H1 ⟨st, rfl, hst, s1⟩
    obtain ⟨n, e, hn⟩ := pickN (ns := [1, 2, 2, 3, 3, 1, 6, 4]) (i := c % 8) (by omega) (by show _ < (8 : Int); omega)
    have hn6 : 1 ≤ n ∧ n ≤ 6 := by
      simp only [List.mem_cons, List.not_mem_nil, or_false] at hn
      omega
    show tRet _ _ [some (.int c), some (.str "abcdefghijklmnopqrstuvwxyz"), some (.int st)] H1
    refine comp_evRH (n := n) (rest := [some (.str "abcdefghijklmnopqrstuvwxyz"), some (.int c), some (.int st)]) (fun Q q => rix_k av_cs (by decide) (fun H' => (ev_mod (ev_v rfl) ev_c (by decide))) e q) (by omega) (by rw [sizeLine_eq]; omega) (by omega) rfl (fun _ => true)
      (fun x => match x with | .int i => strV (97 + ((c / 8 + st * i) % 26).toNat) | _ => .non) (fun i H' s hi => tv_noif) (fun i H' s hi _ => ?_) (fun H' d s hd => ?_)
    · have hlt : 0 ≤ 0 + (i : Int) ∧ 0 + (i : Int) < 6 := by omega
      exact ev_ixs (ev_v rfl) (ev_mod (ev_add (ev_div (ev_v rfl) ev_c ⟨by decide, by decide⟩) (ev_mul (ev_v rfl) (ev_v rfl) (.inr ⟨by omega, by omega⟩))) ev_c (by decide)) (by decide) (abc_at (by omega) (by omega))
    · have e2 : (((List.range n.toNat).map fun (i : Nat) => V.int (0 + (i : Int))).filter fun _ => true).map (fun x => match x with | .int i => strV (97 + ((c / 8 + st * i) % 26).toNat) | _ => .non) = (kindsL (c / 8) st n.toNat).map strV := by
        rw [List.filter_eq_self.mpr (fun _ _ => rfl), List.map_map]
        unfold kindsL
        rw [List.map_map]
        refine List.map_congr_left fun i _ => ?_
        show strV (97 + ((c / 8 + st * (0 + (i : Int))) % 26).toNat) = strV (97 + ((c / 8 + st * (i : Int)) % 26).toNat)
        rw [Int.zero_add]
      rw [e2]
      have hl : (kindsL (c / 8) st n.toNat).length = n.toNat := by unfold kindsL; simp
      exact k d _ _ ((s1.trans s).free hd) upd_same kindsL_ltr (kindsL_nd (by omega) hst) (by omega) (by omega) ((s1.trans s).upd hd)
theorem ok__law_board {f : Addr} {fd : FuncData} (F : Fun K "_law_board" "_law_board" s__law_board f fd) (T : Txt mg) (C : LG1 P w K mg base) : FnOk P w K mg base CX0 2 f fd ["_law_script"] (spLBoard K) := by
  refine F.ok sc__law_board (fun vs H Q E h => ?_) (fun cdv A outer s H vs Q E hr h => ?_)
  · obtain ⟨a, ns, rfl, _⟩ := h
    rfl
  · obtain ⟨a, ns, rfl, hS, k⟩ := h
    have hu := hu20 hr
    refine ⟨_, (pss_cons (ps_set (i := 1) sc__law_board.nd rfl (Or.inl rfl) (kcall C._law_cell_at hr (pac (cv 0) (pac pe_int pa_nil))))
      (pss_cons (ps_set (i := 2) sc__law_board.nd rfl (Or.inl rfl) (ce_bin pe_int (ce_bin (cv 1) pe_int)))
      (pss_cons (ps_set (i := 3) sc__law_board.nd rfl (Or.inl rfl) (ce_bin pe_int (ce_bin (ce_bin (cv 1) pe_int) pe_int)))
      (pss_cons (ps_if (ktcmp K hu (ce_bin (ce_bin (cv 1) pe_int) pe_int) pe_int) (pss_cons (ps_set (i := 2) sc__law_board.nd rfl (Or.inl rfl) (ce_bin pe_int (ce_bin (ce_bin (cv 1) pe_int) pe_int)))
      (pss_one (ps_set (i := 3) sc__law_board.nd rfl (Or.inl rfl) (ce_bin pe_int (ce_bin (ce_bin (cv 1) pe_int) pe_int))))) pss_nil)
      (pss_cons (ps_set (i := 1) sc__law_board.nd rfl (Or.inl rfl) (kcall C._law_cell_at hr (pac (cv 0) (pac pe_int pa_nil))))
      (pss_cons (ps_set (i := 4) sc__law_board.nd rfl (Or.inl rfl) (pe_lst pa_nil))
      (pss_cons (ps_for PassesOwn.never rfl (kr1 T.range (pac (kix K (pe_lst (pa_consts rfl)) (ce_bin (cv 1) pe_int)) pa_nil)) (pg_name (i := 5) sc__law_board.nd rfl (Or.inl rfl)) (pss_cons (ps_set (i := 6) sc__law_board.nd rfl (Or.inl rfl) (ce_bin (kcall C._law_mixed hr (pac (ce_bin (cv 1) pe_int) (pac (cv 5) pa_nil))) (ce_bin (cv 2) (cv 3))))
      (pss_one (ps_if (pw_and (ktcmp K hu (cv 6) (cv 4)) (pw_and1 (ktcmp K hu (ce_bin (kB (klen K) bo_len T.len (pac (cv 4) pa_nil)) pe_int) (ce_bin (cv 2) (cv 3))))).pt (pss_one (ps_expr (ce_app (cv 4) (cv 6)))) pss_nil))))
      (pss_one (ps_ret (pe_tup (pac (cv 2) (pac (cv 3) (pac (cv 4) pa_nil))))))))))))), ?_⟩
    show tSeq _ _ _ [some (.ref a), none, none, none, none, none, none] H
    refine st_set (ev_call (av_cons (ev_v rfl) (av_cons ev_c av_nil)) (fun Q q => ⟨a, ns, 0, rfl, hS, by decide, q⟩)) ?_
    generalize cellAt ns 0 = c
    refine st_set (ev_add ev_c (ev_mod (ev_v rfl) ev_c (by decide))) ?_
    refine st_set (ev_add ev_c (ev_mod (ev_div (ev_v rfl) ev_c ⟨by decide, by decide⟩) ev_c (by decide))) ?_
    refine tSeq_of (fun σ' H' => ∃ wi hi : Int, 1 ≤ wi ∧ wi ≤ 8 ∧ 1 ≤ hi ∧ hi ≤ 8 ∧ σ' = [some (.ref a), some (.int c), some (.int wi), some (.int hi), none, none, none] ∧ H' = H) (fun K' hK => ?_) ?_
    · refine st_tst1 (tv_e (ev_eq (ev_mod (ev_div (ev_v rfl) ev_c ⟨by decide, by decide⟩) ev_c (by decide)) ev_c)) (fun _ => ?_) (fun _ => hK _ _ ⟨_, _, by omega, by omega, by omega, by omega, rfl, rfl⟩)
      refine st_set (ev_add ev_c (ev_mod (ev_div (ev_v rfl) ev_c ⟨by decide, by decide⟩) ev_c (by decide))) ?_
      exact st_set1 (ev_add ev_c (ev_mod (ev_div (ev_v rfl) ev_c ⟨by decide, by decide⟩) ev_c (by decide))) (hK _ _ ⟨_, _, by omega, by omega, by omega, by omega, rfl, rfl⟩)
    rintro _ H1 ⟨wi, hi, w1, w8, h1, h8, rfl, rfl⟩
    have m1 : wi * hi ≤ 8 * 8 := Int.mul_le_mul w8 h8 (by omega) (by omega)
    have m0 : 1 * 1 ≤ wi * hi := Int.mul_le_mul w1 h1 (by omega) (by omega)
    refine st_set (ev_call (av_cons (ev_v rfl) (av_cons ev_c av_nil)) (fun Q q => ⟨a, ns, 1, rfl, hS, by decide, q⟩)) ?_
    generalize cellAt ns 1 = c1
    refine st_nil fun q1 hq1 => ?_
    have sm : Same H1 (upd H1 q1 (.lst [])) := (Same.refl H1).upd hq1
    obtain ⟨n, e, hn⟩ := pickN (ns := [0, 0, 1, 2]) (i := c1 % 4) (by omega) (by show _ < (4 : Int); omega)
    have hn2 : 0 ≤ n ∧ n ≤ 2 := by
      simp only [List.mem_cons, List.not_mem_nil, or_false] at hn
      omega
    refine tSeq_of (fun σ' H' => ∃ hs : List Int, (∃ o5 o6, σ' = [some (.ref a), some (.int c1), some (.int wi), some (.int hi), some (.ref q1), o5, o6]) ∧ H' q1 = some (.lst (hs.map V.int)) ∧ (∀ h ∈ hs, 0 ≤ h ∧ h < wi * hi) ∧ hs.Nodup ∧ (hs.length : Int) < wi * hi ∧ hs.length ≤ 2 ∧ Same H1 H') (fun K' hK => ?_) ?_
    · refine for_rng1H n (fun Q q => rix_k av_cs (by decide) (fun H' => (ev_mod (ev_v rfl) ev_c (by decide))) e q) (by omega) (by omega)
        (fun i σ' H' => ∃ hs : List Int, (∃ o5 o6, σ' = [some (.ref a), some (.int c1), some (.int wi), some (.int hi), some (.ref q1), o5, o6]) ∧ H' q1 = some (.lst (hs.map V.int)) ∧ (∀ h ∈ hs, 0 ≤ h ∧ h < wi * hi) ∧ hs.Nodup ∧ (hs.length : Int) < wi * hi ∧ hs.length ≤ i ∧ Same H1 H')
        (fun H' s => ⟨[], ⟨_, _, rfl⟩, s _ _ upd_same, (fun h hh => by cases hh), List.nodup_nil, by show (0 : Int) < _; omega, Nat.le_refl _, sm.trans s⟩) ?_ (fun σ' H' h => ?_)
      · rintro i _ H3 hi' ⟨hs, ⟨o5, o6, rfl⟩, h3, gd, nd, hl, hl2, s3⟩
        show tSeq _ _ _ [some (.ref a), some (.int c1), some (.int wi), some (.int hi), some (.ref q1), some (.int (0 + (i : Int))), o6] H3
        generalize 0 + (i : Int) = j
        refine st_set (ev_mod (ev_call (av_cons (ev_div (ev_v rfl) ev_c ⟨by decide, by decide⟩) (av_cons (ev_v rfl) av_nil)) (fun Q q => ⟨_, _, rfl, q⟩)) (ev_mul (ev_v rfl) (ev_v rfl) (.inl ⟨by omega, by omega⟩)) (by omega)) ?_
        generalize hsq : mixed (c1 / 4) j % (wi * hi) = sq
        have sq0 : 0 ≤ sq := hsq ▸ Int.emod_nonneg _ (by omega)
        have sq1 : sq < wi * hi := hsq ▸ Int.emod_lt_of_pos _ (by omega)
        refine st_tst1 (tv_and (tv_e (ev_nin (ev_v rfl) (ev_v rfl) (.inl (SqL.of h3)))) (fun _ => (tv_e (ev_lt (ev_add (ev_len (ev_v rfl) (.inl (SqL.of h3))) ev_c) (ev_mul (ev_v rfl) (ev_v rfl) (.inl ⟨by omega, by omega⟩)))))) (fun h => ?_) (fun _ => ⟨hs, ⟨_, _, rfl⟩, h3, gd, nd, hl, by omega, s3⟩)
        rw [Bool.and_eq_true] at h
        have hni : ¬ sq ∈ hs := fun z => by
          have h1 := h.1
          rw [decide_eq_true z] at h1
          cases h1
        have hl' := of_decide_eq_true h.2
        rw [List.length_map] at hl'
        refine st_app1 (ev_v rfl) (ev_v rfl) h3 (by rw [List.length_map, sizeLine_eq]; omega) ⟨hs ++ [sq], ⟨_, _, rfl⟩, ?_, fun h hh => ?_, ?_, ?_, ?_, s3.put hq1⟩
        · rw [upd_same, List.map_append]; rfl
        · rcases List.mem_append.mp hh with z | z
          · exact gd h z
          · rw [List.mem_singleton.mp z]; exact ⟨sq0, sq1⟩
        · rw [List.nodup_append]
          refine ⟨nd, by simp, fun x hx y hy e => ?_⟩
          rw [List.mem_singleton.mp hy] at e
          exact hni (e ▸ hx)
        · rw [List.length_append]; show ((hs.length + 1 : Nat) : Int) < _; omega
        · rw [List.length_append]; show hs.length + 1 ≤ _; omega
      · obtain ⟨hs, o, h3, gd, nd, hl, hl2, s3⟩ := h
        exact hK _ _ ⟨hs, o, h3, gd, nd, hl, by omega, s3⟩
    rintro _ H3 ⟨hs, ⟨o5, o6, rfl⟩, h3, gd, nd, hl, hl2, s3⟩
    show tRet _ _ [some (.ref a), some (.int c1), some (.int wi), some (.int hi), some (.ref q1), o5, o6] H3
    refine tup3_k (ev_v rfl) (ev_v rfl) (ev_v rfl) (fun t ht => ?_)
    exact k t q1 wi hi hs _ w1 w8 h1 h8 upd_same (by rw [upd_ne (ne_of_none h3 ht)]; exact h3) gd nd hl hl2 hq1 (s3.free ht) (s3.upd ht)

end
end K09

namespace K09
open PySem L2
def spLEmpty (K : PySem.W.Frag) : Sp := fun vs H Q _ => ∃ (wi hi : Int) (d : Addr) (hs : List Int), vs = [.int wi, .int hi, .ref d] ∧ 1 ≤ wi ∧ wi ≤ 8 ∧ 1 ≤ hi ∧ hi ≤ 8 ∧ SqL K H d (hs.map V.int) ∧ ∀ H', Same H H' → Q (.str (emptyT wi hi hs)) H'
def spSignsG : Sp := fun vs H Q _ => ∃ c : Nat, vs = [.str (one c)] ∧ Ltr c ∧ ∀ H', Same H H' → Q (.bl true) H'
def spSquaresG : Sp := fun vs H Q _ => ∃ (row : Str) (sd : Int), vs = [.str row, .int sd] ∧ (sd = 0 ∨ sd = 1) ∧ row.length ≤ 64 ∧ (∀ c ∈ row.cps.toList, Sg c) ∧ ∀ H', Same H H' → Q (.bl true) H'
structure C3 (P : Program) (w : World) (K : PySem.W.Frag) (mg : Str → Option Value) (base : Heap) : Prop where
  sign_of : Cal P w K mg base "sign_of" ["kind", "side"] 1 spSign
  kind_of : Cal P w K mg base "kind_of" ["sign"] 1 spKind
  side_of : Cal P w K mg base "side_of" ["sign"] 1 spSideOf
  squares_of : Cal P w K mg base "squares_of" ["row", "side"] 2 spSquares
  _law_whole : Cal P w K mg base "_law_whole" ["_law_thing"] 1 spWhL
section
variable {P : Program} {w : World} {K : PySem.W.Frag} {mg : Str → Option Value} {base : Heap}
theorem ok__law_empty {f : Addr} {fd : FuncData} (F : Fun K "_law_empty" "_law_empty" s__law_empty f fd) (T : Txt mg) : FnOk P w K mg base CX0 1 f fd ["_law_wide", "_law_high", "_law_holes"] (spLEmpty K) := by
  refine F.ok sc__law_empty (fun vs H Q E h => ?_) (fun cdv A outer s H vs Q E hr h => ?_)
  · obtain ⟨wi, hi, d, hs, rfl, _⟩ := h
    rfl
  · obtain ⟨wi, hi, d, hs, rfl, w1, w8, h1, h8, hS, k⟩ := h
    have hu := hu20 hr
    have m1 : wi * hi ≤ 8 * 8 := Int.mul_le_mul w8 h8 (by omega) (by omega)
    have m0 : 1 * 1 ≤ wi * hi := Int.mul_le_mul w1 h1 (by omega) (by omega)
    refine ⟨_, (pss_one (ps_ret (ksm PySem.F.slot_str_join PySem.F.type_str_join (kjoin K) pe_str (pac (kcomp (cscope (N := ["_law_square", "_law_holes"]) (src := [none, some 2]) (defScope s__law_empty) ["_law_wide", "_law_high", "_law_holes"]) (kr1 T.range (pac (ce_bin (cv 0) (cv 1)) pa_nil)) (fun _ _ _ => (pg_name' (i := 0) ["_law_square", "_law_holes"])) (fun _ _ _ => pifs_nil) (fun _ _ _ => (kix K pe_str (kTy call_intA bo_int T.int (pac (kcmp K hu (cv 0) (cv 1)) pa_nil))))) pa_nil)))), ?_⟩
    show tRet _ _ [some (.int wi), some (.int hi), some (.ref d)] H
    refine sm1_k ev_c ?_
    refine comp_evR (n := wi * hi) (rest := [some (.ref d)]) (av_cons (ev_mul (ev_v rfl) (ev_v rfl) (.inl ⟨by omega, by omega⟩)) av_nil) (by omega) (by rw [sizeLine_eq]; omega) (by omega) rfl (fun _ => true)
      (fun x => match x with | .int i => strV (if i ∈ hs then 35 else 46) | _ => .non) (fun i hi => tv_noif) (fun i hi' _ => ?_) (fun q hq => ?_)
    · have e : strV (if decide (0 + (i : Int) ∈ hs) = true then 35 else 46) = strV (if 0 + (i : Int) ∈ hs then 35 else 46) := by
        by_cases m : 0 + (i : Int) ∈ hs
        · rw [if_pos m, if_pos (decide_eq_true m)]
        · rw [if_neg m, decide_eq_false m]; rfl
      show Ev _ _ _ (strV (if 0 + (i : Int) ∈ hs then 35 else 46))
      rw [← e]
      exact ev_ixs ev_c (ev_intb (ev_in (ev_v rfl) (ev_v rfl) (.inl hS))) (by decide) (dh_at _)
    · have e : (((List.range (wi * hi).toNat).map fun (i : Nat) => V.int (0 + (i : Int))).filter fun _ => true).map (fun x => match x with | .int i => strV (if i ∈ hs then 35 else 46) | _ => .non) = (((List.range (wi * hi).toNat).map fun (s : Nat) => if (s : Int) ∈ hs then 35 else 46).map one).map V.str := by
        rw [List.filter_eq_self.mpr (fun _ _ => rfl), List.map_map, List.map_map, List.map_map]
        refine List.map_congr_left fun i _ => ?_
        show strV (if 0 + (i : Int) ∈ hs then 35 else 46) = V.str (one (if (i : Int) ∈ hs then 35 else 46))
        rw [Int.zero_add]
        rfl
      rw [e]
      show joinA K (.str "") [.ref q] _ Q
      rw [r_join]
      refine ⟨_, SqL.of upd_same, ?_, ?_⟩
      · rw [List.map_map]
        have es : ∀ l : List Nat, (l.map ((fun x : Str => x.length) ∘ one)).sum = l.length := fun l => by
          induction l with
          | nil => rfl
          | cons a r ih => rw [List.map_cons, List.sum_cons, ih, List.length_cons]; show 1 + r.length = _; omega
        have ez : ("" : Str).length = 0 := by decide +kernel
        rw [es, ez, List.length_map, List.length_range]
        omega
      · rw [join_ones]
        exact k _ ((Same.refl H).upd hq)
theorem ok__law_signs_good {f : Addr} {fd : FuncData} (F : Fun K "_law_signs_good" "_law_signs_good" s__law_signs_good f fd) (T : Txt mg) (C : C3 P w K mg base) : FnOk P w K mg base CX0 2 f fd ["_law_kind"] spSignsG := by
  refine F.ok sc__law_signs_good (fun vs H Q E h => ?_) (fun cdv A outer s H vs Q E hr h => ?_)
  · obtain ⟨c, rfl, _⟩ := h
    rfl
  · obtain ⟨c, rfl, hc, k⟩ := h
    have hu := hu20 hr
    have c1 := hc.1
    have c2 := hc.2
    refine ⟨_, (pss_cons (ps_for PassesOwn.never rfl (kr1 T.range (pac pe_int pa_nil)) (pg_name (i := 1) sc__law_signs_good.nd rfl (Or.inl rfl)) (pss_cons (ps_set (i := 2) sc__law_signs_good.nd rfl (Or.inl rfl) (kix K (pe_lst (pac (ce_sm0 PySem.F.slot_str_upper PySem.F.type_str_upper mt_upA (cv 0)) (pac (cv 0) pa_nil))) (cv 1)))
      (pss_cons (ps_if (pw_or (pt_not (ct_val (kis .str T.isinstance T.str bo_str (kcall C.sign_of hr (pac (cv 0) (pac (cv 1) pa_nil)))))) (pw_or (ktcmp K hu (kcall C.sign_of hr (pac (cv 0) (pac (cv 1) pa_nil))) (cv 2)) (pw_or1 (ktcmp K hu (kcall C.kind_of hr (pac (cv 2) pa_nil)) (cv 0))))).pt (pss_one (ps_ret pe_bl)) pss_nil)
      (pss_one (ps_if (pw_or (pt_not (ct_val (kcall C._law_whole hr (pac (kcall C.side_of hr (pac (cv 2) pa_nil)) pa_nil)))) (pw_or1 (ktcmp K hu (kcall C.side_of hr (pac (cv 2) pa_nil)) (cv 1)))).pt (pss_one (ps_ret pe_bl)) pss_nil)))))
      (pss_one (ps_ret (kcmp K hu (pe_lst (pac (kcall C.kind_of hr (pac pe_str pa_nil)) (pac (kcall C.kind_of hr (pac pe_str pa_nil)) (pac (kcall C.side_of hr (pac pe_str pa_nil)) (pac (kcall C.side_of hr (pac pe_str pa_nil)) pa_nil))))) (pe_lst (pa_consts rfl)))))), ?_⟩
    show tSeq _ _ _ [some (.str (one c)), none, none] H
    refine tSeq_of (fun σ' H' => Same H H') (fun K' hK => ?_) (fun σ' H1 s1 => ?_)
    · refine for_rng1 2 (fun Q q => (av_cons ev_c av_nil : Av _ _ _ [.int 2]) _ q) (by decide) (by decide) (fun i σ' H' => Same H H' ∧ ∃ o1 o2, σ' = [some (.str (one c)), o1, o2]) ⟨Same.refl H, _, _, rfl⟩ ?_ (fun σ' H' h => hK _ _ h.1)
      rintro i _ H1 hi ⟨s1, o1, o2, rfl⟩
      have i2 : i < 2 := hi
      show tSeq _ _ _ [some (.str (one c)), some (.int (0 + (i : Int))), o2] H1
      -- the sign of that side
      obtain ⟨sg, esg, hat, hk, hs, hlt⟩ : ∃ sg : Nat, sg = (if 0 + (i : Int) = 0 then c - 32 else c) ∧ atI [V.str (one (c - 32)), V.str (one c)] (0 + (i : Int)) = some (.str (one sg)) ∧ kindV sg = .str (one c) ∧ sideV sg = .int (0 + (i : Int)) ∧ sg < 128 := by
        match i, i2 with
        | 0, _ =>
          refine ⟨c - 32, rfl, rfl, ?_, ?_, by omega⟩
          · unfold kindV; rw [if_neg (by omega), lo_up hc]
          · unfold sideV; rw [if_neg (by omega), if_pos ⟨by omega, by omega⟩]; rfl
        | 1, _ =>
          refine ⟨c, rfl, rfl, ?_, ?_, by omega⟩
          · unfold kindV; rw [if_neg (by omega), lo_lo hc]
          · unfold sideV; rw [if_neg (by omega), if_neg (by omega)]; rfl
      refine st_asg (fun v H' => v = .str (one sg) ∧ Same H1 H') (fun Q q => lix_k (av_cons (ev_up (ev_v rfl) hc) (av_cons (ev_v rfl) av_nil)) (by show 2 ≤ 1000; decide) (fun H' => ev_v rfl) hat (fun H' s => q _ _ ⟨rfl, s⟩)) ?_
      rintro _ H2 ⟨rfl, s2⟩
      refine st_ifH (fun b H' => b = false ∧ Same H2 H') (fun Q q => ?_) (fun H' h => by cases h.1) (fun H3 h => ?_)
      · have eS : Ev (cCall spSign (tCons (cVar 0) (tCons (cVar 1) tNil))) [some (.str (one c)), some (.int (0 + (i : Int))), some (.str (one sg))] H2 (.str (one sg)) := ev_call (av_cons (ev_v rfl) (av_cons (ev_v rfl) av_nil)) (fun Q q => ⟨c, _, rfl, hc, by rw [← esg]; exact q⟩)
        refine tor_k (tv_not (tv_e (ev_iss eS))) ?_
        refine tor_k ?_ ?_
        · have := tv_e (ev_nes (K := K) eS (ev_v (n := 2) rfl))
          rw [decide_eq_true rfl] at this
          exact this
        · refine eqc_k (av_cons (ev_v rfl) av_nil) ⟨sg, rfl, hlt, fun H' s => evk (v := .str (one c)) (ev_v rfl) ?_⟩
          rw [hk]
          show Q (!decide (one c = one c)) H'
          rw [decide_eq_true rfl]
          exact q _ _ ⟨rfl, s⟩
      obtain ⟨_, s3⟩ := h
      refine st_if1 (fun b H' => b = false ∧ Same H3 H') (fun Q q => ?_) (fun H' h => by cases h.1) (fun H4 h => ?_)
      · refine nwc_k (av_cons (ev_v rfl) av_nil) ⟨sg, rfl, hlt, fun H' s => ⟨0 + (i : Int), by rw [hs], ?_⟩⟩
        rw [r_b, if_neg (by decide)]
        refine eqc_k (av_cons (ev_v rfl) av_nil) ⟨sg, rfl, hlt, fun H'' s' => evk (v := .int (0 + (i : Int))) (ev_v rfl) ?_⟩
        rw [hs]
        show Q (!decide ((0 + (i : Int)) = 0 + (i : Int))) H''
        rw [decide_eq_true rfl]
        exact q _ _ ⟨rfl, s.trans s'⟩
      · exact ⟨((s1.trans s2).trans s3).trans h.2, _, _, rfl⟩
    · -- [kind_of("."), ..] == [None, ..]
      show cCmp K .Eq _ _ σ' H1 Q
      have kd : kindV 46 = .non := rfl
      have kh : kindV 35 = .non := rfl
      have sd : sideV 46 = .non := rfl
      have sh : sideV 35 = .non := rfl
      refine cal_k (Q := _) (av_cons ev_dot av_nil) ⟨46, rfl, by decide, fun H2 s2 => ?_⟩
      refine cal_k (Q := _) (av_cons ev_hash av_nil) ⟨35, rfl, by decide, fun H3 s3 => ?_⟩
      refine cal_k (Q := _) (av_cons ev_dot av_nil) ⟨46, rfl, by decide, fun H4 s4 => ?_⟩
      refine cal_k (Q := _) (av_cons ev_hash av_nil) ⟨35, rfl, by decide, fun H5 s5 => ?_⟩
      refine ⟨by show 4 ≤ sizeLine; decide, fun p hp => ⟨by show 4 ≤ sizeLine; decide, fun p2 hp2 => ?_⟩⟩
      show cmpA K .Eq (.ref p) (.ref p2) _ Q
      rw [r_eq_rr]
      have ne : p ≠ p2 := ne_of_none upd_same hp2
      refine ⟨true, eqT_same (xs := [.non, .non, .non, .non]) (SqL.of (by rw [upd_ne ne, upd_same]; rw [kd, kh, sd, sh])) (SqL.of upd_same) rfl, k _ ?_⟩
      exact ((((s1.trans s2).trans s3).trans s4).trans s5).upd hp |>.upd hp2
end
end K09

namespace K09
open PySem L2
section
variable {P : Program} {w : World} {K : PySem.W.Frag} {mg : Str → Option Value} {base : Heap}
theorem ok__law_squares_good {f : Addr} {fd : FuncData} (F : Fun K "_law_squares_good" "_law_squares_good" s__law_squares_good f fd) (T : Txt mg) (C : C3 P w K mg base) : FnOk P w K mg base CX0 3 f fd ["_law_row", "_law_side"] spSquaresG := by
  refine F.ok sc__law_squares_good (fun vs H Q E h => ?_) (fun cdv A outer s H vs Q E hr h => ?_)
  · obtain ⟨row, sd, rfl, _⟩ := h
    rfl
  · obtain ⟨row, sd, rfl, hsd, hz, hsg, k⟩ := h
    have hu := hu20 hr
    have z1 : row.length ≤ sizeLine := Nat.le_trans hz (by decide)
    have hlt : ∀ c ∈ row.cps.toList, c < 128 := fun c hc => (hsg c hc).lt
    refine ⟨_, (pss_cons (ps_set (i := 2) sc__law_squares_good.nd rfl (Or.inl rfl) (pe_lst pa_nil))
      (pss_cons (ps_for PassesOwn.never rfl (kr1 T.range (pac (kB (klen K) bo_len T.len (pac (cv 0) pa_nil)) pa_nil)) (pg_name (i := 3) sc__law_squares_good.nd rfl (Or.inl rfl)) (pss_one (ps_if (pw_and (ktcmp K hu (kix K (cv 0) (cv 3)) pe_str) (pw_and1 (ktcmp K hu (kcmp K hu (kix K (cv 0) (cv 3)) pe_str) (kcmp K hu (cv 1) pe_int)))).pt (pss_one (ps_expr (ce_app (cv 2) (cv 3)))) pss_nil)))
      (pss_cons (ps_set (i := 4) sc__law_squares_good.nd rfl (Or.inl rfl) (kcall C.squares_of hr (pac (cv 0) (pac (cv 1) pa_nil))))
      (pss_cons (ps_if (pw_or (pt_not (ct_val (kis .list T.isinstance T.list bo_list (cv 4)))) (pw_or1 (ktcmp K hu (cv 4) (cv 2)))).pt (pss_one (ps_ret pe_bl)) pss_nil)
      (pss_cons (ps_for PassesOwn.never rfl (kpl K (cv 4)) (pg_name (i := 3) sc__law_squares_good.nd rfl (Or.inl rfl)) (pss_one (ps_if (pt_not (ct_val (kcall C._law_whole hr (pac (cv 3) pa_nil)))) (pss_one (ps_ret pe_bl)) pss_nil)))
      (pss_cons (ps_expr (ce_app (cv 4) (ce_neg pe_int)))
      (pss_one (ps_ret (ce_and (kcmp K hu (kcall C.squares_of hr (pac (cv 0) (pac (cv 1) pa_nil))) (cv 2)) (pe_one (kcmp K hu (cv 4) (ce_bin (cv 2) (pe_lst (pac (ce_neg pe_int) pa_nil)))))))))))))), ?_⟩
    show tSeq _ _ _ [some (.str row), some (.int sd), none, none, none] H
    refine st_nil fun q1 hq1 => ?_
    have sm : Same H (upd H q1 (.lst [])) := (Same.refl H).upd hq1
    refine tSeq_of (fun σ' H' => (∃ o3 o4, σ' = [some (.str row), some (.int sd), some (.ref q1), o3, o4]) ∧ H' q1 = some (.lst ((sqsOf row sd).map V.int)) ∧ Same H H') (fun K' hK => ?_) ?_
    · refine for_rng1 (row.length : Int) (fun Q q => (av_cons (ev_lens (ev_v rfl) z1) av_nil : Av _ _ _ [.int row.length]) _ q) (by omega) (by omega)
        (fun i σ' H' => (∃ o3 o4, σ' = [some (.str row), some (.int sd), some (.ref q1), o3, o4]) ∧ H' q1 = some (.lst ((((List.range i).filter fun j => decide (sideV (row.cps.toList.getD j 0) = .int sd)).map (fun (j : Nat) => (j : Int))).map V.int)) ∧ Same H H')
        ⟨⟨_, _, rfl⟩, upd_same, sm⟩ ?_ (fun σ' H' h => ?_)
      · rintro i _ H1 hi ⟨⟨o3, o4, rfl⟩, h1, s1⟩
        have hi : i < row.length := by omega
        show tIfS _ _ _ _ [some (.str row), some (.int sd), some (.ref q1), some (.int (0 + (i : Int))), o4] H1
        rw [Int.zero_add]
        have hi' : i < row.cps.toList.length := by rw [← str_len]; exact hi
        have hg : row.cps.toList[i]? = some row.cps.toList[i] := List.getElem?_eq_getElem hi'
        have hat := atI_nat hg
        have hd : row.cps.toList.getD i 0 = row.cps.toList[i] := by rw [List.getD_eq_getElem?_getD, hg]; rfl
        have hm : row.cps.toList[i] ∈ row.cps.toList := List.getElem_mem hi'
        generalize row.cps.toList[i] = c at hat hd hm
        have eI : ∀ H', Ev (cIx K (cVar 0) (cVar 3)) [some (.str row), some (.int sd), some (.ref q1), some (.int (i : Int)), o4] H' (.str (one c)) := fun H' => ev_ixs (ev_v rfl) (ev_v rfl) z1 hat
        have tst := tv_and (tv_e (ev_nins (K := K) (z := ".#") (eI H1) ev_c)) (fun _ => tv_e (ev_eqb (K := K) (ev_ins (K := K) (z := "abcdefghijklmnopqrstuvwxyz") (eI H1) ev_c) (ev_eq (K := K) (i := sd) (j := 1) (ev_v (n := 1) rfl) ev_c)))
        rw [side_law (hsg c hm) hsd] at tst
        refine st_tst1 tst (fun h => ?_) (fun h => ?_)
        · refine st_app1 (ev_v rfl) (ev_v rfl) h1 ?_ ⟨⟨_, _, rfl⟩, ?_, s1.put hq1⟩
          · rw [List.length_map, List.length_map, sizeLine_eq]
            have := List.length_filter_le (fun j => decide (sideV (row.cps.toList.getD j 0) = .int sd)) (List.range i)
            rw [List.length_range] at this
            omega
          · rw [upd_same, sqs_succ, hd, if_pos h, List.map_append (l₁ := List.map _ _)]
            rfl
        · refine ⟨⟨_, _, rfl⟩, ?_, s1⟩
          rw [h1, sqs_succ, hd, if_neg (by rw [h]; decide), List.append_nil]
      · refine hK _ _ ⟨h.1, ?_, h.2.2⟩
        have e := h.2.1
        rw [Int.toNat_natCast] at e
        exact e
    rintro _ H1 ⟨⟨o3, o4, rfl⟩, h1, s1⟩
    have sq64 : (sqsOf row sd).length ≤ 64 := by
      unfold sqsOf
      rw [List.length_map]
      have := List.length_filter_le (fun j => decide (sideV (row.cps.toList.getD j 0) = .int sd)) (List.range row.length)
      rw [List.length_range] at this
      omega
    generalize hL : sqsOf row sd = L at h1 sq64
    refine st_asg (fun v H' => ∃ fq, v = .ref fq ∧ H1 fq = none ∧ H' fq = some (.lst (L.map V.int)) ∧ Same H1 H') (fun Q q => cal_k (av_cons (ev_v rfl) (av_cons (ev_v rfl) av_nil)) ⟨row, sd, rfl, by omega, hlt, fun d H' a b c => q _ _ ⟨d, rfl, a, by rw [← hL]; exact b, c⟩⟩) ?_
    rintro _ H2 ⟨fq, rfl, n2, f2, s2⟩
    have q2 := s2 _ _ h1
    refine st_tst (tv_or (tv_not (tv_e (ev_isl (ev_v rfl) f2))) (fun _ => (tv_e (ev_ner (ev_v rfl) (ev_v rfl) (eqT_ints (SqL.of f2) (SqL.of q2)))))) (fun h => absurd h (by decide)) (fun _ => ?_)
    refine tSeq_of (fun σ' H' => (∃ o3, σ' = [some (.str row), some (.int sd), some (.ref q1), o3, some (.ref fq)]) ∧ H' = H2) (fun K' hK => ?_) ?_
    · refine for_lstP (fun v H' => v = .ref fq ∧ H' = H2) (fun Q q => evk (v := .ref fq) (ev_v rfl) (q _ _ ⟨rfl, rfl⟩)) ?_
      rintro _ H2 ⟨rfl, rfl⟩
      refine ⟨fq, _, rfl, SqL.of f2, fun i σ' H' => (∃ o3, σ' = [some (.str row), some (.int sd), some (.ref q1), o3, some (.ref fq)]) ∧ H' = H2, ⟨⟨_, rfl⟩, rfl⟩, fun i σ' H' _ h => by rw [h.2]; exact SqL.of f2, ?_, fun σ' H' h => hK _ _ h⟩
      rintro i x _ H2 hx ⟨⟨o3', rfl⟩, rfl⟩
      obtain ⟨z, _, rfl⟩ := List.mem_map.mp (List.mem_of_getElem? hx)
      show tIfS _ _ _ _ [some (.str row), some (.int sd), some (.ref q1), some (.int z), some (.ref fq)] _
      exact st_tst1 (tv_not (tv_e (ev_call (av_cons (ev_v rfl) av_nil) (fun Q q => ⟨z, rfl, q⟩)))) (fun h => absurd h (by decide)) (fun _ => ⟨⟨_, rfl⟩, rfl⟩)
    rintro _ H3 ⟨⟨o3', rfl⟩, rfl⟩
    refine st_app (ev_v rfl) (ev_neg ev_c) f2 (by rw [List.length_map, sizeLine_eq]; omega) ?_
    have nq : q1 ≠ fq := fun e => by rw [e] at h1; rw [h1] at n2; cases n2
    generalize hH4 : upd H3 fq (HO.lst (L.map V.int ++ [V.int (-1)])) = H4
    have f4 : H4 fq = some (.lst ((L ++ [-1]).map V.int)) := by rw [← hH4, upd_same, List.map_append]; rfl
    have q4 : H4 q1 = some (.lst (L.map V.int)) := by rw [← hH4, upd_ne nq]; exact q2
    have s14 : Same H1 H4 := hH4 ▸ s2.put n2
    have s04 : Same H H4 := s1.trans s14
    show tRet _ _ [some (.str row), some (.int sd), some (.ref q1), o3', some (.ref fq)] H4
    refine andc_k (av_cons (ev_v rfl) (av_cons (ev_v rfl) av_nil)) ⟨row, sd, rfl, by omega, hlt, fun d H5 a b c => evk (v := .ref q1) (ev_v rfl) ?_⟩
    rw [hL] at b
    rw [r_eq_rr]
    refine ⟨true, eqT_ints (SqL.of b) (SqL.of (c _ _ q4)), ?_⟩
    rw [r_b, if_pos rfl]
    exact eqcat_k (ev_v rfl) (c _ _ f4) (ev_v rfl) (c _ _ q4) (ev_neg ev_c) (by omega) rfl (fun H' s => k _ ((s04.trans c).trans s))
end
end K09

namespace K09
open PySem L2
def spLaw (K : PySem.W.Frag) : Sp := fun vs H Q _ => ∃ (a : Addr) (ns : List Int), vs = [.ref a] ∧ SqL K H a (ns.map V.int) ∧ ns.length ≤ 63 ∧ ∀ H', Q (.bl true) H'
theorem make_same {H H1 H' : Hp} {x dx : Addr} {o1 o2 : HO} (s : Same H H1) (nx : H1 x = none) (nd : H1 dx = none) (sb : SameBut x (upd (upd H1 dx o1) x o2) H') : Same H H' := fun b o e => by
  have e1 := s b o e
  have nbx := ne_of_none e1 nx
  have nbd := ne_of_none e1 nd
  exact sb b o (by rw [upd_ne nbx, upd_ne nbd]; exact e1) nbx
structure C4 (P : Program) (w : World) (K : PySem.W.Frag) (mg : Str → Option Value) (base : Heap) (cB : Addr) : Prop extends LG1 P w K mg base where
  put : Cal P w K mg base "put" ["row", "square", "sign"] 1 spPut
  empty_row : Cal P w K mg base "empty_row" ["board"] 4 (spEmpty K cB)
  _law_board : Cal P w K mg base "_law_board" ["_law_script"] 2 (spLBoard K)
  _law_kinds : Cal P w K mg base "_law_kinds" ["_law_cell"] 1 spLKinds
  _law_empty : Cal P w K mg base "_law_empty" ["_law_wide", "_law_high", "_law_holes"] 1 (spLEmpty K)
  _law_signs_good : Cal P w K mg base "_law_signs_good" ["_law_kind"] 2 spSignsG
  _law_squares_good : Cal P w K mg base "_law_squares_good" ["_law_row", "_law_side"] 3 spSquaresG
  Board : MkCal P w K mg base "Board" cB ["self", "wide", "high", "holes"] 4 (spBInit K cB)
section
variable {P : Program} {w : World} {K : PySem.W.Frag} {mg : Str → Option Value} {base : Heap}
theorem ok_law {f cB : Addr} {fd : FuncData} (F : Fun K "law" "law" s_law f fd) (T : Txt mg) (C : C4 P w K mg base cB) : FnOk P w K mg base CX0 6 f fd ["_law_script"] (spLaw K) := by
  refine F.ok sc_law (fun vs H Q E h => ?_) (fun cdv A outer s H vs Q E hr h => ?_)
  · obtain ⟨a, ns, rfl, _⟩ := h
    rfl
  · obtain ⟨a, ns, rfl, hS, hlen, k⟩ := h
    have hu := hu20 hr
    refine ⟨_, (pss_cons (ps_asg (kcall C._law_board hr (pac (cv 0) pa_nil)) (kgt K (n := 3) (pgs_cons (pg_name (i := 1) sc_law.nd rfl (Or.inl rfl)) (pgs_cons (pg_name (i := 2) sc_law.nd rfl (Or.inl rfl)) (pgs_cons (pg_name (i := 3) sc_law.nd rfl (Or.inr rfl)) pgs_nil)))))
      (pss_cons (ps_set (i := 4) sc_law.nd rfl (Or.inl rfl) (kcall C._law_kinds hr (pac (kcall C._law_cell_at hr (pac (cv 0) (pac pe_int pa_nil))) pa_nil)))
      (pss_cons (ps_for PassesOwn.never rfl (pi_str pe_str) (pg_name (i := 5) sc_law.nd rfl (Or.inl rfl)) (pss_one (ps_if (pt_not (ct_val (kcall C._law_signs_good hr (pac (cv 5) pa_nil)))) (pss_one (ps_ret pe_bl)) pss_nil)))
      (pss_cons (ps_set (i := 6) sc_law.nd rfl (Or.inl rfl) (kcall C._law_empty hr (pac (cv 1) (pac (cv 2) (pac (cv 3) pa_nil)))))
      (pss_cons (ps_set (i := 7) sc_law.nd rfl (Or.inl rfl) (kmake C.Board hr (pac (cv 1) (pac (cv 2) (pac (kTy (klist K) bo_list T.list (pac (cv 3) pa_nil)) pa_nil)))))
      (pss_cons (ps_if (pw_or (pt_not (ct_val (kis .str T.isinstance T.str bo_str (kcall C.empty_row hr (pac (cv 7) pa_nil))))) (pw_or1 (ktcmp K hu (kcall C.empty_row hr (pac (cv 7) pa_nil)) (cv 6)))).pt (pss_one (ps_ret pe_bl)) pss_nil)
      (pss_cons (ps_setC (i := 8) rfl (cscope (N := ["_law_square", "_law_holes"]) (src := [none, some 3]) (defScope s_law) ["_law_script", "_law_wide", "_law_high", "_law_holes", "_law_kinds_here", "_law_letter", "_law_row", "_law_board_here", "_law_free", "_law_k", "_law_cell", "_law_mixed_here", "_law_square", "_law_kind", "_law_sign", "_law_due", "_law_found"]) (kr1 T.range (pac (ce_bin (cv 1) (cv 2)) pa_nil)) (fun _ _ _ => (pg_name' (i := 0) ["_law_square", "_law_holes"])) (fun _ _ _ => (pifs_one (ktcmp K hu (cv 0) (cv 1)))) (fun _ _ _ => (cv 0)) sc_law.nd rfl (Or.inl rfl) rfl (Or.inl rfl))
      (pss_cons (ps_for PassesOwn.never rfl (kenum K T.enumerate (ksl K (cv 0) (co_some pe_int) (co_some pe_int))) (kgt K (n := 2) (pgs_cons (pg_name (i := 9) sc_law.nd rfl (Or.inl rfl)) (pgs_cons (pg_name (i := 10) sc_law.nd rfl (Or.inl rfl)) pgs_nil))) (pss_cons (ps_set (i := 11) sc_law.nd rfl (Or.inl rfl) (kcall C._law_mixed hr (pac (cv 10) (pac (cv 9) pa_nil))))
      (pss_cons (ps_set (i := 12) sc_law.nd rfl (Or.inl rfl) (kix K (cv 8) (ce_bin (cv 11) (kB (klen K) bo_len T.len (pac (cv 8) pa_nil)))))
      (pss_cons (ps_set (i := 13) sc_law.nd rfl (Or.inl rfl) (kix K (pe_lst (pac (kix K (cv 4) (ce_bin (ce_bin (cv 11) pe_int) (kB (klen K) bo_len T.len (pac (cv 4) pa_nil)))) (pac (kix K pe_str (ce_bin (ce_bin (cv 11) pe_int) pe_int)) pa_nil))) (ce_bin (ce_bin (ce_bin (cv 11) pe_int) pe_int) pe_int)))
      (pss_cons (ps_set (i := 14) sc_law.nd rfl (Or.inl rfl) (kix K (pe_lst (pac (cv 13) (pac (ce_sm0 PySem.F.slot_str_upper PySem.F.type_str_upper mt_upA (cv 13)) (pac pe_str (pac (cv 13) (pac (ce_sm0 PySem.F.slot_str_upper PySem.F.type_str_upper mt_upA (cv 13)) (pac (cv 13) (pac pe_str (pac (ce_sm0 PySem.F.slot_str_upper PySem.F.type_str_upper mt_upA (cv 13)) pa_nil))))))))) (ce_bin (ce_bin (cv 11) pe_int) pe_int)))
      (pss_cons (ps_set (i := 15) sc_law.nd rfl (Or.inl rfl) (ce_bin (ce_bin (ksl K (cv 6) po_none (co_some (cv 12))) (cv 14)) (ksl K (cv 6) (co_some (ce_bin (cv 12) pe_int)) po_none)))
      (pss_cons (ps_set (i := 16) sc_law.nd rfl (Or.inl rfl) (kcall C.put hr (pac (cv 6) (pac (cv 12) (pac (cv 14) pa_nil)))))
      (pss_cons (ps_if (pw_or (pt_not (ct_val (kis .str T.isinstance T.str bo_str (cv 16)))) (pw_or1 (ktcmp K hu (cv 16) (cv 15)))).pt (pss_one (ps_ret pe_bl)) pss_nil)
      (pss_cons (ps_set (i := 6) sc_law.nd rfl (Or.inl rfl) (cv 15))
      (pss_one (ps_if (pw_or (pt_not (ct_val (kcall C._law_squares_good hr (pac (cv 6) (pac pe_int pa_nil))))) (pw_or1 (pt_not (ct_val (kcall C._law_squares_good hr (pac (cv 6) (pac pe_int pa_nil))))))).pt (pss_one (ps_ret pe_bl)) pss_nil)))))))))))
      (pss_one (ps_ret (kcmp K hu (kcall C.empty_row hr (pac (cv 7) pa_nil)) (kcall C._law_empty hr (pac (cv 1) (pac (cv 2) (pac (cv 3) pa_nil))))))))))))))), ?_⟩
    show tSeq _ _ _ [some (.ref a), none, none, none, none, none, none, none, none, none, none, none, none, none, none, none, none] H
    refine tSeq_of (fun σ' H' => ∃ (wi hi : Int) (d : Addr) (hs : List Int), σ' = [some (.ref a), some (.int wi), some (.int hi), some (.ref d), none, none, none, none, none, none, none, none, none, none, none, none, none] ∧ 1 ≤ wi ∧ wi ≤ 8 ∧ 1 ≤ hi ∧ hi ≤ 8 ∧ H' d = some (.lst (hs.map V.int)) ∧ (∀ h ∈ hs, 0 ≤ h ∧ h < wi * hi) ∧ hs.Nodup ∧ (hs.length : Int) < wi * hi ∧ Same H H') (fun K' hK => ?_) ?_
    · refine asgc_k (av_cons (ev_v rfl) av_nil) ⟨a, ns, rfl, hS, fun t d wi hi hs H' w1 w8 h1 h8 et ed gd nd ln l2 nq nt s => ?_⟩
      exact gtrip et (hK _ _ ⟨wi, hi, d, hs, rfl, w1, w8, h1, h8, ed, gd, nd, ln, s⟩)
    rintro _ H1 ⟨wi, hi, d, hs, rfl, w1, w8, h1, h8, ed, gd, nd, ln, s1⟩
    have m1 : wi * hi ≤ 8 * 8 := Int.mul_le_mul w8 h8 (by omega) (by omega)
    have m0 : 1 * 1 ≤ wi * hi := Int.mul_le_mul w1 h1 (by omega) (by omega)
    have hS1 := s1.seq hS
    refine st_asg (fun v H' => ∃ (kq : Addr) (ks : List Nat), v = .ref kq ∧ H' kq = some (.lst (ks.map strV)) ∧ (∀ c ∈ ks, Ltr c) ∧ 1 ≤ ks.length ∧ ks.length ≤ 6 ∧ Same H1 H') (fun Q q => ?_) ?_
    · exact cal_k (av_cons (ev_call (av_cons (ev_v rfl) (av_cons ev_c av_nil)) (fun Q q => ⟨a, ns, 2, rfl, hS1, by decide, q⟩)) av_nil) ⟨_, rfl, fun kq ks H' z1 z2 z3 z4 z5 z6 z7 => q _ _ ⟨kq, ks, rfl, z2, z3, z5, z6, z7⟩⟩
    rintro _ H2 ⟨kq, ks, rfl, ek, hks, k1, k6, s2⟩
    -- the letters
    refine tSeq_of (fun σ' H' => ∃ o5, σ' = [some (.ref a), some (.int wi), some (.int hi), some (.ref d), some (.ref kq), o5, none, none, none, none, none, none, none, none, none, none, none] ∧ Same H2 H') (fun K' hK => ?_) ?_
    · refine for_strP (z := "abcdefghijklmnopqrstuvwxyz") ev_c (fun i σ' H' => ∃ o5, σ' = [some (.ref a), some (.int wi), some (.int hi), some (.ref d), some (.ref kq), o5, none, none, none, none, none, none, none, none, none, none, none] ∧ Same H2 H') ⟨_, rfl, Same.refl H2⟩ ?_ (fun σ' H' h => hK _ _ h)
      rintro i c _ H3 hc ⟨o5, rfl, s3⟩
      have lc : Ltr c := by
        have := abc_in c
        rw [decide_eq_true (List.mem_of_getElem? hc)] at this
        exact of_decide_eq_true (p := 97 ≤ c ∧ c ≤ 122) this.symm
      show tIfS _ _ _ _ [some (.ref a), some (.int wi), some (.int hi), some (.ref d), some (.ref kq), some (.str (one c)), none, none, none, none, none, none, none, none, none, none, none] H3
      refine st_if1 (fun b H' => b = false ∧ Same H3 H') (fun Q q => calN_k (av_cons (ev_v rfl) av_nil) ⟨c, rfl, lc, fun H' s => q _ _ ⟨rfl, s⟩⟩) (fun H' h => by cases h.1) (fun H4 h => ⟨_, rfl, s3.trans h.2⟩)
    rintro _ H3 ⟨o5, rfl, s3⟩
    have ed3 := (s2.trans s3) _ _ ed
    refine st_asg (fun v H' => v = .str (emptyT wi hi hs) ∧ Same H3 H') (fun Q q => cal_k (av_cons (ev_v rfl) (av_cons (ev_v rfl) (av_cons (ev_v rfl) av_nil))) ⟨wi, hi, d, hs, rfl, w1, w8, h1, h8, SqL.of ed3, fun H' s => q _ _ ⟨rfl, s⟩⟩) ?_
    rintro _ H4 ⟨rfl, s4⟩
    have ed4 := s4 _ _ ed3
    refine st_asg (fun v H' => ∃ (x : Addr) (hs' : List Int), v = .ref x ∧ hs'.Perm hs ∧ BrdAt K cB H' x wi hi hs' ∧ Same H4 H') (fun Q q => ?_) ?_
    · refine make3_k (ev_v rfl) (ev_v rfl) (ev_v rfl) (.inl (SqL.of ed4)) fun l hl x dx nx ndx ne => ?_
      have sl : Same H4 (upd H4 l (.lst (hs.map V.int))) := (Same.refl H4).upd hl
      have el : (upd H4 l (.lst (hs.map V.int))) l = some (.lst (hs.map V.int)) := upd_same
      exact ⟨x, l, dx, wi, hi, hs, rfl, upd_same, by rw [upd_ne (ne_of_none el nx), upd_ne (ne_of_none el ndx)]; exact el, w1, w8, h1, h8, gd, nd, ln, fun hs' H' pm O sb => ⟨rfl, q _ _ ⟨x, hs', rfl, pm, O, make_same sl nx ndx sb⟩⟩⟩
    rintro _ H5 ⟨bp, hs', rfl, pm, O, s5⟩
    have eE : emptyT wi hi hs' = emptyT wi hi hs := emptyT_perm pm
    refine st_ifH (fun b H' => b = false ∧ Same H5 H') (fun Q q => ?_) (fun H' h => by cases h.1) (fun H6 h => ?_)
    · refine nis_k (av_cons (ev_v rfl) av_nil) ⟨bp, wi, hi, hs', rfl, O, fun H' s => ?_⟩
      show isA .str (.str (emptyT wi hi hs')) H' _
      rw [r_isa_str, r_b, if_neg (by decide)]
      refine eqc_k (av_cons (ev_v rfl) av_nil) ⟨bp, wi, hi, hs', rfl, O.same s, fun H'' s' => evk (v := .str (emptyT wi hi hs)) (ev_v rfl) ?_⟩
      rw [eE]
      show Q (!decide (emptyT wi hi hs = emptyT wi hi hs)) H''
      rw [decide_eq_true rfl]
      exact q _ _ ⟨rfl, s.trans s'⟩
    obtain ⟨_, s6⟩ := h
    have ed6 := (s5.trans s6) _ _ ed4
    refine st_asg (fun v H' => ∃ fq, v = .ref fq ∧ H' fq = some (.lst ((freeL wi hi hs).map V.int)) ∧ Same H6 H') (fun Q q => ?_) ?_
    · refine comp_evR (n := wi * hi) (rest := [some (.ref d)]) (av_cons (ev_mul (ev_v rfl) (ev_v rfl) (.inl ⟨by omega, by omega⟩)) av_nil) (by omega) (by rw [sizeLine_eq]; omega) (by omega) rfl (freeP hs) (fun v => v) (fun i hi => ?_) (fun i hi _ => ev_v rfl) (fun q' hq' => ?_)
      · exact tv_e (ev_nin (ev_v rfl) (ev_v rfl) (.inl (SqL.of ed6)))
      · rw [freeL_comp]
        exact q _ _ ⟨q', rfl, upd_same, (Same.refl H6).upd hq'⟩
    rintro _ H7 ⟨fq, rfl, ef, s7⟩
    have fpos := freeL_pos ln
    have flen : (freeL wi hi hs).length ≤ 64 := by
      unfold freeL
      have := List.length_filter_le (fun i => !decide (i ∈ hs)) ((List.range (wi * hi).toNat).map fun (i : Nat) => (i : Int))
      rw [List.length_map, List.length_range] at this
      omega
    have s17 := (((((s2.trans s3).trans s4).trans s5).trans s6).trans s7)
    have hS7 := s17.seq hS1
    have ek7 := ((((s3.trans s4).trans s5).trans s6).trans s7) _ _ ek
    have O7 := O.same (s6.trans s7)
    have ed7 := s7 _ _ ed6
    refine tSeq_of (fun σ' H' => ∃ (row : Str) (o9 o10 o11 o12 o13 o14 o15 o16 : Option V), σ' = [some (.ref a), some (.int wi), some (.int hi), some (.ref d), some (.ref kq), o5, some (.str row), some (.ref bp), some (.ref fq), o9, o10, o11, o12, o13, o14, o15, o16] ∧ Same H7 H') (fun K' hK => ?_) ?_
    · refine for_enLP (fun q' H' => H' q' = some (.lst (cutV (ns.map V.int) (some 3) (some 23))) ∧ Same H7 H') (fun Q q => sll_k (ev_v rfl) (po_ev ev_c) (po_ev ev_c) hS7 (fun p hp => q _ _ ⟨upd_same, (Same.refl H7).upd hp⟩)) ?_
      rintro q' H8 ⟨eq8, s8⟩
      refine ⟨_, SqL.of eq8, fun i σ' H' => ∃ (row : Str) (o9 o10 o11 o12 o13 o14 o15 o16 : Option V), σ' = [some (.ref a), some (.int wi), some (.int hi), some (.ref d), some (.ref kq), o5, some (.str row), some (.ref bp), some (.ref fq), o9, o10, o11, o12, o13, o14, o15, o16] ∧ Same H8 H' ∧ (row.length : Int) = wi * hi ∧ ∀ c ∈ row.cps.toList, Sg c,
        ⟨emptyT wi hi hs, _, _, _, _, _, _, _, _, rfl, Same.refl H8, by rw [emptyT_len]; omega, emptyT_sg⟩, ?_, ?_, ?_⟩
      · rintro i σ' H' ⟨_, _, _, _, _, _, _, _, _, _, s, _⟩
        exact SqL.of (s _ _ eq8)
      · rintro i x _ H9 t hx ⟨row, o9, o10, o11, o12, o13, o14, o15, o16, rfl, s9, rl, rs⟩ nt
        obtain ⟨z, _, rfl⟩ := List.mem_map.mp (cutV_mem (List.mem_of_getElem? hx))
        refine gpair upd_same ?_
        generalize hH10 : upd H9 t (HO.tup [V.int (i : Int), V.int z]) = H10
        have s10 : Same H8 H10 := hH10 ▸ s9.upd nt
        have s710 := s8.trans s10
        have ef10 := s710 _ _ ef
        have ek10 := s710 _ _ ek7
        show tSeq _ _ _ [some (.ref a), some (.int wi), some (.int hi), some (.ref d), some (.ref kq), o5, some (.str row), some (.ref bp), some (.ref fq), some (.int (i : Int)), some (.int z), o11, o12, o13, o14, o15, o16] H10
        refine st_set (ev_call (av_cons (ev_v rfl) (av_cons (ev_v rfl) av_nil)) (fun Q q => ⟨_, _, rfl, q⟩)) ?_
        have mr := mixed_rg z (i : Int)
        generalize mixed z (i : Int) = mx at mr
        have lf : (((freeL wi hi hs).map V.int).length : Int) = (freeL wi hi hs).length := by rw [List.length_map]
        obtain ⟨sq, esq, hsq⟩ := pickN (ns := freeL wi hi hs) (i := mx % (((freeL wi hi hs).map V.int).length : Int)) (Int.emod_nonneg _ (by omega)) (by rw [lf]; exact Int.emod_lt_of_pos _ (by omega))
        obtain ⟨q0, q1, q2⟩ := freeL_in hsq
        refine st_set (ev_ix (ev_v rfl) (ev_mod (ev_v rfl) (ev_len (ev_v rfl) (.inl (SqL.of ef10))) (by omega)) (.inl (SqL.of ef10)) (esq)) ?_
        have lk : ((ks.map strV).length : Int) = ks.length := by rw [List.length_map]
        obtain ⟨kv, ekv, hkv⟩ := pickV (xs := ks.map strV) (i := mx / 64 % ((ks.map strV).length : Int)) (Int.emod_nonneg _ (by omega)) (Int.emod_lt_of_pos _ (by omega))
        obtain ⟨kc, hkc, rfl⟩ := List.mem_map.mp hkv
        have lkc := hks kc hkc
        refine st_asg (fun v H' => ∃ c, v = .str (one c) ∧ Ltr c ∧ Same H10 H') (fun Q q => ?_) ?_
        · obtain ⟨v, e, hv⟩ := pickV (xs := [.str (one kc), .str (one (97 + (mx / 64 % 26).toNat))]) (i := mx / 4096 % 4 / 3) (by omega) (by show _ < (2 : Int); omega)
          refine lix_k (av_cons (ev_ix (ev_v rfl) (ev_mod (ev_div (ev_v rfl) ev_c ⟨by decide, by decide⟩) (ev_len (ev_v rfl) (.inl (SqL.of ek10))) (by omega)) (.inl (SqL.of ek10)) (ekv)) (av_cons (ev_ixs ev_c (ev_mod (ev_div (ev_v rfl) ev_c ⟨by decide, by decide⟩) ev_c (by decide)) (by decide) (abc_at (by omega) (by omega))) av_nil)) (by show 2 ≤ 1000; decide) (fun H' => (ev_div (ev_mod (ev_div (ev_v rfl) ev_c ⟨by decide, by decide⟩) ev_c (by decide)) ev_c ⟨by decide, by decide⟩)) e (fun H' s => ?_)
          simp only [List.mem_cons, List.not_mem_nil, or_false] at hv
          rcases hv with rfl | rfl
          · exact q _ _ ⟨kc, rfl, lkc, s⟩
          · exact q _ _ ⟨_, rfl, ⟨by omega, by omega⟩, s⟩
        rintro _ H11 ⟨c, rfl, lc, s11⟩
        refine st_asg (fun v H' => ∃ sg, v = .str (one sg) ∧ Sg sg ∧ Same H11 H') (fun Q q => ?_) ?_
        · obtain ⟨v, e, hv⟩ := pickV (xs := [.str (one c), .str (one (c - 32)), .str (one 46), .str (one c), .str (one (c - 32)), .str (one c), .str (one 46), .str (one (c - 32))]) (i := mx / 16384 % 8) (by omega) (by show _ < (8 : Int); omega)
          have eu : ∀ H', Ev (cSM0 upA (cVar 13)) [some (.ref a), some (.int wi), some (.int hi), some (.ref d), some (.ref kq), o5, some (.str row), some (.ref bp), some (.ref fq), some (.int (i : Int)), some (.int z), some (.int mx), some (.int sq), some (.str (one c)), o14, o15, o16] H' (.str (one (c - 32))) := fun H' => ev_up (ev_v rfl) lc
          refine lix_k (av_cons (ev_v rfl) (av_cons (eu _) (av_cons ev_dot (av_cons (ev_v rfl) (av_cons (eu _) (av_cons (ev_v rfl) (av_cons ev_dot (av_cons (eu _) av_nil)))))))) (by show 8 ≤ 1000; decide) (fun H' => (ev_mod (ev_div (ev_v rfl) ev_c ⟨by decide, by decide⟩) ev_c (by decide))) e (fun H' s => ?_)
          have c1 := lc.1
          have c2 := lc.2
          have up : Sg (c - 32) := .inr (.inr (.inr ⟨by omega, by omega⟩))
          simp only [List.mem_cons, List.not_mem_nil, or_false] at hv
          rcases hv with rfl | rfl | rfl | rfl | rfl | rfl | rfl | rfl
          all_goals first
            | exact q _ _ ⟨c, rfl, lc.sg, s⟩
            | exact q _ _ ⟨c - 32, rfl, up, s⟩
            | exact q _ _ ⟨46, rfl, .inl rfl, s⟩
        rintro _ H12 ⟨sg, rfl, hsg, s12⟩
        have z1 : row.length ≤ sizeLine := by rw [sizeLine_eq]; omega
        have l1 := cutS_len row none (some sq)
        have l2 := cutS_len row (some (sq + 1)) none
        have l3 : (cutS row none (some sq) ++ one sg).length = (cutS row none (some sq)).length + 1 := by
          rw [str_len, str_app, List.length_append, ← str_len]
          rfl
        refine st_set (v := .str (putT row sq (one sg))) (ev_adds (ev_adds (ev_sl (ev_v rfl) po_no (po_ev (ev_v rfl)) z1) (ev_v rfl) (by show _ + 1 ≤ sizeLine; rw [sizeLine_eq]; omega)) (ev_sl (ev_v rfl) (po_ev (ev_add (ev_v rfl) ev_c)) po_no z1) (by rw [l3, sizeLine_eq]; omega)) ?_
        refine st_set (v := .str (putT row sq (one sg))) (ev_call (av_cons (ev_v rfl) (av_cons (ev_v rfl) (av_cons (ev_v rfl) av_nil))) (fun Q q => ⟨row, sq, sg, rfl, q0, by omega, q⟩)) ?_
        refine st_tst (tv_or (tv_not (tv_e (ev_iss (ev_v rfl)))) (fun _ => tv_e (ev_nes (ev_v rfl) (ev_v rfl)))) (fun h => ?_) (fun _ => ?_)
        · rw [decide_eq_true rfl] at h
          exact absurd h (by decide)
        refine st_set (v := .str (putT row sq (one sg))) (ev_v rfl) ?_
        have rl2 := putT_len (c := sg) q0 (by omega : sq < (row.length : Int))
        have rs2 := putT_sg q0 (by omega : sq < (row.length : Int)) rs hsg
        generalize putT row sq (one sg) = row2 at rl2 rs2 ⊢
        refine st_if1 (fun b H' => b = false ∧ Same H12 H') (fun Q q => ?_) (fun H' h => by cases h.1) (fun H13 h => ?_)
        · refine norn_k (vs' := []) (av_cons (ev_v rfl) (av_cons ev_c av_nil)) ⟨row2, 0, rfl, .inl rfl, by omega, rs2, fun H' s => ?_⟩
          rw [r_b, if_neg (by decide)]
          exact calN_k (av_cons (ev_v rfl) (av_cons ev_c av_nil)) ⟨row2, 1, rfl, .inr rfl, by omega, rs2, fun H'' s' => q _ _ ⟨rfl, s.trans s'⟩⟩
        · exact ⟨row2, _, _, _, _, _, _, _, _, rfl, ((s10.trans s11).trans s12).trans h.2, by omega, rs2⟩
      · rintro σ' H' ⟨row, o9, o10, o11, o12, o13, o14, o15, o16, e, s, _⟩
        exact hK _ _ ⟨row, o9, o10, o11, o12, o13, o14, o15, o16, e, s8.trans s⟩
    rintro _ H8 ⟨row, o9, o10, o11, o12, o13, o14, o15, o16, rfl, s8⟩
    show tRet _ _ [some (.ref a), some (.int wi), some (.int hi), some (.ref d), some (.ref kq), o5, some (.str row), some (.ref bp), some (.ref fq), o9, o10, o11, o12, o13, o14, o15, o16] H8
    refine eqcc_k (av_cons (ev_v rfl) av_nil) ⟨bp, wi, hi, hs', rfl, O7.same s8, fun H9 s9 => ?_⟩
    refine cal_k (av_cons (ev_v rfl) (av_cons (ev_v rfl) (av_cons (ev_v rfl) av_nil))) ⟨wi, hi, d, hs, rfl, w1, w8, h1, h8, SqL.of ((s8.trans s9) _ _ ed7), fun H10 s10 => ?_⟩
    rw [eE]
    show Q (.bl (decide (emptyT wi hi hs = emptyT wi hi hs))) H10
    rw [decide_eq_true rfl]
    exact k H10
end
end K09

local macro_rules | `(tactic| walk_at "rd") => `(tactic| simp only [L2.tSeq, L2.tIfS, L2.tRet, L2.tAsg, L2.gName, L2.tNext, L2.tDrop, L2.cVar, L2.tC, L2.cBin, L2.cCmp, L2.cTest, L2.cAndV, L2.cOrV, L2.cNotV, L2.cNeg, L2.cIs, L2.cIx, L2.cSl, L2.cPart, L2.tNoPart, L2.cB, L2.tCons, L2.cCs, L2.tNil, L2.cSM, L2.cSM0, L2.cCall, L2.tNot, L2.tAnd, L2.tOr, L2.tIf, L2.cChain, L2.cChainT, L2.r_eq_int, L2.r_ne_int, L2.r_eq_str, L2.r_ne_str, L2.r_eq_bl, L2.r_ne_bl, L2.r_eq_nn, L2.r_ne_nn, L2.r_eq_int_str, L2.r_ne_int_str, L2.r_eq_int_non, L2.r_ne_int_non, L2.r_eq_str_int, L2.r_ne_str_int, L2.r_eq_str_bl, L2.r_ne_str_bl, L2.r_eq_str_non, L2.r_ne_str_non, L2.r_eq_bl_str, L2.r_ne_bl_str, L2.r_eq_bl_non, L2.r_ne_bl_non, L2.r_eq_non_int, L2.r_ne_non_int, L2.r_eq_non_str, L2.r_ne_non_str, L2.r_eq_non_bl, L2.r_ne_non_bl, L2.r_eq_rr, L2.r_ne_rr, L2.r_lt_int, L2.r_lte_int, L2.r_gt_int, L2.r_gte_int, L2.r_lt_str, L2.r_lte_str, L2.r_in_str, L2.r_notin_str, L2.r_in_int_ref, L2.r_notin_int_ref, L2.r_is_int, L2.r_isnot_int, L2.r_in_str_ref, L2.r_notin_str_ref, L2.r_is_str, L2.r_isnot_str, L2.r_in_bl_ref, L2.r_notin_bl_ref, L2.r_is_bl, L2.r_isnot_bl, L2.r_in_non_ref, L2.r_notin_non_ref, L2.r_is_non, L2.r_isnot_non, L2.r_in_ref_ref, L2.r_notin_ref_ref, L2.r_is_ref, L2.r_isnot_ref, L2.r_add, L2.r_adds, L2.r_addr, L2.r_sub, L2.r_mul, L2.r_fdiv, L2.r_mod, L2.r_pow, L2.r_ixs, L2.r_ixr, L2.r_sls, L2.r_slr, L2.r_lens, L2.r_lenr, L2.r_min, L2.r_str, L2.r_ints, L2.r_intb, L2.r_all, L2.r_sw, L2.r_join, L2.r_up, L2.r_isa_non, L2.r_isa_bl, L2.r_isa_int, L2.r_isa_str, L2.r_b, List.getElem?_cons_zero, List.getElem?_cons_succ, List.set_cons_zero, List.set_cons_succ, List.length_map, Bool.not_true, Bool.not_false, Bool.false_eq_true, if_true, if_false, decide_true, decide_false])
namespace K09
open PySem L2
theorem all_mk {l : PySem.W.OpenLaw} {w : World} {K : PySem.W.Frag} {h : Heap} {mg : Str → Option Value} {fa f1 f2 f3 f4 f5 f6 f7 f8 f9 f10 f11 f12 f13 f14 f15 f16 f17 f18 f19 f20 cBoard : Addr} (X : K.In h) (G : h.Ns mainGlobals mg) (hfa : mg "law" = some (.ref fa))
    {od1 an1 od2 an2 od3 an3 od4 an4 od5 an5 od6 an6 od7 an7 od8 an8 od9 an9 od10 an10 od11 an11 od12 an12 od13 an13 od14 an14 od15 an15 od16 an16 od17 an17 od18 an18 od19 an19 od20 an20 : Option Addr} {sl1 sl2 sl3 sl4 sl5 sl6 sl7 sl8 sl9 sl10 sl11 sl12 sl13 sl14 sl15 sl16 sl17 sl18 sl19 sl20 : Array (Option Value)} {oc1 kV1 dc1 pm1 cd1 ct1 oc2 kV2 dc2 pm2 cd2 ct2 oc3 kV3 dc3 pm3 cd3 ct3 oc4 kV4 dc4 pm4 cd4 ct4 oc5 kV5 dc5 pm5 cd5 ct5 oc6 kV6 dc6 pm6 cd6 ct6 oc7 kV7 dc7 pm7 cd7 ct7 oc8 kV8 dc8 pm8 cd8 ct8 oc9 kV9 dc9 pm9 cd9 ct9 oc10 kV10 dc10 pm10 cd10 ct10 oc11 kV11 dc11 pm11 cd11 ct11 oc12 kV12 dc12 pm12 cd12 ct12 oc13 kV13 dc13 pm13 cd13 ct13 oc14 kV14 dc14 pm14 cd14 ct14 oc15 kV15 dc15 pm15 cd15 ct15 oc16 kV16 dc16 pm16 cd16 ct16 oc17 kV17 dc17 pm17 cd17 ct17 oc18 kV18 dc18 pm18 cd18 ct18 oc19 kV19 dc19 pm19 cd19 ct19 oc20 kV20 dc20 pm20 cd20 ct20 : Value} {u0 u1 u2 : Value}
    (aCBoard : PySem.W.nsIn K mainGlobals "Board" = some (some (.ref cBoard)))
    (a1 : PySem.W.nsIn K mainGlobals "is_whole" = some (some (.ref f1)))
    (l1 : K.lookup f1 = some ⟨oc1, od1, .func (PySem.W.fnOf "is_whole" "is_whole" (defArgs s_is_whole) (defBody s_is_whole) (defScope s_is_whole) .none kV1 dc1 pm1 an1 cd1 ct1), sl1⟩) (c1 : PySem.W.codeIn K cd1 "is_whole" = true) (k1 : PySem.W.keepIn K (.ref f1) = true)
    (a2 : PySem.W.nsIn K mainGlobals "is_among" = some (some (.ref f2)))
    (l2 : K.lookup f2 = some ⟨oc2, od2, .func (PySem.W.fnOf "is_among" "is_among" (defArgs s_is_among) (defBody s_is_among) (defScope s_is_among) .none kV2 dc2 pm2 an2 cd2 ct2), sl2⟩) (c2 : PySem.W.codeIn K cd2 "is_among" = true) (k2 : PySem.W.keepIn K (.ref f2) = true)
    (a3 : PySem.W.nsIn K mainGlobals "sign_of" = some (some (.ref f3)))
    (l3 : K.lookup f3 = some ⟨oc3, od3, .func (PySem.W.fnOf "sign_of" "sign_of" (defArgs s_sign_of) (defBody s_sign_of) (defScope s_sign_of) .none kV3 dc3 pm3 an3 cd3 ct3), sl3⟩) (c3 : PySem.W.codeIn K cd3 "sign_of" = true) (k3 : PySem.W.keepIn K (.ref f3) = true)
    (a4 : PySem.W.nsIn K mainGlobals "kind_of" = some (some (.ref f4)))
    (l4 : K.lookup f4 = some ⟨oc4, od4, .func (PySem.W.fnOf "kind_of" "kind_of" (defArgs s_kind_of) (defBody s_kind_of) (defScope s_kind_of) .none kV4 dc4 pm4 an4 cd4 ct4), sl4⟩) (c4 : PySem.W.codeIn K cd4 "kind_of" = true) (k4 : PySem.W.keepIn K (.ref f4) = true)
    (a5 : PySem.W.nsIn K mainGlobals "side_of" = some (some (.ref f5)))
    (l5 : K.lookup f5 = some ⟨oc5, od5, .func (PySem.W.fnOf "side_of" "side_of" (defArgs s_side_of) (defBody s_side_of) (defScope s_side_of) .none kV5 dc5 pm5 an5 cd5 ct5), sl5⟩) (c5 : PySem.W.codeIn K cd5 "side_of" = true) (k5 : PySem.W.keepIn K (.ref f5) = true)
    (a6 : PySem.W.nsIn K mainGlobals "empty_row" = some (some (.ref f6)))
    (l6 : K.lookup f6 = some ⟨oc6, od6, .func (PySem.W.fnOf "empty_row" "empty_row" (defArgs s_empty_row) (defBody s_empty_row) (defScope s_empty_row) .none kV6 dc6 pm6 an6 cd6 ct6), sl6⟩) (c6 : PySem.W.codeIn K cd6 "empty_row" = true) (k6 : PySem.W.keepIn K (.ref f6) = true)
    (a7 : PySem.W.nsIn K mainGlobals "put" = some (some (.ref f7)))
    (l7 : K.lookup f7 = some ⟨oc7, od7, .func (PySem.W.fnOf "put" "put" (defArgs s_put) (defBody s_put) (defScope s_put) .none kV7 dc7 pm7 an7 cd7 ct7), sl7⟩) (c7 : PySem.W.codeIn K cd7 "put" = true) (k7 : PySem.W.keepIn K (.ref f7) = true)
    (a8 : PySem.W.nsIn K mainGlobals "squares_of" = some (some (.ref f8)))
    (l8 : K.lookup f8 = some ⟨oc8, od8, .func (PySem.W.fnOf "squares_of" "squares_of" (defArgs s_squares_of) (defBody s_squares_of) (defScope s_squares_of) .none kV8 dc8 pm8 an8 cd8 ct8), sl8⟩) (c8 : PySem.W.codeIn K cd8 "squares_of" = true) (k8 : PySem.W.keepIn K (.ref f8) = true)
    (a9 : PySem.W.nsIn K mainGlobals "are_holes" = some (some (.ref f9)))
    (l9 : K.lookup f9 = some ⟨oc9, od9, .func (PySem.W.fnOf "are_holes" "are_holes" (defArgs s_are_holes) (defBody s_are_holes) (defScope s_are_holes) .none kV9 dc9 pm9 an9 cd9 ct9), sl9⟩) (c9 : PySem.W.codeIn K cd9 "are_holes" = true) (k9 : PySem.W.keepIn K (.ref f9) = true)
    (a10 : PySem.W.findIn K (.ref cBoard) "__init__" = some (some (.ref f10))) (iF10 : PySem.W.isFn K (.ref f10) = true)
    (l10 : K.lookup f10 = some ⟨oc10, od10, .func (PySem.W.fnOf "__init__" "Board.__init__" (defArgs s_Board___init__) (defBody s_Board___init__) (defScope s_Board___init__) .none kV10 dc10 pm10 an10 cd10 ct10), sl10⟩) (c10 : PySem.W.codeIn K cd10 "Board.__init__" = true) (k10 : PySem.W.keepIn K (.ref f10) = true)
    (a11 : PySem.W.findIn K (.ref cBoard) "has" = some (some (.ref f11))) (iF11 : PySem.W.isFn K (.ref f11) = true)
    (l11 : K.lookup f11 = some ⟨oc11, od11, .func (PySem.W.fnOf "has" "Board.has" (defArgs s_Board_has) (defBody s_Board_has) (defScope s_Board_has) .none kV11 dc11 pm11 an11 cd11 ct11), sl11⟩) (c11 : PySem.W.codeIn K cd11 "Board.has" = true) (k11 : PySem.W.keepIn K (.ref f11) = true)
    (a12 : PySem.W.nsIn K mainGlobals "_law_cell_at" = some (some (.ref f12)))
    (l12 : K.lookup f12 = some ⟨oc12, od12, .func (PySem.W.fnOf "_law_cell_at" "_law_cell_at" (defArgs s__law_cell_at) (defBody s__law_cell_at) (defScope s__law_cell_at) .none kV12 dc12 pm12 an12 cd12 ct12), sl12⟩) (c12 : PySem.W.codeIn K cd12 "_law_cell_at" = true) (k12 : PySem.W.keepIn K (.ref f12) = true)
    (a13 : PySem.W.nsIn K mainGlobals "_law_mixed" = some (some (.ref f13)))
    (l13 : K.lookup f13 = some ⟨oc13, od13, .func (PySem.W.fnOf "_law_mixed" "_law_mixed" (defArgs s__law_mixed) (defBody s__law_mixed) (defScope s__law_mixed) .none kV13 dc13 pm13 an13 cd13 ct13), sl13⟩) (c13 : PySem.W.codeIn K cd13 "_law_mixed" = true) (k13 : PySem.W.keepIn K (.ref f13) = true)
    (a14 : PySem.W.nsIn K mainGlobals "_law_whole" = some (some (.ref f14)))
    (l14 : K.lookup f14 = some ⟨oc14, od14, .func (PySem.W.fnOf "_law_whole" "_law_whole" (defArgs s__law_whole) (defBody s__law_whole) (defScope s__law_whole) .none kV14 dc14 pm14 an14 cd14 ct14), sl14⟩) (c14 : PySem.W.codeIn K cd14 "_law_whole" = true) (k14 : PySem.W.keepIn K (.ref f14) = true)
    (a15 : PySem.W.nsIn K mainGlobals "_law_board" = some (some (.ref f15)))
    (l15 : K.lookup f15 = some ⟨oc15, od15, .func (PySem.W.fnOf "_law_board" "_law_board" (defArgs s__law_board) (defBody s__law_board) (defScope s__law_board) .none kV15 dc15 pm15 an15 cd15 ct15), sl15⟩) (c15 : PySem.W.codeIn K cd15 "_law_board" = true) (k15 : PySem.W.keepIn K (.ref f15) = true)
    (a16 : PySem.W.nsIn K mainGlobals "_law_kinds" = some (some (.ref f16)))
    (l16 : K.lookup f16 = some ⟨oc16, od16, .func (PySem.W.fnOf "_law_kinds" "_law_kinds" (defArgs s__law_kinds) (defBody s__law_kinds) (defScope s__law_kinds) .none kV16 dc16 pm16 an16 cd16 ct16), sl16⟩) (c16 : PySem.W.codeIn K cd16 "_law_kinds" = true) (k16 : PySem.W.keepIn K (.ref f16) = true)
    (a17 : PySem.W.nsIn K mainGlobals "_law_empty" = some (some (.ref f17)))
    (l17 : K.lookup f17 = some ⟨oc17, od17, .func (PySem.W.fnOf "_law_empty" "_law_empty" (defArgs s__law_empty) (defBody s__law_empty) (defScope s__law_empty) .none kV17 dc17 pm17 an17 cd17 ct17), sl17⟩) (c17 : PySem.W.codeIn K cd17 "_law_empty" = true) (k17 : PySem.W.keepIn K (.ref f17) = true)
    (a18 : PySem.W.nsIn K mainGlobals "_law_signs_good" = some (some (.ref f18)))
    (l18 : K.lookup f18 = some ⟨oc18, od18, .func (PySem.W.fnOf "_law_signs_good" "_law_signs_good" (defArgs s__law_signs_good) (defBody s__law_signs_good) (defScope s__law_signs_good) .none kV18 dc18 pm18 an18 cd18 ct18), sl18⟩) (c18 : PySem.W.codeIn K cd18 "_law_signs_good" = true) (k18 : PySem.W.keepIn K (.ref f18) = true)
    (a19 : PySem.W.nsIn K mainGlobals "_law_squares_good" = some (some (.ref f19)))
    (l19 : K.lookup f19 = some ⟨oc19, od19, .func (PySem.W.fnOf "_law_squares_good" "_law_squares_good" (defArgs s__law_squares_good) (defBody s__law_squares_good) (defScope s__law_squares_good) .none kV19 dc19 pm19 an19 cd19 ct19), sl19⟩) (c19 : PySem.W.codeIn K cd19 "_law_squares_good" = true) (k19 : PySem.W.keepIn K (.ref f19) = true)
    (a20 : PySem.W.nsIn K mainGlobals "law" = some (some (.ref f20)))
    (l20 : K.lookup f20 = some ⟨oc20, od20, .func (PySem.W.fnOf "law" "law" (defArgs s_law) (defBody s_law) (defScope s_law) .none kV20 dc20 pm20 an20 cd20 ct20), sl20⟩) (c20 : PySem.W.codeIn K cd20 "law" = true) (k20 : PySem.W.keepIn K (.ref f20) = true)
    (pgXBoard : PySem.W.plainGet K cBoard Str.empty = true)
    (hdXBoard : PySem.W.hasDictIn K cBoard = true)
    (poXBoard : PySem.W.plainOver K cBoard = true)
    (saXBoard : PySem.W.findIn K (.ref cBoard) "__setattr__" = some (some (.builtin "object.__setattr__")))
    (mkXBoard : PySem.W.makesIn K cBoard = true)
    (kcXBoard : PySem.W.keepIn K (.ref cBoard) = true)
    (naBoardwide : PySem.W.findIn K (.ref cBoard) "wide" = some none)
    (naBoardhigh : PySem.W.findIn K (.ref cBoard) "high" = some none)
    (naBoardholes : PySem.W.findIn K (.ref cBoard) "holes" = some none)
    (naBoardfirm : PySem.W.findIn K (.ref cBoard) "firm" = some none)
    (z0 : PySem.W.nsIn K mainGlobals "isinstance" = some none)
    (z1 : PySem.W.nsIn K mainGlobals "int" = some none)
    (z2 : PySem.W.nsIn K mainGlobals "bool" = some none)
    (z3 : PySem.W.nsIn K mainGlobals "str" = some none)
    (z4 : PySem.W.nsIn K mainGlobals "list" = some none)
    (z5 : PySem.W.nsIn K mainGlobals "len" = some none)
    (z6 : PySem.W.nsIn K mainGlobals "range" = some none)
    (z7 : PySem.W.nsIn K mainGlobals "all" = some none)
    (z8 : PySem.W.nsIn K mainGlobals "set" = some none)
    (z9 : PySem.W.nsIn K mainGlobals "sorted" = some none)
    (z10 : PySem.W.nsIn K mainGlobals "enumerate" = some none)
    (kg0 : PySem.W.nsIn K mainGlobals "LONGEST" = some (some u0)) (rv0 : RelV (.int 8) u0)
    (kg1 : PySem.W.nsIn K mainGlobals "EMPTY" = some (some u1)) (rv1 : RelV (.str ".") u1)
    (kg2 : PySem.W.nsIn K mainGlobals "HOLE" = some (some u2)) (rv2 : RelV (.str "#") u2) :
    ∃ fd : FuncData, (∀ (s : Shared) (v : Value), BindsTo s fd ⟨[v], []⟩ [("_law_script", v)]) ∧ ∀ base : Heap, K.In base → base.Ns mainGlobals mg → FnOk l.prog w K mg base CX0 6 fa fd ["_law_script"] (spLaw K) := by
  have e := hfa.symm.trans (PySem.W.mg_of X G a20)
  cases e
  have T : Txt mg := ⟨PySem.W.mg_none_of X G z0, PySem.W.mg_none_of X G z1, PySem.W.mg_none_of X G z2, PySem.W.mg_none_of X G z3, PySem.W.mg_none_of X G z4, PySem.W.mg_none_of X G z5, PySem.W.mg_none_of X G z6, PySem.W.mg_none_of X G z7, PySem.W.mg_none_of X G z8, PySem.W.mg_none_of X G z9, PySem.W.mg_none_of X G z10, ⟨_, PySem.W.mg_of X G kg0, rv0⟩, ⟨_, PySem.W.mg_of X G kg1, rv1⟩, ⟨_, PySem.W.mg_of X G kg2, rv2⟩⟩
  have F1 := fun_mk (st := s_is_whole) l1 c1 k1
  have b1 := F1.binds (ps := ["thing"]) fun _ _ _ _ _ _ us hl => match us, hl with | [_], _ => rfl
  have F2 := fun_mk (st := s_is_among) l2 c2 k2
  have b2 := F2.binds (ps := ["thing", "least", "most"]) fun _ _ _ _ _ _ us hl => match us, hl with | [_, _, _], _ => rfl
  have F3 := fun_mk (st := s_sign_of) l3 c3 k3
  have b3 := F3.binds (ps := ["kind", "side"]) fun _ _ _ _ _ _ us hl => match us, hl with | [_, _], _ => rfl
  have F4 := fun_mk (st := s_kind_of) l4 c4 k4
  have b4 := F4.binds (ps := ["sign"]) fun _ _ _ _ _ _ us hl => match us, hl with | [_], _ => rfl
  have F5 := fun_mk (st := s_side_of) l5 c5 k5
  have b5 := F5.binds (ps := ["sign"]) fun _ _ _ _ _ _ us hl => match us, hl with | [_], _ => rfl
  have F6 := fun_mk (st := s_empty_row) l6 c6 k6
  have b6 := F6.binds (ps := ["board"]) fun _ _ _ _ _ _ us hl => match us, hl with | [_], _ => rfl
  have F7 := fun_mk (st := s_put) l7 c7 k7
  have b7 := F7.binds (ps := ["row", "square", "sign"]) fun _ _ _ _ _ _ us hl => match us, hl with | [_, _, _], _ => rfl
  have F8 := fun_mk (st := s_squares_of) l8 c8 k8
  have b8 := F8.binds (ps := ["row", "side"]) fun _ _ _ _ _ _ us hl => match us, hl with | [_, _], _ => rfl
  have F9 := fun_mk (st := s_are_holes) l9 c9 k9
  have b9 := F9.binds (ps := ["thing", "many"]) fun _ _ _ _ _ _ us hl => match us, hl with | [_, _], _ => rfl
  have F10 := fun_mk (st := s_Board___init__) l10 c10 k10
  have b10 := F10.binds (ps := ["self", "wide", "high", "holes"]) fun _ _ _ _ _ _ us hl => match us, hl with | [_, _, _, _], _ => rfl
  have F11 := fun_mk (st := s_Board_has) l11 c11 k11
  have b11 := F11.binds (ps := ["self", "square"]) fun _ _ _ _ _ _ us hl => match us, hl with | [_, _], _ => rfl
  have F12 := fun_mk (st := s__law_cell_at) l12 c12 k12
  have b12 := F12.binds (ps := ["_law_script", "_law_k"]) fun _ _ _ _ _ _ us hl => match us, hl with | [_, _], _ => rfl
  have F13 := fun_mk (st := s__law_mixed) l13 c13 k13
  have b13 := F13.binds (ps := ["_law_cell", "_law_k"]) fun _ _ _ _ _ _ us hl => match us, hl with | [_, _], _ => rfl
  have F14 := fun_mk (st := s__law_whole) l14 c14 k14
  have b14 := F14.binds (ps := ["_law_thing"]) fun _ _ _ _ _ _ us hl => match us, hl with | [_], _ => rfl
  have F15 := fun_mk (st := s__law_board) l15 c15 k15
  have b15 := F15.binds (ps := ["_law_script"]) fun _ _ _ _ _ _ us hl => match us, hl with | [_], _ => rfl
  have F16 := fun_mk (st := s__law_kinds) l16 c16 k16
  have b16 := F16.binds (ps := ["_law_cell"]) fun _ _ _ _ _ _ us hl => match us, hl with | [_], _ => rfl
  have F17 := fun_mk (st := s__law_empty) l17 c17 k17
  have b17 := F17.binds (ps := ["_law_wide", "_law_high", "_law_holes"]) fun _ _ _ _ _ _ us hl => match us, hl with | [_, _, _], _ => rfl
  have F18 := fun_mk (st := s__law_signs_good) l18 c18 k18
  have b18 := F18.binds (ps := ["_law_kind"]) fun _ _ _ _ _ _ us hl => match us, hl with | [_], _ => rfl
  have F19 := fun_mk (st := s__law_squares_good) l19 c19 k19
  have b19 := F19.binds (ps := ["_law_row", "_law_side"]) fun _ _ _ _ _ _ us hl => match us, hl with | [_, _], _ => rfl
  have F20 := fun_mk (st := s_law) l20 c20 k20
  have b20 := F20.binds (ps := ["_law_script"]) fun _ _ _ _ _ _ us hl => match us, hl with | [_], _ => rfl
  have cl_Board : Cls K cBoard := ⟨pgXBoard, hdXBoard, poXBoard, saXBoard⟩
  refine ⟨PySem.W.fnOf "law" "law" (defArgs s_law) (defBody s_law) (defScope s_law) .none kV20 dc20 pm20 an20 cd20 ct20, fun s v => .of_eq rfl, fun base _ _ => ?_⟩
  have C_is_whole : Cal l.prog w K mg base "is_whole" _ _ _ := ⟨f1, _, ok_is_whole F1 T, PySem.W.mg_of X G a1, F1.kp, b1⟩
  have DW : CW l.prog w K mg base := ⟨C_is_whole⟩
  have C_is_among : Cal l.prog w K mg base "is_among" _ _ _ := ⟨f2, _, ok_is_among F2 T DW, PySem.W.mg_of X G a2, F2.kp, b2⟩
  have DA : CA l.prog w K mg base := ⟨C_is_among⟩
  have C_are_holes : Cal l.prog w K mg base "are_holes" _ _ _ := ⟨f9, _, ok_are_holes F9 T DA, PySem.W.mg_of X G a9, F9.kp, b9⟩
  have DB2 : CB2 l.prog w K mg base := { toCA := DA, are_holes := C_are_holes }
  have BC : BrdC K cBoard := ⟨cl_Board, naBoardwide, naBoardhigh, naBoardholes, naBoardfirm⟩
  have C_Board : MkCal l.prog w K mg base "Board" cBoard _ _ _ := ⟨f10, _, ⟨mkXBoard, a10, iF10, kcXBoard⟩, ok_Board_init F10 T BC DB2, PySem.W.mg_of X G aCBoard, b10⟩
  have C_Board_has : MCal l.prog w K mg base cBoard "has" _ _ _ := ⟨⟨f11, _, ok_Board_has F11 T BC DA, ⟨a11, iF11, k11⟩, b11⟩, cl_Board⟩
  have C_sign_of : Cal l.prog w K mg base "sign_of" _ _ _ := ⟨f3, _, ok_sign_of F3 T, PySem.W.mg_of X G a3, F3.kp, b3⟩
  have C_kind_of : Cal l.prog w K mg base "kind_of" _ _ _ := ⟨f4, _, ok_kind_of F4 T, PySem.W.mg_of X G a4, F4.kp, b4⟩
  have C_side_of : Cal l.prog w K mg base "side_of" _ _ _ := ⟨f5, _, ok_side_of F5 T, PySem.W.mg_of X G a5, F5.kp, b5⟩
  have C_put : Cal l.prog w K mg base "put" _ _ _ := ⟨f7, _, ok_put F7 T, PySem.W.mg_of X G a7, F7.kp, b7⟩
  have C_squares_of : Cal l.prog w K mg base "squares_of" _ _ _ := ⟨f8, _, ok_squares_of F8 T ⟨C_side_of⟩, PySem.W.mg_of X G a8, F8.kp, b8⟩
  have C_empty_row : Cal l.prog w K mg base "empty_row" _ _ _ := ⟨f6, _, ok_empty_row F6 T BC ⟨C_Board_has⟩, PySem.W.mg_of X G a6, F6.kp, b6⟩
  have C__law_cell_at : Cal l.prog w K mg base "_law_cell_at" _ _ _ := ⟨f12, _, ok__law_cell_at F12 T, PySem.W.mg_of X G a12, F12.kp, b12⟩
  have C__law_mixed : Cal l.prog w K mg base "_law_mixed" _ _ _ := ⟨f13, _, ok__law_mixed F13 T, PySem.W.mg_of X G a13, F13.kp, b13⟩
  have C__law_whole : Cal l.prog w K mg base "_law_whole" _ _ _ := ⟨f14, _, ok__law_whole F14 T, PySem.W.mg_of X G a14, F14.kp, b14⟩
  have LG : LG1 l.prog w K mg base := ⟨C__law_cell_at, C__law_mixed⟩
  have C__law_board : Cal l.prog w K mg base "_law_board" _ _ _ := ⟨f15, _, ok__law_board F15 T LG, PySem.W.mg_of X G a15, F15.kp, b15⟩
  have C__law_kinds : Cal l.prog w K mg base "_law_kinds" _ _ _ := ⟨f16, _, ok__law_kinds F16 T, PySem.W.mg_of X G a16, F16.kp, b16⟩
  have C__law_empty : Cal l.prog w K mg base "_law_empty" _ _ _ := ⟨f17, _, ok__law_empty F17 T, PySem.W.mg_of X G a17, F17.kp, b17⟩
  have D3 : C3 l.prog w K mg base := ⟨C_sign_of, C_kind_of, C_side_of, C_squares_of, C__law_whole⟩
  have C__law_signs_good : Cal l.prog w K mg base "_law_signs_good" _ _ _ := ⟨f18, _, ok__law_signs_good F18 T D3, PySem.W.mg_of X G a18, F18.kp, b18⟩
  have C__law_squares_good : Cal l.prog w K mg base "_law_squares_good" _ _ _ := ⟨f19, _, ok__law_squares_good F19 T D3, PySem.W.mg_of X G a19, F19.kp, b19⟩
  have C : C4 l.prog w K mg base cBoard := { toLG1 := LG, put := C_put, empty_row := C_empty_row, _law_board := C__law_board, _law_kinds := C__law_kinds, _law_empty := C__law_empty, _law_signs_good := C__law_signs_good, _law_squares_good := C__law_squares_good, Board := C_Board }
  exact ok_law F20 T C
theorem walk {l : PySem.W.OpenLaw} {q : Program} {loose : List Str} {XP : (Str → Option Value) → Heap → Prop} {YP : World → Heap → Prop} {d : DefRec} {K : Params → PySem.W.Frag} (hn : l.most = some 63) (hdf : d.params.defaults = [])
    (hY : ∀ (w : World) (h : Heap), YP w h → (K w.params).In h)
    (F : ∀ (w : World) (mg : Str → Option Value) (fa : Addr) (h : Heap), (K w.params).In h → h.Ns mainGlobals mg → mg d.name = some (.ref fa) →
      ∃ fd : FuncData, (∀ (s : Shared) (u : Value), BindsTo s fd ⟨[u], []⟩ [("_law_script", u)]) ∧ ∀ base : Heap, (K w.params).In base → base.Ns mainGlobals mg → FnOk l.prog w (K w.params) mg base CX0 6 fa fd ["_law_script"] (spLaw (K w.params))) :
    PySem.W.WalkO q loose XP YP l.row.toRowW d [] (fun f vs => PySem.call f vs) :=
  L2.walk_of (n := 63) (k := 6) (x := "_law_script") (CX := fun _ => CX0) (sp := fun w => spLaw (K w.params)) hn (by decide) hdf ⟨rfl, by decide, by decide⟩ hY F (fun _ _ a ns hl _ hS => ⟨a, ns, rfl, hS, hl, fun _ => rfl⟩) fun _ _ _ _ _ z => z
end K09
open PySem PySem.W PyProof.Rows
set_option maxRecDepth 100000 in
set_option maxHeartbeats 0 in
theorem PySem.Challenge.cw_playboard_k09_rows_holds : PySem.Challenge.rw_playboard_k09_rows.Holds := by
  w_on; o_law; k_head; (case hw => w_witness2)
  k_fill
  refine K09.walk (l := PySem.Challenge.rw_playboard_k09_rows) rfl rfl (fun w h Y => PySem.W.kIn_of Y) ?F
  case F =>
    intro w mg fa h KX G hmg
    refine' K09.all_mk KX G hmg ?aCBoard ?a1 ?l1 ?c1 ?k1 ?a2 ?l2 ?c2 ?k2 ?a3 ?l3 ?c3 ?k3 ?a4 ?l4 ?c4 ?k4 ?a5 ?l5 ?c5 ?k5 ?a6 ?l6 ?c6 ?k6 ?a7 ?l7 ?c7 ?k7 ?a8 ?l8 ?c8 ?k8 ?a9 ?l9 ?c9 ?k9 ?a10 ?iF10 ?l10 ?c10 ?k10 ?a11 ?iF11 ?l11 ?c11 ?k11 ?a12 ?l12 ?c12 ?k12 ?a13 ?l13 ?c13 ?k13 ?a14 ?l14 ?c14 ?k14 ?a15 ?l15 ?c15 ?k15 ?a16 ?l16 ?c16 ?k16 ?a17 ?l17 ?c17 ?k17 ?a18 ?l18 ?c18 ?k18 ?a19 ?l19 ?c19 ?k19 ?a20 ?l20 ?c20 ?k20 ?pgXBoard ?hdXBoard ?poXBoard ?saXBoard ?mkXBoard ?kcXBoard ?naBoardwide ?naBoardhigh ?naBoardholes ?naBoardfirm ?z0 ?z1 ?z2 ?z3 ?z4 ?z5 ?z6 ?z7 ?z8 ?z9 ?z10 ?kg0 ?rv0 ?kg1 ?rv1 ?kg2 ?rv2
    (case aCBoard => k_is)
    (case a1 => k_is)
    (case l1 => k_is)
    (case c1 => k_is)
    (case k1 => k_is)
    (case a2 => k_is)
    (case l2 => k_is)
    (case c2 => k_is)
    (case k2 => k_is)
    (case a3 => k_is)
    (case l3 => k_is)
    (case c3 => k_is)
    (case k3 => k_is)
    (case a4 => k_is)
    (case l4 => k_is)
    (case c4 => k_is)
    (case k4 => k_is)
    (case a5 => k_is)
    (case l5 => k_is)
    (case c5 => k_is)
    (case k5 => k_is)
    (case a6 => k_is)
    (case l6 => k_is)
    (case c6 => k_is)
    (case k6 => k_is)
    (case a7 => k_is)
    (case l7 => k_is)
    (case c7 => k_is)
    (case k7 => k_is)
    (case a8 => k_is)
    (case l8 => k_is)
    (case c8 => k_is)
    (case k8 => k_is)
    (case a9 => k_is)
    (case l9 => k_is)
    (case c9 => k_is)
    (case k9 => k_is)
    (case a10 => k_is)
    (case iF10 => k_is)
    (case l10 => k_is)
    (case c10 => k_is)
    (case k10 => k_is)
    (case a11 => k_is)
    (case iF11 => k_is)
    (case l11 => k_is)
    (case c11 => k_is)
    (case k11 => k_is)
    (case a12 => k_is)
    (case l12 => k_is)
    (case c12 => k_is)
    (case k12 => k_is)
    (case a13 => k_is)
    (case l13 => k_is)
    (case c13 => k_is)
    (case k13 => k_is)
    (case a14 => k_is)
    (case l14 => k_is)
    (case c14 => k_is)
    (case k14 => k_is)
    (case a15 => k_is)
    (case l15 => k_is)
    (case c15 => k_is)
    (case k15 => k_is)
    (case a16 => k_is)
    (case l16 => k_is)
    (case c16 => k_is)
    (case k16 => k_is)
    (case a17 => k_is)
    (case l17 => k_is)
    (case c17 => k_is)
    (case k17 => k_is)
    (case a18 => k_is)
    (case l18 => k_is)
    (case c18 => k_is)
    (case k18 => k_is)
    (case a19 => k_is)
    (case l19 => k_is)
    (case c19 => k_is)
    (case k19 => k_is)
    (case a20 => k_is)
    (case l20 => k_is)
    (case c20 => k_is)
    (case k20 => k_is)
    (case pgXBoard => k_is)
    (case hdXBoard => k_is)
    (case poXBoard => k_is)
    (case saXBoard => k_is)
    (case mkXBoard => k_is)
    (case kcXBoard => k_is)
    (case naBoardwide => k_is)
    (case naBoardhigh => k_is)
    (case naBoardholes => k_is)
    (case naBoardfirm => k_is)
    (case z0 => k_is)
    (case z1 => k_is)
    (case z2 => k_is)
    (case z3 => k_is)
    (case z4 => k_is)
    (case z5 => k_is)
    (case z6 => k_is)
    (case z7 => k_is)
    (case z8 => k_is)
    (case z9 => k_is)
    (case z10 => k_is)
    (case kg0 => k_is)
    (case rv0 => exact ⟨_, rfl⟩)
    (case kg1 => k_is)
    (case rv1 => exact ⟨_, rfl⟩)
    (case kg2 => k_is)
    (case rv2 => exact ⟨_, rfl⟩)

