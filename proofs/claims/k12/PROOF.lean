import PyProof.Rows.All
import Wide.All
import OpenK.AllK
import Wide.FinOn
import Lean
import PyProof.EqAt
import PyProof.EqKinds
import PyProof.TupleCall
import PySem.Challenge.RW_chartfold_k12_machines_leaned
set_option Elab.async false
set_option linter.all false
set_option maxRecDepth 100000
/-! THE HAND LAYER, for ints, bools, texts, own classes, LISTS and tuples (index, slices, in, append, pop ..), calls, loops. Paste it whole ahead of your own text; what your proof does not reach may be deleted. -/
namespace L2
open PySem PySem.Spec PyProof.Rows

/-- a key: an int or a str -/
abbrev Key := Sum Int Str
def keyIs : Key → Value → Bool
  | .inl k, v => Value.isInt k v
  | .inr x, v => Value.isStrOf x v
def keyH (w : World) : Key → Int
  | .inl k => hashInt k
  | .inr x => hashStr w x
theorem keyIs_shape : ∀ {k : Key} {v : Value}, keyIs k v = true → (∃ i t, k = Sum.inl i ∧ v = Value.int i t) ∨ (∃ x t, k = Sum.inr x ∧ v = Value.str x t)
  | .inl i, v, h => by
    obtain ⟨t, e⟩ := Value.isInt_shape (k := i) (v := v) h
    exact .inl ⟨i, t, rfl, e⟩
  | .inr x, v, h => by
    obtain ⟨t, e⟩ := Value.isStrOf_shape (x := x) (v := v) h
    exact .inr ⟨x, t, rfl, e⟩
theorem keyIs_int (i : Int) (t : Tok) : keyIs (.inl i) (.int i t) = true := by simp [keyIs, Value.isInt]
theorem keyIs_str (x : Str) (t : Tok) : keyIs (.inr x) (.str x t) = true := by simp [keyIs, Value.isStrOf]
theorem key_ll (a b : Int) : decide ((Sum.inl a : Key) = Sum.inl b) = (a == b) := by
  by_cases e : a = b
  · subst e; simp
  · have h : ¬ (Sum.inl a : Key) = Sum.inl b := fun q => e (Sum.inl.inj q)
    rw [decide_eq_false h]
    exact (beq_eq_false_iff_ne.mpr e).symm
theorem key_rr (a b : Str) : decide ((Sum.inr a : Key) = Sum.inr b) = decide (a = b) := by
  by_cases e : a = b
  · subst e; simp
  · have h : ¬ (Sum.inr a : Key) = Sum.inr b := fun q => e (Sum.inr.inj q)
    rw [decide_eq_false h, decide_eq_false e]
theorem key_lr (a : Int) (b : Str) : decide ((Sum.inl a : Key) = Sum.inr b) = false := decide_eq_false (fun q => nomatch q)
theorem key_rl (a : Str) (b : Int) : decide ((Sum.inr a : Key) = Sum.inl b) = false := decide_eq_false (fun q => nomatch q)

def mixKind (prog : Program) (w : World) : PySem.KeyKind prog w Key where
  is := keyIs
  hash := keyH w
  inj := fun v a b ha hb => by
    rcases keyIs_shape ha with ⟨i, t, rfl, rfl⟩ | ⟨x, t, rfl, rfl⟩
    · rcases keyIs_shape hb with ⟨j, u, rfl, e⟩ | ⟨y, u, rfl, e⟩
      · injection e with e1 _; rw [e1]
      · exact nomatch e
    · rcases keyIs_shape hb with ⟨j, u, rfl, e⟩ | ⟨y, u, rfl, e⟩
      · exact nomatch e
      · injection e with e1 _; rw [e1]
  byValue := fun k v h => by
    rcases keyIs_shape h with ⟨i, t, rfl, rfl⟩ | ⟨x, t, rfl, rfl⟩ <;> rfl
  pyHash := fun hv h => by
    rcases keyIs_shape hv with ⟨i, t, rfl, rfl⟩ | ⟨x, t, rfl, rfl⟩
    · exact wpAny_pyHash_int h
    · exact wpAny_pyHash_str h
  eqBool := fun hu hv h => by
    rcases keyIs_shape hu with ⟨i, t, rfl, rfl⟩ | ⟨x, t, rfl, rfl⟩
    · rcases keyIs_shape hv with ⟨j, u, rfl, rfl⟩ | ⟨y, u, rfl, rfl⟩
      · rw [key_ll] at h; exact wpAny_eqBool_int h
      · rw [key_lr] at h; exact SeqAt.EqAt.int_str i t y u _ _ _ _ h
    · rcases keyIs_shape hv with ⟨j, u, rfl, rfl⟩ | ⟨y, u, rfl, rfl⟩
      · rw [key_rl] at h; exact SeqAt.EqAt.str_int x t j u _ _ _ _ h
      · rw [key_rr] at h; exact wpAny_eqBool_str h
  «strs» := fun k x t v h => by
    rcases keyIs_shape h with ⟨i, u, rfl, e⟩ | ⟨y, u, rfl, e⟩
    · exact nomatch e
    · injection e with e1 _
      subst e1
      cases v <;> rfl

theorem mixKind_is (prog : Program) (w : World) (k : Key) (v : Value) : (mixKind prog w).is k v = keyIs k v := rfl
theorem mixKind_int (prog : Program) (w : World) (i : Int) (t : Tok) : (mixKind prog w).is (.inl i) (.int i t) = true := keyIs_int i t
theorem mixKind_str (prog : Program) (w : World) (x : Str) (t : Tok) : (mixKind prog w).is (.inr x) (.str x t) = true := keyIs_str x t
end L2

namespace L2
open PySem PySem.Spec PyProof.Rows

/-- a value, without the heap -/
inductive V where
  | non | bl (b : Bool) | int (i : Int) | str (x : Str) | byt (b : Array UInt8) | flt (b : UInt64) | ref (a : Addr) | ty (n : String)
  deriving DecidableEq

def RelV : V → Value → Prop
  | .non, u => u = Value.none
  | .bl b, u => u = Value.bool b
  | .int i, u => ∃ t, u = Value.int i t
  | .str x, u => ∃ t, u = Value.str x t
  | .byt b, u => ∃ t, u = Value.bytes b t
  | .flt b, u => ∃ t, u = Value.float b t
  | .ref a, u => u = Value.ref a
  | .ty n, u => u = Value.type n

abbrev Vals : List V → List Value → Prop := Paired RelV
theorem Vals.length {xs : List V} {us : List Value} (r : Vals xs us) : xs.length = us.length := Paired.length r
theorem Vals.get : ∀ {xs : List V} {us : List Value} {i : Nat} {x : V}, Vals xs us → xs[i]? = some x → ∃ u, us[i]? = some u ∧ RelV x u
  | _, _, _, _, .nil, e => by simp at e
  | _, _, 0, _, .cons r _, e => by simp at e; subst e; exact ⟨_, rfl, r⟩
  | _, _, i + 1, x, .cons _ t, e => by
    obtain ⟨u, h1, h2⟩ := Vals.get (i := i) (x := x) t (by simpa using e)
    exact ⟨u, by simpa using h1, h2⟩
theorem Vals.set {x : V} {u : Value} (r : RelV x u) : ∀ {xs : List V} {us : List Value} (i : Nat), Vals xs us → Vals (xs.set i x) (us.set i u)
  | _, _, _, .nil => .nil
  | _, _, 0, .cons _ t => .cons r t
  | _, _, i + 1, .cons q t => .cons q (Vals.set r i t)
theorem Vals.append : ∀ {xs ys : List V} {us ws : List Value}, Vals xs us → Vals ys ws → Vals (xs ++ ys) (us ++ ws)
  | _, _, _, _, .nil, s => s
  | _, _, _, _, .cons r t, s => .cons r (Vals.append t s)
theorem Vals.take : ∀ {xs : List V} {us : List Value} (n : Nat), Vals xs us → Vals (xs.take n) (us.take n)
  | _, _, 0, _ => .nil
  | _, _, _ + 1, .nil => .nil
  | _, _, n + 1, .cons r t => .cons r (Vals.take n t)
theorem Vals.drop : ∀ {xs : List V} {us : List Value} (n : Nat), Vals xs us → Vals (xs.drop n) (us.drop n)
  | _, _, 0, r => r
  | _, _, _ + 1, .nil => .nil
  | _, _, n + 1, .cons _ t => Vals.drop n t
theorem Vals.none_of : ∀ {xs : List V} {us : List Value} {i : Nat}, Vals xs us → xs[i]? = none → us[i]? = none := fun {xs us i} r e => by
  have h1 := r.length
  have h2 : xs.length ≤ i := List.getElem?_eq_none_iff.mp e
  exact List.getElem?_eq_none_iff.mpr (by omega)

def RelO : Option V → Option Value → Prop
  | some v, some u => RelV v u
  | none, none => True
  | _, _ => False
def KV {κ : Type} : List (κ × V) → List (κ × Value) → Prop := Paired fun (p : κ × V) (q : κ × Value) => p.1 = q.1 ∧ RelV p.2 q.2

/-- a key of a dict (00_mix): an int or a text -/
def kV : Key → V
  | .inl i => .int i
  | .inr x => .str x

/-- what stands at a tracked address -/
inductive HO where
  /-- a list -/
  | lst (xs : List V)
  /-- a tuple (never changes) -/
  | tup (xs : List V)
  /-- a dict whose keys are ints and texts; one whose keys are tuples of ints and texts (the empty one is both) -/
  | dK (kvs : List (Key × V)) | dT (kvs : List (List Key × V))
  /-- a set of ints: its members, its size -/
  | set (S : Int → Bool) (n : Nat)
  /-- an instance of the class at C, its dict at dx, its attributes -/
  | ins (C dx : Addr) (fs : List (Str × V))
  /-- the dict of the instance at x -/
  | own (x : Addr)
  /-- the dict of an exception -/
  | xd (fs : List (Str × V))
  /-- a bound method, f of x -/
  | met (f x : Addr)
  /-- a range object lo, lo + 1, .. below hi -/
  | rng (lo hi : Int)
  /-- a thing that is known to the object (the script; a dict while a loop walks it): read, never written while it is so -/
  | frz (o : Obj) (u : HO)
  /-- a code object's table -/
  | tbl (ps : Array Value)
  /-- any other thing, by what is true of its one object (a def of one's own: SetO a S n := HO.ext fun h => ..) -/
  | ext (φ : Heap → Prop)

abbrev Hp := Addr → Option HO
def upd (H : Hp) (a : Addr) (o : HO) : Hp := fun b => if b = a then some o else H b
theorem upd_same {H : Hp} {a : Addr} {o : HO} : upd H a o a = some o := by unfold upd; rw [if_pos rfl]
theorem upd_ne {H : Hp} {a b : Addr} {o : HO} (h : b ≠ a) : upd H a o b = H b := by unfold upd; rw [if_neg h]
theorem upd_upd {H : Hp} {a : Addr} {o u : HO} : upd (upd H a o) a u = upd H a u := by
  funext b; unfold upd; split <;> rfl
/-- two objects of different content stand apart -/
theorem ne_of {H : Hp} {a b : Addr} {o u : HO} (h : H a = some o) (h' : H b = some u) (d : o ≠ u) : a ≠ b := by
  intro e; subst e; rw [h] at h'; exact d (Option.some.inj h')
theorem ne_of_none {H : Hp} {a b : Addr} {o : HO} (h : H a = some o) (h' : H b = none) : a ≠ b := by
  intro e; subst e; rw [h] at h'; cases h'

section
variable (P : Program) (w : World)
def ObjOk (H : Hp) (h : Heap) (a : Addr) : HO → Prop
  | .lst xs => xs.length ≤ sizeLine ∧ ∃ (its : List Value) (n : Nat), Vals xs its ∧ h.get? a = some { cls := .type "list", data := .seq its.toArray n }
  | .tup xs => xs.length ≤ sizeLine ∧ ∃ its : List Value, Vals xs its ∧ IsTup h a its.toArray
  | .dK kvs => kvs.length ≤ sizeLine ∧ (a == sysModules) = false ∧ ∃ vs, KV kvs vs ∧ h.DictOf (mixKind P w) a vs
  | .dT kvs => kvs.length ≤ sizeLine ∧ (a == sysModules) = false ∧ ∃ xs : List (List Key × Addr × Value),
      Paired (fun (p : List Key × V) (q : List Key × Addr × Value) => p.1 = q.1 ∧ H q.2.1 = some (.tup (p.1.map kV)) ∧ RelV p.2 q.2.2) kvs xs ∧
      ∃ o es ep, h.get? a = some o ∧ o.ExactDict ∧ o.data = .dict es ep ∧ es.toList = xs.map (entryOfKey (tupleKind (mixKind P w))) ∧ (xs.map (·.1)).Nodup
  | .set S n => h.SetOf (intKind P w) a S n
  | .ins C dx fs => H dx = some (.own a) ∧ fs.length ≤ 1000 ∧ dx ≠ a ∧ h.get? a = some (PySem.W.instObj C dx) ∧
      ∃ mA, h.Ns1 dx mA ∧ (∀ f, RelO (fs.lookup f) (mA f)) ∧ PySem.Within mA (fs.map (·.1))
  | .own _ => ∃ o, h.get? a = some o
  | .xd fs => ∃ mA, h.Ns1 a mA ∧ ∀ f, RelO (fs.lookup f) (mA f)
  | .rng lo hi => ∃ t u v, h.get? a = some { cls := .type "range", data := .fields #[.int lo t, .int hi u, .int 1 v] }
  | .frz o u => h.get? a = some o ∧ ObjOk H h a u
  | .tbl ps => h.get? a = some { cls := .none, data := .fields ps }
  | .met f x => h.get? a = some (PySem.W.methodObj (.ref f) (.ref x))
  | .ext φ => φ h ∧ (∃ o, h.get? a = some o) ∧ ∀ h1 h2 : Heap, φ h1 → (∀ o, h1.get? a = some o → h2.get? a = some o) → φ h2
/-- the abstract heap is held -/
def HOk (H : Hp) (h : Heap) : Prop := ∀ a o, H a = some o → ObjOk P w H h a o
end

section
variable {P : Program} {w : World} {H H' : Hp} {h h' : Heap} {a : Addr} {o : HO}
theorem ObjOk.lt (x : ObjOk P w H h a o) : a < h.objs.size := by
  cases o with
  | lst xs => obtain ⟨_, _, _, _, e⟩ := x; exact Heap.lt_size e
  | tup xs => obtain ⟨_, _, _, p⟩ := x; exact p.lt
  | dK kvs => obtain ⟨_, _, _, _, o, _, _, e, _⟩ := x; exact Heap.lt_size e
  | dT kvs => obtain ⟨_, _, _, _, o, _, _, e, _⟩ := x; exact Heap.lt_size e
  | set S n => obtain ⟨o, _, _, _, e, _⟩ := x; exact Heap.lt_size e
  | ins C dx fs => obtain ⟨_, _, _, e, _⟩ := x; exact Heap.lt_size e
  | own y => obtain ⟨_, e⟩ := x; exact Heap.lt_size e
  | xd fs => obtain ⟨_, ⟨_, _, _, e, _⟩, _⟩ := x; exact Heap.lt_size e
  | rng lo hi => obtain ⟨_, _, _, e⟩ := x; exact Heap.lt_size e
  | frz ob u => obtain ⟨e, _⟩ := x; exact Heap.lt_size e
  | tbl ps => exact Heap.lt_size (show h.get? a = some _ from x)
  | met f y => exact Heap.lt_size (show h.get? a = some _ from x)
  | ext φ => obtain ⟨_, ⟨_, e⟩, _⟩ := x; exact Heap.lt_size e
theorem Paired.mapP {α β : Type} {F G : α → β → Prop} : ∀ {l₁ : List α} {l₂ : List β}, Paired F l₁ l₂ → (∀ a b, F a b → G a b) → Paired G l₁ l₂
  | _, _, .nil, _ => .nil
  | _, _, .cons r t, f => .cons (f _ _ r) (Paired.mapP t f)
theorem Paired.imp' {α β : Type} {F G : α → β → Prop} (f : ∀ a b, F a b → G a b) {l₁ : List α} {l₂ : List β} (r : Paired F l₁ l₂) : Paired G l₁ l₂ := Paired.mapP r f
/-- what an object's description leans on: its own object, its own dict, the tuples -/
theorem ObjOk.stay (x : ObjOk P w H h a o) (k : ∀ b u, (b = a ∨ H b = some (.own a)) → h.get? b = some u → h'.get? b = some u)
    (ho : ∀ b, H b = some (.own a) → H' b = some (.own a)) (ht : ∀ b xs, H b = some (.tup xs) → H' b = some (.tup xs)) : ObjOk P w H' h' a o := by
  induction o with
  | lst xs => obtain ⟨z, its, n, r, e⟩ := x; exact ⟨z, its, n, r, k _ _ (.inl rfl) e⟩
  | tup xs => obtain ⟨z, its, r, ob, e, c⟩ := x; exact ⟨z, its, r, ob, k _ _ (.inl rfl) e, c⟩
  | dK kvs => obtain ⟨z, y, vs, r, ob, es, ep, e, c⟩ := x; exact ⟨z, y, vs, r, ob, es, ep, k _ _ (.inl rfl) e, c⟩
  | dT kvs =>
    obtain ⟨z, y, xs, r, ob, es, ep, e, c⟩ := x
    exact ⟨z, y, xs, Paired.mapP r fun p q z => ⟨z.1, ht _ _ z.2.1, z.2.2⟩, ob, es, ep, k _ _ (.inl rfl) e, c⟩
  | set S n => obtain ⟨ob, es, ep, t, e, c⟩ := x; exact ⟨ob, es, ep, t, k _ _ (.inl rfl) e, c⟩
  | ins C dx fs =>
    obtain ⟨d, z, ne, e, mA, ⟨od, es, ep, e2, c⟩, r⟩ := x
    exact ⟨ho _ d, z, ne, k _ _ (.inl rfl) e, mA, ⟨od, es, ep, k _ _ (.inr d) e2, c⟩, r⟩
  | own y => obtain ⟨ob, e⟩ := x; exact ⟨ob, k _ _ (.inl rfl) e⟩
  | xd fs => obtain ⟨mA, ⟨od, es, ep, e, c⟩, r⟩ := x; exact ⟨mA, ⟨od, es, ep, k _ _ (.inl rfl) e, c⟩, r⟩
  | rng lo hi => obtain ⟨t, u, v, e⟩ := x; exact ⟨t, u, v, k _ _ (.inl rfl) e⟩
  | frz ob u ih => obtain ⟨e, q⟩ := x; exact ⟨k _ _ (.inl rfl) e, ih q⟩
  | tbl ps =>
    have e : h.get? a = some { cls := .none, data := .fields ps } := x
    show h'.get? a = some { cls := .none, data := .fields ps }
    exact k a _ (.inl rfl) e
  | met f y =>
    have e : h.get? a = some (PySem.W.methodObj (.ref f) (.ref y)) := x
    show h'.get? a = some (PySem.W.methodObj (.ref f) (.ref y))
    exact k a _ (.inl rfl) e
  | ext φ => obtain ⟨p, ⟨o, e⟩, st⟩ := x; exact ⟨st _ _ p fun o q => k _ _ (.inl rfl) q, ⟨o, k _ _ (.inl rfl) e⟩, st⟩
theorem HOk.lt (x : HOk P w H h) (e : H a = some o) : a < h.objs.size := (x a o e).lt
theorem HOk.fresh (x : HOk P w H h) (e : h.objs.size ≤ a) : H a = none := by
  cases q : H a with
  | none => rfl
  | some u => exact absurd (Nat.lt_of_lt_of_le (x.lt q) e) (Nat.lt_irrefl _)
/-- every object of the heap is kept -/
theorem HOk.kept (x : HOk P w H h) (k : ∀ b u, h.get? b = some u → h'.get? b = some u) : HOk P w H h' := fun a o e =>
  (x a o e).stay (fun b u _ q => k b u q) (fun _ q => q) fun _ _ q => q
/-- a new object is laid and tracked -/
theorem HOk.laid (x : HOk P w H h) (k : ∀ b u, h.get? b = some u → h'.get? b = some u) (hp : h.objs.size ≤ a) (new : ObjOk P w (upd H a o) h' a o) : HOk P w (upd H a o) h' := fun b u e => by
  have hn := x.fresh hp
  by_cases hb : b = a
  · subst hb; rw [upd_same] at e; cases e; exact new
  · rw [upd_ne hb] at e
    exact (x b u e).stay (fun c v _ q => k c v q) (fun c q => by rw [upd_ne (ne_of_none q hn)]; exact q) fun c xs q => by rw [upd_ne (ne_of_none q hn)]; exact q
end

/-- what may be read as u: it is u, or a known u -/
def Rd (H : Hp) (a : Addr) (u : HO) : Prop := H a = some u ∨ ∃ o, H a = some (.frz o u)
theorem Rd.of {H : Hp} {a : Addr} {u : HO} (h : H a = some u) : Rd H a u := .inl h
theorem Rd.ok {P : Program} {w : World} {H : Hp} {h : Heap} {a : Addr} {u : HO} (r : Rd H a u) (x : HOk P w H h) : ObjOk P w H h a u := by
  rcases r with r | ⟨o, r⟩
  · exact x a u r
  · obtain ⟨_, q⟩ := x a _ r
    exact q
/-- what may be written -/
def Mut : Option HO → Prop
  | some (.lst _) => True
  | some (.dK _) => True
  | some (.dT _) => True
  | some (.set _ _) => True
  | some (.ins _ _ _) => True
  | some (.ext _) => True
  | _ => False
section
variable {P : Program} {w : World} {H : Hp} {h h' : Heap} {x e : Addr} {o' : HO}
/-- the object at e is changed: x itself, or the dict of the instance x -/
theorem HOk.write (ok : HOk P w H h) (mu : Mut (H x)) (he : e = x ∨ H e = some (.own x)) (k : ∀ b u, b ≠ e → h.get? b = some u → h'.get? b = some u) (heo : ∃ u, h'.get? e = some u)
    (new : ObjOk P w (upd H x o') h' x o') : HOk P w (upd H x o') h' := fun b u q => by
  have nown : ∀ c y, H c = some (.own y) → c ≠ x := fun c y r z => by subst z; rw [r] at mu; exact mu
  have ntup : ∀ c xs, H c = some (.tup xs) → c ≠ x := fun c xs r z => by subst z; rw [r] at mu; exact mu
  by_cases hb : b = x
  · subst hb; rw [upd_same] at q; cases q; exact new
  · rw [upd_ne hb] at q
    by_cases hbe : b = e
    · have q' : H b = some (.own x) := by
        rcases he with z | z
        · exact absurd (hbe.trans z) hb
        · rw [hbe]; exact z
      rw [q] at q'; cases q'
      obtain ⟨v, hv⟩ := heo
      exact ⟨v, by rw [hbe]; exact hv⟩
    · refine (ok b u q).stay (fun c v hc r => k c v ?_ r) (fun c r => by rw [upd_ne (nown c b r)]; exact r) fun c xs r => by rw [upd_ne (ntup c xs r)]; exact r
      rcases hc with rfl | hc
      · exact hbe
      · rintro rfl
        rcases he with z | z
        · exact nown c b hc z
        · rw [hc] at z; cases z; exact hb rfl
end

/-! ### kept unless tracked; of the frames at fs (the callers') the slots may change (an exception that passes writes there); of the records at ex (iterators) nothing is said -/
structure Un (fs ex : List Addr) (H H' : Hp) (h h' : Heap) : Prop where
  keep : ∀ b o, h.get? b = some o → H b = none → b ∉ fs → b ∉ ex → h'.get? b = some o
  slot : ∀ b o, h.get? b = some o → H b = none → b ∈ fs → b ∉ ex → ∃ sl, h'.get? b = some { o with slots := sl }
  free : ∀ b o, h.get? b = some o → H b = none → b ∉ ex → H' b = none
  there : ∀ b o, h.get? b = some o → b ∉ ex → ∃ o', h'.get? b = some o'
  tups : ∀ b xs, H b = some (.tup xs) → H' b = some (.tup xs)
  frzs : ∀ b o u, H b = some (.frz o u) → H' b = some (.frz o u)
  tbls : ∀ b ps, H b = some (.tbl ps) → ∃ more, H' b = some (.tbl (ps ++ more))
section
variable {fs fs' ex ex' : List Addr} {H H1 H2 : Hp} {h h1 h2 h' : Heap} {a x e : Addr} {o : HO}
theorem Un.any (u : Un fs ex H H1 h h1) {b : Addr} {ob : Obj} (q : h.get? b = some ob) (n : H b = none) (hx : b ∉ ex) : ∃ sl, h1.get? b = some { ob with slots := sl } := by
  by_cases hb : b ∈ fs
  · exact u.slot b ob q n hb hx
  · exact ⟨ob.slots, u.keep b ob q n hb hx⟩
theorem Un.trans (a : Un fs ex H H1 h h1) (b : Un fs ex H1 H2 h1 h2) : Un fs ex H H2 h h2 where
  keep := fun c ob q n hc hx => b.keep c ob (a.keep c ob q n hc hx) (a.free c ob q n hx) hc hx
  slot := fun c ob q n hc hx => by
    obtain ⟨sl, e1⟩ := a.slot c ob q n hc hx
    obtain ⟨sl', e2⟩ := b.slot c _ e1 (a.free c ob q n hx) hc hx
    exact ⟨sl', e2⟩
  free := fun c ob q n hx => by
    obtain ⟨o', e1⟩ := a.there c ob q hx
    exact b.free c o' e1 (a.free c ob q n hx) hx
  there := fun c ob q hx => by
    obtain ⟨o', e1⟩ := a.there c ob q hx
    exact b.there c o' e1 hx
  tups := fun c xs q => b.tups c xs (a.tups c xs q)
  frzs := fun c ob xs q => b.frzs c ob xs (a.frzs c ob xs q)
  tbls := fun c ps q => by
    obtain ⟨m1, e1⟩ := a.tbls c ps q
    obtain ⟨m2, e2⟩ := b.tbls c _ e1
    exact ⟨m1 ++ m2, by rw [e2, Array.append_assoc]⟩
theorem Un.kept (k : ∀ b u, h.get? b = some u → h'.get? b = some u) : Un fs ex H H h h' :=
  ⟨fun b ob q _ _ _ => k b ob q, fun b ob q _ _ _ => ⟨ob.slots, k b ob q⟩, fun _ _ _ n _ => n, fun b ob q _ => ⟨ob, k b ob q⟩, fun _ _ q => q, fun _ _ _ q => q, fun _ ps q => ⟨#[], by rw [q]; simp⟩⟩
theorem Un.refl : Un fs ex H H h h := Un.kept fun _ _ q => q
theorem Un.laid (k : ∀ b u, h.get? b = some u → h'.get? b = some u) (hp : h.objs.size ≤ a) (hn : H a = none) : Un fs ex H (upd H a o) h h' where
  keep := fun b u q _ _ _ => k b u q
  slot := fun b u q _ _ _ => ⟨u.slots, k b u q⟩
  free := fun b u q n _ => by rw [upd_ne (Nat.ne_of_lt (Nat.lt_of_lt_of_le (Heap.lt_size q) hp))]; exact n
  there := fun b u q _ => ⟨u, k b u q⟩
  tups := fun b xs q => by rw [upd_ne (ne_of_none q hn)]; exact q
  frzs := fun b u xs q => by rw [upd_ne (ne_of_none q hn)]; exact q
  tbls := fun b ps q => ⟨#[], by rw [upd_ne (ne_of_none q hn), q]; simp⟩
theorem Un.write (mu : Mut (H x)) (he : e = x ∨ H e = some (.own x)) (k : ∀ b u, b ≠ e → h.get? b = some u → h'.get? b = some u) (heo : ∃ u, h'.get? e = some u) : Un fs ex H (upd H x o) h h' := by
  have hx : ∀ b, H b = none → b ≠ x := fun b n z => by subst z; rw [n] at mu; exact mu
  have hb : ∀ b, H b = none → b ≠ e := fun b n z => by
    subst z
    rcases he with r | r
    · exact hx b n r
    · rw [n] at r; cases r
  have hm : ∀ b u, H b = some u → ¬ Mut (some u) → b ≠ x := fun b u q nm z => by subst z; rw [q] at mu; exact nm mu
  refine ⟨fun b u q n _ _ => k b u (hb b n) q, fun b u q n _ _ => ⟨u.slots, k b u (hb b n) q⟩, fun b u q n _ => by rw [upd_ne (hx b n)]; exact n, fun b u q _ => ?_,
    fun b xs q => by rw [upd_ne (hm b _ q fun z => z)]; exact q, fun b u xs q => by rw [upd_ne (hm b _ q fun z => z)]; exact q, fun b ps q => ⟨#[], by rw [upd_ne (hm b _ q fun z => z), q]; simp⟩⟩
  by_cases hbe : b = e
  · subst hbe; exact heo
  · exact ⟨u, k b u hbe q⟩
theorem Un.mono (u : Un fs ex H H1 h h1) (hs : ∀ b ∈ fs, b ∈ fs') (hx : ∀ b ∈ ex, b ∈ ex') : Un fs' ex' H H1 h h1 :=
  ⟨fun b ob q n hb he => u.keep b ob q n (fun z => hb (hs b z)) fun z => he (hx b z), fun _ _ q n _ he => u.any q n fun z => he (hx _ z), fun b ob q n he => u.free b ob q n fun z => he (hx b z), fun b ob q he => u.there b ob q fun z => he (hx b z), u.tups, u.frzs, u.tbls⟩
end

/-! ### the heap without what is tracked -/
def trk (h : Heap) (H : Hp) : List Addr := (List.range h.objs.size).filter fun a => (H a).isSome
def hidT (h : Heap) (H : Hp) : Heap := PySem.W.hideAll h (trk h H)
theorem hidT_size (h : Heap) (H : Hp) : (hidT h H).objs.size = h.objs.size := PySem.W.hideAll_size _ _
theorem hidT_get {h : Heap} {H : Hp} {b : Addr} {o : Obj} (e : h.get? b = some o) (n : H b = none) : (hidT h H).get? b = some o :=
  PySem.W.hideAll_get _ e fun hm => by
    have q : (H b).isSome = true := (List.mem_filter.mp hm).2
    rw [n] at q; simp at q
theorem of_hidT {h : Heap} {H : Hp} {b : Addr} {o : Obj} (e : (hidT h H).get? b = some o) : h.get? b = some o ∧ H b = none := by
  have e' : h.get? b = some o := PySem.W.of_hideAll (trk h H) e
  refine ⟨e', ?_⟩
  cases q : H b with
  | none => rfl
  | some x =>
    have hm : b ∈ trk h H := List.mem_filter.mpr ⟨List.mem_range.mpr (Heap.lt_size e'), by simp [q]⟩
    have z : (hidT h H).get? b = none := PySem.W.hideAll_none (trk h H) hm
    rw [z] at e; cases e

/-! ### OpenK's ledger, filled with every new object but one -/
def allNews (g h : Heap) (L : Addr) : List (Addr × Obj) := (List.range h.objs.size).filterMap fun a => if a = L ∨ (g.get? a).isSome = true then none else (h.get? a).map fun o => (a, o)
theorem mem_allNews {g h : Heap} {L a : Addr} {o : Obj} (h1 : a ≠ L) (h2 : g.get? a = none) (h3 : h.get? a = some o) : (a, o) ∈ allNews g h L :=
  List.mem_filterMap.mpr ⟨a, List.mem_range.mpr (Heap.lt_size h3), by simp [h1, h2, h3]⟩
theorem of_mem_allNews {g h : Heap} {L : Addr} {p : Addr × Obj} (hp : p ∈ allNews g h L) : p.1 ≠ L ∧ g.get? p.1 = none ∧ h.get? p.1 = some p.2 := by
  obtain ⟨b, _, e⟩ := List.mem_filterMap.mp hp
  split at e
  · cases e
  · rename_i hn
    cases q : h.get? b with
    | none => rw [q] at e; simp at e
    | some u =>
      rw [q] at e
      simp only [Option.map_some, Option.some.injEq] at e
      subst e
      refine ⟨fun z => hn (.inl z), ?_, q⟩
      show g.get? b = none
      cases r : g.get? b with
      | none => rfl
      | some v => exact (hn (.inr (by simp [r]))).elim
def rest (g h : Heap) (L d : Addr) : List (Addr × Obj) := (allNews g h L).filter fun p => decide (p.1 ≠ d)
theorem rest_ne {g h : Heap} {L d : Addr} : ∀ p ∈ rest g h L d, p.1 ≠ d := fun p hp => of_decide_eq_true (List.mem_filter.mp hp).2
theorem mem_rest {g h : Heap} {L d a : Addr} {o : Obj} (h1 : a ≠ L) (h2 : g.get? a = none) (h3 : h.get? a = some o) (h4 : a ≠ d) : (a, o) ∈ rest g h L d :=
  List.mem_filter.mpr ⟨mem_allNews h1 h2 h3, decide_eq_true h4⟩
theorem news_all {g h : Heap} {L : Addr} : News g L h (allNews g h L) := fun p hp => let ⟨a, b, c⟩ := of_mem_allNews hp; ⟨c, a, b⟩
theorem news_at {g h : Heap} {L d : Addr} {o : Obj} (h1 : d ≠ L) (h2 : g.get? d = none) (h3 : h.get? d = some o) : News g L h ((d, o) :: rest g h L d) := fun p hp => by
  rcases List.mem_cons.mp hp with rfl | hp
  · exact ⟨h3, h1, h2⟩
  · exact news_all p (List.mem_filter.mp hp).1
/-- behind a rule that changed d alone: all else but the frame is kept -/
theorem kept_of_news {g h h' : Heap} {L d : Addr} {m : Str → Option Value} (k : ∀ b o, g.get? b = some o → h.get? b = some o) (F : Fr g L h' m) (N : News g L h' (rest g h L d)) :
    ∀ b o, b ≠ L → b ≠ d → h.get? b = some o → h'.get? b = some o := fun b o h1 h2 e => by
  cases q : g.get? b with
  | some u =>
    have := k b u q
    rw [e] at this; cases this
    exact F.keep b _ q
  | none => exact (N (b, o) (mem_rest h1 q e h2)).1
end L2

namespace L2
open PySem PySem.Spec PyProof.Rows

/-- the module's facts, over the base: the heap at the law's entry without what is tracked there -/
structure Mod (K : PySem.W.Frag) (mg : Str → Option Value) (base : Heap) : Prop where
  kin : K.In base
  glob : base.Ns mainGlobals mg
  blt : ∃ mb, base.Ns builtinsNs mb ∧ ∀ x : Str, x ≠ "__name__" → mb x = bootBuiltins x
  nolimit : base.NoLimit

/-- the context: a def's body (or a comprehension's block) running. base: fixed through the whole law; s₀, H₀: the entry; outer: the frames whose slots others may change (a def's callers); stack: all frames that run;
   ex: iterators that were made ahead of the entry and are walked here (a comprehension's); fn: the names whose cells were made at the entry (a def: all; a comprehension's block: its own); calm: not within an except suite; pn: pins that every state bears; xe: what is wanted of an exception that leaves the code -/
structure Cx where
  prog : Program
  w : World
  K : PySem.W.Frag
  mg : Str → Option Value
  base : Heap
  A : Around
  N : List Str
  s₀ : Shared
  H₀ : Hp
  env : Env
  outer : List Env
  stack : List Env
  ex : List Addr
  fn : Str → Bool
  calm : Bool
  pn : List (Addr × Obj)
  xe : Value → Shared → Prop
/-- the callers' frames -/
def frs (l : List Env) : List Addr := l.filterMap (·.frame)
abbrev Cx.fs (X : Cx) : List Addr := frs X.outer

def Vis (sc : Scope) (x : Str) : Prop := sc.names.lookup x = some .local ∨ sc.names.lookup x = some .cell ∨ sc.names.lookup x = some .free
def Loc (sc : Scope) (x : Str) : Prop := sc.names.lookup x = some .local ∨ sc.names.lookup x = some .cell
def Look (env : Env) (h : Heap) (m : Str → Option Value) (x : Str) (u : Value) : Prop :=
  (env.kindOf x = some .local ∧ m x = some u) ∨ ((env.kindOf x = some .cell ∨ env.kindOf x = some .free) ∧ ∃ c, env.cells.lookup x = some c ∧ h.IsCell c (some u))

structure Cx.Ok (X : Cx) : Prop where
  mod : Mod X.K X.mg X.base
  kind : X.env.scope.kind = .function
  glob : X.env.globals = mainGlobals
  blt : X.env.builtins = builtinsNs
  above : X.s₀.heap.objs.size ≤ X.env.locals
  inj : ∀ x y c, X.env.cells.lookup x = some c → X.env.cells.lookup y = some c → x = y
  has : ∀ x, (X.env.kindOf x = some .cell ∨ X.env.kindOf x = some .free) → ∃ c, X.env.cells.lookup x = some c
  cab : ∀ x c, X.fn x = true → X.env.cells.lookup x = some c → X.s₀.heap.objs.size ≤ c
  hd : X.calm = true → X.A.handled = none
  frames : X.A.frames = some X.stack
  stk : X.stack = X.outer ∨ (X.stack = X.env :: X.outer ∧ X.env.frame = some X.env.locals)
  exf : ∀ b ∈ X.ex, b ≠ X.env.locals ∧ ∀ x c, X.env.cells.lookup x = some c → c ≠ b
  bs : ∀ b o, X.base.get? b = some o → X.s₀.heap.get? b = some o ∧ X.H₀ b = none
  bsz : X.base.objs.size ≤ X.s₀.heap.objs.size
  noex : ∀ b o, X.base.get? b = some o → b ∉ X.ex
  exfs : ∀ b ∈ X.ex, b ∉ X.fs
  funs : X.s₀.heap.FunFrames X.base X.outer
  frf : ∀ b ∈ X.fs, X.H₀ b = none

structure Inv (X : Cx) (pins : List (Addr × Obj)) (σ : List (Option V)) (H : Hp) (s : Shared) : Prop where
  ok : X.Ok
  os : s.os = X.s₀.os
  bare : AllBare s.gens
  base : Un X.fs X.ex X.H₀ H X.s₀.heap s.heap
  loc : ∃ m, s.heap.Ns X.env.locals m ∧ ∀ (i : Nat) (x : Str) (v : V), X.N[i]? = some x → σ[i]? = some (some v) → Vis X.env.scope x → ∃ u, RelV v u ∧ Look X.env s.heap m x u
  cell : ∀ x c, X.env.cells.lookup x = some c → ∃ v, s.heap.IsCell c v
  free : H X.env.locals = none
  freeC : ∀ x c, X.env.cells.lookup x = some c → H c = none
  pin : ∀ p ∈ X.pn ++ pins, s.heap.get? p.1 = some p.2 ∧ H p.1 = none ∧ p.1 ≠ X.env.locals ∧ p.1 ∉ X.fs ∧ ∀ v, p.2.data ≠ .cell v
  hok : HOk X.prog X.w H s.heap
  len : σ.length = X.N.length

section
variable {X : Cx} {pins : List (Addr × Obj)} {σ : List (Option V)} {H H' : Hp} {s : Shared} {h' : Heap}

theorem Cx.Ok.nofr (ok : X.Ok) {b : Addr} {o : Obj} (e : X.base.get? b = some o) : b ∉ X.fs := fun hb => by
  have := (ok.funs.mem hb).1
  rw [e] at this; cases this
theorem Inv.bs (I : Inv X pins σ H s) : ∀ b o, X.base.get? b = some o → s.heap.get? b = some o ∧ H b = none := fun b o e =>
  ⟨I.base.keep b o (I.ok.bs b o e).1 (I.ok.bs b o e).2 (I.ok.nofr e) (I.ok.noex b o e), I.base.free b o (I.ok.bs b o e).1 (I.ok.bs b o e).2 (I.ok.noex b o e)⟩
theorem Inv.bk (I : Inv X pins σ H s) : ∀ b o, X.base.get? b = some o → s.heap.get? b = some o := fun b o e => (I.bs b o e).1
theorem Inv.mod (I : Inv X pins σ H s) : Mod X.K X.mg X.base := I.ok.mod
theorem Inv.kIn (I : Inv X pins σ H s) : X.K.In s.heap := I.ok.mod.kin.keeps I.bk
theorem Inv.nolimit (I : Inv X pins σ H s) : s.heap.NoLimit := I.ok.mod.nolimit.keeps I.bk
/-- the frame over the base: for OpenK's rules (K.In X.base is I.mod.kin) -/
theorem Inv.fr (I : Inv X pins σ H s) : ∃ m, Fr X.base X.env.locals s.heap m :=
  let ⟨m, hn, _⟩ := I.loc
  ⟨m, hn, I.bk, Nat.le_trans I.ok.bsz I.ok.above⟩
theorem Inv.lt (I : Inv X pins σ H s) : X.env.locals < s.heap.objs.size := let ⟨_, hn, _⟩ := I.loc; hn.lt
theorem Inv.sz (I : Inv X pins σ H s) : X.s₀.heap.objs.size ≤ s.heap.objs.size := Nat.le_trans I.ok.above (Nat.le_of_lt I.lt)
theorem Inv.nofs (I : Inv X pins σ H s) {a : Addr} (h : s.heap.objs.size ≤ a) : a ∉ X.fs := fun hb => by
  obtain ⟨_, o, ho, _⟩ := I.ok.funs.mem hb
  exact absurd (Nat.lt_of_lt_of_le (Heap.lt_size ho) (Nat.le_trans I.sz h)) (Nat.lt_irrefl _)
theorem Inv.cne (I : Inv X pins σ H s) : ∀ x c, X.env.cells.lookup x = some c → c ≠ X.env.locals := fun x c e z => by
  obtain ⟨v, o, ho, hd⟩ := I.cell x c e
  obtain ⟨m, ⟨o', es, ep, ho', hd', _⟩, _⟩ := I.loc
  rw [z, ho'] at ho; cases ho; rw [hd'] at hd; cases hd
theorem Inv.funs (I : Inv X pins σ H s) : s.heap.FunFrames X.base X.outer := by
  have all : ∀ (l : List Env), (∀ b ∈ frs l, b ∈ X.fs) → X.s₀.heap.FunFrames X.base l → s.heap.FunFrames X.base l := by
    intro l
    induction l with
    | nil => intro _ _; trivial
    | cons env r ih =>
      intro hs hl
      obtain ⟨hk, ⟨L, o, hf, hn, ho, hd⟩, hr⟩ := hl
      have hL : L ∈ X.fs := hs L (by unfold frs; rw [List.filterMap_cons, hf]; exact List.mem_cons_self)
      obtain ⟨sl, e⟩ := I.base.slot L o ho (I.ok.frf L hL) hL fun z => I.ok.exfs L z hL
      exact ⟨hk, ⟨L, _, hf, hn, e, hd⟩, ih (fun b hb => hs b (by unfold frs; rw [List.filterMap_cons, hf]; exact List.mem_cons_of_mem _ hb)) hr⟩
  exact all X.outer (fun _ hb => hb) I.ok.funs

/-- the frames that run, for a call -/
theorem Inv.stack (I : Inv X pins σ H s) : s.heap.FunFrames X.base X.stack := by
  rcases I.ok.stk with e | ⟨e, hf⟩
  · rw [e]; exact I.funs
  · rw [e]
    obtain ⟨m, hn, _⟩ := I.loc
    refine .cons (by rw [I.ok.kind]; decide) hf hn ?_ I.funs
    exact Heap.get?_none_of_le (Nat.le_trans I.ok.bsz I.ok.above)
theorem Inv.stkSub (I : Inv X pins σ H s) : ∀ b ∈ frs X.stack, b ∈ X.env.locals :: X.fs := fun b hb => by
  rcases I.ok.stk with e | ⟨e, hf⟩
  · rw [e] at hb; exact List.mem_cons_of_mem _ hb
  · rw [e] at hb
    unfold frs at hb
    rw [List.filterMap_cons, hf] at hb
    exact hb
theorem Inv.stkFree (I : Inv X pins σ H s) : ∀ b ∈ frs X.stack, H b = none := fun b hb => by
  rcases List.mem_cons.mp (I.stkSub b hb) with e | hb
  · rw [e]; exact I.free
  · obtain ⟨_, o, ho, _⟩ := I.ok.funs.mem hb
    exact I.base.free b o ho (I.ok.frf b hb) fun z => I.ok.exfs b z hb

/-- THE STEP: the untracked objects but the frame and the records at ch are kept (the callers' frames up to slots), the frame's map is kept, the new abstract heap is held -/
theorem Inv.step {g' : Array GenState} {t' : Nat} {d' : Drawn} {ch : List Addr} (I : Inv X pins σ H s)
    (hch : ∀ b ∈ ch, (b ∈ X.ex ∨ X.s₀.heap.objs.size ≤ b) ∧ b ≠ X.env.locals ∧ (∀ x c, X.env.cells.lookup x = some c → c ≠ b) ∧ ∀ p ∈ X.pn ++ pins, p.1 ≠ b)
    (keep : ∀ b o, b ≠ X.env.locals → b ∉ X.fs → b ∉ ch → s.heap.get? b = some o → H b = none → h'.get? b = some o)
    (slot : ∀ b o, b ≠ X.env.locals → b ∈ X.fs → b ∉ ch → s.heap.get? b = some o → H b = none → ∃ sl, h'.get? b = some { o with slots := sl }) (free : ∀ b o, b ∉ ch → s.heap.get? b = some o → H b = none → H' b = none)
    (there : ∀ b o, b ∉ ch → s.heap.get? b = some o → ∃ o', h'.get? b = some o')
    (tups : ∀ b xs, H b = some (.tup xs) → H' b = some (.tup xs)) (frzs : ∀ b o u, H b = some (.frz o u) → H' b = some (.frz o u)) (tbls : ∀ b ps, H b = some (.tbl ps) → ∃ more, H' b = some (.tbl (ps ++ more)))
    (ns : ∀ m, s.heap.Ns X.env.locals m → h'.Ns X.env.locals m) (hok : HOk X.prog X.w H' h') (hg : AllBare g') :
    Inv X pins σ H' { s with heap := h', gens := g', drawn := d', toks := t' } := by
  have neL : ∀ b o, X.s₀.heap.get? b = some o → b ≠ X.env.locals := fun b o e => Nat.ne_of_lt (Nat.lt_of_lt_of_le (Heap.lt_size e) I.ok.above)
  have neC : ∀ b o, X.s₀.heap.get? b = some o → b ∉ X.ex → b ∉ ch := fun b o e hx hb => by
    rcases (hch b hb).1 with z | z
    · exact hx z
    · exact absurd (Nat.lt_of_lt_of_le (Heap.lt_size e) z) (Nat.lt_irrefl _)
  have cellK : ∀ x c, X.env.cells.lookup x = some c → ∀ v, s.heap.IsCell c v → h'.IsCell c v := fun x c e v ⟨o, ho, hd⟩ => by
    have nch : c ∉ ch := fun z => (hch c z).2.2.1 x c e rfl
    by_cases hc : c ∈ X.fs
    · obtain ⟨sl, q⟩ := slot c o (I.cne x c e) hc nch ho (I.freeC x c e)
      exact ⟨_, q, hd⟩
    · exact ⟨o, keep c o (I.cne x c e) hc nch ho (I.freeC x c e), hd⟩
  refine ⟨I.ok, I.os, hg, ⟨fun b o e n hb hx => ?_, fun b o e n hb hx => ?_, fun b o e n hx => ?_, fun b o e hx => ?_, fun b xs e => tups b xs (I.base.tups b xs e), fun b o xs e => frzs b o xs (I.base.frzs b o xs e), fun b ps e => ?_⟩, ?_, fun x c e => ?_, ?_, fun x c e => ?_, fun p hp => ?_, hok, I.len⟩
  · exact keep b o (neL b o e) hb (neC b o e hx) (I.base.keep b o e n hb hx) (I.base.free b o e n hx)
  · obtain ⟨sl, e1⟩ := I.base.slot b o e n hb hx
    obtain ⟨sl', e2⟩ := slot b _ (neL b o e) hb (neC b o e hx) e1 (I.base.free b o e n hx)
    exact ⟨sl', e2⟩
  · obtain ⟨o', e1⟩ := I.base.there b o e hx
    exact free b o' (neC b o e hx) e1 (I.base.free b o e n hx)
  · obtain ⟨o', e1⟩ := I.base.there b o e hx
    exact there b o' (neC b o e hx) e1
  · obtain ⟨m1, e1⟩ := I.base.tbls b ps e
    obtain ⟨m2, e2⟩ := tbls b _ e1
    exact ⟨m1 ++ m2, by rw [e2, Array.append_assoc]⟩
  · obtain ⟨m, hn, hl⟩ := I.loc
    refine ⟨m, ns m hn, fun i x v e1 e2 e3 => ?_⟩
    obtain ⟨u, r, l⟩ := hl i x v e1 e2 e3
    refine ⟨u, r, ?_⟩
    rcases l with l | ⟨k, c, e, z⟩
    · exact .inl l
    · exact .inr ⟨k, c, e, cellK x c e _ z⟩
  · obtain ⟨v, z⟩ := I.cell x c e
    exact ⟨v, cellK x c e v z⟩
  · obtain ⟨m, ⟨o, _, _, ho, _⟩, _⟩ := I.loc
    exact free _ o (fun z => (hch _ z).2.1 rfl) ho I.free
  · obtain ⟨v, o, ho, hd⟩ := I.cell x c e
    exact free c o (fun z => (hch c z).2.2.1 x c e rfl) ho (I.freeC x c e)
  · obtain ⟨e, n, ne, nf, d⟩ := I.pin p hp
    have nch : p.1 ∉ ch := fun z => (hch p.1 z).2.2.2 p hp rfl
    exact ⟨keep p.1 p.2 ne nf nch e n, free p.1 p.2 nch e n, ne, nf, d⟩
/-- .. where the frame's own object is kept too -/
theorem Inv.un {t' : Nat} (I : Inv X pins σ H s) (u : Un X.fs [] H H' s.heap h') (hok : HOk X.prog X.w H' h') : Inv X pins σ H' { s with heap := h', toks := t' } := by
  obtain ⟨m, ⟨o, es, ep, ho, r⟩, _⟩ := id I.loc
  obtain ⟨sl, hL⟩ := u.any ho I.free (by simp)
  exact I.step (g' := s.gens) (d' := s.drawn) (ch := []) (fun _ z => nomatch z) (fun b o _ hb _ e n => u.keep b o e n hb (by simp)) (fun b o _ hb _ e n => u.slot b o e n hb (by simp)) (fun b o _ e n => u.free b o e n (by simp)) (fun b o _ e => u.there b o e (by simp)) u.tups u.frzs u.tbls (fun m' hm => by
    obtain ⟨o', es', ep', ho', r'⟩ := hm
    rw [ho] at ho'; cases ho'
    exact ⟨_, es', ep', hL, r'⟩) hok I.bare
/-- behind a call (or a comprehension's block): the slots of this frame may have changed too, the records at ch may have turned -/
theorem Inv.call {g' : Array GenState} {t' : Nat} {d' : Drawn} {ch : List Addr} (I : Inv X pins σ H s) (u : Un (frs X.stack) ch H H' s.heap h') (hok : HOk X.prog X.w H' h') (hg : AllBare g')
    (hch : ∀ b ∈ ch, (b ∈ X.ex ∨ X.s₀.heap.objs.size ≤ b) ∧ b ≠ X.env.locals ∧ (∀ x c, X.env.cells.lookup x = some c → c ≠ b) ∧ ∀ p ∈ X.pn ++ pins, p.1 ≠ b) :
    Inv X pins σ H' { s with heap := h', gens := g', drawn := d', toks := t' } := by
  obtain ⟨m, ⟨o, es, ep, ho, r⟩, _⟩ := id I.loc
  obtain ⟨sl, hL⟩ := u.any ho I.free fun z => (hch _ z).2.1 rfl
  exact I.step (ch := ch) hch (fun b o hL hb hc e n => u.keep b o e n (fun z => (List.mem_cons.mp (I.stkSub b z)).elim hL hb) hc) (fun b o _ _ hc e n => u.any e n hc) (fun b o hc e n => u.free b o e n hc) (fun b o hc e => u.there b o e hc) u.tups u.frzs u.tbls (fun m' hm => by
    obtain ⟨o', es', ep', ho', r'⟩ := hm
    rw [ho] at ho'; cases ho'
    exact ⟨_, es', ep', hL, r'⟩) hok hg
/-- an untracked record of ours (an iterator) has turned -/
theorem Inv.turned {t' : Nat} {it : Addr} (I : Inv X pins σ H s) (k : ∀ b o, b ≠ it → s.heap.get? b = some o → h'.get? b = some o) (hn : H it = none) (hL : it ≠ X.env.locals)
    (h1 : it ∈ X.ex ∨ X.s₀.heap.objs.size ≤ it) (h2 : ∀ x c, X.env.cells.lookup x = some c → c ≠ it) (h3 : ∀ p ∈ X.pn ++ pins, p.1 ≠ it) : Inv X pins σ H { s with heap := h', toks := t' } := by
  have nit : ∀ b u, H b = some u → b ≠ it := fun b u e z => by rw [z, hn] at e; cases e
  refine I.step (g' := s.gens) (d' := s.drawn) (ch := [it]) (fun b hb => ?_) (fun b o _ _ hc e _ => k b o (fun z => hc (by simp [z])) e) (fun b o _ _ hc e _ => ⟨o.slots, k b o (fun z => hc (by simp [z])) e⟩) (fun _ _ _ _ n => n)
    (fun b o hc e => ⟨o, k b o (fun z => hc (by simp [z])) e⟩) (fun _ _ e => e) (fun _ _ _ e => e) (fun b ps e => ⟨#[], by rw [e]; simp⟩) (fun m hm => ?_) (fun b u e => ?_) I.bare
  · have e : b = it := by simpa using hb
    subst e
    exact ⟨h1, hL, h2, h3⟩
  · obtain ⟨o, es, ep, ho, r⟩ := hm
    exact ⟨o, es, ep, k _ o (Ne.symm hL) ho, r⟩
  · refine (I.hok b u e).stay (fun c v hc q => k c v ?_ q) (fun _ q => q) fun _ _ q => q
    rcases hc with z | z
    · rw [z]; exact nit b u e
    · exact nit c _ z
theorem Inv.tok (I : Inv X pins σ H s) (t : Nat) : Inv X pins σ H { s with toks := t } := I.un (h' := s.heap) (t' := t) Un.refl I.hok
/-- all objects kept -/
theorem Inv.kept {t' : Nat} (I : Inv X pins σ H s) (k : ∀ b u, s.heap.get? b = some u → h'.get? b = some u) : Inv X pins σ H { s with heap := h', toks := t' } := I.un (Un.kept k) (I.hok.kept k)
/-- a new object laid and tracked -/
theorem Inv.laid {a : Addr} {o : HO} {t' : Nat} (I : Inv X pins σ H s) (k : ∀ b u, s.heap.get? b = some u → h'.get? b = some u) (hp : s.heap.objs.size ≤ a) (new : ObjOk X.prog X.w (upd H a o) h' a o) :
    Inv X pins σ (upd H a o) { s with heap := h', toks := t' } := I.un (Un.laid k hp (I.hok.fresh hp)) (I.hok.laid k hp new)
/-- an object written -/
theorem Inv.write {x e : Addr} {o : HO} {t' : Nat} (I : Inv X pins σ H s) (mu : Mut (H x)) (he : e = x ∨ H e = some (.own x)) (k : ∀ b u, b ≠ e → s.heap.get? b = some u → h'.get? b = some u) (heo : ∃ u, h'.get? e = some u)
    (new : ObjOk X.prog X.w (upd H x o) h' x o) : Inv X pins σ (upd H x o) { s with heap := h', toks := t' } := I.un (Un.write mu he k heo) (I.hok.write mu he k heo new)
/-- forgetting slots, pins -/
theorem Inv.weak {σ' : List (Option V)} (I : Inv X pins σ H s) (hl : σ'.length = σ.length) (w : ∀ (i : Nat) v, σ'[i]? = some (some v) → σ[i]? = some (some v)) : Inv X pins σ' H s :=
  ⟨I.ok, I.os, I.bare, I.base, let ⟨m, hn, hl'⟩ := I.loc; ⟨m, hn, fun i x v e1 e2 e3 => hl' i x v e1 (w i v e2) e3⟩, I.cell, I.free, I.freeC, I.pin, I.hok, hl.trans I.len⟩
theorem Inv.pins_of {pins' : List (Addr × Obj)} (I : Inv X pins σ H s) (h : ∀ p ∈ pins', s.heap.get? p.1 = some p.2 ∧ H p.1 = none ∧ p.1 ≠ X.env.locals ∧ p.1 ∉ X.fs ∧ ∀ v, p.2.data ≠ .cell v) : Inv X pins' σ H s :=
  ⟨I.ok, I.os, I.bare, I.base, I.loc, I.cell, I.free, I.freeC, fun p hp => (List.mem_append.mp hp).elim (fun z => I.pin p (List.mem_append_left _ z)) (h p), I.hok, I.len⟩

theorem nodup_ix {N : List Str} (hN : N.Nodup) {i j : Nat} {x : Str} (a : N[i]? = some x) (b : N[j]? = some x) : i = j := by
  obtain ⟨h1, e1⟩ := List.getElem?_eq_some_iff.mp a
  obtain ⟨h2, e2⟩ := List.getElem?_eq_some_iff.mp b
  exact (List.getElem_inj hN).mp (e1.trans e2.symm)

/-- a name is stored; what changed -/
theorem store_ok2 {M : Model} {A : Around} {E : Value → Shared → Prop} {i : Nat} {x : Str} {v : V} {u : Value} {Q : Unit → Shared → Prop} (I : Inv X pins σ H s) (hN : X.N.Nodup) (hi : X.N[i]? = some x) (hx : Loc X.env.scope x) (r : RelV v u)
    (h : ∀ s', Inv X pins (σ.set i (some v)) H s' → (∃ a, Heap.SameBut a s.heap s'.heap ∧ (a = X.env.locals ∨ X.env.cells.lookup x = some a)) → Q () s') (hf : X.fn x = true ∨ X.env.scope.names.lookup x = some .local := by first | exact .inl rfl | exact .inr rfl | assumption) : wpAny M A (storeName X.env x u) Q E s := by
  obtain ⟨m, hn, hl⟩ := id I.loc
  have hcls : (X.env.scope.kind == .class || (X.env.scope.kind == .module && X.env.locals != X.env.globals)) = false := by rw [I.ok.kind]; rfl
  have hiσ : i < σ.length := by rw [I.len]; exact (List.getElem?_eq_some_iff.mp hi).1
  have cne := I.cne
  have tracked : ∀ {a : Addr} {h' : Heap}, (∃ o, s.heap.get? a = some o ∧ H a = none) → Heap.SameBut a s.heap h' → HOk X.prog X.w H h' := fun {a h'} ha hs b ob e => by
    obtain ⟨_, _, hfree⟩ := ha
    refine (I.hok b ob e).stay (fun c w' hc q => (hs.2 c ?_).trans q) (fun _ q => q) fun _ _ q => q
    rintro rfl
    rcases hc with rfl | hc
    · rw [hfree] at e; cases e
    · rw [hfree] at hc; cases hc
  rcases hx with hk | hk
  · refine wpAny_storeName_local hk hn (fun h' hn' hs => ?_) hcls
    obtain ⟨oL, _, _, hoL, _⟩ := id hn
    refine h _ ⟨I.ok, I.os, I.bare, ⟨fun b o e n hb hx => ?_, fun b o e n hb hx => ?_, I.base.free, fun b o e hx => ?_, I.base.tups, I.base.frzs, I.base.tbls⟩, ⟨_, hn', fun j y v' e1 e2 e3 => ?_⟩, fun y c e => ?_, I.free, I.freeC, fun p hp => ?_, tracked ⟨oL, hoL, I.free⟩ hs, by simpa using I.len⟩ ⟨_, hs, .inl rfl⟩
    · exact (hs.2 b (Nat.ne_of_lt (Nat.lt_of_lt_of_le (Heap.lt_size e) I.ok.above))).trans (I.base.keep b o e n hb hx)
    · obtain ⟨sl, e1⟩ := I.base.slot b o e n hb hx
      exact ⟨sl, (hs.2 b (Nat.ne_of_lt (Nat.lt_of_lt_of_le (Heap.lt_size e) I.ok.above))).trans e1⟩
    · obtain ⟨o', e1⟩ := I.base.there b o e hx
      exact ⟨o', (hs.2 b (Nat.ne_of_lt (Nat.lt_of_lt_of_le (Heap.lt_size e) I.ok.above))).trans e1⟩
    · by_cases hj : j = i
      · subst hj
        rw [hi] at e1; cases e1
        rw [List.getElem?_set_self hiσ] at e2
        cases e2
        exact ⟨u, r, .inl ⟨hk, by simp⟩⟩
      · rw [List.getElem?_set_ne (Ne.symm hj)] at e2
        obtain ⟨u', r', q⟩ := hl j y v' e1 e2 e3
        refine ⟨u', r', ?_⟩
        rcases q with ⟨k, e⟩ | ⟨k, c, e, z⟩
        · refine .inl ⟨k, ?_⟩
          have : y ≠ x := fun e => hj (nodup_ix hN e1 (e ▸ hi))
          simp [this, e]
        · exact .inr ⟨k, c, e, z.sameBut hs (cne y c e)⟩
    · obtain ⟨w', z⟩ := I.cell y c e
      exact ⟨w', z.sameBut hs (cne y c e)⟩
    · obtain ⟨e, n, ne, nf, d⟩ := I.pin p hp
      exact ⟨(hs.2 p.1 ne).trans e, n, ne, nf, d⟩
  · have hfn : X.fn x = true := by
      rcases hf with z | z
      · exact z
      · rw [z] at hk; cases hk
    obtain ⟨c, hc⟩ := I.ok.has x (.inl hk)
    obtain ⟨w', z⟩ := I.cell x c hc
    refine wpAny_storeName_cell I.ok.kind hk hc z (fun h' hc' hs => ?_)
    obtain ⟨oc, hoc, hocd⟩ := id z
    refine h { s with heap := h' } ⟨I.ok, I.os, I.bare, ⟨fun b o e n hb hx => ?_, fun b o e n hb hx => ?_, I.base.free, fun b o e hx => ?_, I.base.tups, I.base.frzs, I.base.tbls⟩, ⟨m, hn.sameBut hs (Ne.symm (cne x c hc)), fun j y v' e1 e2 e3 => ?_⟩, fun y c' e => ?_, I.free, I.freeC, fun p hp => ?_, tracked ⟨oc, hoc, I.freeC x c hc⟩ hs, by simpa using I.len⟩ ⟨c, hs, .inr hc⟩
    · exact (hs.2 b (Nat.ne_of_lt (Nat.lt_of_lt_of_le (Heap.lt_size e) (I.ok.cab x c hfn hc)))).trans (I.base.keep b o e n hb hx)
    · obtain ⟨sl, e1⟩ := I.base.slot b o e n hb hx
      exact ⟨sl, (hs.2 b (Nat.ne_of_lt (Nat.lt_of_lt_of_le (Heap.lt_size e) (I.ok.cab x c hfn hc)))).trans e1⟩
    · obtain ⟨o', e1⟩ := I.base.there b o e hx
      exact ⟨o', (hs.2 b (Nat.ne_of_lt (Nat.lt_of_lt_of_le (Heap.lt_size e) (I.ok.cab x c hfn hc)))).trans e1⟩
    · by_cases hj : j = i
      · subst hj
        rw [hi] at e1; cases e1
        rw [List.getElem?_set_self hiσ] at e2
        cases e2
        exact ⟨u, r, .inr ⟨.inl hk, c, hc, hc'⟩⟩
      · rw [List.getElem?_set_ne (Ne.symm hj)] at e2
        obtain ⟨u', r', q⟩ := hl j y v' e1 e2 e3
        refine ⟨u', r', ?_⟩
        rcases q with q | ⟨k, c', e, z'⟩
        · exact .inl q
        · refine .inr ⟨k, c', e, z'.sameBut hs ?_⟩
          rintro rfl
          exact hj (nodup_ix hN e1 (I.ok.inj _ _ _ e hc ▸ hi))
    · by_cases hcc : c' = c
      · subst hcc; exact ⟨_, hc'⟩
      · obtain ⟨w2, z2⟩ := I.cell y c' e
        exact ⟨w2, z2.sameBut hs hcc⟩
    · obtain ⟨e, n, ne, nf, d⟩ := I.pin p hp
      refine ⟨(hs.2 p.1 ?_).trans e, n, ne, nf, d⟩
      intro q
      rw [q, hoc] at e
      have q' : oc = p.2 := Option.some.inj e
      exact d w' (by rw [← q']; exact hocd)
theorem store_ok {M : Model} {A : Around} {E : Value → Shared → Prop} {i : Nat} {x : Str} {v : V} {u : Value} {Q : Unit → Shared → Prop} (I : Inv X pins σ H s) (hN : X.N.Nodup) (hi : X.N[i]? = some x) (hx : Loc X.env.scope x) (r : RelV v u)
    (h : ∀ s', Inv X pins (σ.set i (some v)) H s' → Q () s') (hf : X.fn x = true ∨ X.env.scope.names.lookup x = some .local := by first | exact .inl rfl | exact .inr rfl | assumption) : wpAny M A (storeName X.env x u) Q E s :=
  store_ok2 I hN hi hx r (fun s' I' _ => h s' I') hf
/-- behind a call or a block, the state as it is -/
theorem Inv.call' {s' : Shared} {ch : List Addr} (I : Inv X pins σ H s) (ho : s'.os = s.os) (u : Un (frs X.stack) ch H H' s.heap s'.heap) (hok : HOk X.prog X.w H' s'.heap) (hg : AllBare s'.gens)
    (hch : ∀ b ∈ ch, (b ∈ X.ex ∨ X.s₀.heap.objs.size ≤ b) ∧ b ≠ X.env.locals ∧ (∀ x c, X.env.cells.lookup x = some c → c ≠ b) ∧ ∀ p ∈ X.pn ++ pins, p.1 ≠ b) : Inv X pins σ H' s' := by
  obtain ⟨h', g', d', t', o'⟩ := s'
  have e : o' = s.os := ho
  subst e
  exact I.call (g' := g') (t' := t') (d' := d') u hok hg hch
end

/-! ### the judgements -/
/-- an exception: its class, its own dict's address (where it has one), the abstract heap behind it -/
abbrev XK := Value → Option Addr → Hp → Prop
abbrev St := List (Option V)
abbrev VK := V → Hp → Prop
/-- an expression's reading; a test's; an argument list's -/
abbrev TE := St → Hp → VK → Prop
abbrev TT := St → Hp → (Bool → Hp → Prop) → Prop
abbrev TA := St → Hp → (List V → Hp → Prop) → Prop
/-- what is wanted behind a statement -/
structure Ends where
  nx : St → Hp → Prop
  rt : VK
  bk : St → Hp → Prop := fun _ _ => False
  ct : St → Hp → Prop := fun _ _ => False
abbrev TS := Ends → St → Hp → Prop

def EP (X : Cx) (pins : List (Addr × Obj)) (σ : St) (Q : VK) (u : Value) (s' : Shared) : Prop := ∃ v H', Inv X pins σ H' s' ∧ RelV v u ∧ Q v H'
def TP (X : Cx) (pins : List (Addr × Obj)) (σ : St) (Q : Bool → Hp → Prop) (b : Bool) (s' : Shared) : Prop := ∃ H', Inv X pins σ H' s' ∧ Q b H'
def AP (X : Cx) (pins : List (Addr × Obj)) (σ : St) (Q : List V → Hp → Prop) (us : List Value) (s' : Shared) : Prop := ∃ vs H', Inv X pins σ H' s' ∧ Vals vs us ∧ Q vs H'
def SP (X : Cx) (pins : List (Addr × Obj)) (D : Ends) (f : Flow) (s' : Shared) : Prop :=
  match f with
  | .next => ∃ σ' H', Inv X pins σ' H' s' ∧ D.nx σ' H'
  | .brk => ∃ σ' H', Inv X pins σ' H' s' ∧ D.bk σ' H'
  | .cont => ∃ σ' H', Inv X pins σ' H' s' ∧ D.ct σ' H'
  | .ret u => ∃ v σ' H', Inv X pins σ' H' s' ∧ RelV v u ∧ D.rt v H'

def PE (X : Cx) (e : Expr) (t : TE) : Prop :=
  ∀ (pins : List (Addr × Obj)) (s : Shared) (σ : St) (H : Hp) (Q : VK), Inv X pins σ H s → t σ H Q → wpAny (model X.prog X.w) X.A (eval e X.env) (EP X pins σ Q) X.xe s
def PT (X : Cx) (e : Expr) (t : TT) : Prop :=
  ∀ (pins : List (Addr × Obj)) (s : Shared) (σ : St) (H : Hp) (Q : Bool → Hp → Prop), Inv X pins σ H s → t σ H Q → wpAny (model X.prog X.w) X.A (isTrue e X.env (eval e X.env)) (TP X pins σ Q) X.xe s
/-- a test whatever its 'whole' is (and, or) -/
def PW (X : Cx) (e : Expr) (t : TT) : Prop :=
  ∀ (whole : Sem Value) (pins : List (Addr × Obj)) (s : Shared) (σ : St) (H : Hp) (Q : Bool → Hp → Prop), Inv X pins σ H s → t σ H Q → wpAny (model X.prog X.w) X.A (isTrue e X.env whole) (TP X pins σ Q) X.xe s
theorem PW.pt {X : Cx} {e : Expr} {t : TT} (h : PW X e t) : PT X e t := h _
/-- an argument list (no star), from the left -/
def PA (X : Cx) (es : List Expr) (t : TA) : Prop :=
  ∀ (pos : Pos) (pins : List (Addr × Obj)) (s : Shared) (σ : St) (H : Hp) (Q : List V → Hp → Prop), Inv X pins σ H s → t σ H Q → wpAny (model X.prog X.w) X.A (spliced (backTo pos (starEach es X.env))) (AP X pins σ Q) X.xe s
def PS (X : Cx) (st : Stmt) (t : TS) : Prop :=
  ∀ (pins : List (Addr × Obj)) (s : Shared) (σ : St) (H : Hp) (D : Ends), Inv X pins σ H s → t D σ H → wpAny (model X.prog X.w) X.A (exec st X.env) (SP X pins D) X.xe s
def PSs (X : Cx) (st : List Stmt) (t : TS) : Prop :=
  ∀ (pins : List (Addr × Obj)) (s : Shared) (σ : St) (H : Hp) (D : Ends), Inv X pins σ H s → t D σ H → wpAny (model X.prog X.w) X.A (execs st X.env) (SP X pins D) X.xe s
/-- weaken the end -/
theorem thn {α : Type} {t : Sem α} {Q Q' : α → Shared → Prop} {M : Model} {A : Around} {E : Value → Shared → Prop} {s : Shared} (h : wpAny M A t Q E s) (hQ : ∀ a s, Q a s → Q' a s) : wpAny M A t Q' E s := wpAny_mono h hQ fun _ _ x => x
end L2

namespace L2
open PySem PySem.Spec PyProof.Rows
section
variable {X : Cx}

/-- two expressions in a row -/
theorem bin {a b : Expr} {ta tb : TE} (ha : PE X a ta) (hb : PE X b tb) {pins : List (Addr × Obj)} {s : Shared} {σ : St} {H : Hp} {R : V → V → Hp → Prop} (I : Inv X pins σ H s) (h : ta σ H fun x H1 => tb σ H1 fun y H2 => R x y H2)
    {α : Type} {Q : α → Shared → Prop} {f : Value → Value → Sem α}
    (hf : ∀ v u s2 x y H2, Inv X pins σ H2 s2 → RelV x v → RelV y u → R x y H2 → wpAny (model X.prog X.w) X.A (f v u) Q X.xe s2) :
    wpAny (model X.prog X.w) X.A (eval a X.env) (fun v s₁ => wpAny (model X.prog X.w) X.A (eval b X.env) (fun u s₂ => wpAny (model X.prog X.w) X.A (f v u) Q X.xe s₂) X.xe s₁) X.xe s := by
  refine thn (ha pins s σ H _ I h) fun v s1 ⟨x, H1, I1, r1, q1⟩ => ?_
  refine thn (hb pins s1 σ H1 _ I1 q1) fun u s2 ⟨y, H2, I2, r2, q2⟩ => ?_
  exact hf v u s2 x y H2 I2 r1 r2 q2

/-! ### names and constants -/
def tVar (i : Nat) : TE := fun σ H Q => ∃ v, σ[i]? = some (some v) ∧ Q v H
def tC (v : V) : TE := fun _ H Q => Q v H
theorem pe_var {i : Nat} {x : Str} {pos : Pos} (hN : X.N[i]? = some x) (hv : Vis X.env.scope x) (hd : (x == ("__debug__" : Str)) = false := by decide) (hcd : (x == ("__classdict__" : Str)) = false := by decide) : PE X (.Name x pos) (tVar i) := by
  intro pins s σ H Q I h
  obtain ⟨v, e, h⟩ := h
  obtain ⟨m, hn, hl⟩ := I.loc
  obtain ⟨u, r, l⟩ := hl i x v hN e hv
  have fin : EP X pins σ Q u s := ⟨v, H, I, r, h⟩
  rcases l with ⟨hk, hm⟩ | ⟨hk, c, hc, hcell⟩
  · exact wpAny_Name (wpAny_loadName_local I.ok.kind hk hn hm fin) hd
  · rcases hk with hk | hk
    · exact wpAny_Name (wpAny_loadName_cell I.ok.kind hk hc hcell fin) hd
    · exact wpAny_Name (wpAny_loadName_free I.ok.kind hk hc hcell fin hcd) hd
theorem pe_int {i j pos} : PE X (.Constant (.int i) j pos) (tC (.int i)) := fun _ _ _ H _ I h => wpAny_Constant_int ⟨.int i, H, I.tok _, ⟨_, rfl⟩, h⟩
theorem pe_bl {b j pos} : PE X (.Constant (.bool b) j pos) (tC (.bl b)) := fun _ _ _ H _ I h => Constant_bool ⟨.bl b, H, I, rfl, h⟩
theorem pe_non {j pos} : PE X (.Constant .none j pos) (tC .non) := fun _ _ _ H _ I h => Constant_none ⟨.non, H, I, rfl, h⟩
theorem pe_str {x j pos} : PE X (.Constant (.str x) j pos) (tC (.str x)) := fun _ _ _ H _ I h => Calls.Constant_str ⟨.str x, H, I.tok _, ⟨_, rfl⟩, h⟩

/-- a global name of the def -/
def Gl (X : Cx) (x : Str) : Prop := X.env.kindOf x = some .globalImplicit
theorem ld_glob {E : Value → Shared → Prop} {pins : List (Addr × Obj)} {s : Shared} {σ : St} {H : Hp} {x : Str} {u : Value} {pos : Pos} {Q : Value → Shared → Prop} (I : Inv X pins σ H s) (hg : Gl X x) (hm : X.mg x = some u) (h : Q u s)
    (hd : (x == ("__debug__" : Str)) = false := by decide) : wpAny (model X.prog X.w) X.A (eval (.Name x pos) X.env) Q E s :=
  Calls.Name_function_global I.ok.kind hg (Calls.loadGlobal_global (by rw [I.ok.glob]; exact I.mod.glob.keeps I.bk) hm h) hd
theorem ld_blt {E : Value → Shared → Prop} {pins : List (Addr × Obj)} {s : Shared} {σ : St} {H : Hp} {x : Str} {u : Value} {pos : Pos} {Q : Value → Shared → Prop} (I : Inv X pins σ H s) (hg : Gl X x) (hm : X.mg x = none) (hv : bootBuiltins x = some u) (h : Q u s)
    (hn : x ≠ "__name__" := by decide) (hd : (x == ("__debug__" : Str)) = false := by decide) : wpAny (model X.prog X.w) X.A (eval (.Name x pos) X.env) Q E s := by
  obtain ⟨mb, h1, h2⟩ := I.mod.blt
  exact Calls.Name_function_global I.ok.kind hg (Calls.loadGlobal_builtin (by rw [I.ok.glob]; exact I.mod.glob.keeps I.bk) hm (by rw [I.ok.blt]; exact h1.keeps I.bk) ((h2 x hn).trans hv) h) hd
/-- a module's constant, a class, a function, as a value -/
theorem pe_glob {x : Str} {v : V} {u : Value} {pos : Pos} (hg : Gl X x) (hm : X.mg x = some u) (r : RelV v u) (hd : (x == ("__debug__" : Str)) = false := by decide) : PE X (.Name x pos) (tC v) :=
  fun _ _ _ H _ I h => ld_glob I hg hm ⟨v, H, I, r, h⟩ hd
theorem pe_bltn {x : Str} {v : V} {u : Value} {pos : Pos} (hg : Gl X x) (hm : X.mg x = none) (hv : bootBuiltins x = some u) (r : RelV v u) (hn : x ≠ "__name__" := by decide) (hd : (x == ("__debug__" : Str)) = false := by decide) : PE X (.Name x pos) (tC v) :=
  fun _ _ _ H _ I h => ld_blt I hg hm hv ⟨v, H, I, r, h⟩ hn hd

/-! ### arithmetic -/
/-- two ints -/
def t2I (ta tb : TE) (k : Int → Int → Hp → Prop) : St → Hp → Prop := fun σ H => ta σ H fun x H1 => tb σ H1 fun y H2 => ∃ i j, x = .int i ∧ y = .int j ∧ k i j H2
def tAdd (ta tb : TE) : TE := fun σ H Q => t2I ta tb (fun i j H2 => Q (.int (i + j)) H2) σ H
def tSub (ta tb : TE) : TE := fun σ H Q => t2I ta tb (fun i j H2 => Q (.int (i - j)) H2) σ H
/-- the left factor below 2^64 -/
def tMul (ta tb : TE) : TE := fun σ H Q => t2I ta tb (fun i j H2 => (-(2 ^ 64) < i ∧ i < 2 ^ 64) ∧ Q (.int (i * j)) H2) σ H
variable {a b : Expr} {ta tb : TE} {pos : Pos}
theorem pe_add (ha : PE X a ta) (hb : PE X b tb) : PE X (.BinOp a .Add b pos) (tAdd ta tb) := by
  intro pins s σ H Q I h
  refine wpAny_BinOp (bin ha hb I h fun v u s2 x y H2 I2 rx ry q => ?_)
  obtain ⟨i, j, rfl, rfl, q⟩ := q
  obtain ⟨t, rfl⟩ := rx
  obtain ⟨t', rfl⟩ := ry
  exact add_int ⟨.int _, H2, I2.tok _, ⟨_, rfl⟩, q⟩
theorem pe_sub (ha : PE X a ta) (hb : PE X b tb) : PE X (.BinOp a .Sub b pos) (tSub ta tb) := by
  intro pins s σ H Q I h
  refine wpAny_BinOp (bin ha hb I h fun v u s2 x y H2 I2 rx ry q => ?_)
  obtain ⟨i, j, rfl, rfl, q⟩ := q
  obtain ⟨t, rfl⟩ := rx
  obtain ⟨t', rfl⟩ := ry
  exact sub_int ⟨.int _, H2, I2.tok _, ⟨_, rfl⟩, q⟩
theorem pe_mul (ha : PE X a ta) (hb : PE X b tb) : PE X (.BinOp a .Mult b pos) (tMul ta tb) := by
  intro pins s σ H Q I h
  refine wpAny_BinOp (bin ha hb I h fun v u s2 x y H2 I2 rx ry q => ?_)
  obtain ⟨i, j, rfl, rfl, ⟨q1, q2⟩, q⟩ := q
  obtain ⟨t, rfl⟩ := rx
  obtain ⟨t', rfl⟩ := ry
  exact mul_int ⟨.int _, H2, I2.tok _, ⟨_, rfl⟩, q⟩ (.of_left (intBits_le_64 q1 q2))

/-! ### comparisons -/
def PC (X : Cx) (op : CmpOp) (a b : Expr) (t : TE) : Prop :=
  ∀ (pins : List (Addr × Obj)) (s : Shared) (σ : St) (H : Hp) (Q : VK), Inv X pins σ H s → t σ H Q →
    wpAny (model X.prog X.w) X.A (eval a X.env) (fun v s₁ => wpAny (model X.prog X.w) X.A (eval b X.env) (fun u s₂ => wpAny (model X.prog X.w) X.A (compareOp op v u) (EP X pins σ Q) X.xe s₂) X.xe s₁) X.xe s
theorem nobehind (b : Expr) {op : CmpOp} (h : op ≠ .In) (h2 : op ≠ .NotIn) : behindInMarks op b = false := by
  have e1 : (op == CmpOp.In) = false := by cases op <;> first | rfl | exact absurd rfl h
  have e2 : (op == CmpOp.NotIn) = false := by cases op <;> first | rfl | exact absurd rfl h2
  cases b <;> simp [behindInMarks, e1, e2]
def tCmp (p : Int → Int → Bool) (ta tb : TE) : TE := fun σ H Q => t2I ta tb (fun i j H2 => Q (.bl (p i j)) H2) σ H
abbrev tLt : TE → TE → TE := tCmp fun i j => decide (i < j)
abbrev tLe : TE → TE → TE := tCmp fun i j => decide (i ≤ j)
abbrev tGt : TE → TE → TE := tCmp fun i j => decide (j < i)
abbrev tGe : TE → TE → TE := tCmp fun i j => decide (j ≤ i)
abbrev tEqI : TE → TE → TE := tCmp fun i j => decide (i = j)
abbrev tNeI : TE → TE → TE := tCmp fun i j => !decide (i = j)
/-- a comparison of two ints, by its rule -/
theorem pc_int {op : CmpOp} {p : Int → Int → Bool} (ha : PE X a ta) (hb : PE X b tb)
    (rule : ∀ (i j : Int) (t u : Tok) (Q : Value → Shared → Prop) (s : Shared), Q (.bool (p i j)) s → wpAny (model X.prog X.w) X.A (compareOp op (.int i t) (.int j u)) Q X.xe s) : PC X op a b (tCmp p ta tb) := by
  intro pins s σ H Q I h
  refine bin ha hb I h fun v u s2 x y H2 I2 rx ry q => ?_
  obtain ⟨i, j, rfl, rfl, q⟩ := q
  obtain ⟨t, rfl⟩ := rx
  obtain ⟨t', rfl⟩ := ry
  exact rule i j t t' _ s2 ⟨.bl _, H2, I2, rfl, q⟩
theorem pc_lt (ha : PE X a ta) (hb : PE X b tb) : PC X .Lt a b (tLt ta tb) := pc_int ha hb fun _ _ _ _ _ _ h => lt_int h
theorem pc_le (ha : PE X a ta) (hb : PE X b tb) : PC X .LtE a b (tLe ta tb) := pc_int ha hb fun _ _ _ _ _ _ h => le_int h
theorem pc_gt (ha : PE X a ta) (hb : PE X b tb) : PC X .Gt a b (tGt ta tb) := pc_int ha hb fun _ _ _ _ _ _ h => gt_int h
theorem pc_ge (ha : PE X a ta) (hb : PE X b tb) : PC X .GtE a b (tGe ta tb) := pc_int ha hb fun _ _ _ _ _ _ h => ge_int h
theorem pc_eqI (ha : PE X a ta) (hb : PE X b tb) : PC X .Eq a b (tEqI ta tb) := pc_int ha hb fun _ _ _ _ _ _ h => eq_int (by rw [Bool.beq_eq_decide_eq]; exact h)
theorem pc_neI (ha : PE X a ta) (hb : PE X b tb) : PC X .NotEq a b (tNeI ta tb) := pc_int ha hb fun _ _ _ _ _ _ h => ne_int (by rw [bne, Bool.beq_eq_decide_eq]; exact h)
/-- is None -/
def tIsN (ta : TE) : TE := fun σ H Q => ta σ H fun x H1 => Q (.bl (decide (x = .non))) H1
def tNotN (ta : TE) : TE := fun σ H Q => ta σ H fun x H1 => Q (.bl (!decide (x = .non))) H1
theorem RelV.none_iff {x : V} {v : Value} (r : RelV x v) : (v == Value.none) = decide (x = .non) := by
  cases x with
  | non => cases r; rfl
  | bl _ => cases r; rfl
  | int _ => obtain ⟨t, rfl⟩ := r; rfl
  | str _ => obtain ⟨t, rfl⟩ := r; rfl
  | byt _ => obtain ⟨t, rfl⟩ := r; rfl
  | flt _ => obtain ⟨t, rfl⟩ := r; rfl
  | ref _ => cases r; rfl
  | ty _ => cases r; rfl
theorem pc_isN {j pos'} (ha : PE X a ta) : PC X .Is a (.Constant .none j pos') (tIsN ta) := by
  intro pins s σ H Q I h
  refine thn (ha pins s σ H _ I h) fun v s1 ⟨x, H1, I1, r1, q1⟩ => ?_
  exact Constant_none (is_none_gen ⟨.bl _, H1, I1, by rw [r1.none_iff]; rfl, q1⟩)
theorem pc_notN {j pos'} (ha : PE X a ta) : PC X .IsNot a (.Constant .none j pos') (tNotN ta) := by
  intro pins s σ H Q I h
  refine thn (ha pins s σ H _ I h) fun v s1 ⟨x, H1, I1, r1, q1⟩ => ?_
  exact Constant_none (isnot_none_gen ⟨.bl _, H1, I1, by rw [r1.none_iff]; rfl, q1⟩)
/-- a comparison as a value, as a test -/
def tB (t : TE) : TT := fun σ H Q => t σ H fun x H1 => ∃ c, x = .bl c ∧ Q c H1
theorem pe_cmp {op : CmpOp} {t : TE} (h : PC X op a b t) (h1 : behindInMarks op b = false := by first | exact nobehind _ (by decide) (by decide) | rfl) : PE X (.Compare a [op] [b] pos) t := fun pins s σ H Q I hw => wpAny_Compare1 (h pins s σ H Q I hw) h1
theorem pt_cmp {op : CmpOp} {t : TE} (h : PC X op a b t) (h1 : behindInMarks op b = false := by first | exact nobehind _ (by decide) (by decide) | rfl) : PT X (.Compare a [op] [b] pos) (tB t) := by
  intro pins s σ H Q I hw
  refine wpAny_isTrue_Compare1 (thn (h pins s σ H _ I hw) fun v s1 h1 => thn h1 fun u s2 h2 => thn h2 fun c s3 ⟨x, H1, I1, r1, q1⟩ => ?_) h1
  obtain ⟨d, rfl, q⟩ := q1
  cases r1
  exact wpAny_truthy_bool ⟨H1, I1, q⟩
/-- an expression whose value is a bool, as a test -/
theorem pt_val {e : Expr} {t : TE} (h : PE X e t) (he : ∀ whole, isTrue e X.env whole = (do let v ← whole; standAt e.pos; holding [v] (truthy v)) := by intro _; rfl) : PT X e (tB t) := by
  intro pins s σ H Q I hw
  refine isTrue_plain (thn (h pins s σ H _ I hw) fun v s1 ⟨x, H1, I1, r1, q1⟩ => ?_) (he _)
  obtain ⟨d, rfl, q⟩ := q1
  cases r1
  exact wpAny_truthy_bool ⟨H1, I1, q⟩

/-! ### and, or, not -/
variable {tA tB' : TT} {rest : List Expr}
def tAnd (t u : TT) : TT := fun σ H Q => t σ H fun c H1 => if c = true then u σ H1 Q else Q false H1
def tOr (t u : TT) : TT := fun σ H Q => t σ H fun c H1 => if c = true then Q true H1 else u σ H1 Q
def tNot (t : TT) : TT := fun σ H Q => t σ H fun c H1 => Q (!c) H1
theorem pw_and1 (ha : PT X a tA) : PW X (.BoolOp .And [a] pos) tA := by
  intro wh pins s σ H Q I h
  refine isTrue_and (thn (ha pins s σ H Q I h) fun c s1 e => ?_)
  cases c with
  | true => exact isTrue_and_nil e
  | false => exact e
theorem pw_or1 (ha : PT X a tA) : PW X (.BoolOp .Or [a] pos) tA := by
  intro wh pins s σ H Q I h
  refine isTrue_or (thn (ha pins s σ H Q I h) fun c s1 e => ?_)
  cases c with
  | false => exact isTrue_or_nil e
  | true => exact e
theorem pw_and (ha : PT X a tA) (hb : PW X (.BoolOp .And (b :: rest) pos) tB') : PW X (.BoolOp .And (a :: b :: rest) pos) (tAnd tA tB') := by
  intro wh pins s σ H Q I h
  refine isTrue_and (thn (ha pins s σ H _ I h) fun c s1 ⟨H1, I1, q1⟩ => ?_)
  cases c with
  | true => exact hb wh pins s1 σ H1 Q I1 q1
  | false => exact ⟨H1, I1, q1⟩
theorem pw_or (ha : PT X a tA) (hb : PW X (.BoolOp .Or (b :: rest) pos) tB') : PW X (.BoolOp .Or (a :: b :: rest) pos) (tOr tA tB') := by
  intro wh pins s σ H Q I h
  refine isTrue_or (thn (ha pins s σ H _ I h) fun c s1 ⟨H1, I1, q1⟩ => ?_)
  cases c with
  | true => exact ⟨H1, I1, q1⟩
  | false => exact hb wh pins s1 σ H1 Q I1 q1
theorem pt_not (ha : PT X a tA) : PT X (.UnaryOp .Not a pos) (tNot tA) := by
  intro pins s σ H Q I h
  exact isTrue_not (ha pins s σ H (fun c H1 => Q (!c) H1) I h)
/-- .. as values (bools) -/
def tAndV (ta tb : TE) : TE := fun σ H Q => ta σ H fun x H1 => ∃ c, x = .bl c ∧ if c = true then tb σ H1 Q else Q (.bl false) H1
def tOrV (ta tb : TE) : TE := fun σ H Q => ta σ H fun x H1 => ∃ c, x = .bl c ∧ if c = true then Q (.bl true) H1 else tb σ H1 Q
def tNotV (ta : TE) : TE := fun σ H Q => ta σ H fun x H1 => ∃ c, x = .bl c ∧ Q (.bl (!c)) H1
theorem pe_one {op} {t : TE} (h : PE X a t) : PE X (.BoolOp op [a] pos) t := fun pins s σ H Q I hw => BoolOp_one (h pins s σ H Q I hw)
theorem pe_and (ha : PE X a ta) (hb : PE X (.BoolOp .And (b :: rest) pos) tb) : PE X (.BoolOp .And (a :: b :: rest) pos) (tAndV ta tb) := by
  intro pins s σ H Q I h
  refine BoolOp_and (thn (ha pins s σ H _ I h) fun v s1 ⟨x, H1, I1, r1, q1⟩ => ?_)
  obtain ⟨c, rfl, q1⟩ := q1
  cases r1
  refine wpAny_truthy_bool ?_
  cases c with
  | true => exact hb pins s1 σ H1 Q I1 q1
  | false => exact ⟨.bl false, H1, I1, rfl, q1⟩
theorem pe_or (ha : PE X a ta) (hb : PE X (.BoolOp .Or (b :: rest) pos) tb) : PE X (.BoolOp .Or (a :: b :: rest) pos) (tOrV ta tb) := by
  intro pins s σ H Q I h
  refine BoolOp_or (thn (ha pins s σ H _ I h) fun v s1 ⟨x, H1, I1, r1, q1⟩ => ?_)
  obtain ⟨c, rfl, q1⟩ := q1
  cases r1
  refine wpAny_truthy_bool ?_
  cases c with
  | false => exact hb pins s1 σ H1 Q I1 q1
  | true => exact ⟨.bl true, H1, I1, rfl, q1⟩
theorem pe_not (ha : PE X a ta) : PE X (.UnaryOp .Not a pos) (tNotV ta) := by
  intro pins s σ H Q I h
  refine UnaryOp_ (thn (ha pins s σ H _ I h) fun v s1 ⟨x, H1, I1, r1, q1⟩ => ?_)
  obtain ⟨c, rfl, q1⟩ := q1
  cases r1
  exact not_of (wpAny_truthy_bool ⟨.bl (!c), H1, I1, rfl, q1⟩)
/-- a if t else b -/
def tIf (t : TT) (ta tb : TE) : TE := fun σ H Q => t σ H fun c H1 => if c = true then ta σ H1 Q else tb σ H1 Q
theorem pe_ifExp {c : Expr} (hc : PT X c tA) (ha : PE X a ta) (hb : PE X b tb) : PE X (.IfExp c a b pos) (tIf tA ta tb) := by
  intro pins s σ H Q I h
  refine wpAny_IfExp (thn (hc pins s σ H _ I h) fun d s1 ⟨H1, I1, q1⟩ => ?_)
  cases d with
  | true => exact ha pins s1 σ H1 Q I1 q1
  | false => exact hb pins s1 σ H1 Q I1 q1
end
end L2

namespace L2
open PySem PySem.Spec PyProof.Rows

/-! ### a list, a tuple that is read: tracked, frozen, or an object of the module -/
def SqL (K : PySem.W.Frag) (H : Hp) (a : Addr) (xs : List V) : Prop :=
  Rd H a (.lst xs) ∨
    ∃ (o : Obj) (its : Array Value) (n : Nat), K.lookup a = some o ∧ o.cls = .type "list" ∧ o.dict = none ∧ o.data = .seq its n ∧ its.size ≤ sizeLine ∧ Vals xs its.toList
def SqT (K : PySem.W.Frag) (H : Hp) (a : Addr) (xs : List V) : Prop :=
  Rd H a (.tup xs) ∨
    ∃ (o : Obj) (its : Array Value) (n : Nat), K.lookup a = some o ∧ o.cls = .type "tuple" ∧ o.data = .seq its n ∧ its.size ≤ sizeLine ∧ Vals xs its.toList
def absV : Value → Option V
  | .none => some .non
  | .bool b => some (.bl b)
  | .int i _ => some (.int i)
  | .str x _ => some (.str x)
  | .bytes b _ => some (.byt b)
  | .float b _ => some (.flt b)
  | .ref a => some (.ref a)
  | .type n => some (.ty n)
  | _ => none
theorem RelV.abs {x : V} {u : Value} (r : RelV x u) : absV u = some x := by
  cases x with
  | non => cases r; rfl
  | bl _ => cases r; rfl
  | int _ => obtain ⟨t, rfl⟩ := r; rfl
  | str _ => obtain ⟨t, rfl⟩ := r; rfl
  | byt _ => obtain ⟨t, rfl⟩ := r; rfl
  | flt _ => obtain ⟨t, rfl⟩ := r; rfl
  | ref _ => cases r; rfl
  | ty _ => cases r; rfl
theorem RelV.inj {x y : V} {u : Value} (r : RelV x u) (q : RelV y u) : x = y := Option.some.inj (r.abs.symm.trans q.abs)
theorem Vals.inj : ∀ {xs ys : List V} {us : List Value}, Vals xs us → Vals ys us → xs = ys
  | _, _, _, .nil, .nil => rfl
  | _, _, _, .cons r t, .cons r' t' => by rw [r.inj r', Vals.inj t t']
section
variable {X : Cx} {pins : List (Addr × Obj)} {σ : St} {H : Hp} {s : Shared} {a : Addr} {xs ys : List V}
theorem SqL.of {K : PySem.W.Frag} (h : H a = some (.lst xs)) : SqL K H a xs := .inl (.inl h)
theorem SqT.of {K : PySem.W.Frag} (h : H a = some (.tup xs)) : SqT K H a xs := .inl (.inl h)
theorem Inv.list (I : Inv X pins σ H s) (h : SqL X.K H a xs) : ∃ its : List Value, Vals xs its ∧ PlainL s.heap a its.toArray ∧ xs.length ≤ sizeLine := by
  rcases h with h | ⟨o, its, n, hk, hc, hd, hs, hz, r⟩
  · obtain ⟨z, its, n, r, e⟩ := h.ok I.hok
    exact ⟨its, r, ⟨_, n, e, rfl, rfl, rfl⟩, z⟩
  · refine ⟨its.toList, r, ⟨o, n, I.kIn a o hk, hc, hd, by simpa using hs⟩, ?_⟩
    have e := r.length
    simp only [Array.length_toList] at e
    omega
theorem Inv.tuple (I : Inv X pins σ H s) (h : SqT X.K H a xs) : ∃ its : List Value, Vals xs its ∧ IsTup s.heap a its.toArray ∧ xs.length ≤ sizeLine := by
  rcases h with h | ⟨o, its, n, hk, hc, hs, hz, r⟩
  · obtain ⟨z, its, r, p⟩ := h.ok I.hok
    exact ⟨its, r, p, z⟩
  · refine ⟨its.toList, r, ⟨o, I.kIn a o hk, hc, n, by simpa using hs⟩, ?_⟩
    have e := r.length
    simp only [Array.length_toList] at e
    omega
theorem Inv.list_inj (I : Inv X pins σ H s) (h : SqL X.K H a xs) (h' : SqL X.K H a ys) : xs = ys := by
  obtain ⟨its, r, ⟨o, n, e, _, _, d⟩, _⟩ := I.list h
  obtain ⟨its', r', ⟨o', n', e', _, _, d'⟩, _⟩ := I.list h'
  rw [e] at e'; cases e'
  rw [d] at d'
  injection d' with d1 _
  have : its = its' := by simpa using congrArg Array.toList d1
  subst this
  exact r.inj r'
theorem Inv.tuple_inj (I : Inv X pins σ H s) (h : SqT X.K H a xs) (h' : SqT X.K H a ys) : xs = ys := by
  obtain ⟨its, r, ⟨o, e, _, n, d⟩, _⟩ := I.tuple h
  obtain ⟨its', r', ⟨o', e', _, n', d'⟩, _⟩ := I.tuple h'
  rw [e] at e'; cases e'
  rw [d] at d'
  injection d' with d1 _
  have : its = its' := by simpa using congrArg Array.toList d1
  subst this
  exact r.inj r'
end

/-! ### another wish about exceptions -/
abbrev Cx.wish (X : Cx) (E : Value → Shared → Prop) : Cx := { X with xe := E }
/-- no exception leaves -/
abbrev Cx.nox (X : Cx) : Cx := X.wish fun _ _ => False
theorem Cx.Ok.wish {X : Cx} (ok : X.Ok) (E : Value → Shared → Prop) : (X.wish E).Ok :=
  ⟨ok.mod, ok.kind, ok.glob, ok.blt, ok.above, ok.inj, ok.has, ok.cab, ok.hd, ok.frames, ok.stk, ok.exf, ok.bs, ok.bsz, ok.noex, ok.exfs, ok.funs, ok.frf⟩
theorem Cx.Ok.unwish {X : Cx} {E : Value → Shared → Prop} (ok : (X.wish E).Ok) : X.Ok :=
  ⟨ok.mod, ok.kind, ok.glob, ok.blt, ok.above, ok.inj, ok.has, ok.cab, ok.hd, ok.frames, ok.stk, ok.exf, ok.bs, ok.bsz, ok.noex, ok.exfs, ok.funs, ok.frf⟩
section
variable {X : Cx} {pins : List (Addr × Obj)} {σ : St} {H : Hp} {s : Shared} {E : Value → Shared → Prop}
theorem Inv.wish (I : Inv X pins σ H s) (E : Value → Shared → Prop) : Inv (X.wish E) pins σ H s := ⟨I.ok.wish E, I.os, I.bare, I.base, I.loc, I.cell, I.free, I.freeC, I.pin, I.hok, I.len⟩
theorem Inv.unwish (I : Inv (X.wish E) pins σ H s) : Inv X pins σ H s := ⟨I.ok.unwish, I.os, I.bare, I.base, I.loc, I.cell, I.free, I.freeC, I.pin, I.hok, I.len⟩
theorem SP.unwish {D : Ends} {f : Flow} {s' : Shared} (h : SP (X.wish E) pins D f s') : SP X pins D f s' := by
  cases f with
  | next => obtain ⟨σ', H', I, q⟩ := h; exact ⟨σ', H', I.unwish, q⟩
  | brk => obtain ⟨σ', H', I, q⟩ := h; exact ⟨σ', H', I.unwish, q⟩
  | cont => obtain ⟨σ', H', I, q⟩ := h; exact ⟨σ', H', I.unwish, q⟩
  | ret u => obtain ⟨v, σ', H', I, r, q⟩ := h; exact ⟨v, σ', H', I.unwish, r, q⟩
theorem PE.nox {e : Expr} {t : TE} (h : PE X.nox e t) : PE X e t := fun pins s σ H Q I hw =>
  wpAny_mono (h pins s σ H Q (I.wish _) hw) (fun _ _ ⟨v, H', I', r, q⟩ => ⟨v, H', I'.unwish, r, q⟩) fun _ _ z => False.elim z
theorem PT.nox {e : Expr} {t : TT} (h : PT X.nox e t) : PT X e t := fun pins s σ H Q I hw =>
  wpAny_mono (h pins s σ H Q (I.wish _) hw) (fun _ _ ⟨H', I', q⟩ => ⟨H', I'.unwish, q⟩) fun _ _ z => False.elim z
theorem PSs.nox {st : List Stmt} {t : TS} (h : PSs X.nox st t) : PSs X st t := fun pins s σ H D I hw =>
  wpAny_mono (h pins s σ H D (I.wish _) hw) (fun _ _ q => q.unwish) fun _ _ z => False.elim z
end

/-! ### blocks and small statements -/
section
variable {X : Cx} {st : Stmt} {rest : List Stmt} {t u : TS} {e : Expr} {te : TE} {pos : Pos}
def tNext : TS := fun D σ H => D.nx σ H
def tSeq (t u : TS) : TS := fun D σ H => t { D with nx := u D } σ H
theorem pss_nil : PSs X [] tNext := fun _ _ σ H _ I h => wpAny_execs_nil ⟨σ, H, I, h⟩
theorem pss_cons (h1 : PS X st t) (h2 : PSs X rest u) : PSs X (st :: rest) (tSeq t u) := by
  intro pins s σ H D I h
  refine wpAny_execs_cons (thn (h1 pins s σ H { D with nx := u D } I h) fun f s1 q => ?_)
  cases f with
  | next =>
    obtain ⟨σ', H', I', q⟩ := q
    exact h2 pins s1 σ' H' D I' q
  | ret v => exact q
  | brk => exact q
  | cont => exact q
theorem pss_one (h1 : PS X st t) : PSs X [st] t := by
  intro pins s σ H D I h
  refine wpAny_execs_cons (thn (h1 pins s σ H D I h) fun f s1 q => ?_)
  cases f with
  | next => exact wpAny_execs_nil q
  | ret v => exact q
  | brk => exact q
  | cont => exact q
def tBreak : TS := fun D σ H => D.bk σ H
def tCont : TS := fun D σ H => D.ct σ H
theorem ps_pass : PS X (.Pass pos) tNext := fun _ _ σ H _ I h => wpAny_Pass ⟨σ, H, I, h⟩
theorem ps_break : PS X (.Break pos) tBreak := fun _ _ σ H _ I h => wpAny_Break ⟨σ, H, I, h⟩
theorem ps_continue : PS X (.Continue pos) tCont := fun _ _ σ H _ I h => wpAny_Continue ⟨σ, H, I, h⟩
/-- in a def's body nothing is shown -/
theorem Inv.quiet {pins : List (Addr × Obj)} {σ : St} {H : Hp} {s : Shared} (I : Inv X pins σ H s) : interactive X.env = false := by simp [interactive, I.ok.kind]
/-- a docstring -/
theorem ps_doc {x j pos pos'} : PS X (.Expr (.Constant (.str x) j pos) pos') tNext := fun _ s σ H _ I h => wpAny_Expr (Calls.Constant_str (show SP X _ _ .next { s with toks := s.toks + 1 } from ⟨σ, H, I.tok _, h⟩)) I.quiet
/-- an expression whose value is dropped -/
def tDrop (te : TE) : TS := fun D σ H => te σ H fun _ H1 => D.nx σ H1
theorem ps_expr (he : PE X e te) (hs : swapsWith e none pos.line X.env = pure false := by rfl) : PS X (.Expr e pos) (tDrop te) := by
  intro pins s σ H D I h
  exact wpAny_Expr_any (thn (he pins s σ H _ I h) fun v s1 ⟨x, H1, I1, r1, q1⟩ => ⟨σ, H1, I1, q1⟩) I.quiet hs
def tRet (te : TE) : TS := fun D σ H => te σ H D.rt
theorem ps_ret (he : PE X e te) : PS X (.Return (some e) pos) (tRet te) := by
  intro pins s σ H D I h
  exact wpAny_Return_some (thn (he pins s σ H _ I h) fun v s1 ⟨x, H1, I1, r1, q1⟩ => ⟨x, σ, H1, I1, r1, q1⟩)
def tRetN : TS := fun D _ H => D.rt .non H
theorem ps_retN : PS X (.Return none pos) tRetN := fun _ _ σ H _ I h => wpAny_Return_none ⟨.non, σ, H, I, rfl, h⟩
def tIfS (c : TT) (t u : TS) : TS := fun D σ H => c σ H fun b H1 => if b = true then t D σ H1 else u D σ H1
theorem ps_if {c : Expr} {a b : List Stmt} {tc : TT} (hc : PT X c tc) (ha : PSs X a t) (hb : PSs X b u) : PS X (.If c a b pos) (tIfS tc t u) := by
  intro pins s σ H D I h
  refine wpAny_If (thn (hc pins s σ H _ I h) fun d s1 ⟨H1, I1, q1⟩ => ?_)
  cases d with
  | true => exact ha pins s1 σ H1 D I1 q1
  | false => exact hb pins s1 σ H1 D I1 q1
/-- code that the proof never comes to -/
def tNever : TS := fun _ _ _ => False
theorem ps_never : PS X st tNever := fun _ _ _ _ _ _ h => h.elim
theorem pss_never {sts : List Stmt} : PSs X sts tNever := fun _ _ _ _ _ _ h => h.elim
end

/-! ### targets -/
abbrev TG := V → St → Hp → (St → Hp → Prop) → Prop
abbrev TGs := List V → St → Hp → (St → Hp → Prop) → Prop
def PG (X : Cx) (target : Expr) (t : TG) : Prop :=
  ∀ (pins : List (Addr × Obj)) (s : Shared) (σ : St) (H : Hp) (v : V) (u : Value) (Q : St → Hp → Prop), Inv X pins σ H s → RelV v u → t v σ H Q →
    wpAny (model X.prog X.w) X.A (assign target X.env u) (fun _ s' => ∃ σ' H', Inv X pins σ' H' s' ∧ Q σ' H') X.xe s
/-- several targets, one after another -/
def PGs (X : Cx) (ts : List Expr) (t : TGs) : Prop :=
  ∀ (pins : List (Addr × Obj)) (s : Shared) (σ : St) (H : Hp) (vs : List V) (us : List Value) (Q : St → Hp → Prop), Inv X pins σ H s → Vals vs us → t vs σ H Q →
    wpAny (model X.prog X.w) X.A (assignInOrder ((assignEach ts X.env).map (·.2)) us) (fun _ s' => ∃ σ' H', Inv X pins σ' H' s' ∧ Q σ' H') X.xe s
/-- o[i] = v, by values -/
abbrev TSet := V → V → V → Hp → (Hp → Prop) → Prop
def PSet (X : Cx) (t : TSet) : Prop :=
  ∀ (pins : List (Addr × Obj)) (s : Shared) (σ : St) (H : Hp) (o i v : V) (ov iv u : Value) (Q : Hp → Prop), Inv X pins σ H s → RelV o ov → RelV i iv → RelV v u → t o i v H Q →
    wpAny (model X.prog X.w) X.A (setItem ov iv u) (fun _ s' => ∃ H', Inv X pins σ H' s' ∧ Q H') X.xe s
/-- a op= b, by values -/
abbrev TIp := V → V → Hp → VK → Prop
def PIp (X : Cx) (op : Operator) (t : TIp) : Prop :=
  ∀ (pins : List (Addr × Obj)) (s : Shared) (σ : St) (H : Hp) (x y : V) (v u : Value) (Q : VK), Inv X pins σ H s → RelV x v → RelV y u → t x y H Q →
    wpAny (model X.prog X.w) X.A (inplaceOp op v u) (EP X pins σ Q) X.xe s
section
variable {X : Cx} {pos : Pos}
def gName (i : Nat) : TG := fun v σ H Q => Q (σ.set i (some v)) H
theorem pg_name {i : Nat} {x : Str} (hN : X.N.Nodup) (hi : X.N[i]? = some x) (hx : Loc X.env.scope x) (hf : X.fn x = true ∨ X.env.scope.names.lookup x = some .local := by first | exact .inl rfl | exact .inr rfl | assumption) : PG X (.Name x pos) (gName i) := by
  intro pins s σ H v u Q I r h
  exact wpAny_assign_Name (store_ok I hN hi hx r (fun s' I' => ⟨_, H, I', h⟩) hf)
def gNil : TGs := fun vs σ H Q => vs = [] ∧ Q σ H
def gCons (t : TG) (u : TGs) : TGs := fun vs σ H Q => ∃ v r, vs = v :: r ∧ t v σ H fun σ' H' => u r σ' H' Q
theorem pgs_nil : PGs X [] gNil := by
  intro pins s σ H vs us Q I r h
  obtain ⟨e, h⟩ := h
  subst e
  cases r
  exact assignInOrder_nil ⟨σ, H, I, h⟩
theorem pgs_cons {e : Expr} {es : List Expr} {t : TG} {u : TGs} (h1 : PG X e t) (h2 : PGs X es u)
    (hs : (assignEach (e :: es) X.env).map (·.2) = assign e X.env :: (assignEach es X.env).map (·.2) := by rfl) : PGs X (e :: es) (gCons t u) := by
  intro pins s σ H vs us Q I r h
  obtain ⟨v, vr, e1, h⟩ := h
  subst e1
  cases r with
  | cons r rr =>
    rw [hs]
    refine assignInOrder_cons (thn (h1 pins s σ H _ _ _ I r h) fun _ s1 ⟨σ1, H1, I1, q1⟩ => ?_)
    exact h2 pins s1 σ1 H1 _ _ Q I1 rr q1
/-- (a, b, ..) = a tuple of that length -/
def gTup (K : PySem.W.Frag) (n : Nat) (t : TGs) : TG := fun v σ H Q => ∃ a xs, v = .ref a ∧ SqT K H a xs ∧ xs.length = n ∧ t xs σ H Q
theorem pg_tup {es : List Expr} {k : Nat} {t : TGs} {n : Nat} (hc : X.calm = true) (h : PGs X es t)
    (hn : (assignEach es X.env).length = n := by rfl) (hst : (assignEach es X.env).findIdx? (·.1) = none := by rfl) : PG X (.Tuple es k pos) (gTup X.K n t) := by
  intro pins s σ H v u Q I r hw
  obtain ⟨a, xs, e1, hq, hl, hw⟩ := hw
  subst e1
  cases r
  obtain ⟨its, rv, ht, hz⟩ := I.tuple hq
  refine assign_Tuple_tuple (I.ok.hd hc) ht (by simp [hn, ← hl, rv.length]) hst fun h' hx => ?_
  have I1 : Inv X pins σ H { s with heap := h' } := I.kept (t' := s.toks) fun b o e => hx b o (Nat.ne_of_lt (Heap.lt_size e)) e
  exact h pins _ σ H xs _ Q I1 (by simpa using rv) hw
/-- o[i] = .. -/
def gSub (to ti : TE) (t : TSet) : TG := fun v σ H Q => to σ H fun o H1 => ti σ H1 fun i H2 => t o i v H2 fun H3 => Q σ H3
theorem pg_sub {o i : Expr} {to ti : TE} {t : TSet} (ho : PE X o to) (hi : PE X i ti) (hs : PSet X t)
    (ha : ∀ v, assign (.Subscript o i pos) X.env v = (do
      let ov ← holding [v] (eval o X.env)
      let iv ← holding [v, ov] (eval i X.env)
      standAt pos
      holding [v, ov, iv] (setItem ov iv v)
      release [v, ov, iv] []) := by intro _; rfl) : PG X (.Subscript o i pos) (gSub to ti t) := by
  intro pins s σ H v u Q I r h
  rw [ha]
  refine wpAny_bind (wpAny_holding (thn (ho pins s σ H _ I h) fun ov s1 ⟨x, H1, I1, r1, q1⟩ => ?_))
  refine wpAny_bind (wpAny_holding (thn (hi pins s1 σ H1 _ I1 q1) fun iv s2 ⟨y, H2, I2, r2, q2⟩ => ?_))
  refine wpAny_bind (wpAny_standAt (wpAny_bind (wpAny_holding (thn (hs pins s2 σ H2 x y v ov iv u _ I2 r1 r2 r q2) fun _ s3 ⟨H3, I3, q3⟩ => ?_))))
  exact wpAny_release ⟨σ, H3, I3, q3⟩
/-- target = value -/
def tAsg (te : TE) (g : TG) : TS := fun D σ H => te σ H fun x H1 => g x σ H1 D.nx
theorem ps_asg {tg e : Expr} {te : TE} {g : TG} (he : PE X e te) (hg : PG X tg g) (hs : swapsWithSole [tg] e pos.line X.env = pure false := by rfl) (hw : swappedStores [tg] e X.env = pure none := by rfl)
    (h1 : (assignEach [tg] X.env).map (·.2) = [assign tg X.env] := by rfl) : PS X (.Assign [tg] e pos) (tAsg te g) := by
  intro pins s σ H D I h
  refine wpAny_Assign_stores (thn (he pins s σ H _ I h) fun v s1 ⟨x, H1, I1, r1, q1⟩ => ?_) hs hw
  rw [h1]
  exact thn (hg pins s1 σ H1 x v _ I1 r1 q1) fun _ s2 q => q
/-- name = value -/
theorem ps_set {i : Nat} {x : Str} {e : Expr} {te : TE} {pos' : Pos} (hN : X.N.Nodup) (hi : X.N[i]? = some x) (hx : Loc X.env.scope x) (he : PE X e te) (hs : swapsWith e (some (.Name x pos')) pos.line X.env = pure false := by rfl) (hf : X.fn x = true ∨ X.env.scope.names.lookup x = some .local := by first | exact .inl rfl | exact .inr rfl | assumption) :
    PS X (.Assign [.Name x pos'] e pos) (tAsg te (gName i)) := by
  intro pins s σ H D I h
  refine wpAny_Assign_Name (thn (he pins s σ H _ I h) fun v s1 ⟨y, H1, I1, r1, q1⟩ => ?_) hs
  exact store_ok I1 hN hi hx r1 (fun s2 I2 => ⟨_, H1, I2, q1⟩) hf
/-- a, b = x, y with plain local names: stored from the right; the pair itself is not tracked (the opening rows as in PyProof/Rows/TupAssign.lean:23) -/
def tPar (i j : Nat) (ta : TA) : TS := fun D σ H => ta σ H fun vs H1 => ∃ v w, vs = [v, w] ∧ D.nx ((σ.set i (some v)).set j (some w)) H1
theorem ps_par {i j : Nat} {x y : Str} {a b : Expr} {ta : TA} {px py pt : Pos} {kt k2 pt2} (hc : X.calm = true) (hN : X.N.Nodup) (hi : X.N[i]? = some x) (hj : X.N[j]? = some y) (hij : i ≠ j)
    (hx : X.env.scope.names.lookup x = some .local) (hy : X.env.scope.names.lookup y = some .local) (ha : PA X [a, b] ta)
    (hw : swappedStores [.Tuple [.Name x px, .Name y py] kt pt] (.Tuple [a, b] k2 pt2) X.env = pure (some [x, y]))
    (hs : swapsWithSole [.Tuple [.Name x px, .Name y py] kt pt] (.Tuple [a, b] k2 pt2) pos.line X.env = pure false := by rfl) :
    PS X (.Assign [.Tuple [.Name x px, .Name y py] kt pt] (.Tuple [a, b] k2 pt2) pos) (tPar i j ta) := by
  intro pins s σ H D I h
  rw [exec_Assign_arm]
  refine wpAny_bind (wpAny_standAt ?_)
  rw [hs]
  refine wpAny_bind (wpAny_pure ?_)
  rw [if_neg (by decide)]
  refine wpAny_bind (Tuple_ (thn (ha _ pins s σ H _ I h) fun us s1 ⟨vs, H1, I1, r1, q1⟩ => ?_))
  obtain ⟨v, w, e1, q1⟩ := q1
  subst e1
  obtain ⟨u1, u2, rfl, rv, rw'⟩ : ∃ u1 u2, us = [u1, u2] ∧ RelV v u1 ∧ RelV w u2 := by
    cases r1 with
    | cons p q =>
      cases q with
      | cons p' q' =>
        cases q'
        exact ⟨_, _, rfl, p, p'⟩
  refine wpAny_newObj_type ?_ (by show 2 ≤ sizeLine; decide)
  have I2 : Inv X pins σ H1 { s1 with heap := s1.heap.push { cls := .type "tuple", data := .seq [u1, u2].toArray } } := I1.kept (t' := s1.toks) fun b o e => Heap.get?_push_of_some _ e
  rw [hw]
  refine wpAny_bind (wpAny_pure ?_)
  show wpAny (model X.prog X.w) X.A (do rule "assign.swapped-stores"; let items ← unpackItems (.ref s1.heap.objs.size) 2 none; assignInOrder [fun v => bindName X.env y v, fun v => bindName X.env x v] items.reverse; pure Flow.next) _ _ _
  refine wpAny_bind (wpAny_rule (wpAny_bind (unpackItems_tuple (items := #[u1, u2]) (I.ok.hd hc) (IsTup.new s1.heap _) fun h' hx' => ?_)))
  have I3 := I2.kept (h' := h') (t' := s1.toks) fun b o e => hx' b o (Nat.ne_of_lt (Heap.lt_size e)) e
  show wpAny _ _ (assignInOrder [fun v => bindName X.env y v, fun v => bindName X.env x v] [u2, u1] >>= fun _ => pure Flow.next) _ _ _
  refine wpAny_bind (assignInOrder_cons (wpAny_bindName (store_ok I3 hN hj (.inl hy) rw' (fun s2 I4 => ?_) (.inr hy))))
  refine assignInOrder_cons (wpAny_bindName (store_ok I4 hN hi (.inl hx) rv (fun s3 I5 => assignInOrder_nil (wpAny_pure ?_)) (.inr hx)))
  rw [List.set_comm _ _ (Ne.symm hij)] at I5
  exact ⟨_, H1, I5, q1⟩
/-- name op= e -/
def tAug (i : Nat) (te : TE) (ti : TIp) : TS := fun D σ H => ∃ x, σ[i]? = some (some x) ∧ te σ H fun y H1 => ti x y H1 fun z H2 => D.nx (σ.set i (some z)) H2
theorem ps_aug {i : Nat} {x : Str} {e : Expr} {te : TE} {op : Operator} {ti : TIp} {pos' : Pos} (hN : X.N.Nodup) (hi : X.N[i]? = some x) (hx : Loc X.env.scope x) (he : PE X e te) (ho : PIp X op ti) (hf : X.fn x = true ∨ X.env.scope.names.lookup x = some .local := by first | exact .inl rfl | exact .inr rfl | assumption) :
    PS X (.AugAssign (.Name x pos') op e pos) (tAug i te ti) := by
  intro pins s σ H D I h
  obtain ⟨v, e1, h⟩ := h
  obtain ⟨m, hn, hl⟩ := I.loc
  have vis : Vis X.env.scope x := by rcases hx with k | k; exact .inl k; exact .inr (.inl k)
  obtain ⟨u, r, l⟩ := hl i x v hi e1 vis
  refine wpAny_AugAssign_Name ?_
  have go : wpAny (model X.prog X.w) X.A (eval e X.env) (fun w s₂ => wpAny (model X.prog X.w) X.A (inplaceOp op u w) (fun r s₃ => wpAny (model X.prog X.w) X.A (storeName X.env x r) (fun _ => SP X pins D .next) X.xe s₃) X.xe s₂) X.xe s := by
    refine thn (he pins s σ H _ I h) fun w s1 ⟨y, H1, I1, r1, q1⟩ => ?_
    refine thn (ho pins s1 σ H1 v y u w _ I1 r r1 q1) fun z s2 ⟨zv, H2, I2, r2, q2⟩ => ?_
    exact store_ok I2 hN hi hx r2 (fun s3 I3 => ⟨_, H2, I3, q2⟩) hf
  rcases l with ⟨hk, hm⟩ | ⟨hk, c, hc, hcell⟩
  · exact wpAny_loadName_local I.ok.kind hk hn hm go
  · rcases hk with hk | hk
    · exact wpAny_loadName_cell I.ok.kind hk hc hcell go
    · rcases hx with k | k
      · have : X.env.scope.names.lookup x = some .free := hk
        rw [k] at this; cases this
      · have : X.env.scope.names.lookup x = some .free := hk
        rw [k] at this; cases this
/-- o[i] op= e -/
def tAugS (to ti te : TE) (tget : V → V → Hp → VK → Prop) (tip : TIp) (tset : TSet) : TS := fun D σ H => to σ H fun o H1 => ti σ H1 fun i H2 => tget o i H2 fun x H3 => te σ H3 fun y H4 => tip x y H4 fun z H5 => tset o i z H5 fun H6 => D.nx σ H6
/-- o[i], by values -/
def PGet (X : Cx) (t : V → V → Hp → VK → Prop) : Prop :=
  ∀ (pins : List (Addr × Obj)) (s : Shared) (σ : St) (H : Hp) (o i : V) (ov iv : Value) (Q : VK), Inv X pins σ H s → RelV o ov → RelV i iv → t o i H Q →
    wpAny (model X.prog X.w) X.A (getItem ov iv) (EP X pins σ Q) X.xe s
theorem ps_augS {o i e : Expr} {to ti te : TE} {tget : V → V → Hp → VK → Prop} {tip : TIp} {tset : TSet} {op : Operator} {tpos : Pos} (ho : PE X o to) (hi : PE X i ti) (hg : PGet X tget) (he : PE X e te) (hp : PIp X op tip) (hs : PSet X tset)
    (ha : ∀ ov iv new, augStore i ov iv new = (do holding [new, ov, iv] (setItem ov iv new); release [new, ov, iv] []; pure .next) := by intros; rfl) : PS X (.AugAssign (.Subscript o i tpos) op e pos) (tAugS to ti te tget tip tset) := by
  intro pins s σ H D I h
  refine wpAny_AugAssign_SubscriptAny (thn (ho pins s σ H _ I h) fun ov s1 ⟨x1, H1, I1, r1, q1⟩ => ?_) ha
  refine thn (hi pins s1 σ H1 _ I1 q1) fun iv s2 ⟨x2, H2, I2, r2, q2⟩ => ?_
  refine thn (hg pins s2 σ H2 x1 x2 ov iv _ I2 r1 r2 q2) fun old s3 ⟨x3, H3, I3, r3, q3⟩ => ?_
  refine thn (he pins s3 σ H3 _ I3 q3) fun v s4 ⟨x4, H4, I4, r4, q4⟩ => ?_
  refine thn (hp pins s4 σ H4 x3 x4 old v _ I4 r3 r4 q4) fun new s5 ⟨x5, H5, I5, r5, q5⟩ => ?_
  exact thn (hs pins s5 σ H5 x1 x2 x5 ov iv new _ I5 r1 r2 r5 q5) fun _ s6 ⟨H6, I6, q6⟩ => ⟨σ, H6, I6, q6⟩
/-- ints -/
def ipI (f : Int → Int → Int) : TIp := fun x y H Q => ∃ i j, x = .int i ∧ y = .int j ∧ Q (.int (f i j)) H
theorem ip_add : PIp X .Add (ipI fun i j => i + j) := by
  intro pins s σ H x y v u Q I r1 r2 h
  obtain ⟨i, j, e1, e2, q⟩ := h
  subst e1; subst e2
  obtain ⟨t, rfl⟩ := r1
  obtain ⟨t', rfl⟩ := r2
  exact iadd_int ⟨.int _, H, I.tok _, ⟨_, rfl⟩, q⟩
theorem ip_sub : PIp X .Sub (ipI fun i j => i - j) := by
  intro pins s σ H x y v u Q I r1 r2 h
  obtain ⟨i, j, e1, e2, q⟩ := h
  subst e1; subst e2
  obtain ⟨t, rfl⟩ := r1
  obtain ⟨t', rfl⟩ := r2
  exact isub_int ⟨.int _, H, I.tok _, ⟨_, rfl⟩, q⟩
end

/-! ### while -/
section
variable {X : Cx} {pos : Pos}
/-- the invariant W with its measure -/
def tWhile (c : TT) (tb : TS) : TS := fun D σ H => ∃ W : Nat → St → Hp → Prop, (∃ m, W m σ H) ∧ ∀ m σ H, W m σ H →
  c σ H fun b H1 => if b = true then ∃ N : St → Hp → Prop, (∀ σ' H', N σ' H' → ∃ m', m' < m ∧ W m' σ' H') ∧ tb { D with nx := N, ct := N, bk := D.nx } σ H1 else D.nx σ H1
theorem ps_while {c : Expr} {body : List Stmt} {tc : TT} {tb : TS} (hp : PassesOwn (model X.prog X.w) X.A X.env X.xe) (hc : PT X c tc) (hb : PSs X body tb) : PS X (.While c body [] pos) (tWhile tc tb) := by
  intro pins s σ H D I h
  obtain ⟨W, ⟨m0, w0⟩, turn⟩ := h
  refine wpAny_While (codeAny_whileLoop (fun n s' => ∃ σ' H', Inv X pins σ' H' s' ∧ W n σ' H') ?_ m0 ⟨σ, H, I, w0⟩)
  rintro n s1 ⟨σ1, H1, I1, w1⟩
  refine wpAny_passesOwn hp (thn (hc pins s1 σ1 H1 _ I1 (turn n σ1 H1 w1)) fun b s2 ⟨H2, I2, q2⟩ => ?_)
  cases b with
  | true =>
    obtain ⟨N, hN, q2⟩ := q2
    rw [if_pos rfl]
    refine wpAny_passesOwn hp (thn (hb pins s2 σ1 H2 _ I2 q2) fun f s3 q3 => ?_)
    cases f with
    | next =>
      obtain ⟨σ3, H3, I3, n3⟩ := q3
      obtain ⟨m', hm, w3⟩ := hN σ3 H3 n3
      exact ⟨m', hm, σ3, H3, I3, w3⟩
    | cont =>
      obtain ⟨σ3, H3, I3, n3⟩ := q3
      obtain ⟨m', hm, w3⟩ := hN σ3 H3 n3
      exact ⟨m', hm, σ3, H3, I3, w3⟩
    | brk => exact q3
    | ret v => exact q3
  | false =>
    rw [if_neg Bool.false_ne_true]
    exact wpAny_execs_nil ⟨σ1, H2, I2, q2⟩
end

/-! ### what a loop or a comprehension walks -/
/-- at turn i: it yields x (the heap may grow), or it stops -/
structure It where
  go : Nat → Hp → Prop
  yld : Nat → Hp → V → Hp → Prop
  stop : Nat → Hp → Prop
/-- the iterator's own objects may turn: they are not the frame's, not pinned, younger than the entry (or a comprehension's own) -/
def FpOk (X : Cx) (pins : List (Addr × Obj)) (H : Hp) (b : Addr) : Prop :=
  H b = none ∧ b ≠ X.env.locals ∧ b ∉ X.fs ∧ (b ∈ X.ex ∨ X.s₀.heap.objs.size ≤ b) ∧ (∀ x c, X.env.cells.lookup x = some c → c ≠ b) ∧ ∀ p ∈ X.pn ++ pins, p.1 ≠ b
theorem Inv.fpOk {X : Cx} {pins : List (Addr × Obj)} {σ : St} {H H' : Hp} {s : Shared} {b : Addr} (I : Inv X pins σ H s) (hb : s.heap.objs.size ≤ b) (hn : H' b = none) : FpOk X pins H' b := by
  refine ⟨hn, Nat.ne_of_gt (Nat.lt_of_lt_of_le I.lt hb), I.nofs hb, .inr (Nat.le_trans I.sz hb), fun x c e z => ?_, fun p hp z => ?_⟩
  · obtain ⟨v, q⟩ := I.cell x c e
    exact absurd (Nat.lt_of_lt_of_le q.lt (by rw [z]; exact hb)) (Nat.lt_irrefl _)
  · exact absurd (Nat.lt_of_lt_of_le (Heap.lt_size (I.pin p hp).1) (by rw [z]; exact hb)) (Nat.lt_irrefl _)
structure Turn (P : Program) (w : World) (K : PySem.W.Frag) (tg : Expr) (J : It) (fp : List Addr) (it : Addr) (tn : Nat → Heap → Prop) : Prop where
  mem : it ∈ fp
  obj : ∀ i h, tn i h → ∀ b ∈ fp, ∃ o, h.get? b = some o ∧ ∀ v, o.data ≠ .cell v
  keep : ∀ i h h', tn i h → (∀ b ∈ fp, ∀ o, h.get? b = some o → h'.get? b = some o) → tn i h'
  item : ∀ (X : Cx), X.prog = P → X.w = w → X.K = K → X.calm = true → ∀ (i : Nat) (pins : List (Addr × Obj)) (s : Shared) (σ : St) (H : Hp) (E : Value → Shared → Prop), Inv X pins σ H s → (∀ b ∈ fp, FpOk X pins H b) → tn i s.heap → J.go i H →
    wpAny (model P w) X.A (pyNext (.ref it)) (fun r s1 => ∃ u, r = some u ∧
      wpAny (model P w) X.A (letOwnedTupleGo tg (.ref it) u) (fun _ s2 => ∃ x H', Inv X pins σ H' s2 ∧ RelV x u ∧ J.yld i H x H' ∧ tn (i + 1) s2.heap ∧ ∀ b ∈ fp, H' b = none) E s1) E s
  done : ∀ (X : Cx), X.prog = P → X.w = w → X.K = K → X.calm = true → ∀ (i : Nat) (pins : List (Addr × Obj)) (s : Shared) (σ : St) (H : Hp) (E : Value → Shared → Prop), Inv X pins σ H s → (∀ b ∈ fp, FpOk X pins H b) → tn i s.heap → J.stop i H →
    wpAny (model P w) X.A (pyNext (.ref it)) (fun r s1 => r = none ∧ Inv X pins σ H s1) E s
  self : ∀ (A : Around) (i : Nat) (s : Shared) (Q : Value → Shared → Prop) (E : Value → Shared → Prop), tn i s.heap → Q (.ref it) s → wpAny (model P w) A (pyIter (.ref it)) Q E s
abbrev TI := St → Hp → (It → Hp → Prop) → Prop
/-- an iterator has come -/
def PIE (X : Cx) (pins : List (Addr × Obj)) (σ : St) (tg : Expr) (R : It → Hp → Prop) (itv : Value) (s2 : Shared) : Prop :=
  ∃ (it : Addr) (fp : List Addr) (tn : Nat → Heap → Prop) (J : It) (H' : Hp), itv = .ref it ∧ Inv X pins σ H' s2 ∧ Turn X.prog X.w X.K tg J fp it tn ∧ tn 0 s2.heap ∧ (∀ b ∈ fp, FpOk X pins H' b) ∧ R J H'
def PI (X : Cx) (tg iter : Expr) (wi : TI) : Prop :=
  ∀ (pins : List (Addr × Obj)) (s : Shared) (σ : St) (H : Hp) (R : It → Hp → Prop), Inv X pins σ H s → wi σ H R →
    wpAny (model X.prog X.w) X.A (eval iter X.env) (fun v s1 => wpAny (model X.prog X.w) X.A (pyIter v) (PIE X pins σ tg R) X.xe s1) X.xe s

/-- the step ahead of the store is nothing for an iterator that keeps no tuple -/
theorem go_of {M : Model} {A : Around} {E : Value → Shared → Prop} {s : Shared} {tg : Expr} {it : Addr} {u : Value} {o : Obj} {n : String} {vs : Array Value} {Q : Unit → Shared → Prop} (ho : s.heap.get? it = some o) (hc : o.cls = .type n) (hd : o.data = .fields vs)
    (hn : ["enumerate", "zip", "dict_itemiterator", "dict_reverseitemiterator", "odict_iterator", "itertools.zip_longest", "itertools.pairwise"].contains n = false) (hQ : Q () s) : wpAny M A (letOwnedTupleGo tg (.ref it) u) Q E s := by
  unfold letOwnedTupleGo
  cases tg <;> first
    | exact wpAny_pure hQ
    | (cases u <;> first
        | exact wpAny_pure hQ
        | (refine wpAny_bind (wpAny_load ho ?_)
           rw [hc, hd]
           show wpAny M A (if (["enumerate", "zip", "dict_itemiterator", "dict_reverseitemiterator", "odict_iterator", "itertools.zip_longest", "itertools.pairwise"].contains n && vs[0]? == some (rawInt _)) = true then _ else _) Q E s
           rw [if_neg (by intro h; rw [hn, Bool.false_and] at h; cases h)]
           exact wpAny_pure hQ))

/-- the list at a, as it stands at each turn (a loop may append to it) -/
def Itl (K : PySem.W.Frag) (a : Addr) : It :=
  ⟨fun i H => ∃ xs x, SqL K H a xs ∧ xs[i]? = some x, fun i H x H' => H' = H ∧ ∀ xs, SqL K H a xs → xs[i]? = some x, fun i H => ∃ xs, SqL K H a xs ∧ xs.length ≤ i⟩
def Itt (K : PySem.W.Frag) (a : Addr) : It :=
  ⟨fun i H => ∃ xs x, SqT K H a xs ∧ xs[i]? = some x, fun i H x H' => H' = H ∧ ∀ xs, SqT K H a xs → xs[i]? = some x, fun i H => ∃ xs, SqT K H a xs ∧ xs.length ≤ i⟩
/-- lo, lo + 1, .. (n of them) -/
def Itr (lo : Int) (n : Nat) : It := ⟨fun i _ => i < n, fun i H x H' => H' = H ∧ x = .int (lo + i), fun i _ => n ≤ i⟩
theorem turn_list {P : Program} {w : World} {K : PySem.W.Frag} {tg : Expr} (a it : Addr) : Turn P w K tg (Itl K a) [it] it (fun i h => h.IsListIter it a i) where
  mem := by simp
  obj := fun i h st b hb => by
    have e : b = it := by simpa using hb
    subst e
    obtain ⟨o, e, c, d⟩ := st
    exact ⟨o, e, fun v z => by rw [d] at z; cases z⟩
  keep := fun i h h' st k => st.at fun o e => k it (by simp) o e
  item := by
    intro X hP hw hK hc i pins s σ H E I hf st hg
    subst hP hw hK
    obtain ⟨xs, x, hq, hx⟩ := hg
    obtain ⟨its, rv, p, hz⟩ := I.list hq
    obtain ⟨u, hu, ru⟩ := rv.get hx
    obtain ⟨f0, f1, f2, f3, f4, f5⟩ := hf it (by simp)
    refine wpAny_pyNext_list_item st p.isList (x := u) (by simpa using hu) fun h' st' sb => ?_
    have I1 : Inv X pins σ H { s with heap := h' } := I.turned (t' := s.toks) (fun b o hb e => (sb.2 b hb).trans e) f0 f1 f3 f4 f5
    obtain ⟨o, e, c, d⟩ := id st'
    exact ⟨u, rfl, go_of (s := { s with heap := h' }) e c d (by decide) ⟨x, H, I1, ru, ⟨rfl, fun ys hy => by rw [I.list_inj hy hq]; exact hx⟩, st', fun b hb => (hf b hb).1⟩⟩
  done := by
    intro X hP hw hK hc i pins s σ H E I hf st hg
    subst hP hw hK
    obtain ⟨xs, hq, hx⟩ := hg
    obtain ⟨its, rv, p, hz⟩ := I.list hq
    obtain ⟨f0, f1, f2, f3, f4, f5⟩ := hf it (by simp)
    have hl := rv.length
    exact wpAny_pyNext_list_end (I.ok.hd hc) st p.isList (by simp; omega) fun h' eb => ⟨rfl, I.turned (t' := s.toks) (fun b o hb e => eb b o hb e) f0 f1 f3 f4 f5⟩
  self := fun _ _ _ _ _ st h => wpAny_pyIter_listiter st h
theorem turn_tuple {P : Program} {w : World} {K : PySem.W.Frag} {tg : Expr} (a it : Addr) : Turn P w K tg (Itt K a) [it] it (fun i h => h.IsTupleIter it a i) where
  mem := by simp
  obj := fun i h st b hb => by
    have e : b = it := by simpa using hb
    subst e
    obtain ⟨o, e, c, d⟩ := st
    exact ⟨o, e, fun v z => by rw [d] at z; cases z⟩
  keep := fun i h h' st k => st.at fun o e => k it (by simp) o e
  item := by
    intro X hP hw hK hc i pins s σ H E I hf st hg
    subst hP hw hK
    obtain ⟨xs, x, hq, hx⟩ := hg
    obtain ⟨its, rv, p, hz⟩ := I.tuple hq
    obtain ⟨u, hu, ru⟩ := rv.get hx
    obtain ⟨f0, f1, f2, f3, f4, f5⟩ := hf it (by simp)
    refine wpAny_pyNext_tuple_item st (show s.heap.IsTuple a its.toArray from p) (x := u) (by simpa using hu) fun h' st' sb => ?_
    have I1 : Inv X pins σ H { s with heap := h' } := I.turned (t' := s.toks) (fun b o hb e => (sb.2 b hb).trans e) f0 f1 f3 f4 f5
    obtain ⟨o, e, c, d⟩ := id st'
    exact ⟨u, rfl, go_of (s := { s with heap := h' }) e c d (by decide) ⟨x, H, I1, ru, ⟨rfl, fun ys hy => by rw [I.tuple_inj hy hq]; exact hx⟩, st', fun b hb => (hf b hb).1⟩⟩
  done := by
    intro X hP hw hK hc i pins s σ H E I hf st hg
    subst hP hw hK
    obtain ⟨xs, hq, hx⟩ := hg
    obtain ⟨its, rv, p, hz⟩ := I.tuple hq
    obtain ⟨f0, f1, f2, f3, f4, f5⟩ := hf it (by simp)
    have hl := rv.length
    exact wpAny_pyNext_tuple_end (I.ok.hd hc) st (show s.heap.IsTuple a its.toArray from p) (by simp; omega) fun h' eb => ⟨rfl, I.turned (t' := s.toks) (fun b o hb e => eb b o hb e) f0 f1 f3 f4 f5⟩
  self := fun _ _ _ _ _ st h => wpAny_pyIter_tupleiter st h
theorem turn_range {P : Program} {w : World} {K : PySem.W.Frag} {tg : Expr} (it : Addr) (lo : Int) (n : Nat) : Turn P w K tg (Itr lo n) [it] it (fun i h => IsRangeIter h it (lo + (i : Nat) * 1) ((n : Int) - (i : Nat)) 1) where
  mem := by simp
  obj := fun i h st b hb => by
    have e : b = it := by simpa using hb
    subst e
    exact ⟨_, st, fun v z => by
      have z' : Data.fields _ = Data.cell v := z
      cases z'⟩
  keep := fun i h h' st k => k it (by simp) _ st
  item := by
    intro X hP hw hK hc i pins s σ H E I hf st hg
    subst hP hw hK
    obtain ⟨f0, f1, f2, f3, f4, f5⟩ := hf it (by simp)
    have W := Walks.range (prog := X.prog) (w := X.w) (I.ok.hd hc) it lo 1 n
    refine W.item i s _ _ hg st fun v h' tk hv st' kk => ?_
    obtain ⟨t, rfl⟩ := hv
    have I1 : Inv X pins σ H { s with heap := h', toks := tk } := I.turned (fun b o hb e => kk b o (by simpa using hb) e) f0 f1 f3 f4 f5
    refine ⟨_, rfl, go_of (s := { s with heap := h', toks := tk }) (n := "range_iterator") st' rfl rfl (by decide) ⟨.int (lo + i), H, I1, ⟨t, ?_⟩, ⟨rfl, rfl⟩, st', fun b hb => (hf b hb).1⟩⟩
    rw [Int.mul_one]
  done := by
    intro X hP hw hK hc i pins s σ H E I hf st hg
    subst hP hw hK
    obtain ⟨f0, f1, f2, f3, f4, f5⟩ := hf it (by simp)
    exact wpAny_pyNext_range_end (I.ok.hd hc) st (by have : n ≤ i := hg; omega) fun h' eb => ⟨rfl, I.turned (t' := s.toks) (fun b o hb e => eb b o hb e) f0 f1 f3 f4 f5⟩
  self := fun _ _ _ _ _ st h => wpAny_pyIter_rangeiter st h
end L2

namespace L2
open PySem PySem.Spec PyProof.Rows
section
variable {X : Cx} {tg : Expr}
def iList (K : PySem.W.Frag) (tl : TE) : TI := fun σ H R => tl σ H fun x H1 => ∃ a, x = .ref a ∧ (∃ xs, SqL K H1 a xs) ∧ R (Itl K a) H1
def iTup (K : PySem.W.Frag) (tl : TE) : TI := fun σ H R => tl σ H fun x H1 => ∃ a, x = .ref a ∧ (∃ xs, SqT K H1 a xs) ∧ R (Itt K a) H1
theorem pi_list {l : Expr} {tl : TE} (hl : PE X l tl) : PI X tg l (iList X.K tl) := by
  intro pins s σ H R I h
  refine thn (hl pins s σ H _ I h) fun v s1 ⟨x, H1, I1, r1, q1⟩ => ?_
  obtain ⟨a, e, ⟨xs, hq⟩, q⟩ := q1
  subst e
  cases r1
  obtain ⟨its, rv, p, hz⟩ := I1.list hq
  refine wpAny_pyIter_list p.isList ?_
  refine ⟨s1.heap.objs.size, [s1.heap.objs.size], _, _, H1, rfl, I1.kept (t' := s1.toks) fun b o e => Heap.get?_push_of_some _ e, turn_list a _, ⟨_, Heap.get?_push_size _ rfl, rfl, rfl⟩, fun b hb => ?_, q⟩
  have e : b = s1.heap.objs.size := by simpa using hb
  subst e
  exact I1.fpOk (Nat.le_refl _) (I1.hok.fresh (Nat.le_refl _))
theorem pi_tup {l : Expr} {tl : TE} (hl : PE X l tl) : PI X tg l (iTup X.K tl) := by
  intro pins s σ H R I h
  refine thn (hl pins s σ H _ I h) fun v s1 ⟨x, H1, I1, r1, q1⟩ => ?_
  obtain ⟨a, e, ⟨xs, hq⟩, q⟩ := q1
  subst e
  cases r1
  obtain ⟨its, rv, p, hz⟩ := I1.tuple hq
  refine wpAny_pyIter_tuple (show s1.heap.IsTuple a its.toArray from p) ?_
  refine ⟨s1.heap.objs.size, [s1.heap.objs.size], _, _, H1, rfl, I1.kept (t' := s1.toks) fun b o e => Heap.get?_push_of_some _ e, turn_tuple a _, ⟨_, Heap.get?_push_size _ rfl, rfl, rfl⟩, fun b hb => ?_, q⟩
  have e : b = s1.heap.objs.size := by simpa using hb
  subst e
  exact I1.fpOk (Nat.le_refl _) (I1.hok.fresh (Nat.le_refl _))
/-- a range object just made, walked -/
theorem range_it {pins : List (Addr × Obj)} {σ : St} {H : Hp} {s : Shared} {R : It → Hp → Prop} {E : Value → Shared → Prop} {lo hi : Int} {t u v : Tok} {tk : Nat} (I : Inv X pins σ H s) (h1 : -(2 ^ 62) ≤ lo) (h2 : lo < 2 ^ 62) (h3 : -(2 ^ 62) ≤ hi) (h4 : hi < 2 ^ 62)
    (q : R (Itr lo (hi - lo).toNat) H) : wpAny (model X.prog X.w) X.A (pyIter (.ref s.heap.objs.size)) (PIE X pins σ tg R) E { s with heap := s.heap.push { cls := .type "range", data := .fields #[.int lo t, .int hi u, .int 1 v] }, toks := tk } := by
  refine wpAny_pyIter_range (IsRange.new ..) (small_one h1 h2 h3 h4) ?_
  have I1 : Inv X pins σ H { s with heap := s.heap.push { cls := .type "range", data := .fields #[.int lo t, .int hi u, .int 1 v] }, toks := tk } := I.kept fun b o e => Heap.get?_push_of_some _ e
  refine ⟨(s.heap.push { cls := .type "range", data := .fields #[.int lo t, .int hi u, .int 1 v] }).objs.size, [(s.heap.push { cls := .type "range", data := .fields #[.int lo t, .int hi u, .int 1 v] }).objs.size], _, _, H, rfl,
    I1.kept (t' := tk) fun b o e => Heap.get?_push_of_some _ e, turn_range _ lo (hi - lo).toNat, ?_, fun b hb => ?_, q⟩
  · have e1 : lo + ((0 : Nat) : Int) * 1 = lo := by simp
    have e2 : (((hi - lo).toNat : Nat) : Int) - ((0 : Nat) : Int) = Builtin.Range.rangeSize lo hi 1 := by rw [rangeSize_one]; split <;> omega
    show IsRangeIter _ _ (lo + ((0 : Nat) : Int) * 1) ((((hi - lo).toNat : Nat) : Int) - ((0 : Nat) : Int)) 1
    rw [e1, e2]
    exact Heap.get?_push_size _ rfl
  · have e : b = (s.heap.push { cls := .type "range", data := .fields #[.int lo t, .int hi u, .int 1 v] }).objs.size := by simpa using hb
    subst e
    exact I1.fpOk (Nat.le_refl _) (I1.hok.fresh (Nat.le_refl _))
def iRng1 (ta : TA) : TI := fun σ H R => ta σ H fun vs H1 => ∃ j : Int, vs = [.int j] ∧ -(2 ^ 62) ≤ j ∧ j < 2 ^ 62 ∧ R (Itr 0 j.toNat) H1
def iRng2 (ta : TA) : TI := fun σ H R => ta σ H fun vs H1 => ∃ i j : Int, vs = [.int i, .int j] ∧ (-(2 ^ 62) ≤ i ∧ i < 2 ^ 62 ∧ -(2 ^ 62) ≤ j ∧ j < 2 ^ 62) ∧ R (Itr i (j - i).toNat) H1
theorem pi_range1 {a : Expr} {ta : TA} {p pos : Pos} (hg : Gl X "range") (hm : X.mg "range" = none) (ha : PA X [a] ta) (hs : starEach [a] X.env = [(false, eval a X.env)] := by rfl) : PI X tg (.Call (.Name "range" p) [a] [] pos) (iRng1 ta) := by
  intro pins s σ H R I h
  refine Call_ (ld_blt I hg hm boot_range (PyProof.Rows.callWith_type1 (thn (ha pos pins s σ H _ I h) fun us s1 ⟨vs, H1, I1, r1, q1⟩ => ?_) hs rfl))
  obtain ⟨j, e, q1, q2, q⟩ := q1
  subst e
  cases r1 with
  | cons r rr =>
    cases rr
    obtain ⟨t, rfl⟩ := r
    exact call_range_1 (range_it I1 (by omega) (by omega) q1 q2 (by simpa using q))
theorem pi_range2 {a b : Expr} {ta : TA} {p pos : Pos} (hg : Gl X "range") (hm : X.mg "range" = none) (ha : PA X [a, b] ta) (hs : starEach [a, b] X.env = [(false, eval a X.env), (false, eval b X.env)] := by rfl) (hs2 : starEach [b] X.env = [(false, eval b X.env)] := by rfl) :
    PI X tg (.Call (.Name "range" p) [a, b] [] pos) (iRng2 ta) := by
  intro pins s σ H R I h
  refine Call_ (ld_blt I hg hm boot_range (PyProof.Rows.callWith_type1 (thn (ha pos pins s σ H _ I h) fun us s1 ⟨vs, H1, I1, r1, q1⟩ => ?_) (by rw [hs, hs2]) (by rw [hs2]; rfl)))
  obtain ⟨i, j, e, ⟨q1, q2, q3, q4⟩, q⟩ := q1
  subst e
  cases r1 with
  | cons r rr =>
    cases rr with
    | cons r' rr =>
      cases rr
      obtain ⟨t, rfl⟩ := r
      obtain ⟨t', rfl⟩ := r'
      exact call_range_2 (range_it I1 q1 q2 q3 q4 q)

/-! ### for -/
/-- W: the invariant by the turn and a measure; N: what the body is to reach -/
def tFor (wi : TI) (g : TG) (tb : TS) : TS := fun D σ H => wi σ H fun J H1 => ∃ W : Nat → Nat → St → Hp → Prop, (∃ m, W 0 m σ H1) ∧ ∀ i m σ H, W i m σ H →
  (J.stop i H ∧ D.nx σ H) ∨ (J.go i H ∧ ∃ N : St → Hp → Prop, (∀ σ' H', N σ' H' → ∃ m', m' < m ∧ W (i + 1) m' σ' H') ∧ ∀ x H', J.yld i H x H' → g x σ H' fun σ2 H2 => tb { D with nx := N, ct := N, bk := D.nx } σ2 H2)
/-- the records at fp as they stand -/
def pinsAt (fp : List Addr) (h : Heap) : List (Addr × Obj) := fp.filterMap fun b => (h.get? b).map fun o => (b, o)
theorem mem_pinsAt {fp : List Addr} {h : Heap} {b : Addr} {o : Obj} (hb : b ∈ fp) (e : h.get? b = some o) : (b, o) ∈ pinsAt fp h := List.mem_filterMap.mpr ⟨b, hb, by rw [e]; rfl⟩
theorem of_pinsAt {fp : List Addr} {h : Heap} {p : Addr × Obj} (hp : p ∈ pinsAt fp h) : p.1 ∈ fp ∧ h.get? p.1 = some p.2 := by
  obtain ⟨b, hb, e⟩ := List.mem_filterMap.mp hp
  cases q : h.get? b with
  | none => rw [q] at e; cases e
  | some o =>
    rw [q] at e
    have e' : (b, o) = p := Option.some.inj e
    subst e'
    exact ⟨hb, q⟩
theorem Inv.pinned {pins : List (Addr × Obj)} {σ : St} {H : Hp} {s : Shared} {fp : List Addr} (I : Inv X pins σ H s) (hf : ∀ b ∈ fp, FpOk X pins H b) (ho : ∀ b ∈ fp, ∃ o, s.heap.get? b = some o ∧ ∀ v, o.data ≠ .cell v) : Inv X (pins ++ pinsAt fp s.heap) σ H s :=
  I.pins_of fun p hp => (List.mem_append.mp hp).elim (fun z => I.pin p (List.mem_append_right _ z)) fun z => by
    obtain ⟨hb, e⟩ := of_pinsAt z
    obtain ⟨f0, f1, f2, _⟩ := hf p.1 hb
    obtain ⟨o, e', d⟩ := ho p.1 hb
    rw [e] at e'; cases e'
    exact ⟨e, f0, f1, f2, d⟩
theorem Inv.unpinned {pins pl : List (Addr × Obj)} {σ : St} {H : Hp} {s : Shared} (I : Inv X (pins ++ pl) σ H s) : Inv X pins σ H s := I.pins_of fun p hp => I.pin p (List.mem_append_right _ (List.mem_append_left _ hp))
theorem ps_for {iter : Expr} {body : List Stmt} {wi : TI} {g : TG} {tb : TS} {pos : Pos} (hp : PassesOwn (model X.prog X.w) X.A X.env X.xe) (hc : X.calm = true) (hi : PI X tg iter wi) (hg : PG X tg g) (hb : PSs X body tb)
    (hs : ∀ x, foldedSetIterable iter X.env x = pure x := by intro _; rfl) : PS X (.For tg iter body [] pos) (tFor wi g tb) := by
  intro pins s σ H D I h
  refine wpAny_For (thn (hi pins s σ H _ I h) fun v s1 h1 => thn h1 fun itv s2 h2 => ?_) hs
  obtain ⟨it, fp, tn, J, H2, e, I2, T, st2, f2, W, ⟨m0, w0⟩, turn⟩ := h2
  subst e
  -- what stays true of the iterator's objects through the loop
  have stat : ∀ {H' : Hp}, (∀ b ∈ fp, H' b = none) → ∀ b ∈ fp, FpOk X pins H' b := fun hn b hb => ⟨hn b hb, (f2 b hb).2⟩
  refine codeAny_forLoop_any (fun n s' => ∃ i σ' H', Inv X pins σ' H' s' ∧ tn i s'.heap ∧ (∀ b ∈ fp, H' b = none) ∧ W i n σ' H') ?_ m0 ⟨0, σ, H2, I2, st2, fun b hb => (f2 b hb).1, w0⟩
  rintro n s3 ⟨i, σ3, H3, I3, st3, fr3, w3⟩
  rcases turn i n σ3 H3 w3 with ⟨stop, qn⟩ | ⟨go, N, hN, step⟩
  · refine wpAny_passesOwn hp (thn (T.done X rfl rfl rfl hc i pins s3 σ3 H3 X.xe I3 (stat fr3) st3 stop) fun r s4 ⟨hr, I4⟩ => ?_)
    subst hr
    exact wpAny_execs_nil ⟨σ3, H3, I4, qn⟩
  · refine wpAny_passesOwn hp (thn (T.item X rfl rfl rfl hc i pins s3 σ3 H3 X.xe I3 (stat fr3) st3 go) fun r s4 ⟨u, hr, h4⟩ => ?_)
    subst hr
    refine wpAny_passesOwn hp (thn h4 fun _ s5 ⟨x, H5, I5, r5, y5, st5, fr5⟩ => ?_)
    have I5' := I5.pinned (stat fr5) (T.obj _ _ st5)
    refine wpAny_passesOwn hp (thn (hg _ s5 σ3 H5 x u _ I5' r5 (step x H5 y5)) fun _ s6 ⟨σ6, H6, I6, q6⟩ => ?_)
    refine wpAny_passesOwn hp (thn (hb _ s6 σ6 H6 _ I6 q6) fun f s7 q7 => ?_)
    have again : ∀ {σ7 : St} {H7 : Hp}, Inv X (pins ++ pinsAt fp s5.heap) σ7 H7 s7 → N σ7 H7 → ∃ m, m < n ∧ ∃ i σ' H', Inv X pins σ' H' s7 ∧ tn i s7.heap ∧ (∀ b ∈ fp, H' b = none) ∧ W i m σ' H' := fun {σ7 H7} I7 n7 => by
      obtain ⟨m', hm, w7⟩ := hN σ7 H7 n7
      refine ⟨m', hm, i + 1, σ7, H7, I7.unpinned, T.keep _ _ _ st5 fun b hb o e => (I7.pin (b, o) (List.mem_append_right _ (List.mem_append_right _ (mem_pinsAt hb e)))).1, fun b hb => ?_, w7⟩
      obtain ⟨o, e, d⟩ := T.obj _ _ st5 b hb
      exact (I7.pin (b, o) (List.mem_append_right _ (List.mem_append_right _ (mem_pinsAt hb e)))).2.1
    cases f with
    | next => obtain ⟨σ7, H7, I7, n7⟩ := q7; exact again I7 n7
    | cont => obtain ⟨σ7, H7, I7, n7⟩ := q7; exact again I7 n7
    | brk => obtain ⟨σ7, H7, I7, q7⟩ := q7; exact ⟨σ7, H7, I7.unpinned, q7⟩
    | ret v => obtain ⟨x7, σ7, H7, I7, r7, q7⟩ := q7; exact ⟨x7, σ7, H7, I7.unpinned, r7, q7⟩
end

/-! ### the forms one uses -/
/-- over a list that the body leaves as it is -/
theorem for_list {K : PySem.W.Frag} {a : Addr} {xs : List V} {g : TG} {tb : TS} {D : Ends} {σ : St} {H : Hp} (Pv : Nat → St → Hp → Prop) (h0 : Pv 0 σ H) (hl : ∀ i σ H, i ≤ xs.length → Pv i σ H → SqL K H a xs)
    (hs : ∀ i x σ H, xs[i]? = some x → Pv i σ H → g x σ H fun σ2 H2 => tb { D with nx := Pv (i + 1), ct := Pv (i + 1), bk := D.nx } σ2 H2) (hd : ∀ σ H, Pv xs.length σ H → D.nx σ H) :
    ∃ W : Nat → Nat → St → Hp → Prop, (∃ m, W 0 m σ H) ∧ ∀ i m σ H, W i m σ H →
      ((Itl K a).stop i H ∧ D.nx σ H) ∨ ((Itl K a).go i H ∧ ∃ N : St → Hp → Prop, (∀ σ' H', N σ' H' → ∃ m', m' < m ∧ W (i + 1) m' σ' H') ∧ ∀ x H', (Itl K a).yld i H x H' → g x σ H' fun σ2 H2 => tb { D with nx := N, ct := N, bk := D.nx } σ2 H2) := by
  refine ⟨fun i m σ H => m = xs.length - i ∧ i ≤ xs.length ∧ Pv i σ H, ⟨xs.length, by simp, Nat.zero_le _, h0⟩, ?_⟩
  rintro i m σ H ⟨rfl, hi, p⟩
  have q := hl i σ H hi p
  by_cases hlt : i < xs.length
  · refine .inr ⟨⟨xs, xs[i], q, by simp [hlt]⟩, Pv (i + 1), fun σ' H' p' => ⟨xs.length - (i + 1), by omega, rfl, hlt, p'⟩, fun x H' y => ?_⟩
    obtain ⟨e, y⟩ := y
    subst e
    exact hs i x σ _ (y xs q) p
  · have e : i = xs.length := by omega
    subst e
    exact .inl ⟨⟨xs, q, Nat.le_refl _⟩, hd σ H p⟩
theorem for_tup {K : PySem.W.Frag} {a : Addr} {xs : List V} {g : TG} {tb : TS} {D : Ends} {σ : St} {H : Hp} (Pv : Nat → St → Hp → Prop) (h0 : Pv 0 σ H) (hl : ∀ i σ H, i ≤ xs.length → Pv i σ H → SqT K H a xs)
    (hs : ∀ i x σ H, xs[i]? = some x → Pv i σ H → g x σ H fun σ2 H2 => tb { D with nx := Pv (i + 1), ct := Pv (i + 1), bk := D.nx } σ2 H2) (hd : ∀ σ H, Pv xs.length σ H → D.nx σ H) :
    ∃ W : Nat → Nat → St → Hp → Prop, (∃ m, W 0 m σ H) ∧ ∀ i m σ H, W i m σ H →
      ((Itt K a).stop i H ∧ D.nx σ H) ∨ ((Itt K a).go i H ∧ ∃ N : St → Hp → Prop, (∀ σ' H', N σ' H' → ∃ m', m' < m ∧ W (i + 1) m' σ' H') ∧ ∀ x H', (Itt K a).yld i H x H' → g x σ H' fun σ2 H2 => tb { D with nx := N, ct := N, bk := D.nx } σ2 H2) := by
  refine ⟨fun i m σ H => m = xs.length - i ∧ i ≤ xs.length ∧ Pv i σ H, ⟨xs.length, by simp, Nat.zero_le _, h0⟩, ?_⟩
  rintro i m σ H ⟨rfl, hi, p⟩
  have q := hl i σ H hi p
  by_cases hlt : i < xs.length
  · refine .inr ⟨⟨xs, xs[i], q, by simp [hlt]⟩, Pv (i + 1), fun σ' H' p' => ⟨xs.length - (i + 1), by omega, rfl, hlt, p'⟩, fun x H' y => ?_⟩
    obtain ⟨e, y⟩ := y
    subst e
    exact hs i x σ _ (y xs q) p
  · have e : i = xs.length := by omega
    subst e
    exact .inl ⟨⟨xs, q, Nat.le_refl _⟩, hd σ H p⟩
theorem for_range {lo : Int} {n : Nat} {g : TG} {tb : TS} {D : Ends} {σ : St} {H : Hp} (Pv : Nat → St → Hp → Prop) (h0 : Pv 0 σ H)
    (hs : ∀ i σ H, i < n → Pv i σ H → g (.int (lo + i)) σ H fun σ2 H2 => tb { D with nx := Pv (i + 1), ct := Pv (i + 1), bk := D.nx } σ2 H2) (hd : ∀ σ H, Pv n σ H → D.nx σ H) :
    ∃ W : Nat → Nat → St → Hp → Prop, (∃ m, W 0 m σ H) ∧ ∀ i m σ H, W i m σ H →
      ((Itr lo n).stop i H ∧ D.nx σ H) ∨ ((Itr lo n).go i H ∧ ∃ N : St → Hp → Prop, (∀ σ' H', N σ' H' → ∃ m', m' < m ∧ W (i + 1) m' σ' H') ∧ ∀ x H', (Itr lo n).yld i H x H' → g x σ H' fun σ2 H2 => tb { D with nx := N, ct := N, bk := D.nx } σ2 H2) := by
  refine ⟨fun i m σ H => m = n - i ∧ i ≤ n ∧ Pv i σ H, ⟨n, by simp, Nat.zero_le _, h0⟩, ?_⟩
  rintro i m σ H ⟨rfl, hi, p⟩
  by_cases hlt : i < n
  · refine .inr ⟨hlt, Pv (i + 1), fun σ' H' p' => ⟨n - (i + 1), by omega, rfl, hlt, p'⟩, fun x H' y => ?_⟩
    obtain ⟨e, y⟩ := y
    subst e y
    exact hs i σ _ hlt p
  · have e : i = n := by omega
    subst e
    exact .inl ⟨Nat.le_refl _, hd σ H p⟩
/-- while, by a word and a measure of the state -/
theorem while_by {c : TT} {tb : TS} {D : Ends} {σ : St} {H : Hp} (Pv : St → Hp → Prop) (μ : St → Hp → Nat) (h0 : Pv σ H)
    (hs : ∀ σ H, Pv σ H → c σ H fun b H1 => if b = true then tb { D with nx := fun σ' H' => Pv σ' H' ∧ μ σ' H' < μ σ H, ct := fun σ' H' => Pv σ' H' ∧ μ σ' H' < μ σ H, bk := D.nx } σ H1 else D.nx σ H1)
    (mono : ∀ σ H Q Q', (∀ b H1, Q b H1 → Q' b H1) → c σ H Q → c σ H Q') : tWhile c tb D σ H := by
  refine ⟨fun m σ H => m = μ σ H ∧ Pv σ H, ⟨_, rfl, h0⟩, ?_⟩
  rintro m σ H ⟨rfl, p⟩
  refine mono σ H _ _ (fun b H1 q => ?_) (hs σ H p)
  cases b with
  | true => exact ⟨_, fun σ' H' ⟨p', l⟩ => ⟨_, l, rfl, p'⟩, q⟩
  | false => exact q
end L2

namespace L2
open PySem PySem.Spec PyProof.Rows

abbrev R2 := V → V → Hp → VK → Prop
/-- a two-place operation on values: f is binaryOp op, inplaceOp op or compareOp op -/
def OpR (X : Cx) (f : Value → Value → Sem Value) (r : R2) : Prop :=
  ∀ (pins : List (Addr × Obj)) (s : Shared) (σ : St) (H : Hp) (x y : V) (v u : Value) (Q : VK), Inv X pins σ H s → RelV x v → RelV y u → r x y H Q →
    wpAny (model X.prog X.w) X.A (f v u) (EP X pins σ Q) X.xe s
/-- a one-place operation -/
def UnR (X : Cx) (f : Value → Sem Value) (r : V → Hp → VK → Prop) : Prop :=
  ∀ (pins : List (Addr × Obj)) (s : Shared) (σ : St) (H : Hp) (x : V) (v : Value) (Q : VK), Inv X pins σ H s → RelV x v → r x H Q →
    wpAny (model X.prog X.w) X.A (f v) (EP X pins σ Q) X.xe s
/-- a call of a value that is known (a builtin, a type) with values -/
def CallR (X : Cx) (f : Value) (r : List V → Hp → VK → Prop) : Prop :=
  ∀ (pins : List (Addr × Obj)) (s : Shared) (σ : St) (H : Hp) (xs : List V) (us : List Value) (Q : VK), Inv X pins σ H s → Vals xs us → r xs H Q →
    wpAny (model X.prog X.w) X.A (call f us) (EP X pins σ Q) X.xe s
/-- a value's truth -/
def TruR (X : Cx) (r : V → Hp → (Bool → Hp → Prop) → Prop) : Prop :=
  ∀ (pins : List (Addr × Obj)) (s : Shared) (σ : St) (H : Hp) (x : V) (v : Value) (Q : Bool → Hp → Prop), Inv X pins σ H s → RelV x v → r x H Q →
    wpAny (model X.prog X.w) X.A (truthy v) (TP X pins σ Q) X.xe s

def tOp (r : R2) (ta tb : TE) : TE := fun σ H Q => ta σ H fun x H1 => tb σ H1 fun y H2 => r x y H2 Q
def tUn (r : V → Hp → VK → Prop) (ta : TE) : TE := fun σ H Q => ta σ H fun x H1 => r x H1 Q
/-- ints in, under C, and a value out -/
def rI (C : Int → Int → Prop) (g : Int → Int → V) : R2 := fun x y H Q => ∃ i j, x = .int i ∧ y = .int j ∧ C i j ∧ Q (g i j) H
def rI0 (g : Int → Int → V) : R2 := fun x y H Q => ∃ i j, x = .int i ∧ y = .int j ∧ Q (g i j) H
def rU (g : Int → V) : V → Hp → VK → Prop := fun x H Q => ∃ i, x = .int i ∧ Q (g i) H

section
variable {X : Cx} {a b c : Expr} {ta tb tc : TE} {pos : Pos}

theorem binT (ha : PE X a ta) (hb : PE X b tb) {pins : List (Addr × Obj)} {s : Shared} {σ : St} {H : Hp} {R : V → V → Hp → Prop} (I : Inv X pins σ H s)
    (h : ta σ H fun x H1 => tb σ H1 fun y H2 => R x y H2) {Q : Value → Shared → Prop} {f : Value → Value → Sem Value}
    (hf : ∀ v u s2 x y H2, Inv X pins σ H2 s2 → RelV x v → RelV y u → R x y H2 → wpAny (model X.prog X.w) X.A (f v u) Q X.xe s2) :
    wpAny (model X.prog X.w) X.A (eval a X.env) (fun v s₁ => wpAny (model X.prog X.w) X.A (eval b X.env) (fun u s₂ => wpAny (model X.prog X.w) X.A (f v u) Q X.xe s₂) X.xe s₁) X.xe s := by
  refine thn (ha pins s σ H _ I h) fun v s1 ⟨x, H1, I1, r1, q1⟩ => ?_
  refine thn (hb pins s1 σ H1 _ I1 q1) fun u s2 ⟨y, H2, I2, r2, q2⟩ => ?_
  exact hf v u s2 x y H2 I2 r1 r2 q2

theorem pe_op {op : Operator} {r : R2} (ho : OpR X (binaryOp op) r) (ha : PE X a ta) (hb : PE X b tb) : PE X (.BinOp a op b pos) (tOp r ta tb) := by
  intro pins s σ H Q I h
  exact wpAny_BinOp (binT ha hb I h fun v u s2 x y H2 I2 rx ry q => ho pins s2 σ H2 x y v u Q I2 rx ry q)
theorem pe_un {op : UnaryOp} {r : V → Hp → VK → Prop} (ho : UnR X (unaryOp op) r) (ha : PE X a ta) : PE X (.UnaryOp op a pos) (tUn r ta) := by
  intro pins s σ H Q I h
  exact UnaryOp_ (thn (ha pins s σ H _ I h) fun v s1 ⟨x, H1, I1, r1, q1⟩ => ho pins s1 σ H1 x v Q I1 r1 q1)
/-- a op= e at a name: the name's slot i -/
theorem augR {op : Operator} {r : R2} (ho : OpR X (inplaceOp op) r) {pins : List (Addr × Obj)} {s : Shared} {σ : St} {H : Hp} {x y : V} {v u : Value} {Q : VK} (I : Inv X pins σ H s)
    (rx : RelV x v) (ry : RelV y u) (q : r x y H Q) : wpAny (model X.prog X.w) X.A (inplaceOp op v u) (EP X pins σ Q) X.xe s := ho pins s σ H x y v u Q I rx ry q

/-! ### ints -/
theorem opI {f : Value → Value → Sem Value} {C : Int → Int → Prop} {g : Int → Int → Int}
    (rule : ∀ (i j : Int) (t u : Tok) (s : Shared) (Q : Value → Shared → Prop) (E : Value → Shared → Prop), C i j → Q (.int (g i j) s.toks) { s with toks := s.toks + 1 } → wpAny (model X.prog X.w) X.A (f (.int i t) (.int j u)) Q E s) :
    OpR X f (rI C fun i j => .int (g i j)) := by
  intro pins s σ H x y v u Q I rx ry h
  obtain ⟨i, j, rfl, rfl, hc, q⟩ := h
  obtain ⟨t, rfl⟩ := rx
  obtain ⟨t', rfl⟩ := ry
  exact rule i j t t' s _ _ hc ⟨.int (g i j), H, I.tok _, ⟨_, rfl⟩, q⟩
theorem opI0 {f : Value → Value → Sem Value} {g : Int → Int → Int}
    (rule : ∀ (i j : Int) (t u : Tok) (s : Shared) (Q : Value → Shared → Prop) (E : Value → Shared → Prop), Q (.int (g i j) s.toks) { s with toks := s.toks + 1 } → wpAny (model X.prog X.w) X.A (f (.int i t) (.int j u)) Q E s) :
    OpR X f (rI0 fun i j => .int (g i j)) := by
  intro pins s σ H x y v u Q I rx ry h
  obtain ⟨i, j, rfl, rfl, q⟩ := h
  obtain ⟨t, rfl⟩ := rx
  obtain ⟨t', rfl⟩ := ry
  exact rule i j t t' s _ _ ⟨.int (g i j), H, I.tok _, ⟨_, rfl⟩, q⟩
theorem opB0 {f : Value → Value → Sem Value} {g : Int → Int → Bool}
    (rule : ∀ (i j : Int) (t u : Tok) (s : Shared) (Q : Value → Shared → Prop) (E : Value → Shared → Prop), Q (.bool (g i j)) s → wpAny (model X.prog X.w) X.A (f (.int i t) (.int j u)) Q E s) :
    OpR X f (rI0 fun i j => .bl (g i j)) := by
  intro pins s σ H x y v u Q I rx ry h
  obtain ⟨i, j, rfl, rfl, q⟩ := h
  obtain ⟨t, rfl⟩ := rx
  obtain ⟨t', rfl⟩ := ry
  exact rule i j t t' s _ _ ⟨.bl (g i j), H, I, rfl, q⟩

def CDiv (i j : Int) : Prop := 0 < j ∧ j < 1073741824
def CDivN (i j : Int) : Prop := j ≠ 0 ∧ j.natAbs < 1073741824
def CPow (i j : Int) : Prop := 0 ≤ j ∧ j ≤ 1000000 ∧ i.natAbs < 2 ^ 64
def CMul (i j : Int) : Prop := (-(2 ^ 64) < i ∧ i < 2 ^ 64) ∨ (-(2 ^ 64) < j ∧ j < 2 ^ 64)
theorem CMul.ok {i j : Int} (h : CMul i j) : IntMulOk i j := by
  rcases h with ⟨h1, h2⟩ | ⟨h1, h2⟩
  · exact .of_left (intBits_le_64 h1 h2)
  · exact .of_right (intBits_le_64 h1 h2)
theorem two_pow_nn (k : Nat) : (0 : Int) ≤ 2 ^ k := by
  rw [two_pow_cast]
  exact Int.natCast_nonneg _

theorem op_add : OpR X (binaryOp .Add) (rI0 fun i j => .int (i + j)) := opI0 fun _ _ _ _ _ _ _ q => add_int q
theorem op_sub : OpR X (binaryOp .Sub) (rI0 fun i j => .int (i - j)) := opI0 fun _ _ _ _ _ _ _ q => sub_int q
theorem op_mul : OpR X (binaryOp .Mult) (rI CMul fun i j => .int (i * j)) := opI fun _ _ _ _ _ _ _ hc q => mul_int q hc.ok
/-- // by a positive divisor -/
theorem op_fdiv : OpR X (binaryOp .FloorDiv) (rI CDiv fun i j => .int (i / j)) := opI fun i j _ _ _ _ _ hc q => by
  have h1 : (0 : Int) < j := hc.1
  have h2 : j < 1073741824 := hc.2
  exact floordiv_int (by omega) (by rw [Int.fdiv_eq_ediv_of_nonneg i (by omega)]; exact q) (.inl (PyProof.noPylong_small (by omega)))
theorem op_fdivN : OpR X (binaryOp .FloorDiv) (rI CDivN fun i j => .int (i.fdiv j)) := opI fun _ _ _ _ _ _ _ hc q => floordiv_int hc.1 q (.inl (PyProof.noPylong_small hc.2))
/-- % by a positive divisor of any size -/
theorem op_mod : OpR X (binaryOp .Mod) (rI (fun _ j => 0 < j) fun i j => .int (i % j)) := opI fun i j _ _ _ _ _ hc q => by
  have h1 : (0 : Int) < j := hc
  exact mod_int' (by omega) (by rw [Int.fmod_eq_emod_of_nonneg i (by omega)]; exact q)
theorem op_modN : OpR X (binaryOp .Mod) (rI (fun _ j => j ≠ 0) fun i j => .int (i.fmod j)) := opI fun _ _ _ _ _ _ _ hc q => mod_int' hc q
theorem op_pow : OpR X (binaryOp .Pow) (rI CPow fun i j => .int (i ^ j.toNat)) := opI fun _ _ _ _ _ _ _ hc q => pow_int_small hc.1 hc.2.1 hc.2.2 q
theorem op_shl : OpR X (binaryOp .LShift) (rI CPow fun i j => .int (i * 2 ^ j.toNat)) := opI fun _ _ _ _ _ _ _ hc q => lshift_int_small hc.1 hc.2.1 hc.2.2 q
theorem op_shr : OpR X (binaryOp .RShift) (rI (fun _ j => 0 ≤ j) fun i j => .int (i / 2 ^ j.toNat)) := opI fun i j _ _ _ _ _ hc q =>
  rshift_int hc (by rw [Int.fdiv_eq_ediv_of_nonneg i (two_pow_nn _)]; exact q)
theorem op_and : OpR X (binaryOp .BitAnd) (rI0 fun i j => .int (Builtin.bitAnd i j)) := opI0 fun _ _ _ _ _ _ _ q => and_int q
theorem op_or : OpR X (binaryOp .BitOr) (rI0 fun i j => .int (Builtin.bitOr i j)) := opI0 fun _ _ _ _ _ _ _ q => or_int q
theorem op_xor : OpR X (binaryOp .BitXor) (rI0 fun i j => .int (Builtin.bitXor i j)) := opI0 fun _ _ _ _ _ _ _ q => xor_int q

theorem iop_add : OpR X (inplaceOp .Add) (rI0 fun i j => .int (i + j)) := opI0 fun _ _ _ _ _ _ _ q => iadd_int q
theorem iop_sub : OpR X (inplaceOp .Sub) (rI0 fun i j => .int (i - j)) := opI0 fun _ _ _ _ _ _ _ q => isub_int q
theorem iop_mul : OpR X (inplaceOp .Mult) (rI CMul fun i j => .int (i * j)) := opI fun _ _ _ _ _ _ _ hc q => imul_int q hc.ok
theorem iop_fdiv : OpR X (inplaceOp .FloorDiv) (rI CDiv fun i j => .int (i / j)) := opI fun i j _ _ _ _ _ hc q => by
  have h1 : (0 : Int) < j := hc.1
  have h2 : j < 1073741824 := hc.2
  exact ifloordiv_int (by omega) (by rw [Int.fdiv_eq_ediv_of_nonneg i (by omega)]; exact q) (.inl (PyProof.noPylong_small (by omega)))
theorem iop_mod : OpR X (inplaceOp .Mod) (rI (fun _ j => 0 < j) fun i j => .int (i % j)) := opI fun i j _ _ _ _ _ hc q => by
  have h1 : (0 : Int) < j := hc
  exact imod_int (by omega) (by rw [Int.fmod_eq_emod_of_nonneg i (by omega)]; exact q)
theorem iop_shl : OpR X (inplaceOp .LShift) (rI CPow fun i j => .int (i * 2 ^ j.toNat)) := opI fun _ _ _ _ _ _ _ hc q => ilshift_int_small hc.1 hc.2.1 hc.2.2 q
theorem iop_shr : OpR X (inplaceOp .RShift) (rI (fun _ j => 0 ≤ j) fun i j => .int (i / 2 ^ j.toNat)) := opI fun i j _ _ _ _ _ hc q =>
  irshift_int hc (by rw [Int.fdiv_eq_ediv_of_nonneg i (two_pow_nn _)]; exact q)
theorem iop_and : OpR X (inplaceOp .BitAnd) (rI0 fun i j => .int (Builtin.bitAnd i j)) := opI0 fun _ _ _ _ _ _ _ q => iand_int q
theorem iop_or : OpR X (inplaceOp .BitOr) (rI0 fun i j => .int (Builtin.bitOr i j)) := opI0 fun _ _ _ _ _ _ _ q => ior_int q
theorem iop_xor : OpR X (inplaceOp .BitXor) (rI0 fun i j => .int (Builtin.bitXor i j)) := opI0 fun _ _ _ _ _ _ _ q => ixor_int q

theorem unI {f : Value → Sem Value} {g : Int → Int}
    (rule : ∀ (i : Int) (t : Tok) (s : Shared) (Q : Value → Shared → Prop) (E : Value → Shared → Prop), Q (.int (g i) s.toks) { s with toks := s.toks + 1 } → wpAny (model X.prog X.w) X.A (f (.int i t)) Q E s) :
    UnR X f (rU fun i => .int (g i)) := by
  intro pins s σ H x v Q I rx h
  obtain ⟨i, rfl, q⟩ := h
  obtain ⟨t, rfl⟩ := rx
  exact rule i t s _ _ ⟨.int (g i), H, I.tok _, ⟨_, rfl⟩, q⟩
theorem un_neg : UnR X (unaryOp .USub) (rU fun i => .int (-i)) := unI fun _ _ _ _ _ q => neg_int q
theorem un_inv : UnR X (unaryOp .Invert) (rU fun i => .int (Builtin.bitNot i)) := unI fun _ _ _ _ _ q => invert_int q

/-! ### bools among ints: n += (a < b) -/
theorem op_add_ib : OpR X (binaryOp .Add) (fun x y H Q => ∃ i k, x = .int i ∧ y = .bl k ∧ Q (.int (i + b2i k)) H) := by
  intro pins s σ H x y v u Q I rx ry h
  obtain ⟨i, k, rfl, rfl, q⟩ := h
  obtain ⟨t, rfl⟩ := rx
  cases ry
  exact add_int_bool ⟨.int (i + b2i k), H, I.tok _, ⟨_, rfl⟩, q⟩
end

/-! ### comparisons -/
/-- the scalars that == tells apart as data does -/
def scal : V → V → Bool
  | .non, .non => true | .non, .int _ => true | .int _, .non => true | .non, .bl _ => true | .bl _, .non => true | .non, .str _ => true | .str _, .non => true
  | .int _, .int _ => true | .bl _, .bl _ => true | .str _, .str _ => true | .byt _, .byt _ => true
  | .int _, .str _ => true | .str _, .int _ => true | .bl _, .str _ => true | .str _, .bl _ => true
  | _, _ => false
def rEq : R2 := fun x y H Q => scal x y = true ∧ Q (.bl (decide (x = y))) H
def rNe : R2 := fun x y H Q => scal x y = true ∧ Q (.bl (!decide (x = y))) H

theorem dec_int {i j : Int} : decide (V.int i = V.int j) = (i == j) := by
  rw [Bool.eq_iff_iff]
  simp
theorem dec_bl {i j : Bool} : decide (V.bl i = V.bl j) = (i == j) := by
  rw [Bool.eq_iff_iff]
  simp
theorem dec_str {i j : Str} : decide (V.str i = V.str j) = (i == j) := by
  rw [Bool.eq_iff_iff]
  simp
theorem dec_byt {i j : Array UInt8} : decide (V.byt i = V.byt j) = (i.toList == j.toList) := by
  rw [Bool.eq_iff_iff]
  cases i
  cases j
  simp

section
variable {X : Cx} {a b c : Expr} {ta tb tc : TE} {pos : Pos}
theorem fin_bl {pins : List (Addr × Obj)} {σ : St} {H : Hp} {s : Shared} {Q : VK} {k k' : Bool} (I : Inv X pins σ H s) (q : Q (.bl k) H) (e : k = k') : EP X pins σ Q (.bool k') s := by
  subst e
  exact ⟨.bl k, H, I, rfl, q⟩
theorem op_eq : OpR X (compareOp .Eq) rEq := by
  intro pins s σ H x y v u Q I rx ry h
  obtain ⟨hs, q⟩ := h
  cases x with
  | non =>
    cases rx
    cases y with
    | non => cases ry; exact PySem.EqNone.eq_none_none (fin_bl I q (by simp))
    | bl j => cases ry; exact PySem.EqNone.eq_none_bool (fin_bl I q (by simp))
    | int j => obtain ⟨t', rfl⟩ := ry; exact PySem.EqNone.eq_none_int (fin_bl I q (by simp))
    | str j => obtain ⟨t', rfl⟩ := ry; exact PySem.EqNone.eq_none_str (fin_bl I q (by simp))
    | _ => exact absurd (show false = true from hs) Bool.false_ne_true
  | bl i =>
    cases rx
    cases y with
    | non => cases ry; exact PySem.EqNone.eq_bool_none (fin_bl I q (by simp))
    | bl j => cases ry; exact eq_bool (fin_bl I q dec_bl)
    | str j => obtain ⟨t', rfl⟩ := ry; exact PySem.EqMixed.eq_bool_str (fin_bl I q (by simp))
    | _ => exact absurd (show false = true from hs) Bool.false_ne_true
  | int i =>
    obtain ⟨t, rfl⟩ := rx
    cases y with
    | non => cases ry; exact PySem.EqNone.eq_int_none (fin_bl I q (by simp))
    | int j => obtain ⟨t', rfl⟩ := ry; exact eq_int (fin_bl I q dec_int)
    | str j => obtain ⟨t', rfl⟩ := ry; exact PySem.EqMixed.eq_int_str (fin_bl I q (by simp))
    | _ => exact absurd (show false = true from hs) Bool.false_ne_true
  | str i =>
    obtain ⟨t, rfl⟩ := rx
    cases y with
    | non => cases ry; exact PySem.EqNone.eq_str_none (fin_bl I q (by simp))
    | bl j => cases ry; exact PySem.EqMixed.eq_str_bool (fin_bl I q (by simp))
    | int j => obtain ⟨t', rfl⟩ := ry; exact PySem.EqMixed.eq_str_int (fin_bl I q (by simp))
    | str j => obtain ⟨t', rfl⟩ := ry; exact eq_str (fin_bl I q dec_str)
    | _ => exact absurd (show false = true from hs) Bool.false_ne_true
  | byt i =>
    obtain ⟨t, rfl⟩ := rx
    cases y with
    | byt j => obtain ⟨t', rfl⟩ := ry; exact PySem.W.eq_bytes (fin_bl I q dec_byt)
    | _ => exact absurd (show false = true from hs) Bool.false_ne_true
  | _ => cases y <;> exact absurd (show false = true from hs) Bool.false_ne_true
theorem op_ne : OpR X (compareOp .NotEq) rNe := by
  intro pins s σ H x y v u Q I rx ry h
  obtain ⟨hs, q⟩ := h
  cases x with
  | non =>
    cases rx
    cases y with
    | non => cases ry; exact PySem.EqNone.ne_none_none (fin_bl I q (by simp))
    | bl j => cases ry; exact PySem.EqNone.ne_none_bool (fin_bl I q (by simp))
    | int j => obtain ⟨t', rfl⟩ := ry; exact PySem.EqNone.ne_none_int (fin_bl I q (by simp))
    | str j => obtain ⟨t', rfl⟩ := ry; exact PySem.EqNone.ne_none_str (fin_bl I q (by simp))
    | _ => exact absurd (show false = true from hs) Bool.false_ne_true
  | bl i =>
    cases rx
    cases y with
    | non => cases ry; exact PySem.EqNone.ne_bool_none (fin_bl I q (by simp))
    | bl j => cases ry; exact ne_bool (fin_bl I q (congrArg not dec_bl))
    | str j => obtain ⟨t', rfl⟩ := ry; exact PySem.EqMixed.ne_bool_str (fin_bl I q (by simp))
    | _ => exact absurd (show false = true from hs) Bool.false_ne_true
  | int i =>
    obtain ⟨t, rfl⟩ := rx
    cases y with
    | non => cases ry; exact PySem.EqNone.ne_int_none (fin_bl I q (by simp))
    | int j => obtain ⟨t', rfl⟩ := ry; exact ne_int (fin_bl I q (congrArg not dec_int))
    | str j => obtain ⟨t', rfl⟩ := ry; exact PySem.EqMixed.ne_int_str (fin_bl I q (by simp))
    | _ => exact absurd (show false = true from hs) Bool.false_ne_true
  | str i =>
    obtain ⟨t, rfl⟩ := rx
    cases y with
    | non => cases ry; exact PySem.EqNone.ne_str_none (fin_bl I q (by simp))
    | bl j => cases ry; exact PySem.EqMixed.ne_str_bool (fin_bl I q (by simp))
    | int j => obtain ⟨t', rfl⟩ := ry; exact PySem.EqMixed.ne_str_int (fin_bl I q (by simp))
    | str j => obtain ⟨t', rfl⟩ := ry; exact ne_str (fin_bl I q (congrArg not dec_str))
    | _ => exact absurd (show false = true from hs) Bool.false_ne_true
  | byt i =>
    obtain ⟨t, rfl⟩ := rx
    cases y with
    | byt j => obtain ⟨t', rfl⟩ := ry; exact PySem.W.ne_bytes (fin_bl I q (congrArg not dec_byt))
    | _ => exact absurd (show false = true from hs) Bool.false_ne_true
  | _ => cases y <;> exact absurd (show false = true from hs) Bool.false_ne_true

theorem op_lt : OpR X (compareOp .Lt) (rI0 fun i j => .bl (decide (i < j))) := opB0 fun _ _ _ _ _ _ _ q => lt_int q
theorem op_le : OpR X (compareOp .LtE) (rI0 fun i j => .bl (decide (i ≤ j))) := opB0 fun _ _ _ _ _ _ _ q => le_int q
theorem op_gt : OpR X (compareOp .Gt) (rI0 fun i j => .bl (decide (j < i))) := opB0 fun _ _ _ _ _ _ _ q => gt_int q
theorem op_ge : OpR X (compareOp .GtE) (rI0 fun i j => .bl (decide (j ≤ i))) := opB0 fun _ _ _ _ _ _ _ q => ge_int q
theorem op_lt_str : OpR X (compareOp .Lt) (fun x y H Q => ∃ i j, x = .str i ∧ y = .str j ∧ Q (.bl (decide (i.cps.toList < j.cps.toList))) H) := by
  intro pins s σ H x y v u Q I rx ry h
  obtain ⟨i, j, rfl, rfl, q⟩ := h
  obtain ⟨t, rfl⟩ := rx
  obtain ⟨t', rfl⟩ := ry
  exact lt_str (fin_bl I q rfl)
/-- the one string within the other -/
theorem op_in_str : OpR X (compareOp .In) (fun x y H Q => ∃ i j, x = .str i ∧ y = .str j ∧ Q (.bl (!(Builtin.Str.occurrences j i 0 j.length 1).isEmpty)) H) := by
  intro pins s σ H x y v u Q I rx ry h
  obtain ⟨i, j, rfl, rfl, q⟩ := h
  obtain ⟨t, rfl⟩ := rx
  obtain ⟨t', rfl⟩ := ry
  exact in_str (fin_bl I q rfl)

/-- is None, is not None: the right side a value none -/
theorem op_isN : OpR X (compareOp .Is) (fun x y H Q => y = .non ∧ Q (.bl (decide (x = .non))) H) := by
  intro pins s σ H x y v u Q I rx ry h
  obtain ⟨rfl, q⟩ := h
  cases ry
  refine is_none_gen (fin_bl I q ?_)
  cases x <;> first
    | (cases rx; rfl)
    | (obtain ⟨t, rfl⟩ := rx; rfl)
theorem op_notN : OpR X (compareOp .IsNot) (fun x y H Q => y = .non ∧ Q (.bl (!decide (x = .non))) H) := by
  intro pins s σ H x y v u Q I rx ry h
  obtain ⟨rfl, q⟩ := h
  cases ry
  refine isnot_none_gen (fin_bl I q ?_)
  cases x <;> first
    | (cases rx; rfl)
    | (obtain ⟨t, rfl⟩ := rx; rfl)

theorem op_notin_str : OpR X (compareOp .NotIn) (fun x y H Q => ∃ i j, x = .str i ∧ y = .str j ∧ Q (.bl (!(!(Builtin.Str.occurrences j i 0 j.length 1).isEmpty))) H) := by
  intro pins s σ H x y v u Q I rx ry h
  obtain ⟨i, j, rfl, rfl, q⟩ := h
  obtain ⟨t, rfl⟩ := rx
  obtain ⟨t', rfl⟩ := ry
  exact notIn_str (fin_bl I q rfl)
/-- is, is not of two objects that are tracked lists or instances -/
def isObj : HO → Bool
  | .lst _ => true
  | .ins _ _ _ => true
  | _ => false
theorem obj_there {pins : List (Addr × Obj)} {s : Shared} {σ : St} {H : Hp} {a : Addr} {o : HO} (I : Inv X pins σ H s) (h : H a = some o) (p : isObj o = true) : ∃ ob, s.heap.get? a = some ob ∧ ob.cls ≠ .type "tuple" := by
  cases o with
  | lst xs =>
    obtain ⟨_, its, n, _, e⟩ : xs.length ≤ sizeLine ∧ ∃ (its : List Value) (n : Nat), Vals xs its ∧ s.heap.get? a = some { cls := .type "list", data := .seq its.toArray n } := I.hok a _ h
    exact ⟨_, e, (by show Value.type "list" ≠ .type "tuple"; decide +kernel)⟩
  | ins C dx fs =>
    have x := I.hok a _ h
    obtain ⟨_, _, _, e, _⟩ := x
    exact ⟨_, e, (by show Value.ref C ≠ .type "tuple"; exact fun z => by cases z)⟩
  | _ => exact absurd (show false = true from p) Bool.false_ne_true
theorem op_is_ref : OpR X (compareOp .Is) (fun x y H Q => ∃ a b oa ob, x = .ref a ∧ y = .ref b ∧ H a = some oa ∧ isObj oa = true ∧ H b = some ob ∧ isObj ob = true ∧ Q (.bl (decide (a = b))) H) := by
  intro pins s σ H x y v u Q I rx ry h
  obtain ⟨a, b, oa, ob, rfl, rfl, ha, pa, hb, pb, q⟩ := h
  cases rx
  cases ry
  obtain ⟨o1, e1, n1⟩ := obj_there I ha pa
  obtain ⟨o2, e2, _⟩ := obj_there I hb pb
  by_cases z : a = b
  · subst z
    exact wpAny_is_ref_self (fin_bl I q (by simp))
  · exact wpAny_is_ref_other z e1 e2 n1 (fin_bl I q (by simp [z]))
theorem op_isnot_ref : OpR X (compareOp .IsNot) (fun x y H Q => ∃ a b oa ob, x = .ref a ∧ y = .ref b ∧ H a = some oa ∧ isObj oa = true ∧ H b = some ob ∧ isObj ob = true ∧ Q (.bl (!decide (a = b))) H) := by
  intro pins s σ H x y v u Q I rx ry h
  obtain ⟨a, b, oa, ob, rfl, rfl, ha, pa, hb, pb, q⟩ := h
  cases rx
  cases ry
  obtain ⟨o1, e1, n1⟩ := obj_there I ha pa
  obtain ⟨o2, e2, _⟩ := obj_there I hb pb
  by_cases z : a = b
  · subst z
    exact wpAny_isNot_ref_self (fin_bl I q (by simp))
  · exact wpAny_isNot_ref_other z e1 e2 n1 (fin_bl I q (by simp [z]))

/-- two rules for one operation: by cases -/
theorem OpR.or {f : Value → Value → Sem Value} {r r' : R2} (h : OpR X f r) (h' : OpR X f r') : OpR X f (fun x y H Q => r x y H Q ∨ r' x y H Q) := by
  intro pins s σ H x y v u Q I rx ry q
  rcases q with q | q
  · exact h pins s σ H x y v u Q I rx ry q
  · exact h' pins s σ H x y v u Q I rx ry q

theorem nomark (b : Expr) {op : CmpOp} (h : op ≠ .In := by decide) (h2 : op ≠ .NotIn := by decide) : behindInMarks op b = false := by
  have e1 : (op == CmpOp.In) = false := by cases op <;> first | rfl | exact absurd rfl h
  have e2 : (op == CmpOp.NotIn) = false := by cases op <;> first | rfl | exact absurd rfl h2
  cases b <;> simp [behindInMarks, e1, e2]
/-- a comparison as a value; hm: nomark b, or (for in, not in) by with_unfolding_all rfl -/
theorem pe_cmpR {op : CmpOp} {r : R2} (ho : OpR X (compareOp op) r) (ha : PE X a ta) (hb : PE X b tb) (hm : behindInMarks op b = false) : PE X (.Compare a [op] [b] pos) (tOp r ta tb) := by
  intro pins s σ H Q I h
  exact wpAny_Compare1 (binT ha hb I h fun v u s2 x y H2 I2 rx ry q => ho pins s2 σ H2 x y v u Q I2 rx ry q) hm
/-- a reading of a value as a test -/
def tTest (t : TE) : TT := fun σ H Q => t σ H fun x H' => ∃ k, x = .bl k ∧ Q k H'
theorem pt_cmpR {op : CmpOp} {r : R2} (ho : OpR X (compareOp op) r) (ha : PE X a ta) (hb : PE X b tb) (hm : behindInMarks op b = false) : PT X (.Compare a [op] [b] pos) (tTest (tOp r ta tb)) := by
  intro pins s σ H Q I h
  refine wpAny_isTrue_Compare1 (thn (ha pins s σ H _ I h) fun v s1 ⟨x, H1, I1, r1, q1⟩ => thn (hb pins s1 σ H1 _ I1 q1) fun u s2 ⟨y, H2, I2, r2, q2⟩ =>
    thn (ho pins s2 σ H2 x y v u _ I2 r1 r2 q2) fun c s3 ⟨z, H3, I3, r3, k, e, q3⟩ => ?_) hm
  subst e
  cases r3
  exact wpAny_truthy_bool ⟨H3, I3, q3⟩
/-- a op1 b op2 c -/
def tChain (r r' : R2) (ta tb tc : TE) : TE := fun σ H Q => ta σ H fun x H1 => tb σ H1 fun y H2 => r x y H2 fun z H3 => ∃ k, z = .bl k ∧
  (if k = true then tc σ H3 fun w' H4 => r' y w' H4 Q else Q (.bl false) H3)
theorem pe_chain {op op' : CmpOp} {r r' : R2} (ho : OpR X (compareOp op) r) (ho' : OpR X (compareOp op') r') (ha : PE X a ta) (hb : PE X b tb) (hc : PE X c tc)
    (hm : lastMarks [op, op'] [b, c] = false := by with_unfolding_all rfl) : PE X (.Compare a [op, op'] [b, c] pos) (tChain r r' ta tb tc) := by
  intro pins s σ H Q I h
  refine Compare_chain (thn (ha pins s σ H _ I h) fun v s1 ⟨x, H1, I1, r1, q1⟩ => chain_link (thn (hb pins s1 σ H1 _ I1 q1) fun u s2 ⟨y, H2, I2, r2, q2⟩ =>
    thn (ho pins s2 σ H2 x y v u _ I2 r1 r2 q2) fun d s3 ⟨z, H3, I3, r3, k, e, q3⟩ => ?_)) hm
  subst e
  cases r3
  refine wpAny_truthy_bool ?_
  cases k with
  | false => exact ite_ff ⟨.bl false, H3, I3, rfl, q3⟩
  | true => exact ite_tt (chain_last (thn (hc pins s3 σ H3 _ I3 q3) fun w' s4 ⟨z', H4, I4, r4, q4⟩ => ho' pins s4 σ H4 y z' u w' Q I4 r2 r4 q4))
theorem pt_chain {op op' : CmpOp} {r r' : R2} (ho : OpR X (compareOp op) r) (ho' : OpR X (compareOp op') r') (ha : PE X a ta) (hb : PE X b tb) (hc : PE X c tc)
    (hm : lastMarks [op, op'] [b, c] = false := by with_unfolding_all rfl) : PT X (.Compare a [op, op'] [b, c] pos) (tTest (tChain r r' ta tb tc)) := by
  intro pins s σ H Q I h
  refine isTrue_chain (thn (ha pins s σ H _ I h) fun v s1 ⟨x, H1, I1, r1, q1⟩ => test_link (thn (hb pins s1 σ H1 _ I1 q1) fun u s2 ⟨y, H2, I2, r2, q2⟩ =>
    thn (ho pins s2 σ H2 x y v u _ I2 r1 r2 q2) fun d s3 ⟨z, H3, I3, r3, k, e, q3⟩ => ?_)) hm
  subst e
  cases r3
  refine wpAny_truthy_bool ?_
  cases k with
  | false =>
    obtain ⟨k', e', q'⟩ := q3
    cases e'
    exact ite_ff ⟨H3, I3, q'⟩
  | true =>
    refine ite_tt (test_last (thn (hc pins s3 σ H3 _ I3 q3) fun w' s4 ⟨z', H4, I4, r4, q4⟩ => thn (ho' pins s4 σ H4 y z' u w' _ I4 r2 r4 q4) fun d' s5 ⟨z2, H5, I5, r5, k2, e2, q5⟩ => ?_))
    subst e2
    cases r5
    exact wpAny_truthy_bool ⟨H5, I5, q5⟩

/-! ### truth -/
/-- a value's truth by the abstract heap -/
def TruV (K : PySem.W.Frag) (x : V) (H : Hp) (k : Bool) : Prop :=
  match x with
  | .non => k = false
  | .bl b => k = b
  | .int i => k = (i != 0)
  | .str y => y.length ≤ sizeLine ∧ k = ((y.length : Int) != 0)
  | .byt y => y.size ≤ sizeLine ∧ k = ((y.size : Int) != 0)
  | .ref p => (∃ xs, SqL K H p xs ∧ k = !xs.isEmpty) ∨ (∃ xs, SqT K H p xs ∧ k = !xs.isEmpty) ∨ ∃ kvs, H p = some (.dK kvs) ∧ k = !kvs.isEmpty
  | _ => False
theorem isEmpty_kv {κ : Type} {kvs : List (κ × V)} {vs : List (κ × Value)} (r : KV kvs vs) : (!vs.isEmpty) = !kvs.isEmpty := by
  cases r <;> rfl
theorem isEmpty_of {xs : List V} {its : List Value} (r : Vals xs its) : (!its.toArray.isEmpty) = !xs.isEmpty := by
  cases r <;> simp
theorem line63 : (sizeLine : Nat) < 2 ^ 63 := by rw [sizeLine_eq]; decide
theorem tru_ok : TruR X (fun x H Q => ∃ k, TruV X.K x H k ∧ Q k H) := by
  intro pins s σ H x v Q I rx h
  obtain ⟨k, e, q⟩ := h
  have hl := line63
  have hs : sizeLine = 16777216 := sizeLine_eq
  cases x with
  | non =>
    cases rx
    have e' : k = false := e
    subst e'
    exact truthy_none ⟨H, I, q⟩
  | bl b =>
    cases rx
    have e' : k = b := e
    subst e'
    exact wpAny_truthy_bool ⟨H, I, q⟩
  | int i =>
    obtain ⟨t, rfl⟩ := rx
    have e' : k = (i != 0) := e
    subst e'
    exact PySem.P.truthy_int ⟨H, I, q⟩
  | str y =>
    obtain ⟨t, rfl⟩ := rx
    obtain ⟨hy, e'⟩ : y.length ≤ sizeLine ∧ k = ((y.length : Int) != 0) := e
    subst e'
    exact PySem.P.truthy_str (by omega) ⟨H, I.tok _, q⟩
  | byt y =>
    obtain ⟨t, rfl⟩ := rx
    obtain ⟨hy, e'⟩ : y.size ≤ sizeLine ∧ k = ((y.size : Int) != 0) := e
    subst e'
    exact PySem.W.truthy_bytes (by omega) ⟨H, I.tok _, q⟩
  | ref p =>
    cases rx
    have e' : (∃ xs, SqL X.K H p xs ∧ k = !xs.isEmpty) ∨ (∃ xs, SqT X.K H p xs ∧ k = !xs.isEmpty) ∨ ∃ kvs, H p = some (.dK kvs) ∧ k = !kvs.isEmpty := e
    rcases e' with ⟨xs, hx, e'⟩ | ⟨xs, hx, e'⟩ | ⟨kvs, hx, e'⟩
    · subst e'
      obtain ⟨its, r, pl, hz⟩ := I.list hx
      have hlen := r.length
      exact wpAny_truthy_list pl.isList (by simp only [List.size_toArray]; omega) ⟨H, I.tok _, by rw [isEmpty_of r]; exact q⟩
    · subst e'
      obtain ⟨its, r, pl, hz⟩ := I.tuple hx
      have hlen := r.length
      exact truthy_tuple pl (by simp only [List.size_toArray]; omega) ⟨H, I.tok _, by rw [isEmpty_of r]; exact q⟩
    · subst e'
      obtain ⟨hz, hS, vs, r, m⟩ : kvs.length ≤ sizeLine ∧ (p == sysModules) = false ∧ ∃ vs, KV kvs vs ∧ s.heap.DictOf (mixKind X.prog X.w) p vs := I.hok p _ hx
      have hlen : kvs.length = vs.length := Paired.length r
      exact wpAny_truthy_dict hS m (by omega) ⟨H, I.tok _, by rw [isEmpty_kv r]; exact q⟩
  | _ => exact (show False from e).elim
/-- any expression whose test is its value's truth (a name, a call, a subscript, a field ..: he by fun _ => rfl) -/
theorem pt_truth (ha : PE X a ta) (he : ∀ whole, isTrue a X.env whole = (do let v ← whole; standAt a.pos; holding [v] (truthy v))) :
    PT X a (fun σ H Q => ta σ H fun x H' => ∃ k, TruV X.K x H' k ∧ Q k H') := by
  intro pins s σ H Q I h
  exact isTrue_plain (thn (ha pins s σ H _ I h) fun v s1 ⟨x, H1, I1, r1, q1⟩ => tru_ok pins s1 σ H1 x v Q I1 r1 q1) (he _)

/-! ### strs and bytes -/
theorem pe_byt {x : List UInt8} {k : Nat} : PE X (.Constant (.bytes x) k pos) (fun _ H Q => Q (.byt x.toArray) H) := fun _ _ _ H _ I h => PySem.W.Constant_bytes ⟨.byt x.toArray, H, I.tok _, ⟨_, rfl⟩, h⟩
theorem op_add_str : OpR X (binaryOp .Add) (fun x y H Q => ∃ i j, x = .str i ∧ y = .str j ∧ i.length + j.length ≤ sizeLine ∧ Q (.str (i ++ j)) H) := by
  intro pins s σ H x y v u Q I rx ry h
  obtain ⟨i, j, rfl, rfl, hz, q⟩ := h
  obtain ⟨t, rfl⟩ := rx
  obtain ⟨t', rfl⟩ := ry
  exact add_str (fun t' tk => ⟨.str (i ++ j), H, I.tok _, ⟨_, rfl⟩, q⟩) hz
theorem iop_add_str : OpR X (inplaceOp .Add) (fun x y H Q => ∃ i j, x = .str i ∧ y = .str j ∧ i.length + j.length ≤ sizeLine ∧ Q (.str (i ++ j)) H) := by
  intro pins s σ H x y v u Q I rx ry h
  obtain ⟨i, j, rfl, rfl, hz, q⟩ := h
  obtain ⟨t, rfl⟩ := rx
  obtain ⟨t', rfl⟩ := ry
  exact iadd_str (fun t' tk => ⟨.str (i ++ j), H, I.tok _, ⟨_, rfl⟩, q⟩) hz
theorem op_add_byt : OpR X (binaryOp .Add) (fun x y H Q => ∃ i j, x = .byt i ∧ y = .byt j ∧ i.size + j.size ≤ 16777216 ∧ Q (.byt (i ++ j)) H) := by
  intro pins s σ H x y v u Q I rx ry h
  obtain ⟨i, j, rfl, rfl, hz, q⟩ := h
  obtain ⟨t, rfl⟩ := rx
  obtain ⟨t', rfl⟩ := ry
  exact PySem.W.KBy.add_bytes hz (fun t' tk => ⟨.byt (i ++ j), H, I.tok _, ⟨_, rfl⟩, q⟩)

def PlainIxT (b : Expr) : Prop := ∀ o i, subscripted b false o i = operate [o, i] (getItem o i)
/-- s[i], 0 ≤ i < len -/
theorem pe_item_str (ha : PE X a ta) (hb : PE X b tb) (hs : PlainIxT b) :
    PE X (.Subscript a b pos) (tOp (fun x y H Q => ∃ z i c, x = .str z ∧ y = .int i ∧ 0 ≤ i ∧ i < 2 ^ 63 ∧ i < z.length ∧ z.cps[i.toNat]? = some c ∧ Q (.str ⟨#[c]⟩) H) ta tb) := by
  intro pins s σ H Q I h
  refine Subscript_ (binT ha hb I h fun v u s2 x y H2 I2 rx ry q => ?_)
  obtain ⟨z, i, c, rfl, rfl, h0, h63, h1, hc, q⟩ := q
  obtain ⟨t, rfl⟩ := rx
  obtain ⟨t', rfl⟩ := ry
  have e : seqIndex? i z.length = some i.toNat := PySem.StrLaws.seqIndex_nonneg h0 h1
  exact tail_any (typeIs_str s2 z t) slot_str_getitem.lookup (getItem_str (c := c) (by
    have e1 : decide (i < -(2 ^ 63 : Int)) = false := decide_eq_false (by omega)
    have e2 : decide (i ≥ 2 ^ 63) = false := decide_eq_false (by omega)
    rw [e1, e2] <;> rfl) (by rw [e]; exact hc) ⟨.str ⟨#[c]⟩, H2, I2.tok _, ⟨_, rfl⟩, q⟩) (hs _ _)
/-- b[i], 0 ≤ i < len -/
theorem pe_item_byt (ha : PE X a ta) (hb : PE X b tb) (hs : PlainIxT b) :
    PE X (.Subscript a b pos) (tOp (fun x y H Q => ∃ (z : List UInt8) (i : Int), x = .byt z.toArray ∧ y = .int i ∧ z.length ≤ sizeLine ∧ 0 ≤ i ∧ i < z.length ∧ Q (.int ((z.getD i.toNat 0).toNat : Nat)) H) ta tb) := by
  intro pins s σ H Q I h
  refine Subscript_ (binT ha hb I h fun v u s2 x y H2 I2 rx ry q => ?_)
  obtain ⟨z, i, rfl, rfl, hz, h0, h1, q⟩ := q
  obtain ⟨t, rfl⟩ := rx
  obtain ⟨t', rfl⟩ := ry
  have hl : sizeLine = 16777216 := sizeLine_eq
  exact tail_any (PySem.W.typeIs_bytes s2 z.toArray t) PySem.W.FB.slot_bytes_getitem.lookup (PySem.W.getItem_bytes (by omega) h0 h1 ⟨.int ((z.getD i.toNat 0).toNat : Nat), H2, I2.tok _, ⟨_, rfl⟩, q⟩) (hs _ _)

/-! ### scalar builtins, by CallR -/
theorem vals1 {x : V} {us : List Value} (r : Vals [x] us) : ∃ u, us = [u] ∧ RelV x u := by
  cases r with
  | cons r1 r2 => cases r2; exact ⟨_, rfl, r1⟩
theorem vals2 {x y : V} {us : List Value} (r : Vals [x, y] us) : ∃ u w', us = [u, w'] ∧ RelV x u ∧ RelV y w' := by
  cases r with
  | cons r1 r2 =>
    cases r2 with
    | cons r3 r4 => cases r4; exact ⟨_, _, rfl, r1, r3⟩
theorem call_abs : CallR X (.builtin "abs") (fun xs H Q => ∃ i, xs = [.int i] ∧ Q (.int (if i < 0 then -i else i)) H) := by
  intro pins s σ H xs us Q I r h
  obtain ⟨i, rfl, q⟩ := h
  obtain ⟨u, rfl, t, rfl⟩ := vals1 r
  exact call_abs_int fun u tk => ⟨.int (if i < 0 then -i else i), H, I.tok _, ⟨_, rfl⟩, q⟩
theorem call_max2 (hc : X.calm = true) : CallR X (.builtin "max") (fun xs H Q => ∃ i j, xs = [.int i, .int j] ∧ Q (.int (if j > i then j else i)) H) := by
  intro pins s σ H xs us Q I r h
  obtain ⟨i, j, rfl, q⟩ := h
  obtain ⟨u, w', rfl, ⟨t, rfl⟩, ⟨t', rfl⟩⟩ := vals2 r
  refine max_two_ints (I.ok.hd hc) fun h' tk k => ⟨_, H, I.kept k, ?_, q⟩
  by_cases hj : j > i
  · rw [if_pos hj, if_pos hj]; exact ⟨_, rfl⟩
  · rw [if_neg hj, if_neg hj]; exact ⟨_, rfl⟩
theorem call_min2 (hc : X.calm = true) : CallR X (.builtin "min") (fun xs H Q => ∃ i j, xs = [.int i, .int j] ∧ Q (.int (if j < i then j else i)) H) := by
  intro pins s σ H xs us Q I r h
  obtain ⟨i, j, rfl, q⟩ := h
  obtain ⟨u, w', rfl, ⟨t, rfl⟩, ⟨t', rfl⟩⟩ := vals2 r
  refine min_two_ints (I.ok.hd hc) fun h' tk k => ⟨_, H, I.kept k, ?_, q⟩
  by_cases hj : j < i
  · rw [if_pos hj, if_pos hj]; exact ⟨_, rfl⟩
  · rw [if_neg hj, if_neg hj]; exact ⟨_, rfl⟩
theorem call_int1 : CallR X (.type "int") (fun xs H Q => (∃ i, xs = [.int i] ∧ Q (.int i) H) ∨ ∃ k, xs = [.bl k] ∧ Q (.int (if k then 1 else 0)) H) := by
  intro pins s σ H xs us Q I r h
  rcases h with ⟨i, rfl, q⟩ | ⟨k, rfl, q⟩
  · obtain ⟨u, rfl, t, rfl⟩ := vals1 r
    exact call_int_int ⟨.int i, H, I, ⟨_, rfl⟩, q⟩
  · obtain ⟨u, rfl, r1⟩ := vals1 r
    cases r1
    exact call_int_bool ⟨.int (if k then 1 else 0), H, I.tok _, ⟨_, rfl⟩, q⟩
theorem call_bool1 : CallR X (.type "bool") (fun xs H Q => (∃ i, xs = [.int i] ∧ Q (.bl (i != 0)) H) ∨ ∃ k, xs = [.bl k] ∧ Q (.bl k) H) := by
  intro pins s σ H xs us Q I r h
  rcases h with ⟨i, rfl, q⟩ | ⟨k, rfl, q⟩
  · obtain ⟨u, rfl, t, rfl⟩ := vals1 r
    exact call_bool_int ⟨.bl (i != 0), H, I, rfl, q⟩
  · obtain ⟨u, rfl, r1⟩ := vals1 r
    cases r1
    exact call_bool_bool ⟨.bl k, H, I, rfl, q⟩
theorem call_str_int : CallR X (.type "str") (fun xs H Q => ∃ i, xs = [.int i] ∧ i.natAbs.log2 < 1920 ∧ Q (.str (toString i)) H) := by
  intro pins s σ H xs us Q I r h
  obtain ⟨i, rfl, hz, q⟩ := h
  obtain ⟨u, rfl, t, rfl⟩ := vals1 r
  exact PySem.P.str_of_int hz ⟨.str _, H, I.tok _, ⟨_, rfl⟩, q⟩
theorem call_ord : CallR X (.builtin "ord") (fun xs H Q => ∃ x, xs = [.str x] ∧ x.length = 1 ∧ Q (.int (x.cps.getD 0 0 : Nat)) H) := by
  intro pins s σ H xs us Q I r h
  obtain ⟨x, rfl, hz, q⟩ := h
  obtain ⟨u, rfl, t, rfl⟩ := vals1 r
  exact ord_of_one hz ⟨.int _, H, I.tok _, ⟨_, rfl⟩, q⟩
theorem call_chr : CallR X (.builtin "chr") (fun xs H Q => ∃ i, xs = [.int i] ∧ 0 ≤ i ∧ i ≤ 1114111 ∧ Q (.str ⟨#[i.toNat]⟩) H) := by
  intro pins s σ H xs us Q I r h
  obtain ⟨i, rfl, h0, h1, q⟩ := h
  obtain ⟨u, rfl, t, rfl⟩ := vals1 r
  exact chr_of_range h0 h1 ⟨.str _, H, I.tok _, ⟨_, rfl⟩, q⟩
/-- len of a str, a bytes, a list, a tuple -/
def LenV (K : PySem.W.Frag) (x : V) (H : Hp) (n : Nat) : Prop :=
  match x with
  | .str y => y.length ≤ sizeLine ∧ n = y.length
  | .byt y => y.size ≤ sizeLine ∧ n = y.size
  | .ref p => (∃ xs, SqL K H p xs ∧ n = xs.length) ∨ ∃ xs, SqT K H p xs ∧ n = xs.length
  | _ => False
theorem call_len : CallR X (.builtin "len") (fun xs H Q => ∃ x n, xs = [x] ∧ LenV X.K x H n ∧ Q (.int n) H) := by
  intro pins s σ H xs us Q I r h
  obtain ⟨x, n, rfl, e, q⟩ := h
  obtain ⟨u, rfl, rx⟩ := vals1 r
  have hl := line63
  have hs : sizeLine = 16777216 := sizeLine_eq
  cases x with
  | str y =>
    obtain ⟨t, rfl⟩ := rx
    obtain ⟨hy, e'⟩ : y.length ≤ sizeLine ∧ n = y.length := e
    subst e'
    exact len_str (by omega) ⟨.int _, H, I.tok _, ⟨_, rfl⟩, q⟩
  | byt y =>
    obtain ⟨t, rfl⟩ := rx
    obtain ⟨hy, e'⟩ : y.size ≤ sizeLine ∧ n = y.size := e
    subst e'
    exact PySem.W.len_bytes (by omega) ⟨.int _, H, I.tok _, ⟨_, rfl⟩, q⟩
  | ref p =>
    cases rx
    have e' : (∃ xs, SqL X.K H p xs ∧ n = xs.length) ∨ ∃ xs, SqT X.K H p xs ∧ n = xs.length := e
    rcases e' with ⟨xs, hx, e'⟩ | ⟨xs, hx, e'⟩
    · subst e'
      obtain ⟨its, r', pl, hz⟩ := I.list hx
      have hlen := r'.length
      exact Calls.call_len_list pl.isList (by simp only [List.size_toArray]; omega) ⟨.int xs.length, H, I.tok _, ⟨_, by simp only [List.size_toArray]; rw [hlen]⟩, q⟩
    · subst e'
      obtain ⟨its, r', pl, hz⟩ := I.tuple hx
      have hlen := r'.length
      exact len_tuple pl (by simp only [List.size_toArray]; omega) ⟨.int xs.length, H, I.tok _, ⟨_, by simp only [List.size_toArray]; rw [hlen]⟩, q⟩
  | _ => exact (show False from e).elim
/-- divmod: a new tuple -/
theorem call_divmod : CallR X (.builtin "divmod") (fun xs H Q => ∃ i j, xs = [.int i, .int j] ∧ CDiv i j ∧ ∀ p, H p = none → Q (.ref p) (upd H p (.tup [.int (i / j), .int (i % j)]))) := by
  intro pins s σ H xs us Q I r h
  obtain ⟨i, j, rfl, ⟨h1, h2⟩, q⟩ := h
  obtain ⟨u, w', rfl, ⟨t, rfl⟩, ⟨t', rfl⟩⟩ := vals2 r
  refine divmod_int (by omega) ?_ (.inl (PyProof.noPylong_small (by omega)))
  rw [Int.fdiv_eq_ediv_of_nonneg i (by omega), Int.fmod_eq_emod_of_nonneg i (by omega)]
  have hn : H s.heap.objs.size = none := I.hok.fresh (Nat.le_refl _)
  refine ⟨.ref s.heap.objs.size, _, ?_, rfl, q _ hn⟩
  refine I.laid (fun b o e => Heap.get?_push_of_some _ e) (Nat.le_refl _) ⟨by simp only [List.length_cons, List.length_nil]; rw [sizeLine_eq]; decide, [.int (i / j) s.toks, .int (i % j) (s.toks + 1)], .cons ⟨_, rfl⟩ (.cons ⟨_, rfl⟩ .nil), ?_⟩
  exact ⟨_, Heap.get?_push_size s.heap rfl, rfl, 0, rfl⟩
end
end L2

namespace L2
open PySem PySem.Spec PyProof.Rows

/-! ### an instance, its attributes a map -/
structure ObjM (h : Heap) (x dx C : Addr) (mA : Str → Option Value) : Prop where
  obj : h.get? x = some (PySem.W.instObj C dx)
  ns : h.Ns1 dx mA
  ne : dx ≠ x

theorem lookIn_ns {h : Heap} {dx : Addr} {mA : Str → Option Value} (n : h.Ns1 dx mA) : ∃ od, h.get? dx = some od ∧ ∀ name, PySem.W.lookIn name od = some (mA name) := by
  obtain ⟨o, es, ep, ho, hd, hk, _, hm⟩ := n
  refine ⟨o, ho, fun name => ?_⟩
  have e := hm name
  unfold nsFind findBy at e
  rw [← Array.find?_toList] at e
  unfold PySem.W.lookIn
  rw [hd]
  dsimp only
  split
  · rename_i y q
    rw [q] at e
    exact congrArg some e
  · rename_i q
    rw [q] at e
    have a : es.toList.any (·.refKey) = false := by
      rw [List.any_eq_false]
      intro y hy
      obtain ⟨z, t, hkey⟩ := hk y (Array.mem_toList_iff.mp hy)
      simp [DictEntry.refKey, hkey]
    have a' : ¬ es.toList.any (·.refKey) = true := by rw [a]; exact Bool.false_ne_true
    rw [if_neg a']
    exact congrArg some e

theorem ObjM.look {h : Heap} {x dx C : Addr} {mA : Str → Option Value} (I : ObjM h x dx C mA) : ∃ od, PySem.W.InstAt h x (PySem.W.instObj C dx) C (some od) ∧ ∀ name, PySem.W.lookIn name od = some (mA name) :=
  let ⟨od, ho, hl⟩ := lookIn_ns I.ns
  ⟨od, ⟨I.obj, rfl, rfl, ho⟩, hl⟩

section
variable {prog : Program} {w : World} {A : Around} {E : Value → Shared → Prop} {s : Shared} {K : PySem.W.Frag} {x dx C f : Addr} {mA : Str → Option Value} {name : Str} {v : Value}

theorem get_map {expr : Bool} {Q : Value → Shared → Prop} (X : K.In s.heap) (I : ObjM s.heap x dx C mA) (hg : PySem.W.plainGet K C name = true) (hh : PySem.W.hasDictIn K C = true)
    (ha : PySem.W.findIn K (.ref C) name = some none) (hv : mA name = some v) (hv' : PySem.W.handedIn v = true) (h : Q v { s with toks := s.toks + 1 }) :
    wpAny (model prog w) A (getAttr (.ref x) name expr) Q E s := by
  obtain ⟨od, J, hl⟩ := I.look
  exact PySem.W.get_value X J (PySem.W.plainGet_of hg).1 (PySem.W.findObj_own hh ha rfl (by rw [hl, hv])) hv' h

theorem get_const {expr : Bool} {a : Value} {Q : Value → Shared → Prop} (X : K.In s.heap) (I : ObjM s.heap x dx C mA) (hg : PySem.W.plainGet K C name = true) (hh : PySem.W.hasDictIn K C = true)
    (ha : PySem.W.findIn K (.ref C) name = some (some a)) (hn : PySem.W.specialIn K a "__get__" = some none) (hc : PySem.W.copiedNames.contains name = false) (hv : mA name = none) (hv' : PySem.W.handedIn a = true)
    (h : Q a { s with toks := s.toks + 1 }) : wpAny (model prog w) A (getAttr (.ref x) name expr) Q E s := by
  obtain ⟨od, J, hl⟩ := I.look
  exact PySem.W.get_value X J (PySem.W.plainGet_of hg).1 (PySem.W.findObj_cls hh ha hn hv' hc (by rw [hl, hv])) hv' h

theorem get_meth {pl : Sem Bool} {Q : Value × List Value → Shared → Prop} (X : K.In s.heap) (I : ObjM s.heap x dx C mA) (hg : PySem.W.plainGet K C name = true)
    (hf : PySem.W.findIn K (.ref C) name = some (some (.ref f))) (ht : PySem.W.isFn K (.ref f) = true) (hv : mA name = none) (h : Q (.ref f, [.ref x]) s) :
    wpAny (model prog w) A (getMethod (.ref x) name pl) Q E s := by
  obtain ⟨od, J, hl⟩ := I.look
  exact PySem.W.method_fn X J (PySem.W.plainGet_of hg).1 (PySem.W.plainGet_of hg).2 hf (beq_iff_eq.mp ht) (by show (PySem.W.lookIn name od).map (·.isSome) = some false; rw [hl, hv]; rfl) h

theorem set_map {ns : List Str} {Q : Unit → Shared → Prop} (X : K.In s.heap) (I : ObjM s.heap x dx C mA)
    (hs : PySem.W.findIn K (.ref C) "__setattr__" = some (some (.builtin "object.__setattr__"))) (hp : PySem.W.plainOver K C = true) (ht : PySem.W.takerIn K C name = some none) (hh : PySem.W.hasDictIn K C = true)
    (hw : PySem.Within mA ns) (hsz : ns.length ≤ sizeLine)
    (h : ∀ h', ObjM h' x dx C (fun y => if y = name then some v else mA y) → Heap.SameBut dx s.heap h' → Q () { s with heap := h', toks := s.toks + 2 }) :
    wpAny (model prog w) A (setAttr (.ref x) name v) Q E s := by
  obtain ⟨od, J, hl⟩ := I.look
  refine PySem.W.set_plain X J hs (PySem.W.osa_open (s := { s with toks := s.toks + 1 }) (r := none) X J hp ht fun b => ?_)
  obtain ⟨cd, hc, hd'⟩ := PySem.W.any_some hh
  have hx : s.heap.get? x = some ⟨.ref C, some dx, .plain, #[]⟩ := I.obj
  refine wpAny_bind (wpAny_pure (wpAny_bind (wpAny_bind (wpAny_loadPart hx (wpAny_bind (PySem.W.Looks.here (s := { s with toks := s.toks + 1 }) (PySem.W.looks_clsIn X hc) ?_))))))
  rw [hd']
  refine wpAny_pure (a := some dx) (wpAny_bind (wpAny_pure (wpAny_bind ?_)))
  refine wpAny_nsSet1 (s := { s with toks := s.toks + 1 }) I.ns fun h' hn2 hs2 => ?_
  obtain ⟨oD, esD, epD, hoD, hdD, hcD⟩ := hn2.count (PySem.Within.cons name v hw)
  refine wpAny_bind (wpAny_lookBehind hoD (by rw [hdD]; exact pastItsLine_dict (Nat.le_trans hcD (by rw [List.length_cons]; omega))) ?_)
  exact wpAny_pure (h _ ⟨(hs2.2 _ (Ne.symm I.ne)).trans I.obj, hn2, I.ne⟩ hs2)

/-- C(..): the dict at the heap's end, the instance behind it; then its __init__ -/
theorem make_map {R : Result → Shared → Prop} {vs : List Value} {kw : List (Str × Value)} (X : K.In s.heap) (hm : PySem.W.makesIn K C = true)
    (hi : PySem.W.findIn K (.ref C) "__init__" = some (some (.ref f))) (hf : PySem.W.typeIn K (.ref f) = some (.type "function"))
    (h : codeAny (model prog w) (A.under (.builtin "type.__call__" ⟨.ref C :: vs, kw⟩)) (.call (.ref f) ⟨.ref (s.heap.objs.size + 1) :: vs, kw⟩) (PySem.W.InitBack (s.heap.objs.size + 1) R)
      { s with heap := (s.heap.push PySem.W.emptyDict).push (PySem.W.instObj C s.heap.objs.size) }) :
    codeAny (model prog w) A (.call (.ref C) ⟨vs, kw⟩) R s := by
  obtain ⟨hh, g, d, t, os⟩ := s
  exact PySem.W.make_core (PySem.W.makes_of X hm) (PySem.W.looks_findIn X hi) (fun self => PySem.W.bind_fn X self hf) (.inl rfl) h
/-- C() where there is no __init__ but object's -/
theorem make_map0 {R : Result → Shared → Prop} (X : K.In s.heap) (hm : PySem.W.makesIn K C = true)
    (hi : PySem.W.findIn K (.ref C) "__init__" = some (some (.builtin "object.__init__")))
    (hb : ∀ self, PySem.W.Looks (model prog w) s.heap (bindSpecial (.builtin "object.__init__") self) (.builtin "object.__init__", [self]))
    (h : codeAny (model prog w) (A.under (.builtin "type.__call__" ⟨[.ref C], []⟩)) (.call (.builtin "object.__init__") ⟨[.ref (s.heap.objs.size + 1)], []⟩) (PySem.W.InitBack (s.heap.objs.size + 1) R)
      { s with heap := (s.heap.push PySem.W.emptyDict).push (PySem.W.instObj C s.heap.objs.size) }) :
    codeAny (model prog w) A (.call (.ref C) ⟨[], []⟩) R s := by
  obtain ⟨hh, g, d, t, os⟩ := s
  exact PySem.W.make_core (PySem.W.makes_of X hm) (PySem.W.looks_findIn X hi) hb (.inr ⟨rfl, rfl⟩) h
end

/-! ### the attributes as a list of pairs -/
def putF (f : Str) (v : V) : List (Str × V) → List (Str × V)
  | [] => [(f, v)]
  | (g, x) :: r => if g = f then (g, v) :: r else (g, x) :: putF f v r
theorem lookup_putF (f g : Str) (v : V) : ∀ fs : List (Str × V), (putF f v fs).lookup g = if g = f then some v else fs.lookup g
  | [] => by
    show List.lookup g [(f, v)] = _
    by_cases h : g = f
    · have hb : (g == f) = true := beq_iff_eq.mpr h
      simp only [List.lookup, hb, if_pos h]
    · have hb : (g == f) = false := beq_eq_false_iff_ne.mpr h
      simp only [List.lookup, hb, if_neg h]
  | (k, x) :: r => by
    have ih := lookup_putF f g v r
    rw [show putF f v ((k, x) :: r) = (if k = f then (k, v) :: r else (k, x) :: putF f v r) from rfl]
    by_cases hk : k = f
    · rw [if_pos hk]
      by_cases h : g = k
      · have hb : (g == k) = true := beq_iff_eq.mpr h
        simp only [List.lookup, hb, if_pos (h.trans hk)]
      · have hb : (g == k) = false := beq_eq_false_iff_ne.mpr h
        simp only [List.lookup, hb, if_neg (fun e : g = f => h (e.trans hk.symm))]
    · rw [if_neg hk]
      by_cases h : g = k
      · have hb : (g == k) = true := beq_iff_eq.mpr h
        simp only [List.lookup, hb, if_neg (fun e : g = f => hk (h.symm.trans e))]
      · have hb : (g == k) = false := beq_eq_false_iff_ne.mpr h
        simp only [List.lookup, hb]
        exact ih
theorem keys_putF (f : Str) (v : V) : ∀ fs : List (Str × V), f ∈ (putF f v fs).map (·.1) ∧ ∀ g, g ∈ fs.map (·.1) → g ∈ (putF f v fs).map (·.1)
  | [] => ⟨by simp [putF], fun g h => by simp at h⟩
  | (k, x) :: r => by
    obtain ⟨i1, i2⟩ := keys_putF f v r
    rw [show putF f v ((k, x) :: r) = (if k = f then (k, v) :: r else (k, x) :: putF f v r) from rfl]
    by_cases hk : k = f
    · rw [if_pos hk]
      subst hk
      exact ⟨by simp, fun g h => by simpa using h⟩
    · rw [if_neg hk]
      refine ⟨?_, fun g h => ?_⟩
      · rw [List.map_cons]
        exact List.mem_cons_of_mem _ i1
      · rw [List.map_cons] at h ⊢
        rcases List.mem_cons.mp h with e | e
        · exact List.mem_cons.mpr (.inl e)
        · exact List.mem_cons_of_mem _ (i2 g e)
theorem length_putF (f : Str) (v : V) : ∀ fs : List (Str × V), (putF f v fs).length ≤ fs.length + 1
  | [] => by simp [putF]
  | (k, x) :: r => by
    have ih := length_putF f v r
    rw [show putF f v ((k, x) :: r) = (if k = f then (k, v) :: r else (k, x) :: putF f v r) from rfl]
    by_cases hk : k = f
    · rw [if_pos hk, List.length_cons, List.length_cons]; omega
    · rw [if_neg hk, List.length_cons, List.length_cons]; omega

theorem RelO.some_of {v : V} {o : Option Value} (r : RelO (some v) o) : ∃ u, o = some u ∧ RelV v u := by
  cases o with
  | none => exact (show False from r).elim
  | some u => exact ⟨u, rfl, r⟩
theorem RelO.none_of {o : Option Value} (r : RelO none o) : o = none := by
  cases o with
  | none => rfl
  | some u => exact (show False from r).elim
theorem handed_of {v : V} {u : Value} (r : RelV v u) : PySem.W.handedIn u = true := by
  cases v with
  | non => cases (show u = Value.none from r); rfl
  | bl b => cases (show u = Value.bool b from r); rfl
  | int i => obtain ⟨t, e⟩ := (show ∃ t, u = Value.int i t from r); cases e; rfl
  | str x => obtain ⟨t, e⟩ := (show ∃ t, u = Value.str x t from r); cases e; rfl
  | byt b => obtain ⟨t, e⟩ := (show ∃ t, u = Value.bytes b t from r); cases e; rfl
  | flt b => obtain ⟨t, e⟩ := (show ∃ t, u = Value.float b t from r); cases e; rfl
  | ref a => cases (show u = Value.ref a from r); rfl
  | ty n => cases (show u = Value.type n from r); rfl

section
variable {P : Program} {w : World} {H H' : Hp} {h h' : Heap} {a C dx : Addr} {fs fs' : List (Str × V)}
theorem ins_get (hok : HOk P w H h) (e : H a = some (.ins C dx fs)) : ∃ mA, ObjM h a dx C mA ∧ (∀ f, RelO (fs.lookup f) (mA f)) ∧ PySem.Within mA (fs.map (·.1)) ∧ fs.length ≤ 1000 ∧ H dx = some (.own a) := by
  obtain ⟨d, z, ne, ob, mA, n, r, q⟩ := (show ObjOk P w H h a (.ins C dx fs) from hok a _ e)
  exact ⟨mA, ⟨ob, n, ne⟩, r, q, z, d⟩
end

/-! ### what of the text a class must have -/
structure Cls (K : PySem.W.Frag) (C : Addr) : Prop where
  pg : PySem.W.plainGet K C Str.empty = true
  hd : PySem.W.hasDictIn K C = true
  po : PySem.W.plainOver K C = true
  sa : PySem.W.findIn K (.ref C) "__setattr__" = some (some (.builtin "object.__setattr__"))
theorem Cls.get {K : PySem.W.Frag} {C : Addr} (c : Cls K C) (f : Str) : PySem.W.plainGet K C f = true := c.pg
/-- no class of it has the name -/
def NoAttr (K : PySem.W.Frag) (C : Addr) (f : Str) : Prop := PySem.W.findIn K (.ref C) f = some none
theorem NoAttr.taker {K : PySem.W.Frag} {C : Addr} {f : Str} (n : NoAttr K C f) : PySem.W.takerIn K C f = some none := by
  unfold PySem.W.takerIn
  rw [show PySem.W.findIn K (.ref C) f = some none from n]
  rfl
/-- a constant of the class -/
structure Con (K : PySem.W.Frag) (C : Addr) (f : Str) (v : V) (u : Value) : Prop where
  at_ : PySem.W.findIn K (.ref C) f = some (some u)
  rel : RelV v u
  get : PySem.W.specialIn K u "__get__" = some none
  cp : PySem.W.copiedNames.contains f = false
/-- a method: a plain def of the class or of one above it -/
structure Meth (K : PySem.W.Frag) (C : Addr) (m : Str) (f : Addr) : Prop where
  at_ : PySem.W.findIn K (.ref C) m = some (some (.ref f))
  fn : PySem.W.isFn K (.ref f) = true
  kp : PySem.W.keepIn K (.ref f) = true

section
variable {X : Cx} {pins : List (Addr × Obj)} {σ : St} {H : Hp} {s : Shared} {a C dx : Addr} {fs : List (Str × V)} {f : Str} {v : V} {A : Around} {E : Value → Shared → Prop}

theorem getattr_ok {b : Bool} {Q : Value → Shared → Prop} (I : Inv X pins σ H s) (e : H a = some (.ins C dx fs)) (c : Cls X.K C) (n : NoAttr X.K C f) (l : fs.lookup f = some v)
    (h : ∀ u s', Inv X pins σ H s' → RelV v u → Q u s') : wpAny (model X.prog X.w) A (getAttr (.ref a) f b) Q E s := by
  obtain ⟨mA, O, r, _, _, _⟩ := ins_get I.hok e
  obtain ⟨u, hu, ru⟩ := RelO.some_of (v := v) (o := mA f) (by rw [← l]; exact r f)
  exact get_map I.kIn O (c.get f) c.hd n hu (handed_of ru) (h u _ (I.tok _) ru)

theorem getcon_ok {b : Bool} {u : Value} {Q : Value → Shared → Prop} (I : Inv X pins σ H s) (e : H a = some (.ins C dx fs)) (c : Cls X.K C) (k : Con X.K C f v u) (l : fs.lookup f = none)
    (h : ∀ s', Inv X pins σ H s' → Q u s') : wpAny (model X.prog X.w) A (getAttr (.ref a) f b) Q E s := by
  obtain ⟨mA, O, r, _, _, _⟩ := ins_get I.hok e
  have hn : mA f = none := RelO.none_of (by rw [← l]; exact r f)
  exact get_const I.kIn O (c.get f) c.hd k.at_ k.get k.cp hn (handed_of k.rel) (h _ (I.tok _))

theorem getmeth_ok {m : Str} {g : Addr} {pl : Sem Bool} {Q : Value × List Value → Shared → Prop} (I : Inv X pins σ H s) (e : H a = some (.ins C dx fs)) (c : Cls X.K C) (k : Meth X.K C m g) (l : fs.lookup m = none)
    (h : Q (.ref g, [.ref a]) s) : wpAny (model X.prog X.w) A (getMethod (.ref a) m pl) Q E s := by
  obtain ⟨mA, O, r, _, _, _⟩ := ins_get I.hok e
  have hn : mA m = none := RelO.none_of (by rw [← l]; exact r m)
  exact get_meth I.kIn O (c.get m) k.at_ k.fn hn h

theorem setattr_ok {y : V} {u : Value} {Q : Unit → Shared → Prop} (I : Inv X pins σ H s) (e : H a = some (.ins C dx fs)) (c : Cls X.K C) (n : NoAttr X.K C f) (hl : fs.length < 1000) (ry : RelV y u)
    (h : ∀ s', Inv X pins σ (upd H a (.ins C dx (putF f y fs))) s' → Q () s') : wpAny (model X.prog X.w) A (setAttr (.ref a) f u) Q E s := by
  obtain ⟨mA, O, r, wi, _, ho⟩ := ins_get I.hok e
  have hz : (fs.map (·.1)).length ≤ sizeLine := by rw [List.length_map, sizeLine_eq]; omega
  refine set_map I.kIn O c.sa c.po n.taker c.hd wi hz fun h' O' sb => h _ ?_
  have hd : ∃ o, h'.get? dx = some o := let ⟨o, _, _, e', _⟩ := O'.ns; ⟨o, e'⟩
  refine I.write (x := a) (e := dx) (by rw [e]; exact True.intro) (.inr ho) (fun b q hb z => (sb.2 b hb).trans z) hd ?_
  refine ⟨by rw [upd_ne O.ne]; exact ho, ?_, O.ne, O'.obj, _, O'.ns, fun g => ?_, fun g hg => ?_⟩
  · have := length_putF f y fs; omega
  · show RelO ((putF f y fs).lookup g) (if g = f then some u else mA g)
    rw [lookup_putF]
    by_cases q : g = f
    · rw [if_pos q, if_pos q]; exact ry
    · rw [if_neg q, if_neg q]; exact r g
  · by_cases q : g = f
    · rw [q]; exact (keys_putF f y fs).1
    · refine (keys_putF f y fs).2 g (wi g fun z => hg ?_)
      show (if g = f then some u else mA g) = none
      rw [if_neg q]; exact z

/-- a new instance, tracked, without attributes -/
theorem Inv.made (I : Inv X pins σ H s) : Inv X pins σ (upd (upd H s.heap.objs.size (.own (s.heap.objs.size + 1))) (s.heap.objs.size + 1) (.ins C s.heap.objs.size []))
    { s with heap := (s.heap.push PySem.W.emptyDict).push (PySem.W.instObj C s.heap.objs.size) } := by
  have e1 : (s.heap.push PySem.W.emptyDict).get? s.heap.objs.size = some PySem.W.emptyDict := Heap.get?_push_size s.heap rfl
  have e2 : ((s.heap.push PySem.W.emptyDict).push (PySem.W.instObj C s.heap.objs.size)).get? (s.heap.objs.size + 1) = some (PySem.W.instObj C s.heap.objs.size) := by
    have := Heap.get?_push_size (s.heap.push PySem.W.emptyDict) (o := PySem.W.instObj C s.heap.objs.size) rfl
    rwa [Heap.size_push] at this
  have e3 : (s.heap.push PySem.W.emptyDict).Ns s.heap.objs.size (fun _ => none) := ⟨PySem.W.emptyDict, #[], _, e1, rfl, (fun e he => absurd he (by simp)), fun _ => rfl⟩
  have I1 := I.laid (a := s.heap.objs.size) (o := .own (s.heap.objs.size + 1)) (h' := s.heap.push PySem.W.emptyDict) (t' := s.toks) (fun b u q => Heap.get?_push_of_some _ q) (Nat.le_refl _) ⟨_, e1⟩
  refine I1.laid (a := s.heap.objs.size + 1) (o := .ins C s.heap.objs.size []) (t' := s.toks) (fun b u q => Heap.get?_push_of_some _ q) (Nat.le_of_eq (Heap.size_push _ _)) ?_
  have ne : s.heap.objs.size ≠ s.heap.objs.size + 1 := Nat.ne_of_lt (Nat.lt_succ_self _)
  refine ⟨by rw [upd_ne ne, upd_same], Nat.zero_le _, ne, e2, fun _ => none, (Heap.Ns1.of_empty e3).at fun o q => Heap.get?_push_of_some _ q, fun _ => True.intro, fun y hy => absurd rfl hy⟩

/-- e.f where nothing but the object is asked: through attributeBase (super) and the last hold -/
theorem attr_of {prog : Program} {w : World} {env : Env} {e : Expr} {f : Str} {pos : Pos} {s : Shared} {Q : Value → Shared → Prop} (hb : attributeBase e f env (eval e env) = eval e env)
    (h : wpAny (model prog w) A (eval e env) (fun o s₁ => wpAny (model prog w) A (getAttr o f true) Q E s₁) E s) : wpAny (model prog w) A (eval (.Attribute e f pos) env) Q E s :=
  Attribute_any_ h (by rw [arm_eval_Attribute, hb])
end

/-! ### readings and rules -/
/-- e.f, an attribute of the instance -/
def tFld (K : PySem.W.Frag) (ta : TE) (f : Str) : TE := fun σ H Q => ta σ H fun x H1 => ∃ a C dx fs v, x = .ref a ∧ H1 a = some (.ins C dx fs) ∧ Cls K C ∧ NoAttr K C f ∧ fs.lookup f = some v ∧ Q v H1
/-- e.f, a constant of the class -/
def tCon (K : PySem.W.Frag) (ta : TE) (f : Str) : TE := fun σ H Q => ta σ H fun x H1 => ∃ a C dx fs v u, x = .ref a ∧ H1 a = some (.ins C dx fs) ∧ Cls K C ∧ Con K C f v u ∧ fs.lookup f = none ∧ Q v H1
/-- e.f = value -/
def sFld (K : PySem.W.Frag) (ta tv : TE) (f : Str) : TS := fun D σ H => tv σ H fun y H1 => ta σ H1 fun x H2 => ∃ a C dx fs, x = .ref a ∧ H2 a = some (.ins C dx fs) ∧ Cls K C ∧ NoAttr K C f ∧ fs.length < 1000 ∧
  D.nx σ (upd H2 a (.ins C dx (putF f y fs)))
/-- an augmented operator on two values -/
def InOp (X : Cx) (op : Operator) (rd : V → V → Hp → VK → Prop) : Prop :=
  ∀ (pins : List (Addr × Obj)) (s : Shared) (σ : St) (H : Hp) (x y : V) (u v : Value) (Q : VK), Inv X pins σ H s → RelV x u → RelV y v → rd x y H Q → wpAny (model X.prog X.w) X.A (inplaceOp op u v) (EP X pins σ Q) X.xe s
/-- e.f op= value -/
def sFldAug (K : PySem.W.Frag) (ta tv : TE) (rd : V → V → Hp → VK → Prop) (f : Str) : TS := fun D σ H => ta σ H fun x H1 => ∃ a C dx fs v, x = .ref a ∧ H1 a = some (.ins C dx fs) ∧ Cls K C ∧ NoAttr K C f ∧ fs.lookup f = some v ∧
  tv σ H1 fun y H2 => rd v y H2 fun z H3 => ∃ dx' fs', H3 a = some (.ins C dx' fs') ∧ fs'.length < 1000 ∧ D.nx σ (upd H3 a (.ins C dx' (putF f z fs')))

section
variable {X : Cx} {o e value : Expr} {f : Str} {pos pos' tpos : Pos} {ta tv : TE}
theorem pe_fld (he : PE X e ta) (hb : attributeBase e f X.env (eval e X.env) = eval e X.env) : PE X (.Attribute e f pos) (tFld X.K ta f) := by
  intro pins s σ H Q I h
  refine attr_of hb (thn (he pins s σ H _ I h) fun u s1 ⟨x, H1, I1, rx, a, C, dx, fs, v, ex, ea, c, n, l, q⟩ => ?_)
  subst ex
  obtain rfl : u = Value.ref a := rx
  exact getattr_ok I1 ea c n l fun u' s2 I2 ru => ⟨v, H1, I2, ru, q⟩
theorem pe_con (he : PE X e ta) (hb : attributeBase e f X.env (eval e X.env) = eval e X.env) : PE X (.Attribute e f pos) (tCon X.K ta f) := by
  intro pins s σ H Q I h
  refine attr_of hb (thn (he pins s σ H _ I h) fun u s1 ⟨x, H1, I1, rx, a, C, dx, fs, v, u0, ex, ea, c, k, l, q⟩ => ?_)
  subst ex
  obtain rfl : u = Value.ref a := rx
  exact getcon_ok I1 ea c k l fun s2 I2 => ⟨v, H1, I2, k.rel, q⟩
theorem ps_fld (ha : PE X o ta) (hv : PE X value tv) (hs : swapsWith value (some (.Attribute o f pos')) pos.line X.env = pure false) : PS X (.Assign [.Attribute o f pos'] value pos) (sFld X.K ta tv f) := by
  intro pins s σ H D I h
  refine plainObj_wpAny_Assign_Attribute (thn (hv pins s σ H _ I h) fun u s1 ⟨y, H1, I1, ry, q⟩ => thn (ha pins s1 σ H1 _ I1 q) fun ov s2 ⟨x, H2, I2, rx, a, C, dx, fs, ex, ea, c, n, l, q2⟩ => ?_) hs
  subst ex
  obtain rfl : ov = Value.ref a := rx
  exact setattr_ok I2 ea c n l ry fun s3 I3 => ⟨σ, _, I3, q2⟩
theorem ps_fldaug {op : Operator} {rd : V → V → Hp → VK → Prop} (ha : PE X o ta) (hv : PE X value tv) (hop : InOp X op rd) : PS X (.AugAssign (.Attribute o f tpos) op value pos) (sFldAug X.K ta tv rd f) := by
  intro pins s σ H D I h
  refine wpAny_AugAssign_AttributeAny (thn (ha pins s σ H _ I h) fun ov s1 ⟨x, H1, I1, rx, a, C, dx, fs, v, ex, ea, c, n, l, q⟩ => ?_)
  subst ex
  obtain rfl : ov = Value.ref a := rx
  refine getattr_ok I1 ea c n l fun u s2 I2 ru => thn (hv pins s2 σ H1 _ I2 q) fun w3 s3 ⟨y, H2, I3, ry, q3⟩ => thn (hop pins s3 σ H2 v y u w3 _ I3 ru ry q3) fun w4 s4 ⟨z, H3, I4, rz, dx', fs', ea', l', q4⟩ => ?_
  exact setattr_ok I4 ea' c n l' rz fun s5 I5 => ⟨σ, _, I5, q4⟩
def rAdd : V → V → Hp → VK → Prop := fun x y H Q => ∃ i j, x = .int i ∧ y = .int j ∧ Q (.int (i + j)) H
def rSub : V → V → Hp → VK → Prop := fun x y H Q => ∃ i j, x = .int i ∧ y = .int j ∧ Q (.int (i - j)) H
theorem in_add : InOp X .Add rAdd := by
  rintro pins s σ H x y u v Q I rx ry ⟨i, j, rfl, rfl, q⟩
  obtain ⟨t, rfl⟩ := (show ∃ t, u = Value.int i t from rx)
  obtain ⟨t', rfl⟩ := (show ∃ t', v = Value.int j t' from ry)
  exact PyProof.Rows.iadd_int ⟨.int (i + j), H, I.tok _, ⟨_, rfl⟩, q⟩
theorem in_sub : InOp X .Sub rSub := by
  rintro pins s σ H x y u v Q I rx ry ⟨i, j, rfl, rfl, q⟩
  obtain ⟨t, rfl⟩ := (show ∃ t, u = Value.int i t from rx)
  obtain ⟨t', rfl⟩ := (show ∃ t', v = Value.int j t' from ry)
  exact PyProof.Rows.isub_int ⟨.int (i - j), H, I.tok _, ⟨_, rfl⟩, q⟩

/-- what is between an instance and its method: the tree of a method call -/
theorem methcall_of {pl : Sem Bool} {m : Str} {apos : Pos} {args : List Expr} {pins : List (Addr × Obj)} {s : Shared} {σ : St} {H : Hp} {Q : Value → Shared → Prop} {te : TE} (he : PE X e te) (I : Inv X pins σ H s)
    (h : te σ H fun x H1 => ∃ a C dx fs g, x = .ref a ∧ H1 a = some (.ins C dx fs) ∧ Cls X.K C ∧ Meth X.K C m g ∧ fs.lookup m = none ∧
      ∀ s1, Inv X pins σ H1 s1 → wpAny (model X.prog X.w) X.A (callWith pos (.ref g) [.ref a] (backTo pos (starEach args X.env)) (backToKw pos (keywordEach [] X.env))) Q X.xe s1)
    (ht : eval (.Call (.Attribute e m apos) args [] pos) X.env = (do
      let ov ← eval e X.env
      standAt apos.atName
      let (f, first) ← holding [ov] (getMethod ov m pl)
      callWith pos f first (backTo pos (starEach args X.env)) (backToKw pos (keywordEach [] X.env)))) :
    wpAny (model X.prog X.w) X.A (eval (.Call (.Attribute e m apos) args [] pos) X.env) Q X.xe s := by
  refine PySem.W.methodCall_KW (pl := pl) (thn (he pins s σ H _ I h) fun u s1 ⟨x, H1, I1, rx, a, C, dx, fs, g, ex, ea, c, k, l, q⟩ => ?_) ht
  subst ex
  obtain rfl : u = Value.ref a := rx
  exact getmeth_ok I1 ea c k l (q s1 I1)
end

/-! ### isinstance -/
section
variable {X : Cx} {pins : List (Addr × Obj)} {σ : St} {H : Hp} {s : Shared} {A : Around} {E : Value → Shared → Prop} {Q : Value → Shared → Prop} {c : Value} {b : Bool}
/-- the type of a value, as the fragment's deciders take it; for an instance its class -/
inductive TyOf (K : PySem.W.Frag) (H : Hp) : V → Value → Prop where
  | non : TyOf K H .non (.type "NoneType")
  | bl (x : Bool) : TyOf K H (.bl x) (.type "bool")
  | int (i : Int) : TyOf K H (.int i) (.type "int")
  | str (x : Str) : TyOf K H (.str x) (.type "str")
  | flt (x : UInt64) : TyOf K H (.flt x) (.type "float")
  | lst {a : Addr} {xs : List V} (e : H a = some (.lst xs)) : TyOf K H (.ref a) (.type "list")
  | frz {a : Addr} {o : Obj} {xs : List V} (e : H a = some (.frz o (.lst xs))) : TyOf K H (.ref a) (.type "list")
  | tup {a : Addr} {xs : List V} (e : H a = some (.tup xs)) : TyOf K H (.ref a) (.type "tuple")
  | dK {a : Addr} {kvs : List (Key × V)} (e : H a = some (.dK kvs)) : TyOf K H (.ref a) (.type "dict")
  | dT {a : Addr} {kvs : List (List Key × V)} (e : H a = some (.dT kvs)) : TyOf K H (.ref a) (.type "dict")
  | ins {a C dx : Addr} {fs : List (Str × V)} (e : H a = some (.ins C dx fs)) (cl : Cls K C) (ha : PySem.W.findIn K (.ref C) "__class__" = some (some (.builtin "object.__class__")))
      (hn : PySem.W.specialIn K (.builtin "object.__class__") "__get__" = some (some (.builtin "getset_descriptor.__get__"))) (htk : PySem.W.takesIn K (.builtin "object.__class__") = some true)
      (hm : PySem.W.mroIn K C (.type "object") = some true) : TyOf K H (.ref a) (.ref C)
/-- isinstance(x, c) for one class c, a built-in or an own one: kitOne's answer -/
theorem isinst_ok {x : V} {u t : Value} (I : Inv X pins σ H s) (rx : RelV x u) (ty : TyOf X.K H x t) (e : PySem.W.kitOne X.K t c = some b) (h : ∀ tk, Q (.bool b) { s with toks := tk }) :
    wpAny (model X.prog X.w) A (call (.builtin "isinstance") [u, c]) Q E s := by
  cases ty with
  | non => cases (show u = Value.none from rx); exact PySem.W.kia_one PySem.W.kitx_none I.kIn True.intro e (fun z => nomatch z) h
  | bl y => cases (show u = Value.bool y from rx); exact PySem.W.kia_one PySem.W.kitx_bool I.kIn True.intro e (fun z => nomatch z) h
  | int i => obtain ⟨t, q⟩ := (show ∃ t, u = Value.int i t from rx); cases q; exact PySem.W.kia_one PySem.W.kitx_int I.kIn True.intro e (fun z => nomatch z) h
  | str y => obtain ⟨t, q⟩ := (show ∃ t, u = Value.str y t from rx); cases q; exact PySem.W.kia_one PySem.W.kitx_str I.kIn True.intro e (fun z => nomatch z) h
  | flt y => obtain ⟨t, q⟩ := (show ∃ t, u = Value.float y t from rx); cases q; exact PySem.W.kia_one PySem.W.kitx_float I.kIn True.intro e (fun z => nomatch z) h
  | @lst a xs ea =>
    cases (show u = Value.ref a from rx)
    obtain ⟨_, _, n, _, h1⟩ := (show ObjOk X.prog X.w H s.heap a (.lst xs) from I.hok a _ ea)
    exact PySem.W.kia_one PySem.W.kitx_list I.kIn ⟨_, h1, rfl⟩ e (fun z => nomatch z) h
  | @frz a ob xs ea =>
    cases (show u = Value.ref a from rx)
    obtain ⟨_, _, _, n, _, h1⟩ := (show ObjOk X.prog X.w H s.heap a (.frz ob (.lst xs)) from I.hok a _ ea)
    exact PySem.W.kia_one PySem.W.kitx_list I.kIn ⟨_, h1, rfl⟩ e (fun z => nomatch z) h
  | @tup a xs ea =>
    cases (show u = Value.ref a from rx)
    obtain ⟨_, _, _, p⟩ := (show ObjOk X.prog X.w H s.heap a (.tup xs) from I.hok a _ ea)
    obtain ⟨o, h1, h2, _⟩ := p
    exact PySem.W.kia_one PySem.W.kitx_tuple I.kIn ⟨o, h1, h2⟩ e (fun z => nomatch z) h
  | @dK a kvs ea =>
    cases (show u = Value.ref a from rx)
    obtain ⟨_, _, vs, _, p⟩ := (show ObjOk X.prog X.w H s.heap a (.dK kvs) from I.hok a _ ea)
    obtain ⟨o, es, ep, h1, h2, _⟩ := p
    exact PySem.W.kia_one PySem.W.kitx_dict I.kIn ⟨o, h1, h2.1⟩ e (fun z => nomatch z) h
  | @dT a kvs ea =>
    cases (show u = Value.ref a from rx)
    obtain ⟨_, _, xs, _, o, es, ep, h1, h2, _⟩ := (show ObjOk X.prog X.w H s.heap a (.dT kvs) from I.hok a _ ea)
    exact PySem.W.kia_one PySem.W.kitx_dict I.kIn ⟨o, h1, h2.1⟩ e (fun z => nomatch z) h
  | @ins a C dx fs ea cl ha hn htk hm =>
    cases (show u = Value.ref a from rx)
    obtain ⟨mA, O, _⟩ := ins_get I.hok ea
    obtain ⟨od, J, _⟩ := O.look
    exact PySem.W.kia_one (PySem.W.kitx_own (cl.get _) cl.hd ha hn htk hm) I.kIn J e (fun z => nomatch z) h
end
end L2

namespace L2
open PySem PySem.Spec PyProof.Rows

/-! ### room -/
structure Room (k : Nat) (A : Around) : Prop where
  hd : A.handled = none
  dp : A.depth + 3 * k + 5 < recursionLimit
  un : A.units + 16 * k + 200 < cLine
theorem Room.mono {j k : Nat} {A : Around} (r : Room k A) (h : j ≤ k) : Room j A := ⟨r.hd, by have := r.dp; omega, by have := r.un; omega⟩
theorem Room.deeper {k : Nat} {A : Around} (r : Room (k + 1) A) (env : Env) : Room k (A.deeper env) :=
  ⟨r.hd, by have := r.dp; show A.depth + 1 + 3 * k + 5 < _; omega, by have := r.un; show A.units + 3 + 16 * k + 200 < _; omega⟩
theorem Room.in1 {k : Nat} {A : Around} (r : Room (k + 1) A) : Room k A.in1 :=
  ⟨r.hd, by have := r.dp; show A.depth + 3 * k + 5 < _; omega, by have := r.un; show A.units + 1 + 16 * k + 200 < _; omega⟩
theorem make_depth {A : Around} {C : Addr} {us : List Value} {kw : List (Str × Value)} : (A.under (.builtin "type.__call__" ⟨.ref C :: us, kw⟩)).depth = A.depth + 1 := by
  first | rfl | simp [Around.under, Code.weight, Code.isCreation, Code.isGuard, Code.isCaller, Code.frames, Code.isFrame, guardIds]
theorem make_units {A : Around} {C : Addr} {us : List Value} {kw : List (Str × Value)} : (A.under (.builtin "type.__call__" ⟨.ref C :: us, kw⟩)).units = A.units + 1 := by
  first | rfl | simp [Around.under, Code.cUnits, Code.frames, Code.isFrame]
theorem Room.make {k : Nat} {A : Around} (r : Room (k + 1) A) (C : Addr) (us : List Value) (kw : List (Str × Value)) : Room k (A.under (.builtin "type.__call__" ⟨.ref C :: us, kw⟩)) :=
  ⟨r.hd, by have := r.dp; rw [make_depth]; omega, by have := r.un; rw [make_units]; omega⟩
theorem Room.depth {k : Nat} {A : Around} (r : Room k A) : A.depth < recursionLimit := by have := r.dp; omega
theorem Room.units {k : Nat} {A : Around} (r : Room k A) : A.units + 64 < cLine := by have := r.un; omega
theorem Room.units0 {k : Nat} {A : Around} (r : Room k A) : A.units < cLine := by have := r.un; omega

/-! ### argument lists and displays -/
def tNil : TA := fun _ H Q => Q [] H
def tCons (ta : TE) (tr : TA) : TA := fun σ H Q => ta σ H fun x H1 => tr σ H1 fun xs H2 => Q (x :: xs) H2
section
variable {X : Cx} {e : Expr} {es : List Expr} {te : TE} {t : TA} {pos : Pos}
theorem pa_nil : PA X [] tNil := fun _ _ _ _ H Q I h => Calls.spliced_nil ⟨[], H, I, .nil, h⟩
theorem pa_cons (ha : PE X e te) (hr : PA X es t) (hs : starEach (e :: es) X.env = (false, eval e X.env) :: starEach es X.env := by rfl) : PA X (e :: es) (tCons te t) := by
  intro pos pins s σ H Q I h
  rw [hs]
  show wpAny _ _ (spliced ((false, eval e X.env) :: backTo pos (starEach es X.env))) _ _ s
  refine Calls.spliced_cons (thn (ha pins s σ H _ I h) fun u s1 ⟨x, H1, I1, r1, q1⟩ => ?_)
  exact thn (hr pos pins s1 σ H1 _ I1 q1) fun us s2 ⟨xs, H2, I2, r2, q2⟩ => ⟨x :: xs, H2, I2, .cons r1 r2, q2⟩

/-- a tuple, a list of written items -/
def tTup (t : TA) : TE := fun σ H Q => t σ H fun xs H1 => xs.length ≤ sizeLine ∧ ∀ p, H1 p = none → Q (.ref p) (upd H1 p (.tup xs))
def tLst (t : TA) : TE := fun σ H Q => t σ H fun xs H1 => xs.length ≤ sizeLine ∧ ∀ p, H1 p = none → Q (.ref p) (upd H1 p (.lst xs))
theorem pe_tup {x1} (h : PA X es t) : PE X (.Tuple es x1 pos) (tTup t) := by
  intro pins s σ H Q I hq
  refine wpAny_Tuple_spliced (thn (h pos pins s σ H _ I hq) fun us s1 ⟨xs, H1, I1, r, z, q⟩ => ⟨by rw [← r.length]; exact z, ?_⟩)
  have hf : H1 s1.heap.objs.size = none := I1.hok.fresh (Nat.le_refl _)
  refine ⟨.ref s1.heap.objs.size, upd H1 s1.heap.objs.size (.tup xs), I1.laid (t' := s1.toks) (fun b u e => Heap.get?_push_of_some _ e) (Nat.le_refl _) ?_, rfl, q _ hf⟩
  exact ⟨z, us, r, ⟨_, Heap.get?_push_size _ rfl, rfl, _, rfl⟩⟩
theorem pe_lst (h : PA X es t) : PE X (.List es pos) (tLst t) := by
  intro pins s σ H Q I hq
  refine wpAny_List_spliced (thn (h pos pins s σ H _ I hq) fun us s1 ⟨xs, H1, I1, r, z, q⟩ => ⟨by rw [← r.length]; exact z, ?_⟩)
  have hf : H1 s1.heap.objs.size = none := I1.hok.fresh (Nat.le_refl _)
  refine ⟨.ref s1.heap.objs.size, upd H1 s1.heap.objs.size (.lst xs), I1.laid (t' := s1.toks) (fun b u e => Heap.get?_push_of_some _ e) (Nat.le_refl _) ?_, rfl, q _ hf⟩
  exact ⟨z, us, 0, r, Heap.get?_push_size _ rfl⟩
end

/-! ### what a def promises -/
/-- a def's promise: the bound arguments in the parameters' order, the heap, the wanted end, the wanted exception -/
abbrev Sp := List V → Hp → VK → XK → Prop
/-- how an exception lies behind a call (file 08 gives it): the callers' frames, abstract heap and state ahead of the call, the wish, the exception, the state -/
abbrev CXT := List Env → Hp → Shared → XK → Value → Shared → Prop

/-- the state at a call -/
structure Env0 (P : Program) (w : World) (K : PySem.W.Frag) (mg : Str → Option Value) (base : Heap) (A : Around) (outer : List Env) (s : Shared) (H : Hp) : Prop where
  frames : A.frames = some outer
  mod : Mod K mg base
  bs : ∀ b o, base.get? b = some o → s.heap.get? b = some o ∧ H b = none
  bsz : base.objs.size ≤ s.heap.objs.size
  funs : s.heap.FunFrames base outer
  frf : ∀ b ∈ frs outer, H b = none
  hok : HOk P w H s.heap
  bare : AllBare s.gens
/-- a call's end -/
def CE (outer : List Env) (P : Program) (w : World) (H : Hp) (s : Shared) (Q : VK) (u : Value) (s' : Shared) : Prop :=
  ∃ v H', s'.os = s.os ∧ AllBare s'.gens ∧ Un (frs outer) [] H H' s.heap s'.heap ∧ HOk P w H' s'.heap ∧ RelV v u ∧ Q v H'
def CR (CX : CXT) (outer : List Env) (P : Program) (w : World) (H : Hp) (s : Shared) (Q : VK) (E : XK) (r : Result) (s' : Shared) : Prop :=
  match r with
  | .ok (.ret u) => CE outer P w H s Q u s'
  | .ok _ => False
  | .error e => CX outer H s E e s'
structure FnOk (P : Program) (w : World) (K : PySem.W.Frag) (mg : Str → Option Value) (base : Heap) (CX : CXT) (k : Nat) (f : Addr) (fd : FuncData) (ps : List Str) (sp : Sp) : Prop where
  len : ∀ vs H Q E, sp vs H Q E → vs.length = ps.length
  run : ∀ (A : Around) (outer : List Env) (s : Shared) (H : Hp) (args : Args) (us : List Value) (vs : List V) (Q : VK) (E : XK), Room k A → Env0 P w K mg base A outer s H → BindsTo s fd args (ps.zip us) → Vals vs us → sp vs H Q E →
    codeAny (model P w) A (.call (.ref f) args) (CR CX outer P w H s Q E) s
theorem FnOk.mono {P : Program} {w : World} {K : PySem.W.Frag} {mg : Str → Option Value} {base : Heap} {CX : CXT} {j k : Nat} {f : Addr} {fd : FuncData} {ps : List Str} {sp : Sp} (F : FnOk P w K mg base CX j f fd ps sp) (h : j ≤ k) :
    FnOk P w K mg base CX k f fd ps sp := ⟨F.len, fun A outer s H args us vs Q E hr => F.run A outer s H args us vs Q E (hr.mono h)⟩
/-- a weaker promise -/
theorem FnOk.imp {P : Program} {w : World} {K : PySem.W.Frag} {mg : Str → Option Value} {base : Heap} {CX : CXT} {k : Nat} {f : Addr} {fd : FuncData} {ps : List Str} {sp sp' : Sp} (F : FnOk P w K mg base CX k f fd ps sp)
    (h : ∀ vs H Q E, sp' vs H Q E → sp vs H Q E) : FnOk P w K mg base CX k f fd ps sp' :=
  ⟨fun vs H Q E q => F.len vs H Q E (h _ _ _ _ q), fun A outer s H args us vs Q E hr he hb hv hs => F.run A outer s H args us vs Q E hr he hb hv (h _ _ _ _ hs)⟩

theorem Env0.make {P : Program} {w : World} {K : PySem.W.Frag} {mg : Str → Option Value} {base : Heap} {A : Around} {outer : List Env} {s : Shared} {H : Hp} (e : Env0 P w K mg base A outer s H) (C : Addr) (us : List Value) (kw : List (Str × Value)) :
    Env0 P w K mg base (A.under (.builtin "type.__call__" ⟨.ref C :: us, kw⟩)) outer s H := ⟨by first | exact e.frames | (simpa [Around.under, Code.envs, Code.isFrame, pushEnvs] using e.frames), e.mod, e.bs, e.bsz, e.funs, e.frf, e.hok, e.bare⟩
theorem Env0.in1 {P : Program} {w : World} {K : PySem.W.Frag} {mg : Str → Option Value} {base : Heap} {A : Around} {outer : List Env} {s : Shared} {H : Hp} (e : Env0 P w K mg base A outer s H) :
    Env0 P w K mg base A.in1 outer s H := ⟨e.frames, e.mod, e.bs, e.bsz, e.funs, e.frf, e.hok, e.bare⟩

section
variable {X : Cx} {pins : List (Addr × Obj)} {σ : St} {H : Hp} {s s' : Shared}
/-- from a body: what a callee wants -/
theorem Inv.env0 (I : Inv X pins σ H s) : Env0 X.prog X.w X.K X.mg X.base X.A X.stack s H :=
  ⟨I.ok.frames, I.ok.mod, I.bs, Nat.le_trans I.ok.bsz I.sz, I.stack, I.stkFree, I.hok, I.bare⟩
/-- behind a call -/
theorem Inv.after {Q : VK} {u : Value} (I : Inv X pins σ H s) (h : CE X.stack X.prog X.w H s Q u s') : EP X pins σ Q u s' := by
  obtain ⟨v, H', os, bare, un, hok, r, q⟩ := h
  obtain ⟨hh, g, d, t, os'⟩ := s'
  obtain rfl : os' = s.os := os
  exact ⟨v, H', I.call (h' := hh) (g' := g) (d' := d) (t' := t) (ch := []) un hok bare (fun b z => absurd z (by simp)), r, q⟩
end

/-! ### calls -/
/-- f(..): the written arguments, then the defaults dvs; E: what is wanted of an exception -/
def tCall (sp : Sp) (dvs : List V) (E : XK) (t : TA) : TE := fun σ H Q => t σ H fun vs H1 => sp (vs ++ dvs) H1 Q E
/-- o.m(..) of an instance of the class at C -/
def tMeth (C : Addr) (m : Str) (sp : Sp) (dvs : List V) (E : XK) (ta : TE) (t : TA) : TE := fun σ H Q => ta σ H fun x H1 => ∃ a dx fs, x = .ref a ∧ H1 a = some (.ins C dx fs) ∧ fs.lookup m = none ∧
  t σ H1 fun vs H2 => sp (x :: (vs ++ dvs)) H2 Q E
/-- C(..): a new instance and its dict, then __init__ -/
def tMake (C : Addr) (sp : Sp) (dvs : List V) (E : XK) (t : TA) : TE := fun σ H Q => t σ H fun vs H1 => ∀ x dx, H1 x = none → H1 dx = none → dx ≠ x →
  sp (.ref x :: (vs ++ dvs)) (upd (upd H1 dx (.own x)) x (.ins C dx [])) (fun v H2 => v = .non ∧ Q (.ref x) H2) E

/-- how the parameters are bound: us the positional arguments, kw the keywords' values by name, ds the defaults that fill up -/
def Binds (K : PySem.W.Frag) (fd : FuncData) (ps : List Str) (ds : List Value) : Prop :=
  ∀ (s : Shared) (us : List Value), K.In s.heap → (us ++ ds).length = ps.length → BindsTo s fd ⟨us, []⟩ (ps.zip (us ++ ds))
/-- every parameter is given -/
theorem Binds.all {K : PySem.W.Frag} {fd : FuncData} {ps : List Str} (h : ∀ us : List Value, us.length = ps.length → bindArgs fd ⟨us, []⟩ = pure (ps.zip us)) : Binds K fd ps [] := fun s us _ hl => by
  rw [List.append_nil] at hl ⊢
  exact .of_eq (h us hl)

/-- an exception of a callee reaches what this body wants of exceptions -/
def Passes (CX : CXT) (X : Cx) (E : XK) : Prop := ∀ (pins : List (Addr × Obj)) (σ : St) (H : Hp) (s : Shared) (e : Value) (s' : Shared), Inv X pins σ H s → CX X.stack H s E e s' → X.xe e s'

section
variable {X : Cx} {CX : CXT} {k : Nat} {f C : Addr} {fd : FuncData} {ps : List Str} {sp : Sp} {dvs : List V} {ds : List Value} {E : XK} {x m : Str} {p pos apos : Pos} {e o : Expr} {es : List Expr} {ta : TE} {t : TA}

/-- the callee runs -/
theorem run_fn {pins : List (Addr × Obj)} {σ : St} {H : Hp} {s : Shared} {Q : VK} {us : List Value} {vs : List V} (F : FnOk X.prog X.w X.K X.mg X.base CX k f fd ps sp) (hr : Room k X.A) (hb : Binds X.K fd ps ds) (hd : Vals dvs ds) (hx : Passes CX X E)
    (I : Inv X pins σ H s) (r : Vals vs us) (h : sp (vs ++ dvs) H Q E) : wpAny (model X.prog X.w) X.A (call (.ref f) us) (EP X pins σ Q) X.xe s := by
  have r2 : Vals (vs ++ dvs) (us ++ ds) := r.append hd
  have hl : (us ++ ds).length = ps.length := by rw [← r2.length]; exact F.len _ _ _ _ h
  refine wpAny_call (codeAny_mono (F.run X.A X.stack s H ⟨us, []⟩ (us ++ ds) (vs ++ dvs) Q E hr I.env0 (hb s us I.kIn hl) r2 h) fun r s' hq => ?_)
  cases r with
  | error e => exact hx pins σ H s e s' I hq
  | ok fl =>
    cases fl with
    | ret u => exact I.after hq
    | next => exact False.elim hq
    | brk => exact False.elim hq
    | cont => exact False.elim hq

theorem pe_call (F : FnOk X.prog X.w X.K X.mg X.base CX k f fd ps sp) (hr : Room k X.A) (hg : Gl X x) (hm : X.mg x = some (.ref f)) (hk : PySem.W.keepIn X.K (.ref f) = true) (hb : Binds X.K fd ps ds) (hd : Vals dvs ds) (hx : Passes CX X E)
    (ha : PA X (e :: es) t) (hdb : (x == ("__debug__" : Str)) = false := by decide) (he : starEach (e :: es) X.env = (false, eval e X.env) :: starEach es X.env := by rfl) (hpl : (backTo pos (starEach es X.env)).any (·.1) = false := by rfl) :
    PE X (.Call (.Name x p) (e :: es) [] pos) (tCall sp dvs E t) := by
  intro pins s σ H Q I h
  refine wpAny_Call_Name_kw (ld_glob I hg hm ?_ hdb)
  refine PySem.W.callWith_K (h₀ := X.base) I.ok.mod.kin hk (thn (ha pos pins s σ H _ I h) fun us s1 ⟨vs, H1, I1, r, q⟩ => ⟨I1.kIn, ?_⟩) he hpl
  exact run_fn F hr hb hd hx I1 r q
theorem pe_call0 (F : FnOk X.prog X.w X.K X.mg X.base CX k f fd ps sp) (hr : Room k X.A) (hg : Gl X x) (hm : X.mg x = some (.ref f)) (hk : PySem.W.keepIn X.K (.ref f) = true) (hb : Binds X.K fd ps ds) (hd : Vals dvs ds) (hx : Passes CX X E)
    (hdb : (x == ("__debug__" : Str)) = false := by decide) : PE X (.Call (.Name x p) [] [] pos) (tCall sp dvs E tNil) := by
  intro pins s σ H Q I h
  refine wpAny_Call_Name_kw (ld_glob I hg hm ?_ hdb)
  exact PySem.W.callWith_K0 I.kIn hk (run_fn (us := []) F hr hb hd hx I .nil h)

/-- o.m(e, ..) -/
theorem pe_meth {pl : Sem Bool} (he : PE X o ta) (c : Cls X.K C) (hm : Meth X.K C m f) (F : FnOk X.prog X.w X.K X.mg X.base CX k f fd ps sp) (hr : Room k X.A) (hb : Binds X.K fd ps ds) (hd : Vals dvs ds) (hx : Passes CX X E) (ha : PA X (e :: es) t)
    (hst : starEach (e :: es) X.env = (false, eval e X.env) :: starEach es X.env := by rfl) (hpl : (backTo pos (starEach es X.env)).any (·.1) = false := by rfl)
    (ht : eval (.Call (.Attribute o m apos) (e :: es) [] pos) X.env = (do
      let ov ← eval o X.env
      standAt apos.atName
      let (f, first) ← holding [ov] (getMethod ov m pl)
      callWith pos f first (backTo pos (starEach (e :: es) X.env)) (backToKw pos (keywordEach [] X.env))) := by rfl) :
    PE X (.Call (.Attribute o m apos) (e :: es) [] pos) (tMeth C m sp dvs E ta t) := by
  intro pins s σ H Q I h
  refine PySem.W.methodCall_KW (pl := pl) (thn (he pins s σ H _ I h) fun u s1 ⟨x, H1, I1, rx, a, dx, fs, ex, ea, l, q⟩ => ?_) ht
  subst ex
  obtain rfl : u = Value.ref a := rx
  refine getmeth_ok I1 ea c hm l ?_
  refine PySem.W.callWith_K (first := [.ref a]) (h₀ := X.base) I.ok.mod.kin hm.kp (thn (ha pos pins s1 σ H1 _ I1 q) fun us s2 ⟨vs, H2, I2, r, q2⟩ => ⟨I2.kIn, ?_⟩) hst hpl
  exact run_fn (us := .ref a :: us) (vs := .ref a :: vs) F hr hb hd hx I2 (.cons rfl r) q2
/-- o.m() -/
theorem pe_meth0 {pl : Sem Bool} (he : PE X o ta) (c : Cls X.K C) (hm : Meth X.K C m f) (F : FnOk X.prog X.w X.K X.mg X.base CX k f fd ps sp) (hr : Room k X.A) (hb : Binds X.K fd ps ds) (hd : Vals dvs ds) (hx : Passes CX X E)
    (ht : eval (.Call (.Attribute o m apos) [] [] pos) X.env = (do
      let ov ← eval o X.env
      standAt apos.atName
      let (f, first) ← holding [ov] (getMethod ov m pl)
      callWith pos f first (backTo pos (starEach [] X.env)) (backToKw pos (keywordEach [] X.env))) := by rfl) :
    PE X (.Call (.Attribute o m apos) [] [] pos) (tMeth C m sp dvs E ta tNil) := by
  intro pins s σ H Q I h
  refine PySem.W.methodCall_KW (pl := pl) (thn (he pins s σ H _ I h) fun u s1 ⟨x, H1, I1, rx, a, dx, fs, ex, ea, l, q⟩ => ?_) ht
  subst ex
  obtain rfl : u = Value.ref a := rx
  refine getmeth_ok I1 ea c hm l ?_
  exact PySem.W.callWith_K0 (first := [.ref a]) I1.kIn hm.kp (run_fn (us := [.ref a]) (vs := [.ref a]) F hr hb hd hx I1 (.cons rfl .nil) q)

/-- what a class must have to be made -/
structure Mk (K : PySem.W.Frag) (C f : Addr) : Prop where
  makes : PySem.W.makesIn K C = true
  init : PySem.W.findIn K (.ref C) "__init__" = some (some (.ref f))
  fn : PySem.W.isFn K (.ref f) = true
  kp : PySem.W.keepIn K (.ref C) = true

theorem run_make {pins : List (Addr × Obj)} {σ : St} {H : Hp} {s : Shared} {Q : VK} {us : List Value} {vs : List V} (M : Mk X.K C f) (F : FnOk X.prog X.w X.K X.mg X.base CX k f fd ps sp) (hr : Room (k + 1) X.A) (hb : Binds X.K fd ps ds) (hd : Vals dvs ds)
    (hx : Passes CX X E) (I : Inv X pins σ H s) (r : Vals vs us)
    (h : ∀ x dx, H x = none → H dx = none → dx ≠ x → sp (.ref x :: (vs ++ dvs)) (upd (upd H dx (.own x)) x (.ins C dx [])) (fun v H2 => v = .non ∧ Q (.ref x) H2) E) :
    wpAny (model X.prog X.w) X.A (call (.ref C) us) (EP X pins σ Q) X.xe s := by
  have hq := h (s.heap.objs.size + 1) s.heap.objs.size (I.hok.fresh (Nat.le_succ _)) (I.hok.fresh (Nat.le_refl _)) (Nat.ne_of_lt (Nat.lt_succ_self _))
  have I2 := Inv.made (C := C) I
  have r2 : Vals (V.ref (s.heap.objs.size + 1) :: (vs ++ dvs)) (Value.ref (s.heap.objs.size + 1) :: (us ++ ds)) := .cons rfl (r.append hd)
  have hl : (Value.ref (s.heap.objs.size + 1) :: us ++ ds).length = ps.length := by
    have e := r2.length
    rw [F.len _ _ _ _ hq] at e
    exact e.symm
  refine wpAny_call (make_map (f := f) I.kIn M.makes M.init (beq_iff_eq.mp M.fn) (codeAny_mono (F.run _ X.stack _ _ ⟨Value.ref (s.heap.objs.size + 1) :: us, []⟩ (Value.ref (s.heap.objs.size + 1) :: (us ++ ds)) _ _ E (hr.make C us [])
    (I2.env0.make C us []) (hb _ (Value.ref (s.heap.objs.size + 1) :: us) I2.kIn hl) r2 hq) fun r s' hq' => ?_))
  cases r with
  | error e => exact hx pins σ _ _ e s' I2 hq'
  | ok fl =>
    cases fl with
    | ret u =>
      obtain ⟨v, H', I3, rv, ev, q3⟩ := I2.after hq'
      subst ev
      exact ⟨rv, ⟨V.ref (s.heap.objs.size + 1), H', I3, rfl, q3⟩⟩
    | next => exact False.elim hq'
    | brk => exact False.elim hq'
    | cont => exact False.elim hq'
theorem pe_make (M : Mk X.K C f) (F : FnOk X.prog X.w X.K X.mg X.base CX k f fd ps sp) (hr : Room (k + 1) X.A) (hg : Gl X x) (hm : X.mg x = some (.ref C)) (hb : Binds X.K fd ps ds) (hd : Vals dvs ds) (hx : Passes CX X E)
    (ha : PA X (e :: es) t) (hdb : (x == ("__debug__" : Str)) = false := by decide) (he : starEach (e :: es) X.env = (false, eval e X.env) :: starEach es X.env := by rfl) (hpl : (backTo pos (starEach es X.env)).any (·.1) = false := by rfl) :
    PE X (.Call (.Name x p) (e :: es) [] pos) (tMake C sp dvs E t) := by
  intro pins s σ H Q I h
  refine wpAny_Call_Name_kw (ld_glob I hg hm ?_ hdb)
  refine PySem.W.callWith_K (h₀ := X.base) I.ok.mod.kin M.kp (thn (ha pos pins s σ H _ I h) fun us s1 ⟨vs, H1, I1, r, q⟩ => ⟨I1.kIn, ?_⟩) he hpl
  exact run_make M F hr hb hd hx I1 r q
theorem pe_make0 (M : Mk X.K C f) (F : FnOk X.prog X.w X.K X.mg X.base CX k f fd ps sp) (hr : Room (k + 1) X.A) (hg : Gl X x) (hm : X.mg x = some (.ref C)) (hb : Binds X.K fd ps ds) (hd : Vals dvs ds) (hx : Passes CX X E)
    (hdb : (x == ("__debug__" : Str)) = false := by decide) : PE X (.Call (.Name x p) [] [] pos) (tMake C sp dvs E tNil) := by
  intro pins s σ H Q I h
  refine wpAny_Call_Name_kw (ld_glob I hg hm ?_ hdb)
  exact PySem.W.callWith_K0 I.kIn M.kp (run_make (us := []) M F hr hb hd hx I .nil h)
end

/-! ### keywords -/
/-- the values of the keywords, from the left -/
def PK (X : Cx) (kws : List Keyword) (t : TA) : Prop :=
  ∀ (pos : Pos) (pins : List (Addr × Obj)) (s : Shared) (σ : St) (H : Hp) (Q : List V → Hp → Prop), Inv X pins σ H s → t σ H Q → wpAny (model X.prog X.w) X.A (evalAll ((backToKw pos (keywordEach kws X.env)).map (·.2))) (AP X pins σ Q) X.xe s
section
variable {X : Cx} {CX : CXT} {k : Nat} {f C : Addr} {fd : FuncData} {ps ks : List Str} {sp : Sp} {E : XK} {x m : Str} {p pos apos kpos : Pos} {e o : Expr} {es : List Expr} {kws : List Keyword} {te ta : TE} {t tk : TA} {nm : Option Str}
theorem pk_nil : PK X [] tNil := fun _ _ _ _ H Q I h => wpAny_evalAll_nil ⟨[], H, I, .nil, h⟩
theorem pk_cons (ha : PE X e te) (hr : PK X kws t) : PK X (⟨nm, e, kpos⟩ :: kws) (tCons te t) := by
  intro pos pins s σ H Q I h
  show wpAny _ _ (evalAll ((do let v ← eval e X.env; standAt pos; pure v) :: (backToKw pos (keywordEach kws X.env)).map (·.2))) _ _ s
  refine wpAny_evalAll_cons (wpAny_bind (thn (ha pins s σ H _ I h) fun u s1 ⟨x, H1, I1, r1, q1⟩ => wpAny_bind (wpAny_standAt (wpAny_pure ?_))))
  exact thn (hr pos pins s1 σ H1 _ I1 q1) fun us s2 ⟨xs, H2, I2, r2, q2⟩ => ⟨x :: xs, H2, I2, .cons r1 r2, q2⟩

/-- how a call with keywords binds: g puts the positional values us and the keywords' values ws (names ks) in the parameters' order, defaults among them -/
structure KBinds (K : PySem.W.Frag) (fd : FuncData) (ps ks : List Str) (g : List Value → List Value → List Value) (gV : List V → List V → List V) : Prop where
  to : ∀ (s : Shared) (us ws : List Value), K.In s.heap → (g us ws).length = ps.length → BindsTo s fd ⟨us, ks.zip ws⟩ (ps.zip (g us ws))
  rel : ∀ {vs : List V} {us : List Value} {zs : List V} {ws : List Value}, Vals vs us → Vals zs ws → Vals (gV vs zs) (g us ws)
def tCallK (sp : Sp) (gV : List V → List V → List V) (E : XK) (t tk : TA) : TE := fun σ H Q => t σ H fun vs H1 => tk σ H1 fun zs H2 => sp (gV vs zs) H2 Q E
variable {g : List Value → List Value → List Value} {gV : List V → List V → List V}
theorem run_fnk {pins : List (Addr × Obj)} {σ : St} {H : Hp} {s : Shared} {Q : VK} {us ws : List Value} {vs zs : List V} (F : FnOk X.prog X.w X.K X.mg X.base CX k f fd ps sp) (hr : Room k X.A) (hb : KBinds X.K fd ps ks g gV) (hx : Passes CX X E)
    (I : Inv X pins σ H s) (r : Vals vs us) (rz : Vals zs ws) (h : sp (gV vs zs) H Q E) : wpAny (model X.prog X.w) X.A (call (.ref f) us (ks.zip ws)) (EP X pins σ Q) X.xe s := by
  have r2 := hb.rel r rz
  have hl : (g us ws).length = ps.length := by rw [← r2.length]; exact F.len _ _ _ _ h
  refine wpAny_call (codeAny_mono (F.run X.A X.stack s H ⟨us, ks.zip ws⟩ (g us ws) (gV vs zs) Q E hr I.env0 (hb.to s us ws I.kIn hl) r2 h) fun r s' hq => ?_)
  cases r with
  | error e => exact hx pins σ H s e s' I hq
  | ok fl =>
    cases fl with
    | ret u => exact I.after hq
    | next => exact False.elim hq
    | brk => exact False.elim hq
    | cont => exact False.elim hq
/-- f(e, .., k = v, ..) -/
theorem pe_callK (F : FnOk X.prog X.w X.K X.mg X.base CX k f fd ps sp) (hr : Room k X.A) (hg : Gl X x) (hm : X.mg x = some (.ref f)) (hk : PySem.W.keepIn X.K (.ref f) = true) (hb : KBinds X.K fd ps ks g gV) (hx : Passes CX X E)
    (ha : PA X (e :: es) t) (hkw : PK X kws tk) (hall : (backToKw pos (keywordEach kws X.env)).all (·.1.isSome) = true := by rfl) (hks : (backToKw pos (keywordEach kws X.env)).filterMap (·.1) = ks := by rfl)
    (hdb : (x == ("__debug__" : Str)) = false := by decide) (he : starEach (e :: es) X.env = (false, eval e X.env) :: starEach es X.env := by rfl)
    (hpl : ((backTo pos (starEach (e :: es) X.env)).any (·.1) || (backToKw pos (keywordEach kws X.env)).any (·.1.isNone)) = false := by rfl) :
    PE X (.Call (.Name x p) (e :: es) kws pos) (tCallK sp gV E t tk) := by
  intro pins s σ H Q I h
  refine wpAny_Call_Name_kw (ld_glob I hg hm ?_ hdb)
  refine PySem.W.callWith_KW (h₀ := X.base) I.ok.mod.kin hk hall (thn (ha pos pins s σ H _ I h) fun us s1 ⟨vs, H1, I1, r, q⟩ => ?_) hpl he
  refine thn (hkw pos pins s1 σ H1 _ I1 q) fun ws s2 ⟨zs, H2, I2, rz, q2⟩ => ⟨I2.kIn, ?_⟩
  rw [hks]
  exact run_fnk F hr hb hx I2 r rz q2
end

/-! ### a def's body keeps its promise -/
/-- names: the parameters first -/
structure FnScope (N P : List Str) (sc : Scope) : Prop where
  kind : sc.kind = .function
  co : sc.isCoroutine = false
  gen : sc.isGenerator = false
  nd : N.Nodup
  pre : N.take P.length = P
  par : ∀ x ∈ P, sc.names.lookup x = some .local ∨ sc.names.lookup x = some .cell
  nofree : ∀ y ∈ sc.names, y.2 ≠ .free

theorem bindL_out {kindOf : Str → Option NameKind} {x : Str} : ∀ {binds : List (Str × Value)} {m : Str → Option Value}, (∀ v, (x, v) ∉ binds) → bindL kindOf binds m x = m x
  | [], _, _ => rfl
  | (n, v) :: r, m, h => by
    unfold bindL
    rw [bindL_out fun w hw => h w (List.mem_cons_of_mem _ hw)]
    split
    · have : x ≠ n := by rintro rfl; exact h v List.mem_cons_self
      simp [this]
    · rfl
theorem bindC_out {kindOf : Str → Option NameKind} {x : Str} : ∀ {binds : List (Str × Value)} {m : Str → Option Value}, (∀ v, (x, v) ∉ binds) → bindC kindOf binds m x = m x
  | [], _, _ => rfl
  | (n, v) :: r, m, h => by
    unfold bindC
    rw [bindC_out fun w hw => h w (List.mem_cons_of_mem _ hw)]
    split
    · rfl
    · have : x ≠ n := by rintro rfl; exact h v List.mem_cons_self
      simp [this]
theorem bindL_get {kindOf : Str → Option NameKind} {x : Str} {v : Value} : ∀ {P : List Str} {vs : List Value} {i : Nat} {m : Str → Option Value}, P.Nodup → P[i]? = some x → vs[i]? = some v → kindOf x = some .local →
    bindL kindOf (P.zip vs) m x = some v
  | [], _, _, _, _, h, _, _ => by simp at h
  | _ :: _, [], _, _, _, _, h, _ => by simp at h
  | p :: P, w :: vs, 0, m, nd, h1, h2, hk => by
    simp at h1 h2; subst h1; subst h2
    show bindL kindOf ((p, w) :: P.zip vs) m p = _
    unfold bindL
    rw [bindL_out fun v hv => (List.nodup_cons.mp nd).1 (List.of_mem_zip hv).1, if_pos hk]
    simp
  | p :: P, w :: vs, i + 1, m, nd, h1, h2, hk => by
    show bindL kindOf ((p, w) :: P.zip vs) m x = _
    unfold bindL
    exact bindL_get (i := i) (List.nodup_cons.mp nd).2 (by simpa using h1) (by simpa using h2) hk
theorem bindC_get {kindOf : Str → Option NameKind} {x : Str} {v : Value} : ∀ {P : List Str} {vs : List Value} {i : Nat} {m : Str → Option Value}, P.Nodup → P[i]? = some x → vs[i]? = some v → kindOf x ≠ some .local →
    bindC kindOf (P.zip vs) m x = some v
  | [], _, _, _, _, h, _, _ => by simp at h
  | _ :: _, [], _, _, _, _, h, _ => by simp at h
  | p :: P, w :: vs, 0, m, nd, h1, h2, hk => by
    simp at h1 h2; subst h1; subst h2
    show bindC kindOf ((p, w) :: P.zip vs) m p = _
    unfold bindC
    rw [bindC_out fun v hv => (List.nodup_cons.mp nd).1 (List.of_mem_zip hv).1, if_neg hk]
    simp
  | p :: P, w :: vs, i + 1, m, nd, h1, h2, hk => by
    show bindC kindOf ((p, w) :: P.zip vs) m x = _
    unfold bindC
    exact bindC_get (i := i) (List.nodup_cons.mp nd).2 (by simpa using h1) (by simpa using h2) hk

/-- the names' values at the entry -/
def start (N : List Str) (vs : List V) : St := vs.map some ++ List.replicate (N.length - vs.length) none

/-- the context of a def's body, at its entry; an exception leaves the frame, then lies as CX says -/
def cxOf (CX : CXT) (P : Program) (w : World) (K : PySem.W.Frag) (mg : Str → Option Value) (base : Heap) (N : List Str) (qual : Str) (scope : Scope) (f : Addr) (cd : Value) (A : Around) (outer : List Env) (s : Shared) (H : Hp) (E : XK) : Cx where
  prog := P
  w := w
  K := K
  mg := mg
  base := base
  A := A.deeper (envOfC qual scope s.heap.objs.size f cd)
  N := N
  s₀ := s
  H₀ := H
  env := envOfC qual scope s.heap.objs.size f cd
  outer := outer
  stack := envOfC qual scope s.heap.objs.size f cd :: outer
  ex := []
  calm := true
  fn := fun _ => true
  pn := []
  xe := fun e s' => wpAny (model P w) (A.deeper (envOfC qual scope s.heap.objs.size f cd)) (leaving (envOfC qual scope s.heap.objs.size f cd) e) (fun _ s'' => CX outer H s E e s'') (fun e' s'' => CX outer H s E e' s'') s'

theorem cell_has {sc : Scope} {n : Nat} {x : Str} (h : sc.names.lookup x = some .cell) : ∃ c, (cellsFrom n sc.names []).lookup x = some c := by
  have q := PySem.W.cellsFrom_some sc.names n [] (.inl h)
  exact Option.isSome_iff_exists.mp q

theorem inv_start {CX : CXT} {P : Program} {w : World} {K : PySem.W.Frag} {mg : Str → Option Value} {base : Heap} {N ps : List Str} {qual : Str} {scope : Scope} {f : Addr} {cd : Value} {A : Around} {outer : List Env} {s s1 : Shared} {H : Hp} {E : XK} {us : List Value} {vs : List V}
    (S : FnScope N ps scope) (hd : A.handled = none) (e0 : Env0 P w K mg base A outer s H) (hl : vs.length = ps.length) (r : Vals vs us)
    (x : InCallC s s.heap.objs.size (bindL (envOfC qual scope s.heap.objs.size f cd).kindOf (ps.zip us) fun _ => none) (cellsFrom (s.heap.objs.size + 1) scope.names []) (bindC (envOfC qual scope s.heap.objs.size f cd).kindOf (ps.zip us) fun _ => none) s1) :
    Inv (cxOf CX P w K mg base N qual scope f cd A outer s H E) [] (start N vs) H s1 := by
  have hpl : ps.length ≤ N.length := by have := congrArg List.length S.pre; rw [List.length_take] at this; omega
  obtain ⟨h1, tk, rfl, hk⟩ := x.done
  have noA : ∀ b : Addr, b ∉ (cxOf CX P w K mg base N qual scope f cd A outer s H E).ex := fun b z => absurd (show b ∈ ([] : List Addr) from z) (by simp)
  refine ⟨⟨e0.mod, S.kind, rfl, rfl, Nat.le_refl _, fun y z c h1 h2 => ?_, fun y hy => ?_, fun y c _ h => ?_, fun _ => hd, Around.frames_deeper e0.frames, .inr ⟨rfl, rfl⟩, fun b z => absurd z (noA b), e0.bs, e0.bsz, fun b _ _ => noA b, fun b z => absurd z (noA b), e0.funs, e0.frf⟩,
    rfl, e0.bare, Un.kept hk, ⟨_, x.toInCall.ns, fun i y v h1 h2 h3 => ?_⟩, fun y c h => ⟨_, x.cell y c h⟩, e0.hok.fresh (Nat.le_refl _), fun y c h => ?_, fun p hp => absurd (show p ∈ ([] : List (Addr × Obj)) from hp) (by simp), e0.hok.kept hk, ?_⟩
  · exact name_of_addr x.apart (PySem.mem_of_lookup h1) (PySem.mem_of_lookup h2)
  · have hy : scope.names.lookup y = some .cell ∨ scope.names.lookup y = some .free := hy
    rcases hy with hy | hy
    · exact cell_has hy
    · exact absurd rfl (S.nofree _ (PySem.mem_of_lookup hy))
  · exact Nat.le_of_lt (x.above y c (PySem.mem_of_lookup h))
  · have hi : i < vs.length := by
      unfold start at h2
      by_cases hi : i < vs.length
      · exact hi
      · rw [List.getElem?_append_right (by simpa using hi)] at h2
        rw [List.getElem?_replicate] at h2
        split at h2 <;> cases h2
    have ha : vs[i]? = some v := by
      unfold start at h2
      rw [List.getElem?_append_left (by simpa using hi), List.getElem?_map] at h2
      cases e : vs[i]? with
      | none => rw [e] at h2; cases h2
      | some a => rw [e] at h2; cases h2; rfl
    obtain ⟨u, hu, rv⟩ := r.get ha
    have hp : ps[i]? = some y := by
      rw [← S.pre, List.getElem?_take_of_lt (by omega)]; exact h1
    have ndP : ps.Nodup := by rw [← S.pre]; exact S.nd.sublist (List.take_sublist _ _)
    refine ⟨u, rv, ?_⟩
    rcases S.par y (List.mem_of_getElem? hp) with k | k
    · exact .inl ⟨k, bindL_get ndP hp hu k⟩
    · obtain ⟨c, e⟩ := cell_has (n := s.heap.objs.size + 1) k
      refine .inr ⟨.inl k, c, e, ?_⟩
      have q := x.cell y c e
      rw [bindC_get ndP hp hu (by show scope.names.lookup y ≠ _; rw [k]; decide)] at q
      exact q
  · exact e0.hok.fresh (Nat.le_of_lt (x.above y c (PySem.mem_of_lookup h)))
  · unfold start
    show _ = N.length
    rw [List.length_append, List.length_map, List.length_replicate]
    omega

/-- THE RULE: a def (or a method) of the text, by its body. The body's reading t is chosen for each entry; it is run at the parameters' values -/
theorem fn_of {CX : CXT} {P : Program} {w : World} {K : PySem.W.Frag} {mg : Str → Option Value} {base : Heap} {k : Nat} {f : Addr} {name qual : Str} {params : Arguments} {body : List Stmt} {scope : Scope} {dV kV doc pm cdv ct oc : Value} {an od : Option Addr}
    {osl : Array (Option Value)} {N ps : List Str} {sp : Sp} (lk : K.lookup f = some ⟨oc, od, .func (PySem.W.fnOf name qual params body scope dV kV doc pm an cdv ct), osl⟩) (hcd : PySem.W.codeIn K cdv qual = true) (S : FnScope N ps scope)
    (len : ∀ vs H Q E, sp vs H Q E → vs.length = ps.length)
    (hbody : ∀ (A : Around) (outer : List Env) (s : Shared) (H : Hp) (vs : List V) (Q : VK) (E : XK), Room k (A.deeper (envOfC qual scope s.heap.objs.size f cdv)) → sp vs H Q E →
      ∃ t, PSs (cxOf CX P w K mg base N qual scope f cdv A outer s H E) body t ∧ t { nx := fun _ H' => Q .non H', rt := Q } (start N vs) H) :
    FnOk P w K mg base CX (k + 1) f (PySem.W.fnOf name qual params body scope dV kV doc pm an cdv ct) ps sp := by
  refine ⟨len, fun A outer s H args us vs Q E hr e0 hb r hsp => ?_⟩
  have hl := len _ _ _ _ hsp
  have KX : K.In s.heap := e0.mod.kin.keeps fun b o e => (e0.bs b o e).1
  have lim : s.heap.NoLimit := e0.mod.nolimit.keeps fun b o e => (e0.bs b o e).1
  have hkind : ∀ y ∈ ps.zip us, scope.names.lookup y.1 = some .local ∨ (scope.names.lookup y.1 = some .cell ∧ ((cellsFrom (s.heap.objs.size + 1) scope.names []).lookup y.1).isSome = true) := fun ⟨n, v⟩ hy => by
    rcases S.par n (List.of_mem_zip hy).1 with q | q
    · exact .inl q
    · exact .inr ⟨q, PySem.W.cellsFrom_some _ _ _ (.inl q)⟩
  refine codeAny_call_function hr.depth (KX _ _ lk) rfl S.co S.gen rfl (PySem.W.codeRec_of KX hcd) (hb _ _ _ _ ?_)
  refine wpAny_newFunctionEnv_cells S.kind hkind fun env he s1 x => ?_
  subst he
  refine ⟨lim.keeps x.toInCall.keep, codeAny_func ?_⟩
  obtain ⟨t, ht, hq⟩ := hbody A outer s H vs Q E (hr.deeper _) hsp
  have I : Inv (cxOf CX P w K mg base N qual scope f cdv A outer s H E) [] (start N vs) H s1 := inv_start S hr.hd e0 hl r x
  refine wpAny_mono (ht [] s1 (start N vs) H _ I hq) (fun fl s' hs => ?_) fun e s' hs => hs
  have fin : ∀ {σ' : St} {H' : Hp} {v : V} {u : Value}, Inv (cxOf CX P w K mg base N qual scope f cdv A outer s H E) [] σ' H' s' → RelV v u → Q v H' → CE outer P w H s Q u s' :=
    fun {σ' H' v u} J rv q => ⟨v, H', J.os, J.bare, J.base, J.hok, rv, q⟩
  cases fl with
  | ret u =>
    obtain ⟨v, σ', H', J, rv, q⟩ := hs
    exact fin J rv q
  | next =>
    obtain ⟨σ', H', J, q⟩ := hs
    exact fin (v := V.non) (u := Value.none) J rfl q
  | brk =>
    obtain ⟨_, _, _, q⟩ := hs
    exact False.elim q
  | cont =>
    obtain ⟨_, _, _, q⟩ := hs
    exact False.elim q
end L2

namespace L2
open PySem PySem.Spec PyProof.Rows
section
variable {X : Cx} {x : Str} {p pos : Pos} {e : Expr} {es : List Expr} {t : TA} {id T : String} {r : List V → Hp → VK → Prop}

def tCB (r : List V → Hp → VK → Prop) (t : TA) : TE := fun σ H Q => t σ H fun vs H1 => r vs H1 Q
/-- f(e, ..), f a built-in function -/
theorem pe_callB (hc : CallR X (.builtin id) r) (hg : Gl X x) (hm : X.mg x = none) (hv : bootBuiltins x = some (.builtin id)) (ha : PA X (e :: es) t) (hn : x ≠ "__name__" := by decide) (hdb : (x == ("__debug__" : Str)) = false := by decide)
    (he : starEach (e :: es) X.env = (false, eval e X.env) :: starEach es X.env := by rfl) (hpl : (backTo pos (starEach es X.env)).any (·.1) = false := by rfl) : PE X (.Call (.Name x p) (e :: es) [] pos) (tCB r t) := by
  intro pins s σ H Q I h
  refine wpAny_Call_Name_kw (ld_blt I hg hm hv ?_ hn hdb)
  exact PyProof.Rows.callWith_builtin1 (thn (ha pos pins s σ H _ I h) fun us s1 ⟨vs, H1, I1, r1, q1⟩ => hc pins s1 σ H1 vs us Q I1 r1 q1) he hpl
/-- T(e, ..), T a built-in type -/
theorem pe_callTy (hc : CallR X (.type T) r) (hg : Gl X x) (hm : X.mg x = none) (hv : bootBuiltins x = some (.type T)) (ha : PA X (e :: es) t) (hn : x ≠ "__name__" := by decide) (hdb : (x == ("__debug__" : Str)) = false := by decide)
    (he : starEach (e :: es) X.env = (false, eval e X.env) :: starEach es X.env := by rfl) (hpl : (backTo pos (starEach es X.env)).any (·.1) = false := by rfl) : PE X (.Call (.Name x p) (e :: es) [] pos) (tCB r t) := by
  intro pins s σ H Q I h
  refine wpAny_Call_Name_kw (ld_blt I hg hm hv ?_ hn hdb)
  exact PyProof.Rows.callWith_type1 (thn (ha pos pins s σ H _ I h) fun us s1 ⟨vs, H1, I1, r1, q1⟩ => hc pins s1 σ H1 vs us Q I1 r1 q1) he hpl
/-- T() -/
theorem pe_callTy0 (hc : CallR X (.type T) r) (hg : Gl X x) (hm : X.mg x = none) (hv : bootBuiltins x = some (.type T)) (hn : x ≠ "__name__" := by decide) (hdb : (x == ("__debug__" : Str)) = false := by decide) :
    PE X (.Call (.Name x p) [] [] pos) (tCB r tNil) := by
  intro pins s σ H Q I h
  refine wpAny_Call_Name_kw (ld_blt I hg hm hv ?_ hn hdb)
  exact PyProof.Rows.callWith_type0 (hc pins s σ H [] [] Q I .nil h)
end
end L2

namespace HT
open PySem PyProof.Rows

/-- t < u of tuples of ints -/
def lexLt : List Int → List Int → Bool
  | [], [] => false
  | [], _ :: _ => true
  | _ :: _, [] => false
  | x :: xs, y :: ys => if x = y then lexLt xs ys else decide (x < y)
theorem lexLt_cons (x y : Int) (xs ys : List Int) : lexLt (x :: xs) (y :: ys) = if x = y then lexLt xs ys else decide (x < y) := rfl
theorem lexLt_nil_nil : lexLt [] [] = false := rfl
theorem lexLt_nil_cons (y : Int) (ys : List Int) : lexLt [] (y :: ys) = true := rfl
theorem lexLt_cons_nil (x : Int) (xs : List Int) : lexLt (x :: xs) [] = false := rfl

theorem eqAt_int (A : Around) (s : Shared) (a : Int) (t : Tok) (c : Int) (u : Tok) : ∃ e, SeqAt.EqAt A s (.int a t) (.int c u) e ∧ (e = true ↔ a = c) :=
  ⟨(a == c), SeqAt.EqAt.int_int a t c u, by simp⟩
theorem rcLt_int (A : Around) (s : Shared) (a : Int) (t : Tok) (c : Int) (u : Tok) (prog : Program) (w : World) (E : Value → Shared → Prop) (Q : Value → Shared → Prop) (h : Q (.bool (decide (a < c))) s) :
    wpAny (model prog w) A (richCompare .Lt (.int a t) (.int c u)) Q E s :=
  (PyProof.Rows.lt_int h : wpAny (model prog w) A (compareOp .Lt (.int a t) (.int c u)) Q E s)

section
open PySem.SeqAt
open PySem.AutoSeq1 (wpAny_loadPart')
open PySem.MeetsSeq PySem.MeetsSeq2 PySem.MeetsSeq3

theorem tuple_lt_ints (l b : Addr) (items items2 : Array Value) (n n2 : Nat) (dd dd2 : Option Addr) (sl sl2 : Array (Option Value)) (ns ms : List Int) (hi : IntsAre items.toList ns) (hj : IntsAre items2.toList ms) :
    Meets (Builtin.«tuple.__lt__» ⟨[.ref l, .ref b], []⟩)
      (fun _ R s => s.heap.get? l = some { cls := .type "tuple", dict := dd, data := .seq items n, slots := sl } ∧ s.heap.get? b = some { cls := .type "tuple", dict := dd2, data := .seq items2 n2, slots := sl2 } ∧
        R (.ok (.ret (.bool (lexLt ns ms)))) s) :=
  .of_wp fun prog w A R s h => by
    obtain ⟨hp, g, d, tk, os⟩ := s; obtain ⟨hl, hb, h⟩ := h
    have f2 := AutoSeq1.sub_tuple_tuple
    have z1 : items.size = ns.length := by rw [← hi.length]; simp
    have z2 : items2.size = ms.length := by rw [← hj.length]; simp
    wp_walk using wpAny_loadPart' hl, wpAny_loadPart' hb, wpAny_forIn_list _ (fun rest b s' => b.1 = none ∧ s' = ⟨hp, g, d, tk, os⟩ ∧ ∃ (vs ws : List Value) (ns' ms' : List Int), rest = vs.zip ws ∧
      IntsAre vs ns' ∧ IntsAre ws ms' ∧ ns'.length + items2.size = ms'.length + items.size ∧ R (.ok (.ret (.bool (lexLt ns' ms')))) ⟨hp, g, d, tk, os⟩) _
    case turn =>
      rintro ⟨y, x⟩ rest b s' ⟨hb', rfl, vs, ws, ns', ms', hz, hvi, hwi, hlen, hR⟩
      cases hvi with
      | nil => rw [List.zip_nil_left] at hz; cases hz
      | cons a t hvi' =>
        cases hwi with
        | nil => rw [List.zip_nil_right] at hz; cases hz
        | cons c u hwi' =>
          rw [List.zip_cons_cons] at hz
          injection hz with hyx hrest
          injection hyx with hy hx
          subst hy hx
          rw [lexLt_cons] at hR
          simp only [List.length_cons] at hlen
          obtain ⟨e, he, hiff⟩ := eqAt_int A.in1 ⟨hp, g, d, tk, os⟩ a t c u
          refine wpAny_bind (he prog w _ _ ?_)
          cases e with
          | true =>
            rw [if_pos (hiff.mp rfl)] at hR
            wp_walk
            exact ⟨rfl, rfl, _, _, _, _, hrest, hvi', hwi', by omega, hR⟩
          | false =>
            rw [if_neg (fun q => absurd (hiff.mpr q) Bool.false_ne_true)] at hR
            have hri := rcLt_int A.in1 ⟨hp, g, d, tk, os⟩ a t c u prog w
            wp_walk using hri
            exact ⟨_, rfl, by simpa using hR⟩
    case fin =>
      rintro ⟨b1, b2⟩ s' ⟨hb', rfl, vs, ws, ns', ms', hz, hvi, hwi, hlen, hR⟩
      simp only at hb'
      subst hb'
      have hv : lexLt ns' ms' = decide (items.size < items2.size) := by
        cases hvi with
        | nil =>
          cases hwi with
          | nil =>
            simp only [List.length_nil] at hlen
            rw [lexLt_nil_nil]
            exact (decide_eq_false (by omega)).symm
          | cons c u hw =>
            simp only [List.length_nil, List.length_cons] at hlen
            rw [lexLt_nil_cons]
            exact (decide_eq_true (by omega)).symm
        | cons a t hv =>
          cases hwi with
          | nil =>
            simp only [List.length_nil, List.length_cons] at hlen
            rw [lexLt_cons_nil]
            exact (decide_eq_false (by omega)).symm
          | cons c u hw =>
            rw [List.zip_cons_cons] at hz
            cases hz
      rw [hv] at hR
      wp_walk
      exact ⟨_, rfl, by simpa [Builtin.Tuple.tupleCompareSizes] using hR⟩
    case h =>
      exact ⟨rfl, rfl, items.toList, items2.toList, ns, ms, rfl, hi, hj, by omega, h⟩
end

section
variable {prog : Program} {w : World} {A : Around} {E : Value → Shared → Prop} {s : Shared}

theorem lt_tupInts {l b : Addr} {items items2 : Array Value} {ns ms : List Int} {Q : Value → Shared → Prop} (hl : IsTup s.heap l items) (hb : IsTup s.heap b items2) (hi : IntsAre items.toList ns) (hj : IntsAre items2.toList ms)
    (hu : A.units < cLine) (h : Q (.bool (lexLt ns ms)) s) : wpAny (model prog w) A (compareOp .Lt (.ref l) (.ref b)) Q E s := by
  obtain ⟨⟨cls, dd, data, sl⟩, ho, hc, n, hd⟩ := id hl
  obtain ⟨⟨cls2, dd2, data2, sl2⟩, ho2, hc2, n2, hd2⟩ := id hb
  simp only at hc hd hc2 hd2
  subst hc hd hc2 hd2
  exact richCompare_meets_room (op := .Lt) ⟨_, ho, rfl⟩ ⟨_, ho2, rfl⟩ PySem.F.slot_tuple_lt PySem.F.entry_tuple_lt (PySem.F.args_tuple_lt_2 _ _) (tuple_lt_ints l b items items2 n n2 dd dd2 sl sl2 ns ms hi hj)
    ⟨ho, ho2, show Value.bool (lexLt ns ms) ≠ Value.notImplemented ∧ Q (.bool (lexLt ns ms)) s from ⟨(fun x => nomatch x), h⟩⟩ hu

/-- t + u, t not empty -/
theorem cat_tup {t b : Addr} {vs ws : List Value} {Q : Value → Shared → Prop} (ht : IsTup s.heap t vs.toArray) (hb : IsTup s.heap b ws.toArray) (hv : vs ≠ [])
    (h1 : ws = [] → Q (.ref t) s) (h2 : ws ≠ [] → Q (.ref s.heap.objs.size) { s with heap := s.heap.push { cls := .type "tuple", data := .seq (vs ++ ws).toArray } })
    (hsz : vs.length + ws.length ≤ sizeLine) : wpAny (model prog w) A (binaryOp .Add (.ref t) (.ref b)) Q E s := by
  obtain ⟨⟨cls, dd, data, sl⟩, ho, hc, n, hd⟩ := id ht
  obtain ⟨⟨cls2, dd2, data2, sl2⟩, ho2, hc2, n2, hd2⟩ := id hb
  simp only at hc hd hc2 hd2
  subst hc hd hc2 hd2
  have e : vs.toArray ++ ws.toArray = (vs ++ ws).toArray := by simp
  by_cases hw : ws = []
  · exact concat_meets ⟨_, ho, rfl⟩ ⟨_, ho2, rfl⟩ noFill_tuple_add seq_tuple_add PySem.F.slot_tuple_add PySem.F.entry_tuple_add (PySem.F.args_tuple_add_2 _ _)
      (tuple_addW1 t b vs.toArray ws.toArray n n2 dd dd2 sl sl2 (by simpa using hv) (by simp [hw])) ⟨ho, ho2, h1 hw⟩
  · refine concat_meets ⟨_, ho, rfl⟩ ⟨_, ho2, rfl⟩ noFill_tuple_add seq_tuple_add PySem.F.slot_tuple_add PySem.F.entry_tuple_add (PySem.F.args_tuple_add_2 _ _)
      (tuple_addW2 t b vs.toArray ws.toArray n n2 dd dd2 sl sl2 (by simpa using hv) (by simpa using hw) (by rw [List.size_toArray, List.size_toArray]; exact hsz)) ⟨ho, ho2, ?_⟩
    rw [e]
    exact h2 hw

/-! ### t[a:b], not the whole -/
/-- a slice's bound as a place among n (d where it is left out) -/
def sIx (n d : Nat) : Option Int → Nat
  | none => d
  | some v => if v < 0 then (v + (n : Int)).toNat else min v.toNat n
theorem sIx_none (n d : Nat) : sIx n d none = d := rfl
theorem sIx_nat (n d k : Nat) : sIx n d (some (k : Int)) = min k n := by
  show (if (k : Int) < 0 then ((k : Int) + (n : Int)).toNat else min (k : Int).toNat n) = min k n
  rw [if_neg (by omega), Int.toNat_natCast]
theorem sIx_le (n d : Nat) (hd : d ≤ n) (o : Option Int) : sIx n d o ≤ n := by
  cases o with
  | none => exact hd
  | some v =>
    show (if v < 0 then (v + (n : Int)).toNat else min v.toNat n) ≤ n
    by_cases hv : v < 0
    · rw [if_pos hv]; omega
    · rw [if_neg hv]; exact Nat.min_le_right _ _
theorem clip_eq (v : Int) (n d : Nat) : (if v < 0 then max (v + (n : Int)) 0 else min v (n : Int)) = ((sIx n d (some v) : Nat) : Int) := by
  show (if v < 0 then max (v + (n : Int)) 0 else min v (n : Int)) = (((if v < 0 then (v + (n : Int)).toNat else min v.toNat n) : Nat) : Int)
  by_cases hv : v < 0
  · simp only [if_pos hv]; omega
  · simp only [if_neg hv]; omega
theorem adjust_gen (lo hi : Option Int) (n : Nat) : Builtin.Slice.sliceAdjust lo hi 1 (n : Int) = (((sIx n 0 lo : Nat) : Int), ((sIx n n hi : Nat) : Int)) := by
  have h1 : ¬ ((1 : Int) < 0) := by omega
  unfold Builtin.Slice.sliceAdjust
  simp only [h1, if_false]
  refine Prod.ext ?_ ?_
  · cases lo with
    | none => rfl
    | some v => exact clip_eq v n 0
  · cases hi with
    | none => rfl
    | some v => exact clip_eq v n n
theorem places_gen (i j : Nat) : Builtin.Slice.slicePlaces (i : Int) (j : Int) 1 = j - i := by
  unfold Builtin.Slice.slicePlaces
  have h1 : (1 : Int) > 0 := by omega
  simp only [h1, if_true, Int.ediv_one]
  split <;> omega
theorem slicePart_ {v : Value} {o : Option Int} {Q : Option Int → Shared → Prop} (p : IsPart v o) (h : Q o s) : wpAny (model prog w) A (Builtin.Slice.slicePartIndex v) Q E s := by
  cases p with
  | none => exact slicePart_none h
  | int i t => exact slicePart_int h
theorem sliceApplied_gen {sl : Addr} {vl vu : Value} {lo hi : Option Int} {n : Nat} {Q : Int × Int × Nat → Shared → Prop} (hs : s.heap.IsSliceOf sl vl vu .none) (pl : IsPart vl lo) (pu : IsPart vu hi)
    (h : Q (((sIx n 0 lo : Nat) : Int), 1, sIx n n hi - sIx n 0 lo) s) : wpAny (model prog w) A (Builtin.Slice.sliceApplied (.ref sl) (pure (n : Int))) Q E s := by
  obtain ⟨os, hos, hcs, hds⟩ := id hs
  unfold Builtin.Slice.sliceApplied Builtin.Slice.sliceFields
  refine wpAny_bind (wpAny_bind (wpAny_field hos hds (x := vl) rfl (wpAny_bind (wpAny_field hos hds (x := vu) rfl (wpAny_bind (wpAny_field hos hds (x := .none) rfl (wpAny_pure ?_)))))))
  refine wpAny_bind (slicePart_none ?_)
  show wpAny _ _ (if ((1 : Int) == 0) = true then _ else _) _ _ s
  rw [if_neg (by decide)]
  refine wpAny_bind (slicePart_ pl (wpAny_bind (slicePart_ pu (wpAny_bind (wpAny_pure ?_)))))
  show wpAny _ _ (match Builtin.Slice.sliceAdjust lo hi 1 (n : Int) with | (lo, hi) => pure (lo, (1 : Int), Builtin.Slice.slicePlaces lo hi 1)) _ _ s
  rw [adjust_gen lo hi n]
  show wpAny _ _ (pure (((sIx n 0 lo : Nat) : Int), (1 : Int), Builtin.Slice.slicePlaces ((sIx n 0 lo : Nat) : Int) ((sIx n n hi : Nat) : Int) 1)) _ _ s
  rw [places_gen]
  exact wpAny_pure h
theorem pick_gen (xs : Array Value) (i k : Nat) : ((List.range k).filterMap fun (m : Nat) => xs[((i : Int) + (m : Int) * 1).toNat]?).toArray = ((xs.toList.drop i).take k).toArray := by
  have e : (fun (m : Nat) => xs[((i : Int) + (m : Int) * 1).toNat]?) = fun m => xs[i + m]? := by
    funext m
    have : ((i : Int) + (m : Int) * 1).toNat = i + m := by omega
    rw [this]
  rw [e]
  have := pick_run xs i k
  rw [List.filterMap_map] at this
  have e2 : ((fun x => xs[x]?) ∘ fun x => i + x) = fun m => xs[i + m]? := rfl
  rw [e2] at this
  rw [this]

theorem getItem_tuple_cut {t sl : Addr} {items : Array Value} {vl vu : Value} {lo hi : Option Int} {Q : Value → Shared → Prop} (ht : IsTup s.heap t items) (hs : s.heap.IsSliceOf sl vl vu .none) (pl : IsPart vl lo) (pu : IsPart vu hi)
    (hw : ¬ (sIx items.size 0 lo = 0 ∧ sIx items.size items.size hi = items.size))
    (h : Q (.ref s.heap.objs.size) { s with heap := s.heap.push { cls := .type "tuple", data := .seq ((items.toList.drop (sIx items.size 0 lo)).take (sIx items.size items.size hi - sIx items.size 0 lo)).toArray } })
    (hsz : items.size ≤ sizeLine) : wpAny (model prog w) A (getItem (.ref t) (.ref sl)) Q E s := by
  have htake : sizeOk (.seq ((items.toList.drop (sIx items.size 0 lo)).take (sIx items.size items.size hi - sIx items.size 0 lo)).toArray) := by
    show ((items.toList.drop (sIx items.size 0 lo)).take (sIx items.size items.size hi - sIx items.size 0 lo)).toArray.size ≤ sizeLine
    rw [List.size_toArray, List.length_take, List.length_drop, Array.length_toList]
    omega
  have hj : sIx items.size items.size hi ≤ items.size := sIx_le _ _ (Nat.le_refl _) hi
  obtain ⟨os, hos, hcs, hds⟩ := id hs
  have hTs : s.TypeIs (.ref sl) "slice" := ⟨os, hos, hcs⟩
  unfold getItem
  try with_reducible refine wpAny_holding ?_
  first | refine wpAny_bind (wpAny_pure ?_) | skip
  refine wpAny_bind (wpAny_sequenceKey ht.typeIs (by decide) ?_)
  refine wpAny_bind (wpAny_callSpecial?_slot (name := Str.ofString "__getitem__") ht.typeIs PyProof.Rows.slot_tuple_getitem
    (wpAny_call_entry PyProof.Rows.slot_tuple_getitem ht.typeIs entry_tuple_getitem ?_ (args_tuple_getitem _ _)))
  show wpAny _ _ (Builtin.Tuple.tupleItemsOf (.ref t) >>= _) _ _ s
  refine wpAny_bind (tupleItemsOf_ ht ?_)
  refine wpAny_bind (wpAny_typeOf hTs ?_)
  rw [if_pos (by decide)]
  refine wpAny_bind (sliceApplied_gen hs pl pu ?_)
  have hno : ¬ ((((sIx items.size 0 lo : Nat) : Int) == 0 && (1 : Int) == 1 && (sIx items.size items.size hi - sIx items.size 0 lo) == items.size) = true) := by
    intro q
    rw [Bool.and_eq_true, Bool.and_eq_true] at q
    have q1 : ((sIx items.size 0 lo : Nat) : Int) = 0 := eq_of_beq q.1.1
    have q2 : sIx items.size items.size hi - sIx items.size 0 lo = items.size := eq_of_beq q.2
    exact hw ⟨by omega, by omega⟩
  show wpAny _ _ (if (((sIx items.size 0 lo : Nat) : Int) == 0 && (1 : Int) == 1 && (sIx items.size items.size hi - sIx items.size 0 lo) == items.size) = true then _ else _) _ _ s
  rw [if_neg hno, pick_gen]
  first
    | exact wpAny_bind (m := Builtin.Tuple.tupleExact _) (wpAny_newObj_type (wpAny_pure ⟨_, rfl, wpAny_pure h⟩) htake)
    | exact wpAny_bind (m := Builtin.Tuple.tupleExact _) (wpAny_newObj_type (wpAny_bind (wpAny_pure (wpAny_pure ⟨_, rfl, wpAny_pure h⟩))) htake)
    | exact wpAny_bind (wpAny_bind (m := Builtin.Tuple.tupleExact _) (wpAny_newObj_type (wpAny_pure (wpAny_pure ⟨_, rfl, wpAny_pure h⟩)) htake))
    | exact wpAny_bind (wpAny_bind (m := Builtin.Tuple.tupleExact _) (wpAny_newObj_type (wpAny_pure ⟨_, rfl, wpAny_pure h⟩) htake))
end
end HT

namespace L2
open PySem PySem.Spec PyProof.Rows

/-! ### the parts of a slice -/
abbrev TO := St → Hp → (Option Int → Hp → Prop) → Prop
/-- a slice's part (left out, or an int) -/
def PO (X : Cx) (e : Option Expr) (t : TO) : Prop :=
  ∀ (pins : List (Addr × Obj)) (s : Shared) (σ : St) (H : Hp) (Q : Option Int → Hp → Prop), Inv X pins σ H s → t σ H Q →
    wpAny (model X.prog X.w) X.A (evalPart e X.env) (fun u s' => ∃ o H', Inv X pins σ H' s' ∧ IsPart u o ∧ Q o H') X.xe s
def tNoPart : TO := fun _ H Q => Q none H
def tPart (t : TE) : TO := fun σ H Q => t σ H fun x H1 => ∃ i, x = .int i ∧ Q (some i) H1

theorem intsAre_of {ns : List Int} : ∀ {us : List Value}, Vals (ns.map V.int) us → IntsAre us ns := by
  induction ns with
  | nil => intro us r; rw [List.map_nil] at r; cases r; exact .nil
  | cons n ns ih =>
    intro us r
    rw [List.map_cons] at r
    cases r with
    | cons r1 r2 =>
      obtain ⟨t, e⟩ := r1
      subst e
      exact .cons n t (ih r2)

section
variable {X : Cx} {e : Expr} {te : TE} {lo hi : Option Expr} {tl th : TO} {pos p2 : Pos}

theorem po_none : PO X none tNoPart := by
  intro pins s σ H Q I h
  rw [evalPart_none]
  exact wpAny_pure ⟨none, H, I, .none, h⟩
theorem po_some (h : PE X e te) : PO X (some e) (tPart te) := by
  intro pins s σ H Q I hw
  rw [evalPart_some]
  refine thn (h pins s σ H _ I hw) fun u s1 ⟨x, H1, I1, r1, q1⟩ => ?_
  obtain ⟨i, rfl, q⟩ := q1
  obtain ⟨t, rfl⟩ := r1
  exact ⟨some i, H1, I1, .int i t, q⟩

/-- what a slice of a value is, by values: the slice object stands at sl -/
def SlR (X : Cx) (r : V → Option Int → Option Int → Hp → VK → Prop) : Prop :=
  ∀ (pins : List (Addr × Obj)) (s : Shared) (σ : St) (H : Hp) (x : V) (v vl vu : Value) (lo hi : Option Int) (sl : Addr) (Q : VK), Inv X pins σ H s → RelV x v → s.heap.IsSliceOf sl vl vu .none → IsPart vl lo → IsPart vu hi → r x lo hi H Q →
    ∃ T id, typeLookup (.type T) "__getitem__" = pure (some (.builtin id)) ∧ s.TypeIs v T ∧ wpAny (model X.prog X.w) X.A (getItem v (.ref sl)) (EP X pins σ Q) X.xe s
theorem SlR.or {r r' : V → Option Int → Option Int → Hp → VK → Prop} (h : SlR X r) (h' : SlR X r') : SlR X (fun x lo hi H Q => r x lo hi H Q ∨ r' x lo hi H Q) := by
  intro pins s σ H x v vl vu lo hi sl Q I rx hs pl pu q
  rcases q with q | q
  · exact h pins s σ H x v vl vu lo hi sl Q I rx hs pl pu q
  · exact h' pins s σ H x v vl vu lo hi sl Q I rx hs pl pu q
def tSl (r : V → Option Int → Option Int → Hp → VK → Prop) (te : TE) (tl th : TO) : TE := fun σ H Q => te σ H fun x H1 => tl σ H1 fun l H2 => th σ H2 fun u H3 => r x l u H3 Q
/-- a[lo:hi], any a -/
theorem pe_slice {r : V → Option Int → Option Int → Hp → VK → Prop} (hr : SlR X r) (he : PE X e te) (hl : PO X lo tl) (hu : PO X hi th) : PE X (.Subscript e (.Slice lo hi none p2) pos) (tSl r te tl th) := by
  intro pins s σ H Q I h
  refine Subscript_ (thn (he pins s σ H _ I h) fun v s1 ⟨x, H1, I1, r1, q1⟩ => ?_)
  refine wpAny_Slice (thn (hl pins s1 σ H1 _ I1 q1) fun vl s2 ⟨l, H2, I2, pl, q2⟩ => thn (hu pins s2 σ H2 _ I2 q2) fun vu s3 ⟨u, H3, I3, pu, q3⟩ => ?_)
  rw [evalPart_none]
  refine wpAny_pure ?_
  have I4 : Inv X pins σ H3 { s3 with heap := s3.heap.push { cls := .type "slice", data := .fields #[vl, vu, .none] } } := I3.kept (t' := s3.toks) fun b ob q => Heap.get?_push_of_some _ q
  obtain ⟨T, id, hT, ht, hg⟩ := hr pins { s3 with heap := s3.heap.push { cls := .type "slice", data := .fields #[vl, vu, .none] } } σ H3 x v vl vu l u s3.heap.objs.size Q I4 r1 (Heap.IsSliceOf.new ..) pl pu q3
  show wpAny (model X.prog X.w) X.A (subscriptTail e (.Slice lo hi none p2) v (.ref s3.heap.objs.size)) (EP X pins σ Q) X.xe { s3 with heap := s3.heap.push { cls := .type "slice", data := .fields #[vl, vu, .none] } }
  exact tail_any (ops := [.ref s3.heap.objs.size, v]) ht hT hg (by with_unfolding_all rfl)

/-- the items of xs[lo:hi] -/
def cutV (xs : List V) (lo hi : Option Int) : List V := (xs.drop (HT.sIx xs.length 0 lo)).take (HT.sIx xs.length xs.length hi - HT.sIx xs.length 0 lo)
theorem cutV_length (xs : List V) (lo hi : Option Int) : (cutV xs lo hi).length ≤ xs.length := by
  unfold cutV
  rw [List.length_take, List.length_drop]
  omega
/-- t[lo:hi], not the whole of it (the whole would be t itself) -/
def rSlT (K : PySem.W.Frag) : V → Option Int → Option Int → Hp → VK → Prop := fun x lo hi H Q => ∃ a xs, x = .ref a ∧ SqT K H a xs ∧
  ¬ (HT.sIx xs.length 0 lo = 0 ∧ HT.sIx xs.length xs.length hi = xs.length) ∧ ∀ p, H p = none → Q (.ref p) (upd H p (.tup (cutV xs lo hi)))
theorem sl_tup : SlR X (rSlT X.K) := by
  intro pins s σ H x v vl vu lo hi sl Q I rx hs pl pu h
  obtain ⟨a, xs, rfl, hx, hw, q⟩ := h
  cases rx
  obtain ⟨its, r, ht, hz⟩ := I.tuple hx
  have hlen : its.toArray.size = xs.length := by rw [List.size_toArray]; exact r.length.symm
  refine ⟨"tuple", _, PyProof.Rows.slot_tuple_getitem.lookup, ht.typeIs, ?_⟩
  refine HT.getItem_tuple_cut ht hs pl pu (by rw [hlen]; exact hw) ?_ (by rw [hlen]; exact hz)
  rw [hlen]
  refine ⟨.ref s.heap.objs.size, _, I.laid (t' := s.toks) (o := .tup (cutV xs lo hi)) (fun b ob q => Heap.get?_push_of_some _ q) (Nat.le_refl _) ?_, rfl, q _ (I.hok.fresh (Nat.le_refl _))⟩
  exact ⟨Nat.le_trans (cutV_length xs lo hi) hz, _, (r.drop (HT.sIx xs.length 0 lo)).take (HT.sIx xs.length xs.length hi - HT.sIx xs.length 0 lo), IsTup.new _ _⟩

/-! ### t < u, t + u -/
def rLtT (K : PySem.W.Frag) : R2 := fun x y H Q => ∃ a b ns ms, x = .ref a ∧ y = .ref b ∧ SqT K H a (ns.map V.int) ∧ SqT K H b (ms.map V.int) ∧ Q (.bl (HT.lexLt ns ms)) H
theorem op_ltT (hu : X.A.units < cLine) : OpR X (compareOp .Lt) (rLtT X.K) := by
  intro pins s σ H x y v u Q I rx ry h
  obtain ⟨a, b, ns, ms, rfl, rfl, ha, hb, q⟩ := h
  cases rx
  cases ry
  obtain ⟨its, r1, p1, _⟩ := I.tuple ha
  obtain ⟨its2, r2, p2, _⟩ := I.tuple hb
  have i1 : IntsAre its.toArray.toList ns := intsAre_of r1
  have i2 : IntsAre its2.toArray.toList ms := intsAre_of r2
  exact HT.lt_tupInts p1 p2 i1 i2 hu ⟨.bl (HT.lexLt ns ms), H, I, rfl, q⟩
/-- t + u, t not empty: u empty gives t itself -/
def rCatT (K : PySem.W.Frag) : R2 := fun x y H Q => ∃ a b xs ys, x = .ref a ∧ y = .ref b ∧ SqT K H a xs ∧ SqT K H b ys ∧ xs ≠ [] ∧ xs.length + ys.length ≤ sizeLine ∧
  (ys = [] → Q (.ref a) H) ∧ (ys ≠ [] → ∀ p, H p = none → Q (.ref p) (upd H p (.tup (xs ++ ys))))
theorem Vals.nil_iff {xs : List V} {us : List Value} (r : Vals xs us) : us = [] ↔ xs = [] := by
  cases r with
  | nil => simp
  | cons _ _ => simp
theorem op_catT : OpR X (binaryOp .Add) (rCatT X.K) := by
  intro pins s σ H x y v u Q I rx ry h
  obtain ⟨a, b, xs, ys, rfl, rfl, ha, hb, hx, hz, q1, q2⟩ := h
  cases rx
  cases ry
  obtain ⟨its, r1, p1, _⟩ := I.tuple ha
  obtain ⟨its2, r2, p2, _⟩ := I.tuple hb
  refine HT.cat_tup p1 p2 (fun z => hx (r1.nil_iff.mp z)) (fun z => ⟨.ref a, H, I, rfl, q1 (r2.nil_iff.mp z)⟩) (fun z => ?_) (by rw [← r1.length, ← r2.length]; exact hz)
  refine ⟨.ref s.heap.objs.size, _, I.laid (t' := s.toks) (o := .tup (xs ++ ys)) (fun b ob q => Heap.get?_push_of_some _ q) (Nat.le_refl _) ?_, rfl, q2 (fun w => z (r2.nil_iff.mpr w)) _ (I.hok.fresh (Nat.le_refl _))⟩
  exact ⟨by rw [List.length_append]; exact hz, _, r1.append r2, IsTup.new _ _⟩
/-- tuple(t) -/
theorem call_tupleT : CallR X (.type "tuple") (fun xs H Q => ∃ a ys, xs = [.ref a] ∧ SqT X.K H a ys ∧ Q (.ref a) H) := by
  intro pins s σ H xs us Q I r h
  obtain ⟨a, ys, rfl, ha, q⟩ := h
  obtain ⟨u, rfl, ru⟩ := vals1 r
  cases ru
  obtain ⟨its, _, p1, _⟩ := I.tuple ha
  exact call_tuple_same (items := its.toArray) p1 ⟨.ref a, H, I, rfl, q⟩
end
end L2

namespace L2
open PySem PySem.Spec PyProof.Rows

/-! ### places -/
/-- the place that an index of any sign means -/
def ixN (n : Nat) (i : Int) : Option Nat := if 0 ≤ i then (if i < n then some i.toNat else none) else if -(n : Int) ≤ i then some (i + n).toNat else none
def atI {α : Type} (xs : List α) (i : Int) : Option α := (ixN xs.length i).bind fun j => xs[j]?
theorem ixN_seq {n : Nat} {i : Int} {j : Nat} (h : ixN n i = some j) : seqIndex? i n = some j ∧ j < n ∧ -(n : Int) ≤ i ∧ i < n := by
  unfold ixN at h
  by_cases h0 : 0 ≤ i
  · rw [if_pos h0] at h
    by_cases h1 : i < n
    · rw [if_pos h1] at h
      have e : i.toNat = j := Option.some.inj h
      exact ⟨by rw [seqIndex_of h0 h1, e], by omega, by omega, h1⟩
    · rw [if_neg h1] at h; cases h
  · rw [if_neg h0] at h
    by_cases h1 : -(n : Int) ≤ i
    · rw [if_pos h1] at h
      have e : (i + n).toNat = j := Option.some.inj h
      exact ⟨by rw [seqIndex_neg (by omega) h1, e], by omega, h1, by omega⟩
    · rw [if_neg h1] at h; cases h
theorem atI_get {α : Type} {xs : List α} {i : Int} {v : α} (h : atI xs i = some v) : ∃ j, seqIndex? i xs.length = some j ∧ xs[j]? = some v ∧ j < xs.length ∧ -(xs.length : Int) ≤ i ∧ i < xs.length := by
  unfold atI at h
  cases e : ixN xs.length i with
  | none => rw [e] at h; cases h
  | some j =>
    rw [e] at h
    obtain ⟨h1, h2, h3, h4⟩ := ixN_seq e
    exact ⟨j, h1, h, h2, h3, h4⟩
theorem atI_nat {α : Type} {xs : List α} {j : Nat} {v : α} (h : xs[j]? = some v) : atI xs (j : Int) = some v := by
  have hj : j < xs.length := (List.getElem?_eq_some_iff.mp h).1
  have e : ixN xs.length (j : Int) = some j := by
    unfold ixN
    rw [if_pos (by omega), if_pos (by omega)]; simp
  unfold atI; rw [e]; exact h
theorem atI_last {α : Type} (xs : List α) (v : α) : atI (xs ++ [v]) (-1) = some v := by
  have hl : (xs ++ [v]).length = xs.length + 1 := by simp
  have e : ixN (xs ++ [v]).length (-1) = some xs.length := by
    unfold ixN
    rw [hl, if_neg (by decide), if_pos (by omega)]
    congr 1
    omega
  unfold atI
  rw [e]
  show (xs ++ [v])[xs.length]? = some v
  simp

/-! ### what may be subscripted -/
/-- what stands as an index of a plain subscript -/
def PlainIx (b : Expr) : Prop := ∀ o i, subscripted b false o i = operate [o, i] (getItem o i)
/-- a subscript by values -/
def IxR (X : Cx) (r : R2) : Prop :=
  ∀ (value slice : Expr) (pins : List (Addr × Obj)) (s : Shared) (σ : St) (H : Hp) (x y : V) (v u : Value) (Q : VK), Inv X pins σ H s → RelV x v → RelV y u → r x y H Q →
    subscripted slice false v u = operate [v, u] (getItem v u) → wpAny (model X.prog X.w) X.A (subscriptTail value slice v u) (EP X pins σ Q) X.xe s
/-- a call of a builtin's method by values: the receiver, the arguments -/
def MtR (X : Cx) (id : String) (r : V → List V → Hp → VK → Prop) : Prop :=
  ∀ (pins : List (Addr × Obj)) (s : Shared) (σ : St) (H : Hp) (x : V) (xs : List V) (v : Value) (us : List Value) (Q : VK), Inv X pins σ H s → RelV x v → Vals xs us → r x xs H Q →
    wpAny (model X.prog X.w) X.A (call (.builtin id) (v :: us)) (EP X pins σ Q) X.xe s
section
variable {X : Cx} {a b : Expr} {ta tb : TE} {pos : Pos}
theorem IxR.or {r r' : R2} (h : IxR X r) (h' : IxR X r') : IxR X (fun x y H Q => r x y H Q ∨ r' x y H Q) := by
  intro value slice pins s σ H x y v u Q I rx ry q hs
  rcases q with q | q
  · exact h value slice pins s σ H x y v u Q I rx ry q hs
  · exact h' value slice pins s σ H x y v u Q I rx ry q hs
theorem MtR.or {id : String} {r r' : V → List V → Hp → VK → Prop} (h : MtR X id r) (h' : MtR X id r') : MtR X id (fun x xs H Q => r x xs H Q ∨ r' x xs H Q) := by
  intro pins s σ H x xs v us Q I rx rs q
  rcases q with q | q
  · exact h pins s σ H x xs v us Q I rx rs q
  · exact h' pins s σ H x xs v us Q I rx rs q
/-- a[b] -/
theorem pe_ix {r : R2} (hr : IxR X r) (ha : PE X a ta) (hb : PE X b tb) (hs : PlainIx b) : PE X (.Subscript a b pos) (tOp r ta tb) := by
  intro pins s σ H Q I h
  exact Subscript_ (binT ha hb I h fun v u s2 x y H2 I2 rx ry q => hr a b pins s2 σ H2 x y v u Q I2 rx ry q (hs _ _))

def rIxL (K : PySem.W.Frag) : R2 := fun x y H Q => ∃ p xs i v, x = .ref p ∧ y = .int i ∧ SqL K H p xs ∧ atI xs i = some v ∧ Q v H
def rIxT (K : PySem.W.Frag) : R2 := fun x y H Q => ∃ p xs i v, x = .ref p ∧ y = .int i ∧ SqT K H p xs ∧ atI xs i = some v ∧ Q v H
def rIxS : R2 := fun x y H Q => ∃ z i c, x = .str z ∧ y = .int i ∧ z.length ≤ sizeLine ∧ atI z.cps.toList i = some c ∧ Q (.str ⟨#[c]⟩) H
theorem ix_list : IxR X (rIxL X.K) := by
  intro value slice pins s σ H x y v u Q I rx ry h hs
  obtain ⟨p, xs, i, z, rfl, rfl, hq, he, q⟩ := h
  cases rx
  obtain ⟨t, rfl⟩ := ry
  obtain ⟨its, r, pl, hz⟩ := I.list hq
  obtain ⟨j, h1, h2, h3, h4, h5⟩ := atI_get he
  obtain ⟨w, ew, rw'⟩ := r.get h2
  have hl := r.length
  have hn := line63
  have fin : EP X pins σ Q w s := ⟨z, H, I, rw', q⟩
  by_cases h0 : 0 ≤ i
  · have hj : i.toNat = j := by
      rw [seqIndex_of h0 h5] at h1
      exact Option.some.inj h1
    exact item_listR pl.isList h0 (by omega) (by rw [hj]; simpa using ew) fin hs
  · have hj : (i + (its.toArray.size : Int)).toNat = j := by
      rw [seqIndex_neg (by omega) h4] at h1
      rw [List.size_toArray, ← hl]
      exact Option.some.inj h1
    exact subscriptTail_builtinR (x := w) pl.isList.typeIs slot_list_getitem.lookup
      (wpAny_getItem_list_neg (Q := fun r s' => r = w ∧ EP X pins σ Q r s') pl.isList (by omega) (by rw [List.size_toArray] <;> omega) (by omega) (by rw [hj]; simpa using ew) ⟨rfl, fin⟩) hs
theorem ix_tup : IxR X (rIxT X.K) := by
  intro value slice pins s σ H x y v u Q I rx ry h hs
  obtain ⟨p, xs, i, z, rfl, rfl, hq, he, q⟩ := h
  cases rx
  obtain ⟨t, rfl⟩ := ry
  obtain ⟨its, r, pl, hz⟩ := I.tuple hq
  obtain ⟨j, h1, h2, h3, h4, h5⟩ := atI_get he
  obtain ⟨w, ew, rw'⟩ := r.get h2
  have hl := r.length
  have hn := line63
  have fin : EP X pins σ Q w s := ⟨z, H, I, rw', q⟩
  exact subscriptTail_builtinR (x := w) pl.typeIs slot_tuple_getitem.lookup
    (getItem_tuple (j := j) (Q := fun r s' => r = w ∧ EP X pins σ Q r s') pl (by omega) (by omega) (by rw [List.size_toArray, ← hl]; exact h1) (by simpa using ew) ⟨rfl, fin⟩) hs
theorem ix_str : IxR X rIxS := by
  intro value slice pins s σ H x y v u Q I rx ry h hs
  obtain ⟨z, i, c, rfl, rfl, hz, he, q⟩ := h
  obtain ⟨t, rfl⟩ := rx
  obtain ⟨t', rfl⟩ := ry
  obtain ⟨j, h1, h2, h3, h4, h5⟩ := atI_get he
  have hl : z.cps.toList.length = z.length := by simp [Str.length]
  rw [hl] at h1 h4 h5
  have hn := line63
  exact tail_any (typeIs_str s z t) slot_str_getitem.lookup (getItem_str (c := c) (by
    have e1 : decide (i < -(2 ^ 63 : Int)) = false := decide_eq_false (by omega)
    have e2 : decide (i ≥ 2 ^ 63) = false := decide_eq_false (by omega)
    rw [e1, e2, Bool.or_false]) (by rw [h1]; simpa using h2) ⟨.str ⟨#[c]⟩, H, I.tok _, ⟨_, rfl⟩, q⟩) hs
/-- list, tuple or str -/
def rIx (K : PySem.W.Frag) : R2 := fun x y H Q => rIxL K x y H Q ∨ rIxT K x y H Q ∨ rIxS x y H Q
theorem ix_seq : IxR X (rIx X.K) := ix_list.or (ix_tup.or ix_str)

/-! ### xs[i] = v, any sign -/
/-- the list's object behind a store -/
theorem mapSeq_set (its : List Value) (n j : Nat) (u : Value) : Obj.mapSeq (·.setIfInBounds j u) { cls := .type "list", data := .seq its.toArray n } = { cls := .type "list", data := .seq (its.set j u).toArray n } := by
  simp [Obj.mapSeq]
theorem Inv.lst {pins : List (Addr × Obj)} {σ : St} {H : Hp} {s : Shared} {p : Addr} {xs : List V} (I : Inv X pins σ H s) (h : H p = some (.lst xs)) :
    ∃ (its : List Value) (n : Nat), Vals xs its ∧ s.heap.get? p = some { cls := .type "list", data := .seq its.toArray n } ∧ xs.length ≤ sizeLine := by
  obtain ⟨z, its, n, r, e⟩ := I.hok p _ h
  exact ⟨its, n, r, e, z⟩
/-- the list at p is written by an update of its object -/
theorem Inv.lstUpd {pins : List (Addr × Obj)} {σ : St} {H : Hp} {s : Shared} {p : Addr} {xs ys : List V} {its its' : List Value} {n n' : Nat} {f : Obj → Obj} (I : Inv X pins σ H s) (h : H p = some (.lst xs))
    (ho : s.heap.get? p = some { cls := .type "list", data := .seq its.toArray n }) (hf : f { cls := .type "list", data := .seq its.toArray n } = { cls := .type "list", data := .seq its'.toArray n' }) (r : Vals ys its') (hz : ys.length ≤ sizeLine) (t : Nat) :
    Inv X pins σ (upd H p (.lst ys)) { s with heap := s.heap.update p f, toks := t } := by
  have e : (s.heap.update p f).get? p = some { cls := .type "list", data := .seq its'.toArray n' } := by
    rw [Heap.get?_update_self f ho (by rw [hf] <;> rfl), hf]
  refine I.write (x := p) (e := p) (by rw [h]; trivial) (.inl rfl) (fun b u hb q => (Heap.get?_update_other _ _ (Ne.symm hb)).trans q) ⟨_, e⟩ ?_
  exact ⟨hz, its', n', r, e⟩
def rSetL : V → V → V → Hp → (Hp → Prop) → Prop := fun o i v H Q => ∃ p xs k j, o = .ref p ∧ i = .int k ∧ H p = some (.lst xs) ∧ ixN xs.length k = some j ∧ Q (upd H p (.lst (xs.set j v)))
theorem set_list : PSet X rSetL := by
  intro pins s σ H o i v ov iv u Q I ro ri rv h
  obtain ⟨p, xs, k, j, rfl, rfl, hp, hj, q⟩ := h
  cases ro
  obtain ⟨t, rfl⟩ := ri
  obtain ⟨its, n, r, ho, hz⟩ := I.lst hp
  obtain ⟨h1, h2, h3, h4⟩ := ixN_seq hj
  have hl := r.length
  have hn := line63
  have I' : Inv X pins σ (upd H p (.lst (xs.set j v))) { s with heap := s.heap.update p (Obj.mapSeq (·.setIfInBounds j u)) } :=
    I.lstUpd hp ho (mapSeq_set its n j u) (r.set rv j) (by rw [List.length_set]; exact hz) s.toks
  by_cases h0 : 0 ≤ k
  · have hk : k.toNat = j := by
      rw [seqIndex_of h0 h4] at h1
      exact Option.some.inj h1
    exact PySem.W.ki_setAt ho h0 (by omega) (by rw [List.size_toArray, ← hl]; exact h4) (by rw [hk]; exact ⟨_, I', q⟩)
  · have hk : (k + (its.toArray.size : Int)).toNat = j := by
      rw [seqIndex_neg (by omega) h3] at h1
      rw [List.size_toArray, ← hl]
      exact Option.some.inj h1
    exact PySem.W.ki_setBack ho (by omega) (by rw [List.size_toArray, ← hl]; exact h3) (by omega) (by rw [hk]; exact ⟨_, I', q⟩)

/-! ### slices -/
theorem slice_bounds (lo hi : Option Int) (n : Nat) : (sliceBounds lo hi none n).1 = ((HT.sIx n 0 lo : Nat) : Int) ∧ (sliceBounds lo hi none n).2.1 = ((HT.sIx n n hi : Nat) : Int) ∧ (sliceBounds lo hi none n).2.2 = 1 := by
  refine ⟨?_, ?_, rfl⟩
  · cases lo with
    | none => simp [sliceBounds, HT.sIx]
    | some i =>
      simp only [sliceBounds, HT.sIx, Option.getD_none, show (1 : Int) > 0 by decide, if_true]
      by_cases h : i < 0
      · simp only [h, if_true] <;> omega
      · simp only [h, if_false] <;> omega
  · cases hi with
    | none => simp [sliceBounds, HT.sIx]
    | some i =>
      simp only [sliceBounds, HT.sIx, Option.getD_none, show (1 : Int) > 0 by decide, if_true]
      by_cases h : i < 0
      · simp only [h, if_true] <;> omega
      · simp only [h, if_false] <;> omega
theorem slicePick_cut (its : List Value) (lo hi : Option Int) : slicePick its.toArray lo hi none = ((its.drop (HT.sIx its.length 0 lo)).take (HT.sIx its.length its.length hi - HT.sIx its.length 0 lo)).toArray := by
  obtain ⟨h1, h2, h3⟩ := slice_bounds lo hi its.toArray.size
  unfold slicePick
  rw [h1, h2, h3]
  simp only [sliceRange_one, pick_run, List.size_toArray] <;> rfl
/-- xs[lo:hi] of a list: a new list -/
def rSlL (K : PySem.W.Frag) : V → Option Int → Option Int → Hp → VK → Prop := fun x lo hi H Q => ∃ a xs, x = .ref a ∧ SqL K H a xs ∧ ∀ p, H p = none → Q (.ref p) (upd H p (.lst (cutV xs lo hi)))
theorem sl_list : SlR X (rSlL X.K) := by
  intro pins s σ H x v vl vu lo hi sl Q I rx hs pl pu h
  obtain ⟨a, xs, rfl, hx, q⟩ := h
  cases rx
  obtain ⟨its, r, ht, hz⟩ := I.list hx
  have hlen := r.length
  refine ⟨"list", _, slot_list_getitem.lookup, ht.isList.typeIs, ?_⟩
  refine wpAny_getItem_list_slice ht.isList hs pl pu .none (by simp) ?_ (by rw [List.size_toArray] <;> omega)
  rw [slicePick_cut, ← hlen]
  refine ⟨.ref s.heap.objs.size, _, I.laid (t' := s.toks) (o := .lst (cutV xs lo hi)) (fun b ob q => Heap.get?_push_of_some _ q) (Nat.le_refl _) ?_, rfl, q _ (I.hok.fresh (Nat.le_refl _))⟩
  exact ⟨Nat.le_trans (cutV_length xs lo hi) hz, _, 0, (r.drop (HT.sIx xs.length 0 lo)).take (HT.sIx xs.length xs.length hi - HT.sIx xs.length 0 lo), Heap.get?_push_size _ rfl⟩

/-! ### in, not in: flat items -/
def flatV : V → Bool
  | .non => true
  | .bl _ => true
  | .int _ => true
  | .str _ => true
  | _ => false
/-- == of flat values -/
def eqV : V → V → Bool
  | .non, .non => true
  | .bl a, .bl b => a == b
  | .bl a, .int b => (if a then 1 else 0) == b
  | .int a, .bl b => a == (if b then 1 else 0)
  | .int a, .int b => a == b
  | .str a, .str b => a == b
  | _, _ => false
theorem eqAt_V {A : Around} {s : Shared} {y x : V} {u v : Value} (ry : RelV y u) (rx : RelV x v) (fy : flatV y = true) (fx : flatV x = true) : SeqAt.EqAt A s u v (eqV y x) := by
  cases y with
  | non =>
    cases ry
    cases x with
    | non => cases rx; exact SeqAt.EqAt.same _
    | bl b => cases rx; exact SeqAt.EqAt.none_bool b
    | int b => obtain ⟨t, rfl⟩ := rx; exact SeqAt.EqAt.none_int b t
    | str b => obtain ⟨t, rfl⟩ := rx; exact SeqAt.EqAt.none_str b t
    | _ => exact absurd (show false = true from fx) Bool.false_ne_true
  | bl a =>
    cases ry
    cases x with
    | non => cases rx; exact SeqAt.EqAt.bool_none a
    | bl b => cases rx; exact SeqAt.EqAt.bool_bool a b
    | int b => obtain ⟨t, rfl⟩ := rx; exact SeqAt.EqAt.bool_int a b t
    | str b => obtain ⟨t, rfl⟩ := rx; exact SeqAt.EqAt.bool_str a b t
    | _ => exact absurd (show false = true from fx) Bool.false_ne_true
  | int a =>
    obtain ⟨t', rfl⟩ := ry
    cases x with
    | non => cases rx; exact SeqAt.EqAt.int_none a t'
    | bl b => cases rx; exact SeqAt.EqAt.int_bool a t' b
    | int b => obtain ⟨t, rfl⟩ := rx; exact SeqAt.EqAt.int_int a t' b t
    | str b => obtain ⟨t, rfl⟩ := rx; exact SeqAt.EqAt.int_str a t' b t
    | _ => exact absurd (show false = true from fx) Bool.false_ne_true
  | str a =>
    obtain ⟨t', rfl⟩ := ry
    cases x with
    | non => cases rx; exact SeqAt.EqAt.str_none a t'
    | bl b => cases rx; exact SeqAt.EqAt.str_bool a t' b
    | int b => obtain ⟨t, rfl⟩ := rx; exact SeqAt.EqAt.str_int a t' b t
    | str b => obtain ⟨t, rfl⟩ := rx; exact SeqAt.EqAt.str_str a t' b t
    | _ => exact absurd (show false = true from fx) Bool.false_ne_true
  | _ => exact absurd (show false = true from fy) Bool.false_ne_true
/-- the items' answers, read off the values (a value's own answer does not lean on its token) -/
def eqU (x : V) (u : Value) : Bool := match u with
  | .none => eqV .non x
  | .bool b => eqV (.bl b) x
  | .int i _ => eqV (.int i) x
  | .str z _ => eqV (.str z) x
  | _ => false
theorem eqU_of {x y : V} {u : Value} (r : RelV y u) (f : flatV y = true) : eqU x u = eqV y x := by
  cases y with
  | non => cases r; rfl
  | bl b => cases r; rfl
  | int i => obtain ⟨t, rfl⟩ := r; rfl
  | str z => obtain ⟨t, rfl⟩ := r; rfl
  | _ => exact absurd (show false = true from f) Bool.false_ne_true
theorem any_eqU {x : V} : ∀ {xs : List V} {us : List Value}, Vals xs us → xs.all flatV = true → us.any (eqU x) = xs.any fun y => eqV y x
  | _, _, .nil, _ => rfl
  | y :: xs, u :: us, .cons r t, f => by
    rw [List.all_cons, Bool.and_eq_true] at f
    rw [List.any_cons, List.any_cons, eqU_of r f.1, any_eqU t f.2]
theorem mem_eqAt {A : Around} {s : Shared} {x : V} {v : Value} (rx : RelV x v) (fx : flatV x = true) : ∀ {xs : List V} {us : List Value}, Vals xs us → xs.all flatV = true → ∀ u ∈ us, SeqAt.EqAt A s u v (eqU x u)
  | _, _, .nil, _ => fun u hu => by cases hu
  | y :: xs, u :: us, .cons r t, f => fun u' hu => by
    rw [List.all_cons, Bool.and_eq_true] at f
    rcases List.mem_cons.mp hu with rfl | hu
    · rw [eqU_of r f.1]; exact eqAt_V r rx f.1 fx
    · exact mem_eqAt rx fx t f.2 u' hu
def inV (x : V) (xs : List V) : Bool := xs.any fun y => eqV y x
/-- x in a list or tuple of flat items -/
def rIn (K : PySem.W.Frag) (neg : Bool) : R2 := fun x y H Q => ∃ p xs, y = .ref p ∧ (SqL K H p xs ∨ SqT K H p xs) ∧ flatV x = true ∧ xs.all flatV = true ∧ Q (.bl (if neg then !inV x xs else inV x xs)) H
theorem op_in_seq : OpR X (compareOp .In) (rIn X.K false) := by
  intro pins s σ H x y v u Q I rx ry h
  obtain ⟨p, xs, rfl, hq, fx, fs, q⟩ := h
  cases ry
  rcases hq with hq | hq
  · obtain ⟨its, r, pl, hz⟩ := I.list hq
    refine SeqAt.in_listAt (eqU x) pl.isList (fun w hw => mem_eqAt rx fx r fs w (by simpa using hw)) ⟨.bl _, H, I, rfl, ?_⟩
    rw [show its.toArray.any (eqU x) = its.any (eqU x) by simp, any_eqU r fs]
    exact q
  · obtain ⟨its, r, pl, hz⟩ := I.tuple hq
    refine SeqAt.in_tupleAt (eqU x) pl (fun w hw => mem_eqAt rx fx r fs w (by simpa using hw)) ⟨.bl _, H, I, rfl, ?_⟩
    rw [show its.toArray.any (eqU x) = its.any (eqU x) by simp, any_eqU r fs]
    exact q
theorem op_notIn_seq : OpR X (compareOp .NotIn) (rIn X.K true) := by
  intro pins s σ H x y v u Q I rx ry h
  obtain ⟨p, xs, rfl, hq, fx, fs, q⟩ := h
  cases ry
  rcases hq with hq | hq
  · obtain ⟨its, r, pl, hz⟩ := I.list hq
    refine SeqAt.notIn_listAt (eqU x) pl.isList (fun w hw => mem_eqAt rx fx r fs w (by simpa using hw)) ⟨.bl _, H, I, rfl, ?_⟩
    rw [show its.toArray.any (eqU x) = its.any (eqU x) by simp, any_eqU r fs]
    exact q
  · obtain ⟨its, r, pl, hz⟩ := I.tuple hq
    refine SeqAt.notIn_tupleAt (eqU x) pl (fun w hw => mem_eqAt rx fx r fs w (by simpa using hw)) ⟨.bl _, H, I, rfl, ?_⟩
    rw [show its.toArray.any (eqU x) = its.any (eqU x) by simp, any_eqU r fs]
    exact q
theorem op_notIn_str : OpR X (compareOp .NotIn) (fun x y H Q => ∃ i j, x = .str i ∧ y = .str j ∧ Q (.bl (!(!(Builtin.Str.occurrences j i 0 j.length 1).isEmpty))) H) := by
  intro pins s σ H x y v u Q I rx ry h
  obtain ⟨i, j, rfl, rfl, q⟩ := h
  obtain ⟨t, rfl⟩ := rx
  obtain ⟨t', rfl⟩ := ry
  exact notIn_str ⟨.bl _, H, I, rfl, q⟩

/-! ### len, list(x), tuple(x) of any list or tuple that is read -/
theorem call_len_seq : CallR X (.builtin "len") (fun xs H Q => ∃ p ys, xs = [.ref p] ∧ (SqL X.K H p ys ∨ SqT X.K H p ys) ∧ Q (.int ys.length) H) := by
  intro pins s σ H xs us Q I r h
  obtain ⟨p, ys, rfl, hq, q⟩ := h
  obtain ⟨u, rfl, rx⟩ := vals1 r
  cases rx
  have hn := line63
  rcases hq with hq | hq
  · obtain ⟨its, r', pl, hz⟩ := I.list hq
    have hlen := r'.length
    exact Calls.call_len_list pl.isList (by simp only [List.size_toArray] <;> omega) ⟨.int ys.length, H, I.tok _, ⟨s.toks + 1, by rw [List.size_toArray, hlen]⟩, q⟩
  · obtain ⟨its, r', pl, hz⟩ := I.tuple hq
    have hlen := r'.length
    exact len_tuple pl (by simp only [List.size_toArray] <;> omega) ⟨.int ys.length, H, I.tok _, ⟨s.toks + 1, by rw [List.size_toArray, hlen]⟩, q⟩
theorem call_len_str : CallR X (.builtin "len") (fun xs H Q => ∃ z, xs = [.str z] ∧ z.length ≤ sizeLine ∧ Q (.int z.length) H) := by
  intro pins s σ H xs us Q I r h
  obtain ⟨z, rfl, hz, q⟩ := h
  obtain ⟨u, rfl, t, rfl⟩ := vals1 r
  have hn := line63
  exact len_str (by omega) ⟨.int z.length, H, I.tok _, ⟨_, rfl⟩, q⟩
theorem CallR.or {f : Value} {r r' : List V → Hp → VK → Prop} (h : CallR X f r) (h' : CallR X f r') : CallR X f (fun xs H Q => r xs H Q ∨ r' xs H Q) := by
  intro pins s σ H xs us Q I rs q
  rcases q with q | q
  · exact h pins s σ H xs us Q I rs q
  · exact h' pins s σ H xs us Q I rs q
theorem call_list_of : CallR X (.type "list") (fun xs H Q => ∃ p ys, xs = [.ref p] ∧ (SqL X.K H p ys ∨ SqT X.K H p ys) ∧ ∀ l, H l = none → Q (.ref l) (upd H l (.lst ys))) := by
  intro pins s σ H xs us Q I r h
  obtain ⟨p, ys, rfl, hq, q⟩ := h
  obtain ⟨u, rfl, rx⟩ := vals1 r
  cases rx
  have fin : ∀ (its : List Value), Vals ys its → ys.length ≤ sizeLine → ∀ (h' : Heap) (c' : Nat), (∀ b o', s.heap.get? b = some o' → h'.get? b = some o') →
      h'.get? s.heap.objs.size = some { cls := .type "list", dict := none, data := .seq its.toArray c', slots := #[] } → EP X pins σ Q (.ref s.heap.objs.size) { s with heap := h' } := fun its r' hz h' c' kp e =>
    ⟨.ref s.heap.objs.size, _, I.laid (t' := s.toks) kp (Nat.le_refl _) (show ObjOk X.prog X.w _ h' _ (.lst ys) from ⟨hz, its, c', r', e⟩), rfl, q _ (I.hok.fresh (Nat.le_refl _))⟩
  rcases hq with hq | hq
  · obtain ⟨its, r', pl, hz⟩ := I.list hq
    have hlen := r'.length
    obtain ⟨o, ho, hc, n, hd⟩ := pl.isList
    exact call_list_seq p (.inl rfl) ho hc hd (fun h' c' kp e => fin its r' hz h' c' kp e) (by simp only [List.size_toArray] <;> omega)
  · obtain ⟨its, r', pl, hz⟩ := I.tuple hq
    have hlen := r'.length
    obtain ⟨o, ho, hc, n, hd⟩ := pl
    exact call_list_seq p (.inr rfl) ho hc hd (fun h' c' kp e => fin its r' hz h' c' kp e) (by simp only [List.size_toArray] <;> omega)
theorem call_tuple_of : CallR X (.type "tuple") (fun xs H Q => ∃ p ys, xs = [.ref p] ∧ ((SqL X.K H p ys ∧ ∀ l, H l = none → Q (.ref l) (upd H l (.tup ys))) ∨ (SqT X.K H p ys ∧ Q (.ref p) H))) := by
  intro pins s σ H xs us Q I r h
  obtain ⟨p, ys, rfl, h⟩ := h
  obtain ⟨u, rfl, rx⟩ := vals1 r
  cases rx
  rcases h with ⟨hq, q⟩ | ⟨hq, q⟩
  · obtain ⟨its, r', pl, hz⟩ := I.list hq
    have hlen := r'.length
    refine call_tuple_list pl.isList (fun h' kp => ?_) (by simp only [List.size_toArray] <;> omega)
    have I1 : Inv X pins σ H { s with heap := h' } := I.kept (t' := s.toks) kp
    have I2 : Inv X pins σ (upd H h'.objs.size (.tup ys)) { s with heap := h'.push { cls := .type "tuple", data := .seq its.toArray } } :=
      I1.laid (t' := s.toks) (fun b o e => Heap.get?_push_of_some _ e) (Nat.le_refl _) (show ObjOk X.prog X.w _ _ _ (.tup ys) from ⟨hz, its, r', IsTup.new _ _⟩)
    exact ⟨.ref h'.objs.size, _, I2, rfl, q _ (I1.hok.fresh (Nat.le_refl _))⟩
  · obtain ⟨its, r', pl, hz⟩ := I.tuple hq
    exact call_tuple_same pl ⟨.ref p, H, I, rfl, q⟩

/-! ### the call of a builtin's method: o.m(..) -/
/-- the value is of that builtin type -/
def tyV (K : PySem.W.Frag) (T : String) (x : V) (H : Hp) : Prop := match x with
  | .str _ => T = "str"
  | .int _ => T = "int"
  | .ref p => (T = "list" ∧ ∃ xs, SqL K H p xs) ∨ (T = "tuple" ∧ ∃ o, K.lookup p = some o ∧ o.cls = .type "tuple" ∧ o.dict = none) ∨
      (T = "dict" ∧ ((∃ kvs, H p = some (.dK kvs)) ∨ ∃ kvs, H p = some (.dT kvs))) ∨ (T = "set" ∧ ∃ S n, H p = some (.set S n))
  | _ => False
theorem tyV_is {pins : List (Addr × Obj)} {σ : St} {H : Hp} {s : Shared} {T : String} {x : V} {v : Value} (I : Inv X pins σ H s) (r : RelV x v) (ty : tyV X.K T x H) :
    s.TypeIs v T ∧ ∀ a, v = .ref a → ∃ ob, s.heap.get? a = some ob ∧ ob.dict = none := by
  cases x with
  | str z =>
    obtain ⟨t, rfl⟩ := r
    cases (show T = "str" from ty)
    exact ⟨typeIs_str s z t, fun _ e => nomatch e⟩
  | int i =>
    obtain ⟨t, rfl⟩ := r
    cases (show T = "int" from ty)
    exact ⟨typeIs_int s i t, fun _ e => nomatch e⟩
  | ref p =>
    cases r
    rcases ty with ⟨rfl, xs, hq⟩ | ⟨rfl, o, hk, hc, hd⟩ | ⟨rfl, hk⟩ | ⟨rfl, S, n, hk⟩
    · obtain ⟨its, _, pl, _⟩ := I.list hq
      refine ⟨pl.isList.typeIs, fun a e => ?_⟩
      cases e
      obtain ⟨o, n, e, c, hd, _⟩ := pl
      exact ⟨o, e, hd⟩
    · refine ⟨⟨o, I.kIn p o hk, hc⟩, fun a e => ?_⟩
      cases e
      exact ⟨o, I.kIn _ o hk, hd⟩
    · have z : ∃ o, s.heap.get? p = some o ∧ o.ExactDict := by
        rcases hk with ⟨kvs, hk⟩ | ⟨kvs, hk⟩
        · obtain ⟨_, _, _, _, o, _, _, e, ex, _⟩ := I.hok p _ hk
          exact ⟨o, e, ex⟩
        · obtain ⟨_, _, _, _, o, _, _, e, ex, _⟩ := I.hok p _ hk
          exact ⟨o, e, ex⟩
      obtain ⟨o, e, ex⟩ := z
      refine ⟨⟨o, e, ex.1⟩, fun a e2 => ?_⟩
      cases e2
      exact ⟨o, e, ex.2.1⟩
    · obtain ⟨o, _, _, _, e, ex, _⟩ := I.hok p _ hk
      refine ⟨⟨o, e, ex.1⟩, fun a e2 => ?_⟩
      cases e2
      exact ⟨o, e, ex.2.1⟩
  | _ => exact False.elim ty
def tBM0 (K : PySem.W.Frag) (T : String) (r : V → List V → Hp → VK → Prop) (to : TE) : TE := fun σ H Q => to σ H fun x H1 => tyV K T x H1 ∧ r x [] H1 Q
def tBM (K : PySem.W.Frag) (T : String) (r : V → List V → Hp → VK → Prop) (to : TE) (t : TA) : TE := fun σ H Q => to σ H fun x H1 => tyV K T x H1 ∧ t σ H1 fun xs H2 => r x xs H2 Q
variable {o e : Expr} {es : List Expr} {to : TE} {t : TA} {name : Str} {apos cpos : Pos} {T id : String} {r : V → List V → Hp → VK → Prop}
theorem pe_bm0 (pa : PlainAttrs T) (slot : Slot T name id) (hty : typeOf (.builtin id) = pure (.type "method_descriptor")) (hm : MtR X id r) (ho : PE X o to)
    (hbase : attributeBase o name X.env (eval o X.env) = eval o X.env := by rfl) (hline : (apos.endLine == cpos.line) = true := by rfl) : PE X (.Call (.Attribute o name apos) [] [] cpos) (tBM0 X.K T r to) := by
  intro pins s σ H Q I h
  refine wpAny_Call_method0_late hbase hline (thn (ho pins s σ H _ I h) fun v s1 ⟨x, H1, I1, r1, ty, q1⟩ => ?_)
  obtain ⟨h1, h2⟩ := tyV_is I1 r1 ty
  exact ⟨T, id, pa, slot, hty, h1, h2, Calls.callWith_builtin rfl (PySem.evalArgs_none (hm pins s1 σ H1 x [] v [] Q I1 r1 .nil q1))⟩
theorem pe_bm (pa : PlainAttrs T) (slot : Slot T name id) (hty : typeOf (.builtin id) = pure (.type "method_descriptor")) (hm : MtR X id r) (ho : PE X o to) (ha : PA X (e :: es) t)
    (hbase : attributeBase o name X.env (eval o X.env) = eval o X.env := by rfl)
    (hfew : ((backTo cpos (starEach (e :: es) X.env)).all (fun x => !x.1) && (backToKw cpos (keywordEach [] X.env)).all (fun x => x.1.isSome)
      && decide ((e :: es).length + ([] : List Keyword).length + (if ([] : List Keyword).isEmpty then 0 else 1) < 30)) = true := by rfl)
    (hline : (apos.endLine == cpos.line) = true := by rfl) (hs : starEach (e :: es) X.env = (false, eval e X.env) :: starEach es X.env := by rfl) (hplain : (backTo cpos (starEach es X.env)).any (·.1) = false := by rfl) :
    PE X (.Call (.Attribute o name apos) (e :: es) [] cpos) (tBM X.K T r to t) := by
  intro pins s σ H Q I h
  refine wpAny_Call_method_late hbase hfew hline rfl (thn (ho pins s σ H _ I h) fun v s1 ⟨x, H1, I1, r1, ty, q1⟩ => ?_)
  obtain ⟨h1, h2⟩ := tyV_is I1 r1 ty
  refine ⟨T, id, pa, slot, hty, h1, h2, ?_⟩
  have hA := ha cpos pins s1 σ H1 _ I1 q1
  rw [hs] at hA ⊢
  refine Calls.callWith_builtin (by show (false || (backTo cpos (starEach es X.env)).any (·.1)) = false; rw [hplain] <;> rfl) (Calls.evalArgs_plain ?_)
  exact thn hA fun us s2 ⟨vs, H2, I2, r2, q2⟩ => hm pins s2 σ H2 x vs v us Q I2 r1 r2 q2
/- xs.append(e), list.index on a module's tuple .. are MtR facts of 06m -/
end
end L2

namespace L2
open PySem PySem.Spec PyProof.Rows

def MtM (X : Cx) (id : String) (r : V → List V → Hp → VK → Prop) : Prop :=
  ∀ (pins : List (Addr × Obj)) (s : Shared) (σ : St) (H : Hp) (x : V) (xs : List V) (v : Value) (us : List Value) (Q : VK), Inv X pins σ H s → RelV x v → Vals xs us → r x xs H Q →
    wpAny (model X.prog X.w) X.A (call (.builtin id) (v :: us)) (EP X pins σ Q) X.xe s

/-! ### lists of values -/
theorem Vals.one : ∀ {x : V} {us : List Value}, Vals [x] us → ∃ u, us = [u] ∧ RelV x u
  | _, _, .cons r .nil => ⟨_, rfl, r⟩
theorem Vals.two : ∀ {x y : V} {us : List Value}, Vals [x, y] us → ∃ u v, us = [u, v] ∧ RelV x u ∧ RelV y v
  | _, _, _, .cons r (.cons q .nil) => ⟨_, _, rfl, r, q⟩
theorem Vals.zero : ∀ {us : List Value}, Vals [] us → us = []
  | _, .nil => rfl
theorem Vals.dropLast {xs : List V} {us : List Value} (h : Vals xs us) : Vals xs.dropLast us.dropLast := by
  induction h with
  | nil => exact .nil
  | cons r t ih =>
    cases t with
    | nil => exact .nil
    | cons q t' => exact .cons r ih
theorem Vals.eraseIdx : ∀ {xs : List V} {us : List Value} (i : Nat), Vals xs us → Vals (xs.eraseIdx i) (us.eraseIdx i)
  | _, _, _, .nil => .nil
  | _, _, 0, .cons _ t => t
  | _, _, i + 1, .cons r t => .cons r (Vals.eraseIdx i t)
theorem Vals.reverse {xs : List V} {us : List Value} (h : Vals xs us) : Vals xs.reverse us.reverse := by
  induction h with
  | nil => exact .nil
  | cons r t ih => rw [List.reverse_cons, List.reverse_cons]; exact Vals.append ih (.cons r .nil)
theorem Vals.rep {xs : List V} {us : List Value} (h : Vals xs us) : ∀ k : Nat, Vals (List.replicate k xs).flatten (List.replicate k us).flatten
  | 0 => .nil
  | k + 1 => by
    rw [List.replicate_succ, List.replicate_succ, List.flatten_cons, List.flatten_cons]
    exact Vals.append h (Vals.rep h k)
theorem erase_last {α : Type} (l : List α) : l.eraseIdx (l.length - 1) = l.dropLast := by
  induction l with
  | nil => rfl
  | cons a r ih =>
    cases r with
    | nil => rfl
    | cons b r =>
      have e : (a :: b :: r).length - 1 = ((b :: r).length - 1) + 1 := by
        have h1 : (a :: b :: r).length = r.length + 2 := rfl
        have h2 : (b :: r).length = r.length + 1 := rfl
        omega
      rw [e, List.eraseIdx_cons_succ, ih]
      all_goals rfl
theorem len_erase {α : Type} : ∀ (l : List α) (i : Nat), (l.eraseIdx i).length ≤ l.length
  | [], _ => Nat.le_refl _
  | _ :: _, 0 => Nat.le_succ _
  | _ :: r, i + 1 => Nat.succ_le_succ (len_erase r i)
theorem foldl_rep (its : List Value) : ∀ (k : Nat) (acc : List Value),
    List.foldl (fun x1 x2 => x1 ++ x2) acc.toArray (List.replicate k its.toArray) = (acc ++ (List.replicate k its).flatten).toArray
  | 0, acc => by simp
  | k + 1, acc => by
    have e : acc.toArray ++ its.toArray = (acc ++ its).toArray := by simp
    have e2 : (acc ++ its) ++ (List.replicate k its).flatten = acc ++ (List.replicate (k + 1) its).flatten := by
      rw [List.replicate_succ, List.flatten_cons, List.append_assoc]
    rw [← e2, ← foldl_rep its k (acc ++ its), ← e, List.replicate_succ, List.foldl_cons]

section
variable {X : Cx} {pins : List (Addr × Obj)} {σ : St} {H : Hp} {s : Shared} {l b : Addr} {xs ys zs : List V}

/-! ### the two steps: a tracked list is rewritten, a new list is laid -/
theorem Inv.lset {its its' : List Value} {n : Nat} {f : Array Value → Array Value} {t' : Nat} (I : Inv X pins σ H s) (hH : H l = some (.lst xs))
    (e : s.heap.get? l = some { cls := .type "list", data := .seq its.toArray n }) (hf : f its.toArray = its'.toArray) (hv : Vals ys its') (hz : ys.length ≤ sizeLine) :
    Inv X pins σ (upd H l (.lst ys)) { s with heap := s.heap.update l (Obj.mapSeq f), toks := t' } := by
  have q := PySem.IsL.update e f
  rw [hf] at q
  refine I.write (x := l) (e := l) (by rw [hH]; exact trivial) (.inl rfl) (fun b' u hb hu => (Heap.get?_update_other s.heap (Obj.mapSeq f) (Ne.symm hb)).trans hu) ⟨_, q⟩ ?_
  exact ⟨hz, its', _, hv, q⟩
theorem Inv.lnew {its : List Value} {t' : Nat} (I : Inv X pins σ H s) (hv : Vals ys its) (hz : ys.length ≤ sizeLine) :
    Inv X pins σ (upd H s.heap.objs.size (.lst ys)) { s with heap := s.heap.push { cls := .type "list", data := .seq its.toArray }, toks := t' } :=
  I.laid (fun _ _ q => Heap.get?_push_of_some _ q) (Nat.le_refl _) ⟨hz, its, 0, hv, Heap.get?_push_size _ rfl⟩
theorem Inv.fresh (I : Inv X pins σ H s) : H s.heap.objs.size = none := I.hok.fresh (Nat.le_refl _)
theorem Inv.lstM (I : Inv X pins σ H s) (hH : H l = some (.lst xs)) : xs.length ≤ sizeLine ∧ ∃ (its : List Value) (n : Nat), Vals xs its ∧ xs.length = its.length ∧ s.heap.get? l = some { cls := .type "list", data := .seq its.toArray n } := by
  obtain ⟨z, its, n, r, e⟩ := I.hok l _ hH
  exact ⟨z, its, n, r, r.length, e⟩

theorem notLongL {n : Nat} (h : n ≤ sizeLine) : Builtin.List.listTooLong n = false := by
  unfold Builtin.List.listTooLong
  exact decide_eq_false (by omega)
end

section
variable {X : Cx}

/-! ### methods -/
def rAppend : V → List V → Hp → VK → Prop := fun x vs H Q => ∃ l xs y, x = .ref l ∧ vs = [y] ∧ H l = some (.lst xs) ∧ xs.length < sizeLine ∧ Q .non (upd H l (.lst (xs ++ [y])))
theorem mt_append : MtM X "list.append" rAppend := by
  intro pins s σ H x vs v us Q I rx rv h
  obtain ⟨l, xs, y, rfl, rfl, hH, hz, q⟩ := h
  cases rx
  obtain ⟨u, rfl, ru⟩ := rv.one
  obtain ⟨z, its, n, r, hl, e⟩ := I.lstM hH
  refine call_meets F.slot_list_append ⟨_, e, rfl⟩ F.entry_list_append (F.args_list_append_2 _ _) (PySem.list_append l its.toArray n u (by rw [List.size_toArray]; omega)) ⟨e, ?_⟩
  refine ⟨.non, _, I.lset (its' := its ++ [u]) hH e (by simp) (r.append (.cons ru .nil)) ?_, rfl, q⟩
  rw [List.length_append, List.length_singleton]
  omega

def rExtend : V → List V → Hp → VK → Prop := fun x vs H Q => ∃ l b xs zs, x = .ref l ∧ vs = [.ref b] ∧ H l = some (.lst xs) ∧ H b = some (.lst zs) ∧ xs.length + zs.length ≤ sizeLine ∧ Q .non (upd H l (.lst (xs ++ zs)))
theorem mt_extend : MtM X "list.extend" rExtend := by
  intro pins s σ H x vs v us Q I rx rv h
  obtain ⟨l, b, xs, zs, rfl, rfl, hH, hB, hz, q⟩ := h
  cases rx
  obtain ⟨u, rfl, ru⟩ := rv.one
  cases ru
  obtain ⟨z, its, n, r, hl, e⟩ := I.lstM hH
  obtain ⟨z2, its2, n2, r2, hl2, e2⟩ := I.lstM hB
  have hsz : its.toArray.size + its2.toArray.size ≤ sizeLine := by rw [List.size_toArray, List.size_toArray]; omega
  have hlong : ¬ (!its.toArray.isEmpty && Builtin.List.listTooLong (its.toArray.size + its2.toArray.size)) = true := by
    rw [notLongL hsz, Bool.and_false]
    exact Bool.false_ne_true
  refine call_meets F.slot_list_extend ⟨_, e, rfl⟩ F.entry_list_extend (F.args_list_extend_2 _ _)
    (AutoSeq1.list_extend_list_list_0 l its.toArray n b its2.toArray n2 hlong (by rw [List.size_toArray]; omega) (by omega)) ⟨e, e2, ?_⟩
  refine ⟨.non, _, I.lset (its' := its ++ its2) hH e (by simp) (r.append r2) ?_, rfl, q⟩
  rw [List.length_append]
  omega

def rPop : V → List V → Hp → VK → Prop := fun x vs H Q => ∃ l xs y, x = .ref l ∧ vs = [] ∧ H l = some (.lst xs) ∧ xs[xs.length - 1]? = some y ∧ Q y (upd H l (.lst xs.dropLast))
theorem mt_pop : MtM X "list.pop" rPop := by
  intro pins s σ H x vs v us Q I rx rv h
  obtain ⟨l, xs, y, rfl, rfl, hH, hy, q⟩ := h
  cases rx
  have hus := rv.zero
  subst hus
  obtain ⟨z, its, n, r, hl, e⟩ := I.lstM hH
  obtain ⟨u, hu, ru⟩ := r.get hy
  have hy' : its.toArray[its.toArray.size - 1]? = some u := by
    show its.toArray[its.length - 1]? = some u
    rw [← Array.getElem?_toList, ← hl]
    exact hu
  refine call_meets F.slot_list_pop ⟨_, e, rfl⟩ F.entry_list_pop (F.args_list_pop_1 _) (MeetsSeq.list_pop_last l its.toArray n u hy' (by rw [List.size_toArray]; omega)) ⟨e, ?_⟩
  refine ⟨y, _, I.lset (its' := its.dropLast) hH e ?_ r.dropLast ?_, ru, q⟩
  · show its.toArray.eraseIdxIfInBounds (its.toArray.size - 1) = its.dropLast.toArray
    rw [List.size_toArray, List.eraseIdxIfInBounds_toArray, erase_last]
  · rw [List.length_dropLast]
    omega

def rPopAt : V → List V → Hp → VK → Prop := fun x vs H Q => ∃ l xs i k y, x = .ref l ∧ vs = [.int i] ∧ H l = some (.lst xs) ∧ -(2 ^ 63) ≤ i ∧ i < 2 ^ 63 ∧ seqIndex? i xs.length = some k ∧ xs[k]? = some y ∧ Q y (upd H l (.lst (xs.eraseIdx k)))
theorem mt_popAt : MtM X "list.pop" rPopAt := by
  intro pins s σ H x vs v us Q I rx rv h
  obtain ⟨l, xs, i, k, y, rfl, rfl, hH, h1, h2, hk, hy, q⟩ := h
  cases rx
  obtain ⟨u, rfl, ru⟩ := rv.one
  obtain ⟨t, rfl⟩ := ru
  obtain ⟨z, its, n, r, hl, e⟩ := I.lstM hH
  obtain ⟨w, hw, rw'⟩ := r.get hy
  refine call_meets F.slot_list_pop ⟨_, e, rfl⟩ F.entry_list_pop (F.args_list_pop_2 _ _)
    (MeetsSeq.list_pop_at l its.toArray n i t k w (fitsIndex_both h1 h2) (by rw [List.size_toArray, ← hl]; exact hk) (by rw [← Array.getElem?_toList]; exact hw) (by rw [List.size_toArray]; omega)) ⟨e, ?_⟩
  refine ⟨y, _, I.lset (its' := its.eraseIdx k) hH e ?_ (r.eraseIdx k) ?_, rw', q⟩
  · show its.toArray.eraseIdxIfInBounds k = (its.eraseIdx k).toArray
    rw [List.eraseIdxIfInBounds_toArray]
  · have := len_erase xs k
    omega

def rReverse : V → List V → Hp → VK → Prop := fun x vs H Q => ∃ l xs, x = .ref l ∧ vs = [] ∧ H l = some (.lst xs) ∧ Q .non (upd H l (.lst xs.reverse))
theorem mt_reverse : MtM X "list.reverse" rReverse := by
  intro pins s σ H x vs v us Q I rx rv h
  obtain ⟨l, xs, rfl, rfl, hH, q⟩ := h
  cases rx
  have hus := rv.zero
  subst hus
  obtain ⟨z, its, n, r, hl, e⟩ := I.lstM hH
  refine call_meets F.slot_list_reverse ⟨_, e, rfl⟩ F.entry_list_reverse (F.args_list_reverse_1 _) (AutoSeq1.list_reverse_list_0 l its.toArray n (by rw [List.size_toArray]; omega)) ⟨e, ?_⟩
  refine ⟨.non, _, I.lset (its' := its.reverse) hH e (by simp) r.reverse ?_, rfl, q⟩
  rw [List.length_reverse]
  omega

def rClear : V → List V → Hp → VK → Prop := fun x vs H Q => ∃ l xs, x = .ref l ∧ vs = [] ∧ H l = some (.lst xs) ∧ Q .non (upd H l (.lst []))
theorem mt_clear : MtM X "list.clear" rClear := by
  intro pins s σ H x vs v us Q I rx rv h
  obtain ⟨l, xs, rfl, rfl, hH, q⟩ := h
  cases rx
  have hus := rv.zero
  subst hus
  obtain ⟨z, its, n, r, hl, e⟩ := I.lstM hH
  refine call_meets F.slot_list_clear ⟨_, e, rfl⟩ F.entry_list_clear (F.args_list_clear_1 _) (AutoSeq1.list_clear_list_0 l its.toArray n (by rw [List.size_toArray]; omega)) ⟨e, ?_⟩
  exact ⟨.non, _, I.lset (its' := []) (ys := []) hH e rfl .nil (Nat.zero_le _), rfl, q⟩

/-! ### list + list, list += list, list * int -/
def rCat : R2 := fun x y H Q => ∃ l b xs zs, x = .ref l ∧ y = .ref b ∧ H l = some (.lst xs) ∧ H b = some (.lst zs) ∧ xs.length + zs.length ≤ sizeLine ∧ ∀ p, H p = none → Q (.ref p) (upd H p (.lst (xs ++ zs)))
theorem op_cat : OpR X (binaryOp .Add) rCat := by
  intro pins s σ H x y v u Q I rx ry h
  obtain ⟨l, b, xs, zs, rfl, rfl, hH, hB, hz, q⟩ := h
  cases rx
  cases ry
  obtain ⟨z, its, n, r, hl, e⟩ := I.lstM hH
  obtain ⟨z2, its2, n2, r2, hl2, e2⟩ := I.lstM hB
  refine PySem.P.add_list e e2 ?_ (by rw [List.size_toArray, List.size_toArray]; omega)
  have ea : its.toArray ++ its2.toArray = (its ++ its2).toArray := by simp
  rw [ea]
  exact ⟨.ref _, _, I.lnew (t' := s.toks) (r.append r2) (by rw [List.length_append]; omega), rfl, q _ I.fresh⟩
/-- a list times an int (a negative one is nothing) -/
def rRep : R2 := fun x y H Q => ∃ l k xs, x = .ref l ∧ y = .int k ∧ H l = some (.lst xs) ∧ -(2 ^ 63) ≤ k ∧ k < 2 ^ 63 ∧ xs.length * k.toNat ≤ sizeLine ∧
  ∀ p, H p = none → Q (.ref p) (upd H p (.lst (List.replicate k.toNat xs).flatten))
theorem len_rep {α : Type} (xs : List α) (k : Nat) : (List.replicate k xs).flatten.length = k * xs.length := by
  induction k with
  | zero => simp
  | succ k ih => rw [List.replicate_succ, List.flatten_cons, List.length_append, ih, Nat.succ_mul, Nat.add_comm]
theorem op_rep : OpR X (binaryOp .Mult) rRep := by
  intro pins s σ H x y v u Q I rx ry h
  obtain ⟨l, k, xs, rfl, rfl, hH, h1, h2, hz, q⟩ := h
  cases rx
  obtain ⟨t, rfl⟩ := ry
  obtain ⟨z, its, n, r, hl, e⟩ := I.lstM hH
  have hlen : its.toArray.size * k.toNat ≤ sizeLine := by rw [List.size_toArray, ← hl]; exact hz
  have hcap : ¬ its.toArray.size * k.toNat > (2 ^ 63 - 1) / 8 := by
    have : (sizeLine : Nat) ≤ (2 ^ 63 - 1) / 8 := by decide
    omega
  have hfit : ¬ (!Builtin.List.listFitsIndex k) = true := by
    rw [fitsIndex_both h1 h2]
    exact Bool.false_ne_true
  have hlong : ¬ Builtin.List.listTooLong (its.toArray.size * k.toNat) = true := by
    rw [notLongL hlen]
    exact Bool.false_ne_true
  have hnew : List.foldl (fun x1 x2 => x1 ++ x2) #[] (List.replicate (if its.toArray.isEmpty = true then 0 else k.toNat) its.toArray) = (List.replicate k.toNat its).flatten.toArray := by
    have f0 : ∀ m : Nat, List.foldl (fun x1 x2 => x1 ++ x2) #[] (List.replicate m its.toArray) = (List.replicate m its).flatten.toArray := fun m => by
      have := foldl_rep its m []
      rw [List.nil_append] at this
      exact this
    rw [f0]
    cases its with
    | nil => simp
    | cons a r' => rw [if_neg (by simp)]
  refine wpAny_binaryOp_repeat_ref (T := "list") (U := "int") (by decide) ⟨_, e, rfl⟩ (fun s' => typeIs_int s' k t) noFill_list_mul F.fills_int_mul F.slot_int_rmul repeat_list F.slot_int_index.lookup
    (call_meets F.slot_int_rmul (typeIs_int s k t) F.entry_int_rmul (F.args_int_rmul_2 _ _) (int___rmul___int_list k t l its.toArray n)
      ⟨e, rfl, ⟨_, e, rfl⟩, call_meets F.slot_list_mul ⟨_, e, rfl⟩ F.entry_list_mul (F.args_list_mul_2 _ _) (AutoListH.list___mul___list_int_3 l its.toArray n k t hfit hcap hlong) ⟨e, ?_⟩⟩)
  rw [hnew]
  exact ⟨.ref _, _, I.lnew (t' := s.toks) (r.rep k.toNat) (by rw [len_rep, Nat.mul_comm]; exact hz), rfl, q _ I.fresh⟩

/-! ### del xs[i] -/
theorem del_list {pins : List (Addr × Obj)} {s : Shared} {σ : St} {H : Hp} {l : Addr} {xs : List V} {i : Int} {t : Tok} {k : Nat} {Q : Unit → Shared → Prop} (I : Inv X pins σ H s) (hH : H l = some (.lst xs))
    (h1 : -(2 ^ 63) ≤ i) (h2 : i < 2 ^ 63) (hk : seqIndex? i xs.length = some k) (h : ∀ s', Inv X pins σ (upd H l (.lst (xs.eraseIdx k))) s' → Q () s') :
    wpAny (model X.prog X.w) X.A (delItem (.ref l) (.int i t)) Q X.xe s := by
  obtain ⟨z, its, n, r, hl, e⟩ := I.lstM hH
  refine PySem.P.delItem_list (k := k) e (fitsIndex_both h1 h2) (by rw [List.size_toArray, ← hl]; exact hk) (h _ ?_) (by rw [List.size_toArray]; omega)
  refine I.lset (its' := its.eraseIdx k) (t' := s.toks) hH e ?_ (r.eraseIdx k) ?_
  · show its.toArray.eraseIdxIfInBounds k = (its.eraseIdx k).toArray
    rw [List.eraseIdxIfInBounds_toArray]
  · have := len_erase xs k
    omega
end

/-! ### xs[a:b] = ys -/
section
variable {prog : Program} {w : World} {A : Around} {E : Value → Shared → Prop} {s : Shared}
theorem splice_eq (its its2 : List Value) (a c : Nat) : its.toArray.extract 0 a ++ its2.toArray ++ its.toArray.extract c its.toArray.size = (its.take a ++ its2 ++ its.drop c).toArray := by
  apply Array.toList_inj.mp
  first
    | (simp
       exact List.take_of_length_le (by simp))
    | simp [List.take_of_length_le]
    | simp
theorem bounds_run {a c n : Nat} (hac : a ≤ c) (hc : c ≤ n) : sliceBounds (some (a : Int)) (some (c : Int)) none n = ((a : Int), (c : Int), 1) := by
  simp only [sliceBounds, Option.getD_none]
  have h1 : ¬ ((a : Int) < 0) := by omega
  have h2 : ¬ ((c : Int) < 0) := by omega
  simp only [h1, h2, if_false, show (1 : Int) > 0 by decide, if_true]
  congr 1
  · omega
  · congr 1; omega
set_option maxRecDepth 100000 in
/-- list.__setitem__ with a slice of step one and another list -/
theorem setItem_slice {l b sl : Addr} {items new : Array Value} {n n2 : Nat} {vl vu : Value} {a c : Nat} {Q : Unit → Shared → Prop}
    (e : s.heap.get? l = some { cls := .type "list", data := .seq items n }) (e2 : s.heap.get? b = some { cls := .type "list", data := .seq new n2 }) (hne : l ≠ b)
    (hs : s.heap.IsSliceOf sl vl vu .none) (pl : IsPart vl (some (a : Int))) (pu : IsPart vu (some (c : Int))) (hac : a ≤ c) (hc : c ≤ items.size)
    (hsz : items.size + new.size ≤ sizeLine) (h : Q () { s with heap := s.heap.update l (Obj.mapSeq fun xs => xs.extract 0 a ++ new ++ xs.extract c xs.size) }) :
    wpAny (model prog w) A (setItem (.ref l) (.ref sl) (.ref b)) Q E s := by
  have hl : s.heap.IsList l items := PySem.IsL.isList e
  have hb : s.heap.IsList b new := PySem.IsL.isList e2
  obtain ⟨os, hos, hcs, hds⟩ := id hs
  have hTs : s.TypeIs (.ref sl) "slice" := ⟨os, hos, hcs⟩
  have hstep : ¬ ((rawPart none == rawInt 0) = true) := Bool.false_ne_true
  have hsame : Builtin.List.listSameRef (.ref l) (.ref b) = false := by
    unfold Builtin.List.listSameRef
    exact beq_eq_false_iff_ne.mpr hne
  have hmax : (max (a : Int) (c : Int)).toNat = c := by omega
  have hz' : ((fun xs : Array Value => xs.extract 0 a ++ new ++ xs.extract c xs.size) items).size ≤ sizeLine + 1 := by
    simp only [Array.size_append, Array.size_extract]
    omega
  unfold setItem
  try with_reducible refine wpAny_holding ?_
  first | refine wpAny_bind (wpAny_pure ?_) | skip
  refine wpAny_bind (wpAny_sequenceKey hl.typeIs (by decide) ?_)
  refine wpAny_bind (wpAny_callSpecial?_slot (name := Str.ofString "__setitem__") hl.typeIs slot_list_setitem
    (wpAny_call_entry slot_list_setitem hl.typeIs entry_list_setitem ?_ (args_list_setitem _ _ _)))
  show wpAny _ _ (Builtin.List.listSubscript? (.ref sl) >>= _) _ _ s
  refine wpAny_bind ?_
  unfold Builtin.List.listSubscript?
  refine wpAny_bind (wpAny_specialOf hTs slice_no_index ?_)
  simp only [Option.isNone_none, if_true]
  refine wpAny_pure ?_
  show wpAny _ _ (typeOf (.ref sl) >>= _) _ _ s
  refine wpAny_bind (wpAny_typeOf hTs ?_)
  first
    | rw [if_neg (by decide)]
    | refine PySem.W.KFB.if_not (by decide) ?_
  rw [listSliceParts_eq]
  refine wpAny_bind (wpAny_bind (wpAny_field hos hds (x := .none) rfl (wpAny_bind (wpAny_listPart .none ?_))))
  rw [if_neg hstep]
  refine wpAny_bind (wpAny_field hos hds (x := vl) rfl (wpAny_bind (wpAny_listPart pl ?_)))
  refine wpAny_bind (wpAny_field hos hds (x := vu) rfl (wpAny_bind (wpAny_listPart pu (wpAny_pure ?_))))
  first
    | simp only [hsame, Bool.false_eq_true, if_false]
    | refine PySem.W.KFB.if_not hsame ?_
    | (dsimp only
       rw [if_neg (by rw [hsame]; exact Bool.false_ne_true)])
  refine wpAny_bind (m := Builtin.List.listAllItems (.ref b) "must assign iterable to extended slice") ?_
  unfold Builtin.List.listAllItems
  refine wpAny_bind (wpAny_typeOf hb.typeIs ?_)
  first
    | refine PySem.W.KFB.if_so (by decide) ?_
    | rw [if_pos (by decide)]
    | simp only [beq_self_eq_true, Bool.true_or, if_true]
  unfold Builtin.List.listItems
  refine wpAny_bind (wpAny_seqItems e2 rfl (wpAny_pure ?_))
  refine wpAny_bind (wpAny_bind (wpAny_seqItems e rfl (wpAny_pure ?_)))
  refine wpAny_bind (wpAny_of_eq ((sliceIndices_raw (some (a : Int)) (some (c : Int)) none items.size (by simp)).trans (congrArg (pure : Int × Int × Int → Sem (Int × Int × Int)) (bounds_run hac hc))) ?_)
  show wpAny _ _ (if ((1 : Int) == 1) = true then _ else _) _ _ s
  rw [if_pos (by decide)]
  refine wpAny_bind (wpAny_rule ?_)
  first
    | simp only [notLongL hsz, Bool.false_eq_true, if_false]
    | refine PySem.W.KFB.if_not (notLongL hsz) ?_
  first | refine wpAny_bind (wpAny_pure ?_) | skip
  show wpAny _ _ (updateSeq l (fun xs => xs.extract 0 ((a : Int)).toNat ++ new ++ xs.extract (max (a : Int) (c : Int)).toNat xs.size) >>= _) _ _ s
  rw [hmax, Int.toNat_natCast]
  refine wpAny_bind (wpAny_updateSeq (hz := Nat.le_trans (Nat.le_add_right _ _) hsz) (_hz' := hz') e rfl ?_)
  refine wpAny_bind (wpAny_letGo ?_)
  first
    | exact wpAny_bind (wpAny_pure (wpAny_pure ⟨.none, rfl, wpAny_pure h⟩))
    | exact wpAny_pure ⟨.none, rfl, wpAny_pure h⟩
end

section
variable {X : Cx}
/-- xs[a:c] = ys of another list, at the value level: sl is the slice object that was just made -/
theorem set_slice {pins : List (Addr × Obj)} {s : Shared} {σ : St} {H : Hp} {l b sl : Addr} {xs ys : List V} {a c : Int} {vl vu : Value} {Q : Unit → Shared → Prop} (I : Inv X pins σ H s)
    (hH : H l = some (.lst xs)) (hB : H b = some (.lst ys)) (hne : l ≠ b) (hs : s.heap.IsSliceOf sl vl vu .none) (ra : RelV (.int a) vl) (rc : RelV (.int c) vu) (h0 : 0 ≤ a) (hac : a ≤ c) (hc : c ≤ xs.length)
    (hz : xs.length + ys.length ≤ sizeLine) (h : ∀ s', Inv X pins σ (upd H l (.lst (xs.take a.toNat ++ ys ++ xs.drop c.toNat))) s' → Q () s') :
    wpAny (model X.prog X.w) X.A (setItem (.ref l) (.ref sl) (.ref b)) Q X.xe s := by
  obtain ⟨ta, rfl⟩ := ra
  obtain ⟨tc, rfl⟩ := rc
  obtain ⟨z, its, n, r, hl, e⟩ := I.lstM hH
  obtain ⟨z2, its2, n2, r2, hl2, e2⟩ := I.lstM hB
  obtain ⟨a', rfl⟩ := Int.eq_ofNat_of_zero_le h0
  obtain ⟨c', rfl⟩ := Int.eq_ofNat_of_zero_le (Int.le_trans h0 hac)
  simp only [Int.toNat_natCast] at h
  refine setItem_slice (a := a') (c := c') e e2 hne hs (.int _ _) (.int _ _) (by omega) (by rw [List.size_toArray]; omega) (by rw [List.size_toArray, List.size_toArray]; omega) (h _ ?_)
  refine I.lset (its' := its.take a' ++ its2 ++ its.drop c') (t' := s.toks) hH e ?_ (Vals.append (Vals.append (r.take _) r2) (r.drop _)) ?_
  · exact splice_eq its its2 a' c'
  · rw [List.length_append, List.length_append, List.length_take, List.length_drop]
    omega
end
end L2

namespace Att
open PySem PySem.W PySem.Calls PyProof.Rows

/-! ### the script -/
theorem ints_of_wellAll {P : Params} {h : Heap} : ∀ (ns : List Int) (vs : List Value), WellAll P h vs (ns.map WData.int) → IntsAre vs ns := by
  intro ns
  induction ns with
  | nil =>
    intro vs w
    rw [List.map_nil] at w
    cases w
    exact .nil
  | cons n ns ih =>
    intro vs w
    rw [List.map_cons] at w
    cases w with
    | cons a b =>
      cases a
      exact .cons _ _ (ih _ b)

theorem script_of {l : OpenLaw} {n : Nat} (hn : l.most = some n) {P : Params} {h : Heap} {args : List WData} {vals : List Value}
    (hpre : l.row.toRowW.claim.pre args = true) (hwl : WellAll P h vals args) :
    ∃ a vs ns, vals = [Value.ref a] ∧ args = [WData.list (ns.map WData.int)] ∧ h.get? a = some { cls := .type "list", data := .seq vs.toArray } ∧ IntsAre vs ns ∧ ns.length ≤ n := by
  have hsh : WShape.hasAll [] args [.list .int] = true := (pre_splitW hpre).1
  have hc : l.pre.holds [] { args := args } = true := (pre_splitW hpre).2
  obtain ⟨d, r, rfl, h1, h2⟩ := hasAllW_cons hsh
  obtain rfl := hasAllW_nil h2
  obtain ⟨xs, rfl, h3⟩ := hasW_list h1
  obtain ⟨ns, rfl⟩ := items_int h3
  have hlen : ns.length ≤ n := by
    unfold OpenLaw.pre at hc
    have h4 : (WTm.not (.lt (.lit (.int (n : Int))) (.len (.arg 0)))).holds [] { args := [.list (ns.map .int)] } = true := by
      have h4 := (holds_andW hc).1
      rw [hn] at h4
      exact h4
    have h5 := condW_of h4 (w_not (w_lt w_lit (w_len_list (w_arg rfl))))
    rw [List.length_map] at h5
    refine Nat.le_of_not_lt fun q => ?_
    have q' : (n : Int) < ((ns.length : Nat) : Int) := by omega
    first
      | (rw [decide_eq_true q'] at h5; exact absurd h5 (by decide))
      | (simp at h5; omega)
  cases hwl with
  | cons w1 w2 =>
    cases w2
    cases w1 with
    | list ho hall => exact ⟨_, _, ns, rfl, rfl, ho, ints_of_wellAll ns _ hall, hlen⟩

theorem post_true (l : OpenLaw) (args : List WData) : l.row.toRowW.claim.post args (.bool true) args = true :=
  postW_of (r := l.row.toRowW) (X := (true == true))
    (show WShape.has [] (.bool true) .bool = true by first | rfl | decide | simp [WShape.has, WShape.arms, WShape.armsAll])
    (show (WTm.eq .res (.lit (.bool true))).value [] { args := args, res := some (.bool true), after := args } = some (.bool (true == true)) from w_eq_bool (w_res rfl) w_lit) rfl

/-! ### the attachment: holds_open's last premise (the goal 'hc' behind k_head) from a wpAny of the law's body -/
theorem attach {l : OpenLaw} {n : Nat} {q : Program} {loose : List Str} {XP : (Str → Option Value) → Heap → Prop} {YP : World → Heap → Prop} {d : DefRec} {x : Str}
    (hn : l.most = some n) (hdf : d.params.defaults = [])
    (hbind : ∀ pm cd doc v : Value, bindArgs (docDef d.name d.params d.body d.scope pm cd doc) ⟨[v], []⟩ = pure [(x, v)])
    (hx : d.scope.names.lookup x = some .local ∨ d.scope.names.lookup x = some .cell)
    (hk : d.scope.kind = .function) (hco : d.scope.isCoroutine = false) (hgen : d.scope.isGenerator = false)
    (body : ∀ (w : World) (s₀ s₁ s : Shared) (mg mb : Str → Option Value) (fa : Addr) (o : Obj) (pm cd doc : Value) (a : Addr) (vs : List Value) (ns : List Int),
      Ground q loose [] XP w s₀ mg mb s₁.heap → YP w s₁.heap →
      s₁.heap.get? fa = some o → o.data = .func (docDef d.name d.params d.body d.scope pm cd doc) → s₁.heap.CodeRec cd d.name → mg d.name = some (.ref fa) →
      s₁.heap.get? a = some { cls := .type "list", data := .seq vs.toArray } → IntsAre vs ns → ns.length ≤ n →
      s.gens = #[] → s.os = s₁.os →
      Fr s₁.heap s₁.heap.objs.size s.heap (bindL (envOfC d.name d.scope s₁.heap.objs.size fa cd).kindOf [(x, .ref a)] fun _ => none) →
      Cl s₁.heap.objs.size (cellsFrom (s₁.heap.objs.size + 1) d.scope.names []) s.heap (bindC (envOfC d.name d.scope s₁.heap.objs.size fa cd).kindOf [(x, .ref a)] fun _ => none) →
      wpAny (model l.prog w) (callerA.deeper (envOfC d.name d.scope s₁.heap.objs.size fa cd)) (execs d.body (envOfC d.name d.scope s₁.heap.objs.size fa cd))
        (fun f s' => f = .ret (.bool true) ∧ OldK s₁.heap s'.heap ∧ s'.os = s₁.os ∧ AllBare s'.gens) (fun _ _ => False) s) :
    WalkO q loose XP YP l.row.toRowW d [] (fun f vs => PySem.call f vs) := by
  intro w s₀ s₁ mg mb G Y fa o pm cd doc dV kV ho hd hcd hD hmg hg args vals as hpre hlay hrd hwl hlo
  obtain rfl : dV = .none := Dflts.none hD hdf
  obtain rfl : kV = .none := Dflts.noKw hD
  obtain ⟨a, vs, ns, rfl, rfl, hobj, hints, hlen⟩ := script_of hn hpre hwl
  refine enter_call ?_
  refine call_cells_ret (o := o) (by rw [depth_caller]; decide) ho (fd_plain hd) G.T.nolimit hcd (hbind pm cd doc (.ref a)) (fun y hy => ?_) (fun h₁ tk F X => ?_) hco hgen hk
  · obtain rfl : y = (x, Value.ref a) := List.mem_singleton.mp hy
    rcases hx with e | e
    · exact .inl e
    · exact .inr ⟨e, cellsFrom_some _ _ _ (.inl e)⟩
  · refine wpAny_mono (body w s₀ s₁ { s₁ with heap := h₁, toks := tk } mg mb fa o pm cd doc a vs ns G Y ho (fd_plain hd) hcd hmg hobj hints hlen hg rfl F X) (fun f s' hq => ?_) (fun _ _ hq => hq)
    obtain ⟨rfl, h2, h3, h4⟩ := hq
    exact ⟨.inl ⟨.bool true, .bool true, [], rfl, fun _ => rfl, .bool true, post_true l _, fun _ => ⟨List.Pairwise.nil, fun _ hm => (nomatch hm)⟩⟩, h2, h3, h4⟩

/-- the same from a codeAny of the CALL (for a layer whose function contracts speak of calls) -/
theorem attach_call {l : OpenLaw} {n : Nat} {q : Program} {loose : List Str} {XP : (Str → Option Value) → Heap → Prop} {YP : World → Heap → Prop} {d : DefRec}
    (hn : l.most = some n) (hdf : d.params.defaults = [])
    (call : ∀ (w : World) (s₀ s₁ : Shared) (mg mb : Str → Option Value) (fa : Addr) (o : Obj) (pm cd doc : Value) (a : Addr) (vs : List Value) (ns : List Int),
      Ground q loose [] XP w s₀ mg mb s₁.heap → YP w s₁.heap →
      s₁.heap.get? fa = some o → o.data = .func (docDef d.name d.params d.body d.scope pm cd doc) → s₁.heap.CodeRec cd d.name → mg d.name = some (.ref fa) →
      s₁.heap.get? a = some { cls := .type "list", data := .seq vs.toArray } → IntsAre vs ns → ns.length ≤ n → s₁.gens = #[] →
      codeAny (model l.prog w) callerA (.call (.ref fa) ⟨[.ref a], []⟩) (fun r s' => r = .ok (.ret (.bool true)) ∧ OldK s₁.heap s'.heap ∧ s'.os = s₁.os ∧ AllBare s'.gens) s₁) :
    WalkO q loose XP YP l.row.toRowW d [] (fun f vs => PySem.call f vs) := by
  intro w s₀ s₁ mg mb G Y fa o pm cd doc dV kV ho hd hcd hD hmg hg args vals as hpre hlay hrd hwl hlo
  obtain rfl : dV = .none := Dflts.none hD hdf
  obtain rfl : kV = .none := Dflts.noKw hD
  obtain ⟨a, vs, ns, rfl, rfl, hobj, hints, hlen⟩ := script_of hn hpre hwl
  refine enter_call (codeAny_mono (call w s₀ s₁ mg mb fa o pm cd doc a vs ns G Y ho (fd_plain hd) hcd hmg hobj hints hlen hg) fun r s' hq => ?_)
  obtain ⟨rfl, h2, h3, h4⟩ := hq
  exact ⟨.inl ⟨.bool true, .bool true, [], rfl, fun _ => rfl, .bool true, post_true l _, fun _ => ⟨List.Pairwise.nil, fun _ hm => (nomatch hm)⟩⟩, h2, h3, h4⟩

/-- the same where the top left finished generators (o_head chose holds_openN): nothing may have changed at all and no generator may be left -/
theorem attachN {l : OpenLaw} {n : Nat} {q : Program} {loose : List Str} {XP : (Str → Option Value) → Heap → Prop} {YP : World → Heap → Prop} {d : DefRec} {x : Str}
    (hn : l.most = some n) (hdf : d.params.defaults = [])
    (hbind : ∀ pm cd doc v : Value, bindArgs (docDef d.name d.params d.body d.scope pm cd doc) ⟨[v], []⟩ = pure [(x, v)])
    (hx : d.scope.names.lookup x = some .local ∨ d.scope.names.lookup x = some .cell)
    (hk : d.scope.kind = .function) (hco : d.scope.isCoroutine = false) (hgen : d.scope.isGenerator = false)
    (body : ∀ (w : World) (s₀ s₁ s : Shared) (mg mb : Str → Option Value) (fa : Addr) (o : Obj) (pm cd doc : Value) (a : Addr) (vs : List Value) (ns : List Int),
      Ground q loose [] XP w s₀ mg mb s₁.heap → YP w s₁.heap →
      s₁.heap.get? fa = some o → o.data = .func (docDef d.name d.params d.body d.scope pm cd doc) → s₁.heap.CodeRec cd d.name → mg d.name = some (.ref fa) →
      s₁.heap.get? a = some { cls := .type "list", data := .seq vs.toArray } → IntsAre vs ns → ns.length ≤ n →
      s.gens = #[] → s.os = s₁.os →
      Fr s₁.heap s₁.heap.objs.size s.heap (bindL (envOfC d.name d.scope s₁.heap.objs.size fa cd).kindOf [(x, .ref a)] fun _ => none) →
      Cl s₁.heap.objs.size (cellsFrom (s₁.heap.objs.size + 1) d.scope.names []) s.heap (bindC (envOfC d.name d.scope s₁.heap.objs.size fa cd).kindOf [(x, .ref a)] fun _ => none) →
      wpAny (model l.prog w) (callerA.deeper (envOfC d.name d.scope s₁.heap.objs.size fa cd)) (execs d.body (envOfC d.name d.scope s₁.heap.objs.size fa cd))
        (fun f s' => f = .ret (.bool true) ∧ (∀ b o, s₁.heap.get? b = some o → s'.heap.get? b = some o) ∧ s'.os = s₁.os ∧ s'.gens = #[]) (fun _ _ => False) s) :
    WalkN q loose XP YP l.row.toRowW d [] (fun f vs => PySem.call f vs) := by
  intro w s₀ s₁ mg mb G Y fa o pm cd doc dV kV ho hd hcd hD hmg hg args vals as hpre hlay hrd hwl hlo
  obtain rfl : dV = .none := Dflts.none hD hdf
  obtain rfl : kV = .none := Dflts.noKw hD
  obtain ⟨a, vs, ns, rfl, rfl, hobj, hints, hlen⟩ := script_of hn hpre hwl
  refine enter_callW ?_
  refine call_cells_ret (o := o) (by rw [depth_caller]; decide) ho (fd_plain hd) G.T.nolimit hcd (hbind pm cd doc (.ref a)) (fun y hy => ?_) (fun h₁ tk F X => ?_) hco hgen hk
  · obtain rfl : y = (x, Value.ref a) := List.mem_singleton.mp hy
    rcases hx with e | e
    · exact .inl e
    · exact .inr ⟨e, cellsFrom_some _ _ _ (.inl e)⟩
  · refine wpAny_mono (body w s₀ s₁ { s₁ with heap := h₁, toks := tk } mg mb fa o pm cd doc a vs ns G Y ho (fd_plain hd) hcd hmg hobj hints hlen hg rfl F X) (fun f s' hq => ?_) (fun _ _ hq => hq)
    obtain ⟨rfl, h2, h3, h4⟩ := hq
    exact ⟨.inl ⟨.bool true, .bool true, [], rfl, fun _ => rfl, .bool true, post_true l _, fun _ => ⟨List.Pairwise.nil, fun _ hm => (nomatch hm)⟩⟩, h2, h3, h4⟩

/-! ### rules over ANY heap (no ledger) from facts about the written part K: the library's own take a ledger (News) for what they write -/
section
variable {prog : Program} {w : World} {A : Around} {E : Value → Shared → Prop} {s : Shared} {K : Frag}

/-- a def of the module, or a method (qual 'C.m'), entered: the frame is the next address; cells behind it -/
theorem call_fn {R : Result → Shared → Prop} {name qual : Str} {params : Arguments} {body : List Stmt} {scope : Scope} {dV kV doc pm cdv ct oc : Value} {an od : Option Addr} {osl : Array (Option Value)} {f : Addr} {args : Args} {binds : List (Str × Value)}
    (X : K.In s.heap) (hlim : s.heap.NoLimit) (ho : K.lookup f = some ⟨oc, od, .func (fnOf name qual params body scope dV kV doc pm an cdv ct), osl⟩) (hcd : codeIn K cdv qual = true) (hroom : A.depth < recursionLimit)
    (hbind : BindsTo s (fnOf name qual params body scope dV kV doc pm an cdv ct) args binds)
    (hkind : (binds.all fun y => scope.names.lookup y.1 == some .local || scope.names.lookup y.1 == some .cell) = true)
    (h : ∀ s₁, InCallC s s.heap.objs.size (bindL (envOfC qual scope s.heap.objs.size f cdv).kindOf binds fun _ => none) (cellsFrom (s.heap.objs.size + 1) scope.names [])
        (bindC (envOfC qual scope s.heap.objs.size f cdv).kindOf binds fun _ => none) s₁ →
      wpAny (model prog w) (A.deeper (envOfC qual scope s.heap.objs.size f cdv)) (execs body (envOfC qual scope s.heap.objs.size f cdv))
        (fun fl s' => R (.ok (.ret (match fl with | .ret v => v | _ => .none))) s')
        (fun e s' => wpAny (model prog w) (A.deeper (envOfC qual scope s.heap.objs.size f cdv)) (leaving (envOfC qual scope s.heap.objs.size f cdv) e) (fun _ s'' => R (.error e) s'') (fun e' s'' => R (.error e') s'') s') s₁)
    (hco : scope.isCoroutine = false) (hgen : scope.isGenerator = false) (hk : scope.kind = .function) : codeAny (model prog w) A (.call (.ref f) args) R s := by
  refine codeAny_call_function hroom (X _ _ ho) rfl hco hgen rfl (codeRec_of X hcd) (hbind _ _ _ _ ?_)
  refine wpAny_newFunctionEnv_cells hk (kindsX hkind _) fun env he s₁ x => ?_
  subst he
  exact ⟨hlim.keeps x.toInCall.keep, codeAny_func (h s₁ x)⟩

/-- C(..): dict at size, instance at size + 1, then __init__ -/
theorem make_obj {R : Result → Shared → Prop} {C fI : Addr} {rest : List Value} {kw : List (Str × Value)}
    (X : K.In s.heap) (hm : makesIn K C = true) (hi : findIn K (.ref C) "__init__" = some (some (.ref fI))) (hf : isFn K (.ref fI) = true)
    (h : codeAny (model prog w) (A.under (.builtin "type.__call__" ⟨.ref C :: rest, kw⟩)) (.call (.ref fI) ⟨.ref (s.heap.objs.size + 1) :: rest, kw⟩) (InitBack (s.heap.objs.size + 1) R)
      { s with heap := (s.heap.push emptyDict).push (instObj C s.heap.objs.size) }) : codeAny (model prog w) A (.call (.ref C) ⟨rest, kw⟩) R s := by
  obtain ⟨hh, g, d, t, os⟩ := s
  exact make_core (makes_of X hm) (looks_findIn X hi) (fun self => bind_fn X self (beq_iff_eq.mp hf)) (.inl rfl) h

/-- x.name where the instance's dict holds the name and the class does not -/
theorem get_field {x C : Addr} {ox : Obj} {es : List DictEntry} {n : Nat} {name : Str} {expr : Bool} {v : Value} {Q : Value → Shared → Prop}
    (X : K.In s.heap) (I : PySem.W.InstAt s.heap x ox C (some (dictOf es n))) (hg : plainGet K C name = true) (hh : hasDictIn K C = true) (ha : findIn K (.ref C) name = some none)
    (hl : getL name es = some (some v)) (hv : handedIn v = true) (h : Q v { s with toks := s.toks + 1 }) : wpAny (model prog w) A (getAttr (.ref x) name expr) Q E s :=
  get_value X I (plainGet_of hg).1 (findObj_own hh ha rfl hl) hv h

/-- x.m(..): the method found in the class -/
theorem get_method {x C f : Addr} {ox : Obj} {es : List DictEntry} {n : Nat} {name : Str} {pl : Sem Bool} {Q : Value × List Value → Shared → Prop}
    (X : K.In s.heap) (I : PySem.W.InstAt s.heap x ox C (some (dictOf es n))) (hg : plainGet K C name = true) (hf : findIn K (.ref C) name = some (some (.ref f))) (ht : isFn K (.ref f) = true)
    (hl : getL name es = some none) (h : Q (.ref f, [.ref x]) s) : wpAny (model prog w) A (getMethod (.ref x) name pl) Q E s :=
  method_fn X I (plainGet_of hg).1 (plainGet_of hg).2 hf (beq_iff_eq.mp ht) (by show (lookIn name (dictOf es n)).map _ = _; rw [lookIn_dict, hl]; rfl) h

/-! the whole heap as the ledger: makes every rule that writes through a ledger a rule over any heap -/
def noObjs (h : Heap) : Heap := { h with objs := #[] }
theorem noObjs_get (h : Heap) (b : Addr) : (noObjs h).get? b = none := by
  cases e : (noObjs h).get? b with
  | none => rfl
  | some o => exact absurd (Heap.lt_size e) (Nat.not_lt_zero _)
def ledger (h : Heap) (L d : Addr) : List (Addr × Obj) := (List.range h.objs.size).filterMap fun a => if a = L ∨ a = d then none else (h.get? a).map fun o => (a, o)
theorem mem_ledger {h : Heap} {L d a : Addr} {o : Obj} : (a, o) ∈ ledger h L d ↔ a ≠ L ∧ a ≠ d ∧ h.get? a = some o := by
  unfold ledger
  rw [List.mem_filterMap]
  constructor
  · rintro ⟨b, _, e⟩
    split at e
    · cases e
    · rename_i hb
      obtain ⟨o', ho, e'⟩ := Option.map_eq_some_iff.mp e
      cases e'
      exact ⟨fun q => hb (.inl q), fun q => hb (.inr q), ho⟩
  · rintro ⟨n1, n2, ho⟩
    refine ⟨a, List.mem_range.mpr (Heap.lt_size ho), ?_⟩
    rw [if_neg (show ¬ (a = L ∨ a = d) from fun q => q.elim n1 n2), ho] <;> rfl
theorem news_ledger {h : Heap} {L d : Addr} {od : Obj} (hne : d ≠ L) (ho : h.get? d = some od) : News (noObjs h) L h ([] ++ (d, od) :: ledger h L d) := by
  rintro ⟨a, o⟩ hp
  rcases List.mem_cons.mp hp with e | hp
  · cases e
    exact ⟨ho, hne, noObjs_get _ _⟩
  · obtain ⟨n1, n2, e⟩ := mem_ledger.mp hp
    exact ⟨e, n1, noObjs_get _ _⟩
theorem fr_all {h : Heap} {L : Addr} {m : Str → Option Value} (n : h.Ns L m) : Fr (noObjs h) L h m :=
  ⟨n, fun b o e => (by rw [noObjs_get] at e; cases e), Nat.zero_le _⟩
/-- Upd of the head entry (for append_K, setItem_K ..) -/
theorem upd_ledger {h : Heap} {L d : Addr} {o o' : Obj} : Upd d o o' ((d, o) :: ledger h L d) ((d, o') :: ledger h L d) :=
  .head fun ⟨_, _⟩ hp => (mem_ledger.mp hp).2.1

/-- x.name = v over any heap: L is any namespace of the heap (the frame's, say): its map stays, its object is not told; all else but the dict stays -/
theorem set_field {x C dx L : Addr} {ox : Obj} {m : Str → Option Value} {es es' : List DictEntry} {n n' : Nat} {name : Str} {v : Value} {Q : Unit → Shared → Prop}
    (X : K.In s.heap) (I : PySem.W.InstAt s.heap x ox C (some (dictOf es n))) (hd : ox.dict = some dx) (hL : s.heap.Ns L m) (hne : dx ≠ L)
    (hs : findIn K (.ref C) "__setattr__" = some (some (.builtin "object.__setattr__"))) (hp : plainOver K C = true) (ht : takerIn K C name = some none) (hh : hasDictIn K C = true) (hl : (getL name es).isSome = true)
    (e : (putL name (PyData.keyHash w.params name) (.str name (s.toks + 1)) v es, putN name es n) = (es', n')) (hz : es'.length ≤ 1000)
    (h : ∀ h' : Heap, h'.Ns L m → h'.get? dx = some (dictOf es' n') → (∀ b o, b ≠ dx → b ≠ L → s.heap.get? b = some o → h'.get? b = some o) → Q () { s with heap := h', toks := s.toks + 2 }) :
    wpAny (model prog w) A (setAttr (.ref x) name v) Q E s := by
  obtain ⟨e1, e2⟩ := Prod.mk.inj e
  have hdx : s.heap.get? dx = some (dictOf es n) := by
    have := I.dict
    rw [hd] at this
    exact this
  refine set_plain X I hs (osa_dict (s := { s with toks := s.toks + 1 }) (h₀ := noObjs s.heap) (L := L) (m := m) (od := dictOf es n) (od' := dictOf es' n') (es := es') (n := n') (pre := []) (post := ledger s.heap L dx)
    (fr_all hL) (news_ledger hne hdx) X I hd hp ht hh hl (fun _ q => nomatch q) (fun ⟨_, _⟩ q => (mem_ledger.mp q).2.1) (by rw [putName_dict, e1, e2]) rfl hz fun h' F' N' => ?_)
  exact h h' F'.ns (N'.get (List.Mem.head _)) fun b o n1 n2 ho => N'.get (List.Mem.tail _ (mem_ledger.mpr ⟨n2, n1, ho⟩))
end
end Att

namespace L2
open PySem PySem.Spec PyProof.Rows

theorem vals_ints : ∀ {vs : List Value} {ns : List Int}, IntsAre vs ns → Vals (ns.map V.int) vs
  | _, _, .nil => .nil
  | _, _, .cons n t h => .cons ⟨t, rfl⟩ (vals_ints h)

/-- nothing is tracked but the script, known to the object (or it is an object of the module) -/
def Only (H : Hp) : Prop := ∀ b, H b = none ∨ ∃ o xs, H b = some (.frz o (.lst xs))

/-- THE HEAD: the law's promise, at the heap behind the top. F, the promise of the law's def, may use that base is part of the heap (so K.In base, base.Ns mainGlobals mg stand in Mod) -/
theorem law_call {P : Program} {w : World} {K : PySem.W.Frag} {mg mb : Str → Option Value} {CX : CXT} {k : Nat} {fa a : Addr} {fd : FuncData} {x : Str} {sp : Sp} {s₁ : Shared} {vs : List Value} {ns : List Int}
    (KX : K.In s₁.heap) (hns : s₁.heap.Ns mainGlobals mg) (hb : s₁.heap.Ns builtinsNs mb) (hbb : ∀ x : Str, x ≠ "__name__" → mb x = bootBuiltins x) (hlim : s₁.heap.NoLimit) (hg : s₁.gens = #[])
    (ha : s₁.heap.get? a = some { cls := .type "list", data := .seq vs.toArray }) (hi : IntsAre vs ns) (hl : ns.length ≤ sizeLine) (hr : Room k callerA)
    (F : ∀ base : Heap, K.In base → base.Ns mainGlobals mg → FnOk P w K mg base CX k fa fd [x] sp) (hbind : ∀ (s : Shared) (u : Value), BindsTo s fd ⟨[u], []⟩ [(x, u)])
    (hsp : ∀ H : Hp, Only H → SqL K H a (ns.map V.int) → sp [.ref a] H (fun v _ => v = .bl true) fun _ _ _ => False)
    (hCX : ∀ H e s', CX [] H s₁ (fun _ _ _ => False) e s' → False) :
    codeAny (model P w) callerA (.call (.ref fa) ⟨[.ref a], []⟩) (fun r s' => r = .ok (.ret (.bool true)) ∧ OldK s₁.heap s'.heap ∧ s'.os = s₁.os ∧ AllBare s'.gens) s₁ := by
  have rv := vals_ints hi
  have lenV := hi.length
  -- from an abstract heap in which nothing but the script may be tracked
  have core : ∀ H : Hp, Only H → SqL K H a (ns.map V.int) → HOk P w H s₁.heap → (∀ b, H b ≠ none → b = a) → (H a ≠ none → K.lookup a = none) →
      codeAny (model P w) callerA (.call (.ref fa) ⟨[.ref a], []⟩) (fun r s' => r = .ok (.ret (.bool true)) ∧ OldK s₁.heap s'.heap ∧ s'.os = s₁.os ∧ AllBare s'.gens) s₁ := by
    intro H hO hS hok hA hK
    have base_of : ∀ {b : Addr} {o : Obj}, s₁.heap.get? b = some o → H b = none → (hidT s₁.heap H).get? b = some o := fun e n => hidT_get e n
    have noA : ∀ {b : Addr} {o : Obj} {es : Array DictEntry} {ep : Nat}, s₁.heap.get? b = some o → o.data = .dict es ep → H b = none := fun {b o es ep} e d => by
      cases q : H b with
      | none => rfl
      | some u =>
        have e' : b = a := hA b (by rw [q]; simp)
        subst e'
        rw [ha] at e; cases e
        have d' : Data.seq vs.toArray _ = Data.dict es ep := d
        cases d'
    have nsK : ∀ {b : Addr} {m : Str → Option Value}, s₁.heap.Ns b m → (hidT s₁.heap H).Ns b m := fun {b m} ⟨o, es, ep, e, d, r⟩ => ⟨o, es, ep, base_of e (noA e d), d, r⟩
    have hKb : K.In (hidT s₁.heap H) := fun b o e => base_of (KX b o e) (by
      cases q : H b with
      | none => rfl
      | some u =>
        have e' : b = a := hA b (by rw [q]; simp)
        subst e'
        rw [hK (by rw [q]; simp)] at e; cases e)
    have hM : Mod K mg (hidT s₁.heap H) := ⟨hKb, nsK hns, ⟨mb, nsK hb, hbb⟩, let ⟨mc, h1, h2⟩ := hlim; ⟨mc, nsK h1, h2⟩⟩
    have e0 : Env0 P w K mg (hidT s₁.heap H) callerA [] s₁ H := ⟨rfl, hM, fun b o e => of_hidT e, Nat.le_of_eq (hidT_size _ _), trivial, fun b hb => absurd (show b ∈ ([] : List Addr) from hb) (by simp), hok, .of_eq hg⟩
    refine codeAny_mono ((F _ hKb (nsK hns)).run callerA [] s₁ H ⟨[.ref a], []⟩ [.ref a] [.ref a] _ _ hr e0 (hbind s₁ (.ref a)) (.cons rfl .nil) (hsp H hO hS)) fun r s' h => ?_
    cases r with
    | error e => exact (hCX H e s' h).elim
    | ok fl =>
      cases fl with
      | next => exact False.elim h
      | brk => exact False.elim h
      | cont => exact False.elim h
      | ret u =>
        obtain ⟨v, H', os, bare, un, hok', r', q⟩ := h
        have q' : v = .bl true := q
        subst q'
        obtain rfl : u = Value.bool true := r'
        refine ⟨rfl, OldK.of_keep fun b o e => ?_, os, bare⟩
        cases q : H b with
        | none => exact un.keep b o e q (by intro z; exact absurd (show b ∈ ([] : List Addr) from z) (by simp)) (by simp)
        | some u =>
          rcases hO b with z | ⟨ob, xs, z⟩
          · rw [q] at z; cases z
          · have z2 := un.frzs b ob _ z
            obtain ⟨e1, _⟩ := hok b _ z
            obtain ⟨e2, _⟩ := hok' b _ z2
            rw [e] at e1; cases e1
            exact e2
  cases hk : K.lookup a with
  | some o =>
    -- the script is one of the module's own objects
    have e := KX a o hk
    rw [ha] at e
    cases e
    refine core (fun _ => none) (fun _ => .inl rfl) (.inr ⟨_, vs.toArray, _, hk, rfl, rfl, rfl, by rw [List.size_toArray, lenV]; exact hl, by simpa using rv⟩) (fun b u z => by have z' : (none : Option HO) = some u := z; cases z') (fun b z => absurd rfl z) fun z => absurd rfl z
  | none =>
    refine core (fun b => if b = a then some (.frz { cls := .type "list", data := .seq vs.toArray } (.lst (ns.map V.int))) else none) (fun b => ?_) (.inl (.inr ⟨{ cls := .type "list", data := .seq vs.toArray }, if_pos rfl⟩)) (fun b u z => ?_) (fun b z => ?_) fun _ => hk
    · by_cases hb : b = a
      · exact .inr ⟨_, _, if_pos hb⟩
      · exact .inl (if_neg hb)
    · by_cases hb : b = a
      · have z' := (if_pos hb).symm.trans z
        cases z'
        subst hb
        exact ⟨ha, by rw [List.length_map]; exact hl, vs, _, rv, ha⟩
      · have z' := (if_neg hb).symm.trans z
        cases z'
    · by_cases hb : b = a
      · exact hb
      · exact absurd (if_neg hb) z
end L2

namespace L2
open PySem PySem.Spec PyProof.Rows

abbrev KOf {K : PySem.W.Frag} {h : Heap} (_ : K.In h) : PySem.W.Frag := K

/-- the goal that k_head leaves (case hc), from the law's promise. F gives the function object fd (K's own) once, then the promise over every base -/
theorem walk_of {l : PySem.W.OpenLaw} {n k : Nat} {q : Program} {loose : List Str} {XP : (Str → Option Value) → Heap → Prop} {YP : World → Heap → Prop} {d : DefRec} {K : Params → PySem.W.Frag} {CX : World → CXT} {sp : World → Sp} {x : Str}
    (hn : l.most = some n) (hn2 : n ≤ sizeLine) (hdf : d.params.defaults = []) (hr : Room k callerA)
    (hY : ∀ (w : World) (h : Heap), YP w h → (K w.params).In h)
    (F : ∀ (w : World) (mg : Str → Option Value) (fa : Addr) (h : Heap), (K w.params).In h → h.Ns mainGlobals mg → mg d.name = some (.ref fa) →
      ∃ fd : FuncData, (∀ (s : Shared) (u : Value), BindsTo s fd ⟨[u], []⟩ [(x, u)]) ∧
        ∀ base : Heap, (K w.params).In base → base.Ns mainGlobals mg → FnOk l.prog w (K w.params) mg base (CX w) k fa fd [x] (sp w))
    (hsp : ∀ (w : World) (H : Hp) (a : Addr) (ns : List Int), ns.length ≤ n → Only H → SqL (K w.params) H a (ns.map V.int) → sp w [.ref a] H (fun v _ => v = .bl true) fun _ _ _ => False)
    (hCX : ∀ (w : World) (H : Hp) (s : Shared) (e : Value) (s' : Shared), CX w [] H s (fun _ _ _ => False) e s' → False) :
    PySem.W.WalkO q loose XP YP l.row.toRowW d [] (fun f vs => PySem.call f vs) := by
  refine Att.attach_call hn hdf fun w s₀ s₁ mg mb fa o pm cd doc a vs ns G Y ho hd hcd hmg hobj hints hlen hg => ?_
  have KX := hY w _ Y
  obtain ⟨fd, hb, hF⟩ := F w mg fa _ KX G.T.g hmg
  exact law_call KX G.T.g G.T.b G.T.builtins G.T.nolimit hg hobj hints (Nat.le_trans hlen hn2) hr hF hb (fun H hO hS => hsp w H a ns hlen hO hS) fun H e s' => hCX w H s₁ e s'
/-- the same where the promise hangs on the written part alone: (sp := My.sp_law), no hole under a binder -/
theorem walk_ofK {l : PySem.W.OpenLaw} {n k : Nat} {q : Program} {loose : List Str} {XP : (Str → Option Value) → Heap → Prop} {YP : World → Heap → Prop} {d : DefRec} {K : Params → PySem.W.Frag} {CX : CXT} {sp : PySem.W.Frag → Sp} {x : Str}
    (hn : l.most = some n) (hn2 : n ≤ sizeLine) (hdf : d.params.defaults = []) (hr : Room k callerA)
    (hY : ∀ (w : World) (h : Heap), YP w h → (K w.params).In h)
    (F : ∀ (w : World) (mg : Str → Option Value) (fa : Addr) (h : Heap), (K w.params).In h → h.Ns mainGlobals mg → mg d.name = some (.ref fa) →
      ∃ fd : FuncData, (∀ (s : Shared) (u : Value), BindsTo s fd ⟨[u], []⟩ [(x, u)]) ∧
        ∀ base : Heap, (K w.params).In base → base.Ns mainGlobals mg → FnOk l.prog w (K w.params) mg base CX k fa fd [x] (sp (K w.params)))
    (hsp : ∀ (K : PySem.W.Frag) (H : Hp) (a : Addr) (ns : List Int), ns.length ≤ n → Only H → SqL K H a (ns.map V.int) → sp K [.ref a] H (fun v _ => v = .bl true) fun _ _ _ => False)
    (hCX : ∀ (H : Hp) (s : Shared) (e : Value) (s' : Shared), CX [] H s (fun _ _ _ => False) e s' → False) :
    PySem.W.WalkO q loose XP YP l.row.toRowW d [] (fun f vs => PySem.call f vs) :=
  walk_of (K := K) (CX := fun _ => CX) (sp := fun w => sp (K w.params)) hn hn2 hdf hr hY F (fun w H a ns h1 h2 h3 => hsp (K w.params) H a ns h1 h2 h3) fun _ H s e s' => hCX H s e s'
end L2

/- THE LAST THEOREM (shape; LID, My.* are yours):
   My.Adr: a structure of the addresses that your layer names (classes, functions); My.Txt K t: a structure (Prop) of the equations over K;
   My.txt_mk : {K} {implicit addresses ..} (e1 : nsIn K mainGlobals "law" = some (some (.ref f))) (e2 : K.lookup f = some ⟨oc, od, .func (fnOf "law" "law" params body scope dV kV doc pm an cdv ct), sl⟩) (e3 : codeIn K cdv "law" = true) .. : ∃ t, My.Txt K t

set_option maxRecDepth 100000 in
set_option maxHeartbeats 0 in
theorem PySem.Challenge.cw_LID_holds : PySem.Challenge.rw_LID.Holds := by
  w_on; o_law; k_head; (case hw => w_witness2)
  k_fill
  refine L2.walk_of (l := PySem.Challenge.rw_LID) (n := 63) (k := 40) (x := "script") (CX := fun w => ..) (sp := fun _ => My.sp_law) rfl (by decide) rfl ⟨rfl, by decide, by decide⟩ (fun w h Y => PySem.W.kIn_of Y) ?F ?S ?C
  case F =>
    intro w mg fa h KX G hmg
    have T : ∃ t, My.Txt (L2.KOf KX) t := by
      dsimp only [L2.KOf]                          -- K must stand as «<heap const> w.params» for k_is
      refine' My.txt_mk ?e1 ?e2 ?e3 ..
      (case e1 => PySem.W.k_is)                    -- in the order: a name -> its address -> its object -> its parts
      (case e2 => PySem.W.k_is)
      ..
    obtain ⟨t, T⟩ := T
    have e0 := hmg.symm.trans (PySem.W.mg_of KX G T.law)
    cases e0                                       -- fa is the law's own address
    exact ⟨_, fun s u => .of_eq rfl, fun base kb nb => My.law_fn T kb nb⟩     -- if «.of_eq rfl» comes too early: refine' ⟨_, ?b, fun base kb nb => My.law_fn T kb nb⟩; exact fun s u => .of_eq rfl
  case S => exact fun w H a ns hl hO hS => ..
  case C => exact ..
(the tactic k_is has no namespace: write k_is) -/

/-! SHORT WORDS over the layer: a def of the text, its body, what a loop and a test want. -/
namespace L2
open PySem PySem.Spec PyProof.Rows

/-! ### the text by places -/
/-- the j-th statement of a class's body -/
def inClass (s : Stmt) (j : Nat) : Stmt := match s with
  | .ClassDef _ _ _ body _ _ _ _ _ _ _ => body.getD j (.Pass ⟨0, 0, 0, 0⟩)
  | _ => .Pass ⟨0, 0, 0, 0⟩
def defArgs (s : Stmt) : Arguments := match s with
  | .FunctionDef _ a _ _ _ _ _ _ _ _ => a
  | _ => { posonlyargs := [], args := [], vararg := none, kwonlyargs := [], kw_defaults := [], kwarg := none, defaults := [] }
def defBody (s : Stmt) : List Stmt := match s with
  | .FunctionDef _ _ b _ _ _ _ _ _ _ => b
  | _ => []
def defScope (s : Stmt) : Scope := match s with
  | .FunctionDef _ _ _ _ _ _ sc _ _ _ => sc
  | _ => { kind := .function, names := [], isGenerator := false, isCoroutine := false }

/-! ### no exception leaves a def -/
abbrev CX0 : CXT := fun _ _ _ _ _ _ => False
abbrev E0 : XK := fun _ _ _ => False
theorem pass0 {X : Cx} : Passes CX0 X E0 := fun _ _ _ _ _ _ _ h => h.elim

/-! ### a def (or method) of the text as it stands behind the top -/
structure Fun (K : PySem.W.Frag) (x qual : Str) (st : Stmt) (f : Addr) (fd : FuncData) : Prop where
  ex : ∃ (oc : Value) (od : Option Addr) (kV doc pm : Value) (an : Option Addr) (cdv ct : Value) (osl : Array (Option Value)),
    fd = PySem.W.fnOf x qual (defArgs st) (defBody st) (defScope st) .none kV doc pm an cdv ct ∧ K.lookup f = some ⟨oc, od, .func fd, osl⟩ ∧ PySem.W.codeIn K cdv qual = true
  kp : PySem.W.keepIn K (.ref f) = true
section
variable {P : Program} {w : World} {K : PySem.W.Frag} {mg : Str → Option Value} {base : Heap}
/-- THE RULE for a def: its body as a term of rules, and the reading of that term -/
theorem Fun.ok {x qual : Str} {st : Stmt} {f : Addr} {fd : FuncData} {N ps : List Str} {k : Nat} {sp : Sp} (F : Fun K x qual st f fd) (S : FnScope N ps (defScope st)) (len : ∀ vs H Q E, sp vs H Q E → vs.length = ps.length)
    (hbody : ∀ (cdv : Value) (A : Around) (outer : List Env) (s : Shared) (H : Hp) (vs : List V) (Q : VK) (E : XK), Room k (A.deeper (envOfC qual (defScope st) s.heap.objs.size f cdv)) → sp vs H Q E →
      ∃ t, PSs (cxOf CX0 P w K mg base N qual (defScope st) f cdv A outer s H E).nox (defBody st) t ∧ t { nx := fun _ H' => Q .non H', rt := Q } (start N vs) H) : FnOk P w K mg base CX0 (k + 1) f fd ps sp := by
  obtain ⟨oc, od, kV, doc, pm, an, cdv, ct, osl, rfl, lk, hcd⟩ := F.ex
  refine fn_of lk hcd S len fun A outer s H vs Q E hr hsp => ?_
  obtain ⟨t, h, q⟩ := hbody cdv A outer s H vs Q E hr hsp
  exact ⟨t, h.nox, q⟩
/-- how its arguments bind (no defaults): h is «fun _ _ _ _ _ _ us hl => match us, hl with | [_, _], _ => rfl», one _ a parameter -/
theorem Fun.binds {x qual : Str} {st : Stmt} {f : Addr} {fd : FuncData} {ps : List Str} (F : Fun K x qual st f fd)
    (h : ∀ (kV doc pm : Value) (an : Option Addr) (cdv ct : Value) (us : List Value), us.length = ps.length → bindArgs (PySem.W.fnOf x qual (defArgs st) (defBody st) (defScope st) .none kV doc pm an cdv ct) ⟨us, []⟩ = pure (ps.zip us)) : Binds K fd ps [] := by
  obtain ⟨oc, od, kV, doc, pm, an, cdv, ct, osl, rfl, lk, hcd⟩ := F.ex
  exact .all (h kV doc pm an cdv ct)
theorem fun_mk {x qual : Str} {st : Stmt} {f : Addr} {oc : Value} {od an : Option Addr} {osl : Array (Option Value)} {kV doc pm cdv ct : Value} (l : K.lookup f = some ⟨oc, od, .func (PySem.W.fnOf x qual (defArgs st) (defBody st) (defScope st) .none kV doc pm an cdv ct), osl⟩)
    (c : PySem.W.codeIn K cdv qual = true) (k : PySem.W.keepIn K (.ref f) = true) : Fun K x qual st f (PySem.W.fnOf x qual (defArgs st) (defBody st) (defScope st) .none kV doc pm an cdv ct) := ⟨⟨oc, od, kV, doc, pm, an, cdv, ct, osl, rfl, l, c⟩, k⟩
end
theorem hu_of {A : Around} {k : Nat} (hr : Room k A) : A.units + 1 < cLine := Nat.lt_of_le_of_lt (Nat.add_le_add_left (by decide : 1 ≤ 64) _) hr.units
theorem small1000 {n : Nat} (h : n ≤ 1000) : n < sizeLine := Nat.lt_of_le_of_lt h (by decide)

/-! ### expressions in short: the name that stands in the i-th slot -/
section
variable {X : Cx}
theorem pv (i : Nat) {x : Str} {pos : Pos} (hN : X.N[i]? = some x := by rfl) (hv : Vis X.env.scope x := by first | exact Or.inl rfl | exact Or.inr (Or.inl rfl) | exact Or.inr (Or.inr rfl)) (hd : (x == ("__debug__" : Str)) = false := by decide)
    (hcd : (x == ("__classdict__" : Str)) = false := by decide) : PE X (.Name x pos) (tVar i) := pe_var hN hv hd hcd
end

/-! ### tests -/
theorem iteF {A B : Prop} (h : B) : if false = true then A else B := by
  rw [if_neg Bool.false_ne_true]
  exact h
theorem iteT {A B : Prop} (h : A) : if true = true then A else B := by
  rw [if_pos rfl]
  exact h
theorem ite2 {c A B : Prop} [Decidable c] (h1 : c → A) (h2 : ¬ c → B) : if c then A else B := by
  by_cases h : c
  · rw [if_pos h]
    exact h1 h
  · rw [if_neg h]
    exact h2 h
theorem iteNS {c A B : Prop} [Decidable c] (hc : c) (h : B) : if (!decide c) = true then A else B := by
  rw [decide_eq_true hc]
  exact iteF h

/-! ### heaps -/
/-- all that was tracked is as it was -/
def Same (H H' : Hp) : Prop := ∀ b o, H b = some o → H' b = some o
theorem Same.refl (H : Hp) : Same H H := fun _ _ h => h
theorem Same.trans {H H1 H2 : Hp} (a : Same H H1) (b : Same H1 H2) : Same H H2 := fun c o h => b c o (a c o h)
theorem Same.free {H H' : Hp} (e : Same H H') {l : Addr} (h : H' l = Option.none) : H l = Option.none := by
  cases q : H l with
  | none => rfl
  | some o =>
    rw [e l o q] at h
    cases h
theorem Same.seq {K : PySem.W.Frag} {H H' : Hp} {a : Addr} {xs : List V} (e : Same H H') (h : SqL K H a xs) : SqL K H' a xs := by
  rcases h with (h | ⟨o, h⟩) | h
  · exact .inl (.inl (e _ _ h))
  · exact .inl (.inr ⟨o, e _ _ h⟩)
  · exact .inr h

end L2

set_option linter.all false
namespace Rm
/-! ### the rooms as numbers: each one's holder -/
def hold (hs : List Int) (i : Nat) : Int := hs.getD i (-1)
structure Tree (hs : List Int) : Prop where
  pos : 0 < hs.length
  root : hold hs 0 = -1
  up : ∀ i : Nat, 0 < i → i < hs.length → 0 ≤ hold hs i ∧ hold hs i < (i : Int)
def kids (hs : List Int) (k : Int) : List Int := ((List.range hs.length).filter fun j => decide (hold hs j = k)).map fun (j : Nat) => (j : Int)
def chain (hs : List Int) (i : Nat) : List Nat :=
  if h : 0 ≤ hold hs i ∧ hold hs i < (i : Int) then i :: chain hs (hold hs i).toNat else [i]
termination_by i
decreasing_by omega
theorem chain_up {hs : List Int} {i : Nat} (h : 0 ≤ hold hs i ∧ hold hs i < (i : Int)) : chain hs i = i :: chain hs (hold hs i).toNat := by
  rw [chain, dif_pos h]
theorem chain_top {hs : List Int} {i : Nat} (h : ¬ 0 ≤ hold hs i) : chain hs i = [i] := by
  rw [chain, dif_neg fun z => h z.1]
theorem chain_self (hs : List Int) (i : Nat) : i ∈ chain hs i := by
  rw [chain]; split <;> exact List.mem_cons_self
theorem chain_le {hs : List Int} {j : Nat} : ∀ i : Nat, j ∈ chain hs i → j ≤ i := by
  intro i
  induction i using Nat.strongRecOn with
  | ind i ih =>
    intro h
    by_cases z : 0 ≤ hold hs i ∧ hold hs i < (i : Int)
    · rw [chain_up z] at h
      rcases List.mem_cons.mp h with h | h
      · omega
      · have := ih (hold hs i).toNat (by omega) h
        omega
    · rw [chain, dif_neg z] at h
      have := List.mem_singleton.mp h
      omega
def wi (hs : List Int) (i j : Nat) : Bool := decide (j ∈ chain hs i)
theorem wi_step {hs : List Int} {p j : Nat} (h : 0 ≤ hold hs p ∧ hold hs p < (p : Int)) (hj : j < p) : wi hs p j = wi hs (hold hs p).toNat j := by
  unfold wi
  rw [chain_up h]
  refine decide_eq_decide.mpr ⟨fun z => ?_, fun z => List.mem_cons_of_mem _ z⟩
  rcases List.mem_cons.mp z with z | z
  · omega
  · exact z
theorem wi_end {hs : List Int} {p j : Nat} (hj : p ≤ j) : wi hs p j = decide (p = j) := by
  unfold wi
  refine decide_eq_decide.mpr ⟨fun z => ?_, fun z => z ▸ chain_self hs p⟩
  have := chain_le p z
  omega
theorem wi_self (hs : List Int) (i : Nat) : wi hs i i = true := decide_eq_true (chain_self hs i)
theorem hold_lt {hs : List Int} (T : Tree hs) {i : Nat} (hi : i < hs.length) : hold hs i < (i : Int) := by
  by_cases h : i = 0
  · subst h; rw [T.root]; decide
  · exact (T.up i (by omega) hi).2
theorem hold_pos {hs : List Int} (T : Tree hs) {i : Nat} (hi : i < hs.length) : 0 ≤ hold hs i ↔ 0 < i := by
  by_cases h : i = 0
  · subst h; rw [T.root]; decide
  · exact ⟨fun _ => by omega, fun _ => (T.up i (by omega) hi).1⟩
theorem hold_get {hs : List Int} {i : Nat} (hi : i < hs.length) : hs[i]? = some (hold hs i) := by
  unfold hold
  rw [List.getD_eq_getElem?_getD, List.getElem?_eq_getElem hi]; rfl
theorem kids_nil {hs : List Int} {k : Int} : kids hs k = [] ↔ ∀ j : Nat, j < hs.length → hold hs j ≠ k := by
  unfold kids
  rw [List.map_eq_nil_iff, List.filter_eq_nil_iff]
  refine ⟨fun h j hj e => h j (List.mem_range.mpr hj) (decide_eq_true e), fun h j hj e => h j (List.mem_range.mp hj) (of_decide_eq_true e)⟩
theorem range_filter_succ (p : Nat → Bool) (i : Nat) : (List.range (i + 1)).filter p = (List.range i).filter p ++ (if p i = true then [i] else []) := by
  rw [List.range_succ, List.filter_append]
  cases h : p i <;> simp [h]
/-! ### the law's own drawing -/
def cell (ns : List Int) (k : Nat) : Int := ns.getD k 0
def lh (ns : List Int) (k : Nat) : Int := if k = 0 then -1 else cell ns k % (k : Int)
def holders (ns : List Int) (m : Nat) : List Int := (List.range m).map (lh ns)
theorem holders_len (ns : List Int) (m : Nat) : (holders ns m).length = m := by simp [holders]
theorem holders_hold {ns : List Int} {m i : Nat} (hi : i < m) : hold (holders ns m) i = lh ns i := by
  unfold hold holders
  rw [List.getD_eq_getElem?_getD, List.getElem?_map, List.getElem?_range hi]; rfl
theorem holders_tree (ns : List Int) {m : Nat} (hm : 0 < m) : Tree (holders ns m) := by
  refine ⟨by rw [holders_len]; exact hm, ?_, fun i h0 hi => ?_⟩
  · rw [holders_hold hm]; rfl
  · rw [holders_len] at hi
    rw [holders_hold hi]
    unfold lh
    rw [if_neg (by omega)]
    exact ⟨Int.emod_nonneg _ (by omega), Int.emod_lt_of_pos _ (by omega)⟩
theorem holders_succ (ns : List Int) (m : Nat) : holders ns (m + 1) = holders ns m ++ [lh ns m] := by
  unfold holders
  rw [List.range_succ, List.map_append]; rfl
theorem mem_holders {ns : List Int} {m : Nat} {k : Int} : k ∈ holders ns m ↔ kids (holders ns m) k ≠ [] := by
  rw [Ne, kids_nil]
  constructor
  · intro h z
    obtain ⟨j, hj, e⟩ := List.mem_map.mp h
    have hj := List.mem_range.mp hj
    exact z j (by rw [holders_len]; exact hj) (by rw [holders_hold hj]; exact e)
  · intro h
    refine Classical.byContradiction fun z => h fun j hj e => z ?_
    rw [holders_len] at hj
    rw [holders_hold hj] at e
    exact List.mem_map.mpr ⟨j, List.mem_range.mpr hj, e⟩
def many (ns : List Int) : Nat := if cell ns 0 / 7 % 8 = 1 then 16 else (1 + cell ns 0 % 7).toNat
theorem many_le (ns : List Int) : 0 < many ns ∧ many ns ≤ 16 := by
  unfold many
  have h1 := Int.emod_nonneg (cell ns 0) (show (7 : Int) ≠ 0 by decide)
  have h2 := Int.emod_lt_of_pos (cell ns 0) (show (0 : Int) < 7 by decide)
  split <;> omega
end Rm
namespace Rm
theorem tail_lt {hs : List Int} {i j : Nat} (h : j ∈ (chain hs i).tail) : j < i := by
  by_cases z : 0 ≤ hold hs i ∧ hold hs i < (i : Int)
  · rw [chain_up z] at h
    have := chain_le _ h
    omega
  · rw [chain, dif_neg z] at h
    simp at h
/-- i lies in j -/
def li (hs : List Int) (i j : Nat) : Bool := decide (j ∈ (chain hs i).tail)
theorem li_eq (hs : List Int) (i j : Nat) : li hs i j = (!decide (i = j) && wi hs i j) := by
  have hc : chain hs i = i :: (chain hs i).tail := by rw [chain]; split <;> rfl
  unfold li wi
  by_cases e : i = j
  · subst e
    have : ¬ i ∈ (chain hs i).tail := fun z => absurd (tail_lt z) (Nat.lt_irrefl _)
    simp [this]
  · have : j ∈ chain hs i ↔ j ∈ (chain hs i).tail := by
      rw [hc]
      refine ⟨fun z => ?_, fun z => List.mem_cons_of_mem _ z⟩
      rcases List.mem_cons.mp z with z | z
      · exact absurd z.symm e
      · exact z
    simp [e, this]
/-- the rooms around, from the holder on -/
def upper (hs : List Int) (h : Int) : List Nat := if 0 ≤ h then chain hs h.toNat else []
theorem upper_neg (hs : List Int) : upper hs (-1) = [] := rfl
theorem tail_upper {hs : List Int} (T : Tree hs) {i : Nat} (hi : i < hs.length) : (chain hs i).tail = upper hs (hold hs i) := by
  unfold upper
  by_cases z : 0 ≤ hold hs i
  · rw [if_pos z, chain_up ⟨z, hold_lt T hi⟩]; rfl
  · rw [if_neg z, chain_top z]; rfl
theorem upper_step {hs : List Int} (T : Tree hs) {i : Nat} (hi : i < hs.length) : upper hs (i : Int) = i :: upper hs (hold hs i) := by
  rw [← tail_upper T hi]
  unfold upper
  rw [if_pos (by omega), Int.toNat_natCast]
  rw [chain]; split <;> rfl
end Rm
namespace Rm
def kidsN (hs : List Int) (k : Nat) : List Nat := (List.range hs.length).filter fun j => decide (hold hs j = (k : Int))
theorem kids_kidsN (hs : List Int) (k : Nat) : kids hs (k : Int) = (kidsN hs k).map fun (j : Nat) => (j : Int) := rfl
theorem mem_kidsN {hs : List Int} {j k : Nat} : j ∈ kidsN hs k ↔ j < hs.length ∧ hold hs j = (k : Int) := by
  unfold kidsN
  rw [List.mem_filter, List.mem_range, decide_eq_true_eq]
theorem kidsN_nodup (hs : List Int) (k : Nat) : (kidsN hs k).Nodup := List.Pairwise.filter _ List.nodup_range
theorem kid_gt {hs : List Int} (T : Tree hs) {j k : Nat} (h : j ∈ kidsN hs k) : k < j := by
  obtain ⟨h1, h2⟩ := mem_kidsN.mp h
  have := hold_lt T h1
  omega
/-- which rooms straight in each are entered -/
structure Pick (hs : List Int) (ch : Nat → List Nat) : Prop where
  sub : ∀ r, ∀ c ∈ ch r, c ∈ kidsN hs r
  nd : ∀ r, (ch r).Nodup
def ent (ch : Nat → List Nat) : Nat → Nat → List Nat
  | 0, r => [r]
  | f + 1, r => r :: (ch r).flatMap (ent ch f)
theorem chain_mono {hs : List Int} {a b : Nat} : ∀ k : Nat, a ∈ chain hs k → b ∈ chain hs k → a ≤ b → a ∈ chain hs b := by
  intro k
  induction k using Nat.strongRecOn with
  | ind k ih =>
    intro ha hb hab
    by_cases z : 0 ≤ hold hs k ∧ hold hs k < (k : Int)
    · rw [chain_up z] at hb
      rcases List.mem_cons.mp hb with e | hb
      · rw [e]; exact ha
      · rw [chain_up z] at ha
        rcases List.mem_cons.mp ha with e | ha
        · have := chain_le _ hb
          omega
        · exact ih _ (by omega) ha hb hab
    · rw [chain, dif_neg z] at hb
      rw [List.mem_singleton.mp hb]; exact ha
theorem chain_kid {hs : List Int} (T : Tree hs) {c r : Nat} (h : c ∈ kidsN hs r) : chain hs c = c :: chain hs r := by
  obtain ⟨h1, h2⟩ := mem_kidsN.mp h
  have := kid_gt T h
  rw [chain_up ⟨by omega, by omega⟩, h2, Int.toNat_natCast]
theorem chain_trans {hs : List Int} {a b : Nat} : ∀ k : Nat, a ∈ chain hs b → b ∈ chain hs k → a ∈ chain hs k := by
  intro k
  induction k using Nat.strongRecOn with
  | ind k ih =>
    intro ha hb
    by_cases z : 0 ≤ hold hs k ∧ hold hs k < (k : Int)
    · rw [chain_up z] at hb
      rcases List.mem_cons.mp hb with e | hb
      · rw [← e]; exact ha
      · rw [chain_up z]; exact List.mem_cons_of_mem _ (ih _ (by omega) ha hb)
    · rw [chain, dif_neg z] at hb
      rw [← List.mem_singleton.mp hb]; exact ha
theorem ent_sub {hs : List Int} {ch : Nat → List Nat} (T : Tree hs) (P : Pick hs ch) : ∀ (f r k : Nat), r < hs.length → k ∈ ent ch f r → k < hs.length ∧ r ∈ chain hs k
  | 0, r, k, hr, h => by
    rw [List.mem_singleton.mp h]; exact ⟨hr, chain_self hs r⟩
  | f + 1, r, k, hr, h => by
    rcases List.mem_cons.mp h with e | h
    · rw [e]; exact ⟨hr, chain_self hs r⟩
    · obtain ⟨c, hc, hk⟩ := List.mem_flatMap.mp h
      have hc' := P.sub r c hc
      obtain ⟨a, b⟩ := ent_sub T P f c k (mem_kidsN.mp hc').1 hk
      refine ⟨a, chain_trans k ?_ b⟩
      rw [chain_kid T hc']; exact List.mem_cons_of_mem _ (chain_self hs r)
theorem ent_nodup {hs : List Int} {ch : Nat → List Nat} (T : Tree hs) (P : Pick hs ch) : ∀ (f r : Nat), r < hs.length → (ent ch f r).Nodup
  | 0, r, _ => by simp [ent]
  | f + 1, r, hr => by
    show (r :: (ch r).flatMap (ent ch f)).Nodup
    refine List.nodup_cons.mpr ⟨fun h => ?_, ?_⟩
    · obtain ⟨c, hc, hk⟩ := List.mem_flatMap.mp h
      have hc' := P.sub r c hc
      have := (ent_sub T P f c r (mem_kidsN.mp hc').1 hk).2
      have := chain_le _ this
      have := kid_gt T hc'
      omega
    · show List.Pairwise _ _
      rw [List.pairwise_flatMap]
      refine ⟨fun c hc => ent_nodup T P f c (mem_kidsN.mp (P.sub r c hc)).1, ?_⟩
      refine (P.nd r).imp_of_mem fun {a b} ha hb hab x hx y hy e => ?_
      subst e
      have a' := P.sub r a ha
      have b' := P.sub r b hb
      have ca := (ent_sub T P f a x (mem_kidsN.mp a').1 hx).2
      have cb := (ent_sub T P f b x (mem_kidsN.mp b').1 hy).2
      have ga := kid_gt T a'
      have gb := kid_gt T b'
      rcases Nat.le_total a b with l | l
      · have := chain_mono x ca cb l
        rw [chain_kid T b'] at this
        rcases List.mem_cons.mp this with e | e
        · exact hab e
        · have := chain_le _ e
          omega
      · have := chain_mono x cb ca l
        rw [chain_kid T a'] at this
        rcases List.mem_cons.mp this with e | e
        · exact hab e.symm
        · have := chain_le _ e
          omega
theorem ent_len {hs : List Int} {ch : Nat → List Nat} (T : Tree hs) (P : Pick hs ch) (f r : Nat) (hr : r < hs.length) : (ent ch f r).length ≤ hs.length := by
  have h := (ent_nodup T P f r hr).length_le_of_subset (l₂ := List.range hs.length) fun k hk => List.mem_range.mpr (ent_sub T P f r k hr hk).1
  rwa [List.length_range] at h
/-- k is kept: its holder is, and it is chosen there -/
def kb (ok : Nat → Nat → Bool) (hs : List Int) (k : Nat) : Bool :=
  if h : 0 ≤ hold hs k ∧ hold hs k < (k : Int) then kb ok hs (hold hs k).toNat && ok (hold hs k).toNat k else decide (k = 0)
termination_by k
decreasing_by omega
theorem kb_root {ok : Nat → Nat → Bool} {hs : List Int} (T : Tree hs) : kb ok hs 0 = true := by
  rw [kb, dif_neg (by rw [T.root]; decide)]; rfl
theorem kb_up {ok : Nat → Nat → Bool} {hs : List Int} (T : Tree hs) {k : Nat} (h0 : 0 < k) (hk : k < hs.length) : kb ok hs k = (kb ok hs (hold hs k).toNat && ok (hold hs k).toNat k) := by
  rw [kb, dif_pos (T.up k h0 hk)]
theorem ent_next {hs : List Int} {ch : Nat → List Nat} (T : Tree hs) (P : Pick hs ch) : ∀ (f r p k : Nat), r < hs.length → hs.length ≤ f + r → p ∈ ent ch f r → k ∈ ch p → k ∈ ent ch f r
  | 0, r, p, k, hr, hf, _, _ => absurd hr (by omega)
  | f + 1, r, p, k, hr, hf, hp, hk => by
    rcases List.mem_cons.mp hp with e | hp
    · subst e
      refine List.mem_cons_of_mem _ (List.mem_flatMap.mpr ⟨k, hk, ?_⟩)
      cases f with
      | zero => exact List.mem_singleton.mpr rfl
      | succ f => exact List.mem_cons_self
    · obtain ⟨c, hc, hp⟩ := List.mem_flatMap.mp hp
      have hc' := P.sub r c hc
      have := kid_gt T hc'
      exact List.mem_cons_of_mem _ (List.mem_flatMap.mpr ⟨c, hc, ent_next T P f c p k (mem_kidsN.mp hc').1 (by omega) hp hk⟩)
theorem ent_back {hs : List Int} {ch : Nat → List Nat} (T : Tree hs) (P : Pick hs ch) : ∀ (f r k : Nat), r < hs.length → k ∈ ent ch f r → k = r ∨ (k ∈ ch (hold hs k).toNat ∧ (hold hs k).toNat ∈ ent ch f r ∧ 0 < k)
  | 0, r, k, hr, h => .inl (List.mem_singleton.mp h)
  | f + 1, r, k, hr, h => by
    rcases List.mem_cons.mp h with e | h
    · exact .inl e
    · obtain ⟨c, hc, hk⟩ := List.mem_flatMap.mp h
      have hc' := P.sub r c hc
      obtain ⟨c1, c2⟩ := mem_kidsN.mp hc'
      have := kid_gt T hc'
      rcases ent_back T P f c k c1 hk with e | ⟨a, b, d⟩
      · subst e
        refine .inr ⟨by rw [c2, Int.toNat_natCast]; exact hc, ?_, by omega⟩
        rw [c2, Int.toNat_natCast]; exact List.mem_cons_self
      · exact .inr ⟨a, List.mem_cons_of_mem _ (List.mem_flatMap.mpr ⟨c, hc, b⟩), d⟩
theorem ent_iff {hs : List Int} {ch : Nat → List Nat} {ok : Nat → Nat → Bool} (T : Tree hs) (P : Pick hs ch) {f : Nat} (hf : hs.length ≤ f) (hok : ∀ k, 0 < k → k < hs.length → (ok (hold hs k).toNat k = true ↔ k ∈ ch (hold hs k).toNat)) :
    ∀ k, k ∈ ent ch f 0 ↔ k < hs.length ∧ kb ok hs k = true := by
  intro k
  induction k using Nat.strongRecOn with
  | ind k ih =>
    constructor
    · intro h
      have hk := (ent_sub T P f 0 k T.pos h).1
      refine ⟨hk, ?_⟩
      rcases ent_back T P f 0 k T.pos h with e | ⟨a, b, d⟩
      · rw [e]; exact kb_root T
      · have hu := T.up k d hk
        rw [kb_up T d hk, ((ih _ (by omega)).mp b).2, (hok k d hk).mpr a]; rfl
    · rintro ⟨hk, h⟩
      by_cases z : k = 0
      · subst z
        cases f with
        | zero => exact List.mem_singleton.mpr rfl
        | succ f => exact List.mem_cons_self
      · have hu := T.up k (by omega) hk
        rw [kb_up T (by omega) hk, Bool.and_eq_true] at h
        exact ent_next T P f 0 _ k T.pos (by omega) ((ih _ (by omega)).mpr ⟨by omega, h.1⟩) ((hok k (by omega) hk).mp h.2)
/-- sorted, the entered rooms are the kept ones -/
theorem ent_sorted {hs : List Int} {ch : Nat → List Nat} {ok : Nat → Nat → Bool} (T : Tree hs) (P : Pick hs ch) {f : Nat} (hf : hs.length ≤ f) (hok : ∀ k, 0 < k → k < hs.length → (ok (hold hs k).toNat k = true ↔ k ∈ ch (hold hs k).toNat))
    {ns : List Int} (hp : ns.Perm ((ent ch f 0).map fun (j : Nat) => (j : Int))) (hs' : ns.Pairwise (· ≤ ·)) : ns = ((List.range hs.length).filter (kb ok hs)).map fun (j : Nat) => (j : Int) := by
  have hq : (ent ch f 0).Perm ((List.range hs.length).filter (kb ok hs)) := by
    refine (List.perm_ext_iff_of_nodup (ent_nodup T P f 0 T.pos) (List.Pairwise.filter _ List.nodup_range)).mpr fun k => ?_
    rw [ent_iff T P hf hok, List.mem_filter, List.mem_range]
  refine (hp.trans (hq.map _)).eq_of_pairwise (fun a b _ _ h1 h2 => Int.le_antisymm h1 h2) hs' ?_
  rw [List.pairwise_map]
  exact (List.Pairwise.filter _ List.pairwise_lt_range).imp fun h => by omega
end Rm

set_option linter.all false
namespace Fm
/-! ### flat machines: states alike. A machine: n states, nx and dd by state and event (0 to 3). -/
structure Mc where
  n : Nat
  nx : Nat → Nat → Nat
  dd : Nat → Nat → List Int
structure Mc.Ok (m : Mc) : Prop where
  pos : 0 < m.n
  nx : ∀ a e, a < m.n → e < 4 → m.nx a e < m.n
variable {m : Mc}
/-- no row of at most t events parts them -/
def al (m : Mc) : Nat → Nat → Nat → Bool
  | 0, _, _ => true
  | t + 1, a, b => (List.range 4).all fun e => decide (m.dd a e = m.dd b e) && al m t (m.nx a e) (m.nx b e)
theorem al_succ {t a b : Nat} : al m (t + 1) a b = true ↔ ∀ e, e < 4 → m.dd a e = m.dd b e ∧ al m t (m.nx a e) (m.nx b e) = true := by
  show ((List.range 4).all fun e => decide (m.dd a e = m.dd b e) && al m t (m.nx a e) (m.nx b e)) = true ↔ _
  rw [List.all_eq_true]
  constructor
  · intro h e he
    have z := h e (List.mem_range.mpr he)
    rw [Bool.and_eq_true, decide_eq_true_iff] at z
    exact z
  · intro h e he
    rw [Bool.and_eq_true, decide_eq_true_iff]
    exact h e (List.mem_range.mp he)
theorem al_refl : ∀ (t a : Nat), al m t a a = true
  | 0, _ => rfl
  | t + 1, a => al_succ.mpr fun e _ => ⟨rfl, al_refl t _⟩
theorem al_symm : ∀ {t a b : Nat}, al m t a b = true → al m t b a = true
  | 0, _, _, _ => rfl
  | t + 1, a, b, h => al_succ.mpr fun e he => ⟨((al_succ.mp h) e he).1.symm, al_symm ((al_succ.mp h) e he).2⟩
theorem al_trans : ∀ {t a b c : Nat}, al m t a b = true → al m t b c = true → al m t a c = true
  | 0, _, _, _, _, _ => rfl
  | t + 1, a, b, c, h, g => al_succ.mpr fun e he => ⟨((al_succ.mp h) e he).1.trans ((al_succ.mp g) e he).1, al_trans ((al_succ.mp h) e he).2 ((al_succ.mp g) e he).2⟩
theorem al_down : ∀ {t a b : Nat}, al m (t + 1) a b = true → al m t a b = true
  | 0, _, _, _ => rfl
  | t + 1, a, b, h => al_succ.mpr fun e he => ⟨((al_succ.mp h) e he).1, al_down ((al_succ.mp h) e he).2⟩
theorem al_le {s t a b : Nat} (hst : s ≤ t) (h : al m t a b = true) : al m s a b = true := by
  induction t with
  | zero => have : s = 0 := by omega
            subst this; exact h
  | succ t ih =>
    by_cases z : s = t + 1
    · rw [z]; exact h
    · exact ih (by omega) (al_down h)
def Stable (m : Mc) (t : Nat) : Prop := ∀ a b, a < m.n → b < m.n → al m t a b = true → al m (t + 1) a b = true
theorem stable_next (ok : m.Ok) {t : Nat} (h : Stable m t) : Stable m (t + 1) := fun a b ha hb z =>
  al_succ.mpr fun e he => ⟨((al_succ.mp z) e he).1, h _ _ (ok.nx a e ha he) (ok.nx b e hb he) ((al_succ.mp z) e he).2⟩
theorem stable_le (ok : m.Ok) {s t : Nat} (hst : s ≤ t) (h : Stable m s) : Stable m t := by
  induction t with
  | zero => have : s = 0 := by omega
            subst this; exact h
  | succ t ih =>
    by_cases z : s = t + 1
    · rw [← z]; exact h
    · exact stable_next ok (ih (by omega))
theorem stable_al (ok : m.Ok) {s t : Nat} (hst : s ≤ t) (h : Stable m s) {a b : Nat} (ha : a < m.n) (hb : b < m.n) : al m t a b = al m s a b := by
  have up : al m s a b = true → al m t a b = true := fun z => by
    induction t with
    | zero => have : s = 0 := by omega
              subst this; exact z
    | succ t ih =>
      by_cases y : s = t + 1
      · rw [← y]; exact z
      · exact stable_le ok (show s ≤ t by omega) h a b ha hb (ih (by omega))
  cases z : al m s a b with
  | true => exact up z
  | false =>
    cases y : al m t a b with
    | false => rfl
    | true => rw [al_le hst y] at z; cases z
/-- the least number alike -/
def rep (m : Mc) (t k : Nat) : Bool := (List.range k).all fun j => !al m t j k
theorem rep_iff {t k : Nat} : rep m t k = true ↔ ∀ j, j < k → al m t j k = false := by
  unfold rep
  rw [List.all_eq_true]
  constructor
  · intro h j hj
    have z := h j (List.mem_range.mpr hj)
    simpa using z
  · intro h j hj
    rw [h j (List.mem_range.mp hj)]; rfl
theorem rep_up {t k : Nat} (h : rep m t k = true) : rep m (t + 1) k = true := rep_iff.mpr fun j hj => by
  cases z : al m (t + 1) j k with
  | false => rfl
  | true => exact absurd (rep_iff.mp h j hj) (by rw [al_down z]; decide)
def mr (m : Mc) (t k : Nat) : Nat := ((List.range (k + 1)).find? fun j => al m t j k).getD k
theorem mr_spec (t k : Nat) : mr m t k ≤ k ∧ al m t (mr m t k) k = true ∧ ∀ j, j < mr m t k → al m t j k = false := by
  unfold mr
  cases h : (List.range (k + 1)).find? fun j => al m t j k with
  | none =>
    have z := List.find?_eq_none.mp h k (List.mem_range.mpr (by omega))
    exact absurd (al_refl t k) z
  | some r =>
    have h1 := List.find?_some h
    have h2 := List.mem_range.mp (List.mem_of_find?_eq_some h)
    refine ⟨by show r ≤ k; omega, h1, fun j hj => ?_⟩
    have hj' : j < r := hj
    obtain ⟨_, i, hi, e, hlt⟩ := List.find?_eq_some_iff_getElem.mp h
    rw [List.getElem_range] at e
    subst e
    have z := hlt j hj'
    rw [List.getElem_range] at z
    simpa using z
theorem mr_le (t k : Nat) : mr m t k ≤ k := (mr_spec t k).1
theorem mr_al (t k : Nat) : al m t (mr m t k) k = true := (mr_spec t k).2.1
theorem mr_min {t k j : Nat} (h : j < mr m t k) : al m t j k = false := (mr_spec t k).2.2 j h
theorem mr_of {t j k : Nat} (h : al m t j k = true) : mr m t k ≤ j := Nat.le_of_not_lt fun z => by rw [mr_min z] at h; cases h
theorem mr_eq {t j k : Nat} (h : al m t j k = true) : mr m t j = mr m t k := by
  have h1 := mr_of (al_trans (mr_al t j) h)
  have h2 := mr_of (al_trans (mr_al t k) (al_symm h))
  omega
theorem mr_iff {t j k : Nat} : mr m t j = mr m t k ↔ al m t j k = true := ⟨fun e => al_trans (al_symm (mr_al t j)) (by rw [e]; exact mr_al t k), mr_eq⟩
theorem mr_rep (t k : Nat) : rep m t (mr m t k) = true := rep_iff.mpr fun j hj => by
  cases z : al m t j (mr m t k) with
  | false => rfl
  | true => exact absurd (al_trans z (mr_al t k)) (by rw [mr_min hj]; decide)
def cnt (m : Mc) (t : Nat) : Nat := ((List.range m.n).filter (rep m t)).length
theorem cnt_le (t : Nat) : cnt m t ≤ m.n := by
  have := List.length_filter_le (rep m t) (List.range m.n)
  rw [List.length_range] at this
  exact this
theorem filter_grow {α : Type} {p q : α → Bool} (h : ∀ x, p x = true → q x = true) : ∀ (l : List α), (l.filter p).length ≤ (l.filter q).length ∧ ((l.filter p).length = (l.filter q).length → ∀ x ∈ l, q x = true → p x = true)
  | [] => ⟨Nat.le_refl _, fun _ x hx => by simp at hx⟩
  | y :: l => by
    obtain ⟨i1, i2⟩ := filter_grow h l
    cases hp : p y with
    | true =>
      rw [List.filter_cons_of_pos hp, List.filter_cons_of_pos (h y hp)]
      refine ⟨by simp; exact i1, fun e x hx hq => ?_⟩
      rcases List.mem_cons.mp hx with z | z
      · rw [z]; exact hp
      · exact i2 (by simpa using e) x z hq
    | false =>
      rw [List.filter_cons_of_neg (by rw [hp]; decide)]
      cases hq : q y with
      | true =>
        rw [List.filter_cons_of_pos hq]
        refine ⟨by simp; omega, fun e => ?_⟩
        simp at e
        omega
      | false =>
        rw [List.filter_cons_of_neg (by rw [hq]; decide)]
        refine ⟨i1, fun e x hx hqx => ?_⟩
        rcases List.mem_cons.mp hx with z | z
        · rw [z, hq] at hqx; cases hqx
        · exact i2 e x z hqx
theorem cnt_grow (t : Nat) : cnt m t ≤ cnt m (t + 1) := (filter_grow (fun x h => rep_up h) _).1
theorem cnt_stable {t : Nat} (h : cnt m t = cnt m (t + 1)) : Stable m t := fun a b ha hb z => by
  have g := (filter_grow (p := rep m t) (q := rep m (t + 1)) (fun x h => rep_up h) (List.range m.n)).2 h
  have ra := g _ (List.mem_range.mpr (Nat.lt_of_le_of_lt (mr_le (t + 1) a) ha)) (mr_rep (t + 1) a)
  have rb := g _ (List.mem_range.mpr (Nat.lt_of_le_of_lt (mr_le (t + 1) b) hb)) (mr_rep (t + 1) b)
  have hab : al m t (mr m (t + 1) a) (mr m (t + 1) b) = true := al_trans (al_down (mr_al (t + 1) a)) (al_trans z (al_symm (al_down (mr_al (t + 1) b))))
  have e : mr m (t + 1) a = mr m (t + 1) b := by
    rcases Nat.lt_trichotomy (mr m (t + 1) a) (mr m (t + 1) b) with y | y | y
    · rw [rep_iff.mp rb _ y] at hab; cases hab
    · exact y
    · have := al_symm hab
      rw [rep_iff.mp ra _ y] at this; cases this
  exact mr_iff.mp e
theorem cnt_pos (ok : m.Ok) (t : Nat) : 1 ≤ cnt m t := by
  have h0 : 0 ∈ (List.range m.n).filter (rep m t) := List.mem_filter.mpr ⟨List.mem_range.mpr ok.pos, rep_iff.mpr fun j hj => absurd hj (by omega)⟩
  exact List.length_pos_of_mem h0
theorem some_stable (ok : m.Ok) : ∀ t, (∃ s, s < t ∧ Stable m s) ∨ t + 1 ≤ cnt m t
  | 0 => .inr (cnt_pos ok 0)
  | t + 1 => by
    rcases some_stable ok t with ⟨s, hs, z⟩ | z
    · exact .inl ⟨s, by omega, z⟩
    · by_cases e : cnt m t = cnt m (t + 1)
      · exact .inl ⟨t, by omega, cnt_stable e⟩
      · have := cnt_grow (m := m) t
        exact .inr (by omega)
theorem stable_n (ok : m.Ok) : Stable m m.n := by
  rcases some_stable ok m.n with ⟨s, hs, z⟩ | z
  · exact stable_le ok (by omega) z
  · have := cnt_le (m := m) m.n
    omega
theorem mr_stable (ok : m.Ok) {t : Nat} (h : ∀ k, k < m.n → mr m t k = mr m (t + 1) k) : Stable m t := fun a b ha hb z => by
  have e := mr_eq z
  rw [h a ha, h b hb] at e
  exact mr_iff.mp e
theorem mr_unstable {t k : Nat} (hk : k < m.n) (h : mr m t k ≠ mr m (t + 1) k) : cnt m t < cnt m (t + 1) := by
  have g := cnt_grow (m := m) t
  by_cases e : cnt m t = cnt m (t + 1)
  · have st := cnt_stable e
    refine absurd ?_ h
    have h1 : al m (t + 1) (mr m t k) k = true := st _ _ (Nat.lt_of_le_of_lt (mr_le t k) hk) hk (mr_al t k)
    have h2 := mr_of h1
    have h3 := mr_of (m := m) (al_down (mr_al (m := m) (t + 1) k))
    omega
  · omega
theorem mr_end (ok : m.Ok) {t k : Nat} (hk : k < m.n) (st : Stable m t) : mr m t k = mr m m.n k := by
  have key : ∀ j, j < m.n → al m t j k = al m m.n j k := fun j hj => by
    rcases Nat.le_total t m.n with z | z
    · exact (stable_al ok z st hj hk).symm
    · exact stable_al ok z (stable_n ok) hj hk
  have h1 : al m t (mr m m.n k) k = true := by rw [key _ (Nat.lt_of_le_of_lt (mr_le _ k) hk)]; exact mr_al _ k
  have h2 : al m m.n (mr m t k) k = true := by rw [← key _ (Nat.lt_of_le_of_lt (mr_le _ k) hk)]; exact mr_al _ k
  have := mr_of h1
  have := mr_of h2
  omega
/-! ### the law's table: the least length of a parting row, 0 where none of at most t -/
def far (m : Mc) : Nat → Nat → Nat → Nat
  | 0, _, _ => 0
  | t + 1, a, b => if far m t a b ≠ 0 then far m t a b else if (if t = 0 then (List.range 4).any fun e => decide (m.dd a e ≠ m.dd b e) else (List.range 4).any fun e => decide (far m t (m.nx a e) (m.nx b e) = t)) = true then t + 1 else 0
theorem al_or {t a b : Nat} (h : al m (t + 1) a b = false) : ∃ e, e < 4 ∧ (m.dd a e ≠ m.dd b e ∨ al m t (m.nx a e) (m.nx b e) = false) := by
  refine Classical.byContradiction fun z => ?_
  have : al m (t + 1) a b = true := al_succ.mpr fun e he => by
    refine ⟨Classical.byContradiction fun y => z ⟨e, he, .inl y⟩, ?_⟩
    cases y : al m t (m.nx a e) (m.nx b e) with
    | true => rfl
    | false => exact absurd ⟨e, he, .inr y⟩ z
  rw [this] at h; cases h
theorem far_spec : ∀ (t a b : Nat), (far m t a b = 0 ↔ al m t a b = true) ∧ (far m t a b ≠ 0 → far m t a b ≤ t ∧ al m (far m t a b) a b = false ∧ al m (far m t a b - 1) a b = true)
  | 0, a, b => ⟨⟨fun _ => rfl, fun _ => rfl⟩, fun h => absurd rfl h⟩
  | t + 1, a, b => by
    obtain ⟨i1, i2⟩ := far_spec t a b
    by_cases h : far m t a b ≠ 0
    · have e : far m (t + 1) a b = far m t a b := by rw [far, if_pos h]
      rw [e]
      obtain ⟨j1, j2, j3⟩ := i2 h
      refine ⟨⟨fun z => absurd z h, fun z => ?_⟩, fun _ => ⟨by omega, j2, j3⟩⟩
      rw [i1.mpr (al_down z)] at h; exact absurd rfl h
    · have h0 : far m t a b = 0 := by omega
      have ha := i1.mp h0
      have e : far m (t + 1) a b = if (if t = 0 then (List.range 4).any fun e => decide (m.dd a e ≠ m.dd b e) else (List.range 4).any fun e => decide (far m t (m.nx a e) (m.nx b e) = t)) = true then t + 1 else 0 := by rw [far, if_neg h]
      have key : (if t = 0 then (List.range 4).any fun e => decide (m.dd a e ≠ m.dd b e) else (List.range 4).any fun e => decide (far m t (m.nx a e) (m.nx b e) = t)) = true ↔ al m (t + 1) a b = false := by
        constructor
        · intro z
          cases y : al m (t + 1) a b with
          | false => rfl
          | true =>
            by_cases t0 : t = 0
            · rw [if_pos t0, List.any_eq_true] at z
              obtain ⟨x, hx, hd⟩ := z
              exact absurd ((al_succ.mp y) x (List.mem_range.mp hx)).1 (of_decide_eq_true hd)
            · rw [if_neg t0, List.any_eq_true] at z
              obtain ⟨x, hx, hd⟩ := z
              have hd' := of_decide_eq_true hd
              have g := ((al_succ.mp y) x (List.mem_range.mp hx)).2
              rw [(far_spec t _ _).1.mpr g] at hd'
              omega
        · intro z
          obtain ⟨x, hx, hd⟩ := al_or z
          by_cases t0 : t = 0
          · rw [if_pos t0, List.any_eq_true]
            subst t0
            refine ⟨x, List.mem_range.mpr hx, decide_eq_true ?_⟩
            rcases hd with y | y
            · exact y
            · cases y
          · rw [if_neg t0, List.any_eq_true]
            refine ⟨x, List.mem_range.mpr hx, decide_eq_true ?_⟩
            obtain ⟨t', rfl⟩ : ∃ t', t = t' + 1 := ⟨t - 1, by omega⟩
            have g := (al_succ.mp ha) x hx
            rcases hd with y | y
            · exact absurd g.1 y
            · obtain ⟨k1, k2⟩ := far_spec (t' + 1) (m.nx a x) (m.nx b x)
              have kn : far m (t' + 1) (m.nx a x) (m.nx b x) ≠ 0 := fun q => by rw [k1.mp q] at y; cases y
              obtain ⟨l1, l2, l3⟩ := k2 kn
              by_cases lt : far m (t' + 1) (m.nx a x) (m.nx b x) ≤ t'
              · rw [al_le lt g.2] at l2; cases l2
              · omega
      rw [e]
      by_cases z : al m (t + 1) a b = true
      · rw [if_neg (by rw [key, z]; decide)]
        exact ⟨⟨fun _ => z, fun _ => rfl⟩, fun y => absurd rfl y⟩
      · have z' : al m (t + 1) a b = false := by cases y : al m (t + 1) a b with | true => exact absurd y z | false => rfl
        rw [if_pos (key.mpr z')]
        refine ⟨⟨fun y => by omega, fun y => absurd y z⟩, fun _ => ⟨Nat.le_refl _, z', ha⟩⟩
theorem far_zero (t a b : Nat) : far m t a b = 0 ↔ al m t a b = true := (far_spec t a b).1
theorem far_stop (ok : m.Ok) {t : Nat} (h : ∀ a b, a < m.n → b < m.n → far m t a b = far m (t + 1) a b) : Stable m t := fun a b ha hb z => (far_zero (t + 1) a b).mp (by rw [← h a b ha hb]; exact (far_zero t a b).mpr z)
theorem far_end (ok : m.Ok) {t : Nat} (st : Stable m t) {a b : Nat} (ha : a < m.n) (hb : b < m.n) : far m t a b = 0 ↔ al m m.n a b = true := by
  rw [far_zero]
  rcases Nat.le_total t m.n with z | z
  · rw [stable_al ok z st ha hb]
  · rw [stable_al ok z (stable_n ok) ha hb]
end Fm

set_option Elab.async false
set_option linter.all false
set_option maxRecDepth 100000
set_option maxHeartbeats 4000000
/-! My rules over the layer: deep ==, isinstance, list comprehensions. -/
namespace L2
open PySem PySem.Spec PyProof.Rows
/-! ### == of data -/
mutual
inductive RdV (K : PySem.W.Frag) (H : Hp) : V → PyData → Prop
  | non : RdV K H .non .none
  | bl (b : Bool) : RdV K H (.bl b) (.bool b)
  | int (i : Int) : RdV K H (.int i) (.int i)
  | str (x : Str) : RdV K H (.str x) (.str x)
  | lst {a : Addr} {xs : List V} {ds : List PyData} : SqL K H a xs → RdVs K H xs ds → RdV K H (.ref a) (.list ds)
  | tup {a : Addr} {xs : List V} {ds : List PyData} : SqT K H a xs → RdVs K H xs ds → RdV K H (.ref a) (.tuple ds)
inductive RdVs (K : PySem.W.Frag) (H : Hp) : List V → List PyData → Prop
  | nil : RdVs K H [] []
  | cons {x : V} {d : PyData} {xs : List V} {ds : List PyData} : RdV K H x d → RdVs K H xs ds → RdVs K H (x :: xs) (d :: ds)
end
section
variable {X : Cx} {pins : List (Addr × Obj)} {σ : St} {H : Hp} {s : Shared}
mutual
theorem RdV.reads (I : Inv X pins σ H s) : ∀ {v : V} {d : PyData} {u : Value}, RdV X.K H v d → RelV v u → ∃ as, Reads s.heap u d as
  | _, _, u, .non, r => by
    cases (show u = Value.none from r)
    exact ⟨_, .none⟩
  | _, _, u, .bl b, r => by
    cases (show u = Value.bool b from r)
    exact ⟨_, .bool b⟩
  | _, _, u, .int i, r => by
    obtain ⟨t, q⟩ := (show ∃ t, u = Value.int i t from r)
    cases q
    exact ⟨_, .int i t⟩
  | _, _, u, .str x, r => by
    obtain ⟨t, q⟩ := (show ∃ t, u = Value.str x t from r)
    cases q
    exact ⟨_, .str x t⟩
  | _, _, u, .lst (a := a) h hs, r => by
    cases (show u = Value.ref a from r)
    obtain ⟨its, rv, p, _⟩ := I.list h
    obtain ⟨o, ho, hc, n, hd⟩ := p.isList
    obtain ⟨as, q⟩ := RdVs.reads I hs rv
    exact ⟨_, .list ho hc hd (by simpa using q)⟩
  | _, _, u, .tup (a := a) h hs, r => by
    cases (show u = Value.ref a from r)
    obtain ⟨its, rv, p, _⟩ := I.tuple h
    obtain ⟨o, ho, hc, n, hd⟩ := p
    obtain ⟨as, q⟩ := RdVs.reads I hs rv
    exact ⟨_, .tuple ho hc hd (by simpa using q)⟩
theorem RdVs.reads (I : Inv X pins σ H s) : ∀ {vs : List V} {ds : List PyData} {us : List Value}, RdVs X.K H vs ds → Vals vs us → ∃ as, ReadsAll s.heap us ds as
  | _, _, _, .nil, .nil => ⟨_, .nil⟩
  | _, _, _, .cons h hs, .cons r rs => by
    obtain ⟨as, q⟩ := RdV.reads I h r
    obtain ⟨bs, q'⟩ := RdVs.reads I hs rs
    exact ⟨_, .cons q q'⟩
end
def rEqD (K : PySem.W.Frag) (neg : Bool) : R2 := fun x y H Q => ∃ da db, RdV K H x da ∧ RdV K H y db ∧ SeqAt.shaped da = true ∧ SeqAt.shaped db = true ∧ Q (.bl (if neg then !PyData.eqv da db else PyData.eqv da db)) H
theorem op_eqD (hu : X.A.units + 64 < cLine) : OpR X (compareOp .Eq) (rEqD X.K false) := by
  intro pins s σ H x y v u Q I rx ry h
  obtain ⟨da, db, ra, rb, ha, hb, q⟩ := h
  obtain ⟨as, r1⟩ := ra.reads I rx
  obtain ⟨bs, r2⟩ := rb.reads I ry
  exact eq_dataH r1 r2 ha hb hu ⟨.bl _, H, I, rfl, q⟩
theorem op_neD (hu : X.A.units + 64 < cLine) : OpR X (compareOp .NotEq) (rEqD X.K true) := by
  intro pins s σ H x y v u Q I rx ry h
  obtain ⟨da, db, ra, rb, ha, hb, q⟩ := h
  obtain ⟨as, r1⟩ := ra.reads I rx
  obtain ⟨bs, r2⟩ := rb.reads I ry
  exact ne_dataH r1 r2 ha hb hu ⟨.bl _, H, I, rfl, q⟩
/-! ### isinstance(x, T) -/
theorem call_isinst : CallR X (.builtin "isinstance") (fun xs H Q => ∃ x n t b, xs = [x, .ty n] ∧ TyOf X.K H x t ∧ PySem.W.kitOne X.K t (.type n) = some b ∧ Q (.bl b) H) := by
  intro pins s σ H xs us Q I r h
  obtain ⟨x, n, t, b, rfl, ty, e, q⟩ := h
  obtain ⟨u, u', rfl, rx, ry⟩ := Vals.two r
  cases (show u' = Value.type n from ry)
  exact isinst_ok I rx ty e fun tk => ⟨.bl b, H, I.tok tk, rfl, q⟩
end
/-! ### sorted(a list of ints) -/
theorem call_sorted {X : Cx} : CallR X (.builtin "sorted") (fun xs H Q => ∃ p ns, xs = [.ref p] ∧ SqL X.K H p (ns.map V.int) ∧ ns.length < 64 ∧
    ∀ l (ns' : List Int), H l = none → ns'.Perm ns → ns'.Pairwise (· ≤ ·) → Q (.ref l) (upd H l (.lst (ns'.map V.int)))) := by
  intro pins s σ H xs us Q I r h
  obtain ⟨p, ns, rfl, hq, h64, q⟩ := h
  obtain ⟨u, rfl, ru⟩ := Vals.one r
  cases (show u = Value.ref p from ru)
  obtain ⟨its, rv, pl, hz⟩ := I.list hq
  have hl := rv.length
  rw [List.length_map] at hl
  refine sorted_ints pl.isList (intsAre_of rv) (by omega) fun out ns' a1 a2 a3 => ?_
  obtain ⟨e, he⟩ := sortedAll_at s.heap its out
  have hn := a2.length_eq
  have sml : (ns'.map V.int).length ≤ sizeLine := by
    rw [List.length_map]
    exact Nat.le_of_lt (Nat.lt_of_lt_of_le (show ns'.length < 64 by omega) (by decide))
  exact ⟨.ref _, _, I.laid (o := .lst (ns'.map V.int)) (t' := s.toks) (fun b o z => sortedAll_old z) (Nat.le_succ _) ⟨sml, out.toList, e, vals_ints a1, he⟩, rfl, q _ ns' (I.hok.fresh (Nat.le_succ _)) a2 a3⟩
/-! ### a list comprehension -/
structure Bk where
  cl : List (Str × Addr)
  C : Addr
  s : Shared
  H : Hp
  fp : List Addr
  pn : List (Addr × Obj)
/-- the block's context -/
def Cx.blk (X : Cx) (N' : List Str) (sc : Scope) (b : Bk) : Cx where
  prog := X.prog
  w := X.w
  K := X.K
  mg := X.mg
  base := X.base
  A := X.A
  N := N'
  s₀ := b.s
  H₀ := b.H
  env := compEnvC sc b.cl b.C X.env
  outer := X.stack
  stack := X.stack
  ex := b.fp
  fn := fun _ => false
  calm := X.calm
  pn := b.pn
  xe := fun _ _ => False
/-- the block's names: none an own one, j the j-th of the def's -/
def bst (ix : List (Option Nat)) (σ : St) : St := ix.map fun o => match o with
  | none => none
  | some j => (σ[j]?).getD none
def fromB (N : List Str) (names : List (Str × NameKind)) : List Str → List (Option Nat) → Bool
  | x :: r, some j :: t => decide (N[j]? = some x) && decide (names.lookup x = some .free) && fromB N names r t
  | _ :: r, none :: t => fromB N names r t
  | [], [] => true
  | _, _ => false
theorem fromB_ok {N : List Str} {names : List (Str × NameKind)} : ∀ {N' : List Str} {ix : List (Option Nat)}, fromB N names N' ix = true →
    ix.length = N'.length ∧ ∀ (i j : Nat) (x : Str), N'[i]? = some x → ix[i]? = some (some j) → N[j]? = some x ∧ names.lookup x = some .free
  | [], [], _ => ⟨rfl, fun i j x e _ => by simp at e⟩
  | x :: r, some j :: t, h => by
    simp only [fromB, Bool.and_eq_true, decide_eq_true_eq] at h
    obtain ⟨hl, hf⟩ := fromB_ok (N' := r) (ix := t) h.2
    refine ⟨by simp [hl], fun i k y e1 e2 => ?_⟩
    cases i with
    | zero =>
      simp at e1 e2
      subst e1 e2
      exact h.1
    | succ i => exact hf i k y (by simpa using e1) (by simpa using e2)
  | x :: r, none :: t, h => by
    simp only [fromB] at h
    obtain ⟨hl, hf⟩ := fromB_ok (N' := r) (ix := t) h
    refine ⟨by simp [hl], fun i k y e1 e2 => ?_⟩
    cases i with
    | zero => simp at e2
    | succ i => exact hf i k y (by simpa using e1) (by simpa using e2)
  | [], some _ :: _, h => by simp [fromB] at h
  | [], none :: _, h => by simp [fromB] at h
  | _ :: _, [], h => by simp [fromB] at h
theorem forIn_pure {α β : Type} {f : α → β → Sem (ForInStep β)} (Pv : List α → β → Prop) (hs : ∀ x l b, Pv (x :: l) b → ∃ b', f x b = pure (.yield b') ∧ Pv l b') :
    ∀ (l : List α) (b : β), Pv l b → ∃ b', forIn l b f = pure b' ∧ Pv [] b'
  | [], b, h => ⟨b, rfl, h⟩
  | x :: l, b, h => by
    obtain ⟨b1, e1, h1⟩ := hs x l b h
    obtain ⟨b2, e2, h2⟩ := forIn_pure Pv hs l b1 h1
    refine ⟨b2, ?_, h2⟩
    rw [List.forIn_cons, e1, pure_bind]
    exact e2
def cstep (env : Env) (x : Str × NameKind) (r : List (Str × Addr)) : Sem (ForInStep (List (Str × Addr))) :=
  if x.2 == .free then (do let c ← cellOf env x.1; pure (.yield ((x.1, c) :: r))) else pure (.yield r)
theorem closure_step (sc : Scope) (env : Env) : closureFor sc env = (forIn sc.names [] (cstep env) >>= fun cs => pure cs) := by rfl
theorem closure_of {sc : Scope} {env : Env} (h : ∀ p ∈ sc.names, p.2 = .free → ∃ c, env.cells.lookup p.1 = some c) :
    ∃ cl, closureFor sc env = pure cl ∧ (∀ x c, cl.lookup x = some c → env.cells.lookup x = some c) ∧ ∀ p ∈ sc.names, p.2 = .free → ∃ c, cl.lookup p.1 = some c := by
  obtain ⟨cl, e, _, h1, h2⟩ := forIn_pure (f := cstep env)
    (fun l (b : List (Str × Addr)) => (∀ p ∈ l, p ∈ sc.names) ∧ (∀ x c, b.lookup x = some c → env.cells.lookup x = some c) ∧ ∀ p ∈ sc.names, p.2 = .free → p ∈ l ∨ ∃ c, b.lookup p.1 = some c)
    (fun p l b ⟨g0, g1, g2⟩ => by
      unfold cstep
      by_cases hk : p.2 = .free
      · obtain ⟨c, hc⟩ := h p (g0 p List.mem_cons_self) hk
        have ec : cellOf env p.1 = pure c := by unfold cellOf; rw [hc]
        rw [hk, if_pos (by decide), ec, pure_bind]
        refine ⟨_, rfl, fun q hq => g0 q (List.mem_cons_of_mem _ hq), fun x d e => ?_, fun q hq hf => ?_⟩
        · rw [List.lookup_cons] at e
          cases hx : x == p.1 with
          | true =>
            rw [hx] at e
            cases e
            rw [eq_of_beq hx]; exact hc
          | false =>
            rw [hx] at e
            exact g1 x d e
        · rcases g2 q hq hf with z | ⟨d, hd⟩
          · rcases List.mem_cons.mp z with z | z
            · subst z
              exact .inr ⟨c, by rw [List.lookup_cons, beq_self_eq_true]⟩
            · exact .inl z
          · refine .inr ?_
            rw [List.lookup_cons]
            cases hx : q.1 == p.1 with
            | true => exact ⟨c, rfl⟩
            | false => exact ⟨d, hd⟩
      · rw [if_neg (by simpa using hk)]
        refine ⟨_, rfl, fun q hq => g0 q (List.mem_cons_of_mem _ hq), g1, fun q hq hf => ?_⟩
        rcases g2 q hq hf with z | z
        · rcases List.mem_cons.mp z with z | z
          · subst z; exact absurd hf hk
          · exact .inl z
        · exact .inr z)
    sc.names [] ⟨fun _ z => z, fun x c e => by simp at e, fun p hp _ => .inl hp⟩
  refine ⟨cl, ?_, h1, fun p hp hf => (h2 p hp hf).elim (fun z => by simp at z) id⟩
  rw [closure_step, e, pure_bind]
theorem lookup_mem {names : List (Str × NameKind)} {x : Str} {k : NameKind} : names.lookup x = some k → (x, k) ∈ names := by
  induction names with
  | nil => intro e; simp at e
  | cons p r ih =>
    intro e
    rw [List.lookup_cons] at e
    cases hx : x == p.1 with
    | true =>
      rw [hx] at e
      cases e
      rw [eq_of_beq hx]; exact List.mem_cons_self
    | false =>
      rw [hx] at e
      exact List.mem_cons_of_mem _ (ih e)
theorem relabel_eq (sc : Scope) (env : Env) : (relabel sc env).names = sc.names.map fun p => (p.1, if (p.2 == .free && env.scope.kind == .function && env.kindOf p.1 == some .cell) = true then NameKind.cell else p.2) := by
  show (sc.names.map _) = _
  refine List.map_congr_left fun p _ => ?_
  obtain ⟨n, k⟩ := p
  dsimp only
  split <;> rfl
theorem relabel_in {sc : Scope} {env : Env} {x : Str} {k : NameKind} (hc : ∀ y ∈ sc.names, y.2 ≠ .cell) (h : (relabel sc env).names.lookup x = some k) (hk : k = .cell ∨ k = .free) : (x, NameKind.free) ∈ sc.names := by
  have hm := lookup_mem h
  rw [relabel_eq] at hm
  obtain ⟨p, hp, e⟩ := List.mem_map.mp hm
  obtain ⟨n, k'⟩ := p
  injection e with e1 e2
  dsimp only at e1 e2
  subst e1
  have hk' : k' = .free := by
    by_cases z : (k' == NameKind.free && env.scope.kind == .function && env.kindOf n == some .cell) = true
    · have z' := (Bool.and_eq_true_iff.mp (Bool.and_eq_true_iff.mp z).1).1
      exact eq_of_beq z'
    · rw [if_neg z] at e2
      rcases hk with w | w
      · exact absurd (e2.trans w) (hc _ hp)
      · exact e2.trans w
  subst hk'
  exact hp
theorem relabel_notlocal {sc : Scope} {env : Env} {x : Str} (hf : sc.names.lookup x = some .free) : (relabel sc env).names.lookup x ≠ some .local := by
  have key : ∀ (g : Str → NameKind → NameKind) (l : List (Str × NameKind)), (l.map fun p => (p.1, g p.1 p.2)).lookup x = (l.lookup x).map (g x) := by
    intro g l
    induction l with
    | nil => rfl
    | cons p r ih =>
      rw [List.map_cons, List.lookup_cons, List.lookup_cons]
      cases hx : x == p.1 with
      | true => rw [eq_of_beq hx]; rfl
      | false => exact ih
  rw [relabel_eq, key fun n k => if (k == .free && env.scope.kind == .function && env.kindOf n == some .cell) = true then NameKind.cell else k, hf]
  intro z
  simp only [Option.map_some] at z
  split at z <;> cases z
/-- tests -/
def PTs (X : Cx) (ifs : List Expr) (t : TT) : Prop :=
  ∀ (pins : List (Addr × Obj)) (s : Shared) (σ : St) (H : Hp) (Q : Bool → Hp → Prop), Inv X pins σ H s → t σ H Q →
    wpAny (model X.prog X.w) X.A (forIn ifs true fun c r => if r = true then do let ok ← isTrue c X.env (eval c X.env); pure (ForInStep.yield ok) else pure (ForInStep.yield r)) (TP X pins σ Q) X.xe s
def tYes : TT := fun _ H Q => Q true H
theorem yes_i {σ : St} {H : Hp} {Q : Bool → Hp → Prop} (h : Q true H) : tYes σ H Q := h
theorem pts_nil {X : Cx} : PTs X [] tYes := fun _ _ _ H _ I h => wpAny_tests_nil ⟨H, I, h⟩
theorem pts_one {X : Cx} {c : Expr} {t : TT} (h : PT X c t) : PTs X [c] t := fun pins s σ H Q I q => wpAny_tests_one (h pins s σ H Q I q)
/-- the loop of the block: the list grows at D -/
def tLoop (J : It) (g : TG) (tt : TT) (te : TE) (D : Addr) (Q : VK) (σ : St) (H : Hp) : Prop :=
  ∃ W : Nat → Nat → St → Hp → Prop, (∃ m, W 0 m σ H) ∧ ∀ i m σ H, W i m σ H → (J.stop i H ∧ Q (.ref D) H) ∨ (J.go i H ∧ ∃ (N1 : V → St → Hp → Prop) (N2 : St → Hp → Prop),
    (∀ y σ' H', N1 y σ' H' → ∃ ys, H' D = some (.lst ys) ∧ ys.length < sizeLine ∧ ∃ m', m' < m ∧ W (i + 1) m' σ' (upd H' D (.lst (ys ++ [y])))) ∧ (∀ σ' H', N2 σ' H' → ∃ m', m' < m ∧ W (i + 1) m' σ' H') ∧
    ∀ x H', J.yld i H x H' → g x σ H' fun σ2 H2 => tt σ2 H2 fun b H3 => if b = true then te σ2 H3 (fun y H4 => N1 y σ2 H4) else N2 σ2 H3)
def tComp (wi : TI) (ix : List (Option Nat)) (g : Bk → TG) (tt : Bk → TT) (te : Bk → TE) : TE := fun σ H Q => wi σ H fun J H1 => ∀ (b : Bk) D, H1 D = none → tLoop J (g b) (tt b) (te b) D Q (bst ix σ) (upd H1 D (.lst []))
section
variable {X : Cx}
/-- the block's start and its end -/
theorem blk_run {tg elt iter : Expr} {ifs : List Expr} {sc : Scope} {pos : Pos} {N' : List Str} {ix : List (Option Nat)} {g : Bk → TG} {tt : Bk → TT} {te : Bk → TE} {Q : VK} {pins : List (Addr × Obj)} {σ : St} {H : Hp} {s : Shared} {it : Addr} {fp : List Addr} {tn : Nat → Heap → Prop} {J : It} {cl : List (Str × Addr)}
    {RR : Value → Addr → Result → Shared → Prop} {E : Value → Shared → Prop}
    (hc : X.calm = true) (hkind : sc.kind = .function) (hcell : ∀ y ∈ sc.names, y.2 ≠ .cell) (hfree : ∀ p ∈ sc.names, p.2 = .free → X.env.kindOf p.1 = some .cell) (hfrom : fromB X.N sc.names N' ix = true)
    (hg : ∀ b : Bk, PG (X.blk N' sc b) tg (g b)) (ht : ∀ b : Bk, PTs (X.blk N' sc b) ifs (tt b)) (he : ∀ b : Bk, PE (X.blk N' sc b) elt (te b))
    (hcl : ∀ x c, cl.lookup x = some c → X.env.cells.lookup x = some c) (hcl2 : ∀ p ∈ sc.names, p.2 = .free → ∃ c, cl.lookup p.1 = some c)
    (I : Inv X pins σ H s) (T : Turn X.prog X.w X.K tg J fp it tn) (st : tn 0 s.heap) (f2 : ∀ b ∈ fp, FpOk X pins H b) (q : ∀ (b : Bk) D, H D = none → tLoop J (g b) (tt b) (te b) D Q (bst ix σ) (upd H D (.lst [])))
    (hRR : ∀ D C (s' : Shared) H', Inv X pins σ H' s' → Q (.ref D) H' → (∃ m, s'.heap.Ns C m) → H' C = none → C ≠ X.env.locals → X.s₀.heap.objs.size ≤ C → (∀ x c, X.env.cells.lookup x = some c → c ≠ C) → (∀ p ∈ X.pn ++ pins, p.1 ≠ C) → RR (.ref D) C (.ok .next) s') :
    wpAny (model X.prog X.w) X.A (newList []) (fun acc s3 => wpAny (model X.prog X.w) X.A (newFunctionEnv sc X.env.globals cl [] X.env.qual none .none (some X.env)) (fun cenv s4 =>
      codeAny (model X.prog X.w) X.A (.compStart (.ListComp elt [⟨tg, iter, ifs, 0⟩] sc pos) 0 (.ref it) acc { cenv with scope := relabel sc X.env }) (RR acc cenv.locals) s4) E s3) E s := by
  refine wpAny_newObj_type (wpAny_newFunctionEnv hcell (by intro y hy; simp at hy) (fun h1 hns hsb => ?_) hkind)
  dsimp only at hns hsb ⊢
  have I3 : Inv X pins σ (upd H s.heap.objs.size (.lst [])) { s with heap := s.heap.push { cls := .type "list", dict := none, data := .seq ([] : List Value).toArray } } :=
    I.lnew (t' := s.toks) (ys := []) (its := []) .nil (by show 0 ≤ sizeLine; decide)
  have hD : H s.heap.objs.size = none := I.fresh
  generalize hDn : s.heap.objs.size = D at hns hsb I3 hD ⊢
  generalize hh : s.heap.push { cls := .type "list", dict := none, data := .seq ([] : List Value).toArray } = hp at hns hsb I3 ⊢
  generalize hH3 : upd H D (.lst []) = H3 at I3 ⊢
  generalize hCn : hp.objs.size = C at hns hsb ⊢
  have hDC : D < C := by rw [← hCn, ← hh, Heap.size_push, hDn]; exact Nat.lt_succ_self _
  have old : ∀ b o, hp.get? b = some o → h1.get? b = some o := fun b o e => hsb.extBut b o (by rw [← hCn]; exact Nat.ne_of_lt (Heap.lt_size e)) (Heap.get?_push_of_some _ e)
  have old0 : ∀ b o, s.heap.get? b = some o → hp.get? b = some o := fun b o e => by rw [← hh]; exact Heap.get?_push_of_some _ e
  have fpLt : ∀ b ∈ fp, b < D := fun b hb => by
    obtain ⟨o, e, _⟩ := T.obj _ _ st b hb
    rw [← hDn]; exact Heap.lt_size e
  have I3s : Inv X pins σ H3 { s with heap := hp } := I3
  -- the block's context
  let B : Bk := ⟨cl, C, { s with heap := hp }, H3, fp, X.pn ++ pins⟩
  have cellX : ∀ x c, cl.lookup x = some c → c ≠ C ∧ ∀ b ∈ fp, c ≠ b := fun x c e => by
    obtain ⟨v, z⟩ := I3s.cell x c (hcl x c e)
    exact ⟨by rw [← hCn]; exact Nat.ne_of_lt z.lt, fun b hb => (f2 b hb).2.2.2.2.1 x c (hcl x c e)⟩
  have okY : (X.blk N' sc B).Ok := by
    refine ⟨I.ok.mod, hkind, I.ok.glob, I.ok.blt, ?_, fun x y c a b => I.ok.inj x y c (hcl x c a) (hcl y c b), fun x hx => ?_, (fun x c (a : false = true) => (nomatch a)), I.ok.hd, I.ok.frames, .inl rfl, fun b hb => ?_, fun b o e => ?_, ?_, fun b o e hb => ?_, fun b hb z => ?_, I3s.stack, I3s.stkFree⟩
    · show hp.objs.size ≤ C
      rw [hCn]; exact Nat.le_refl _
    · have hx' : (relabel sc X.env).names.lookup x = some .cell ∨ (relabel sc X.env).names.lookup x = some .free := hx
      rcases hx' with z | z
      · exact hcl2 _ (relabel_in hcell z (.inl rfl)) rfl
      · exact hcl2 _ (relabel_in hcell z (.inr rfl)) rfl
    · exact ⟨Nat.ne_of_lt (Nat.lt_trans (fpLt b hb) hDC), fun x c e => (cellX x c e).2 b hb⟩
    · obtain ⟨z1, z2⟩ := I3s.bs b o e
      exact ⟨z1, z2⟩
    · exact Nat.le_trans I.ok.bsz I3s.sz
    · rcases (f2 b hb).2.2.2.1 with z | z
      · exact I.ok.noex b o e z
      · exact absurd (Nat.lt_of_lt_of_le (Heap.lt_size (h := X.base) e) (Nat.le_trans I.ok.bsz z)) (Nat.lt_irrefl _)
    · rcases List.mem_cons.mp (I.stkSub b z) with w | w
      · exact (f2 b hb).2.1 w
      · exact (f2 b hb).2.2.1 w
  have frC : ∀ b ∈ frs X.stack, b ≠ C := fun b hb => by
    obtain ⟨_, o, ho, _⟩ := I3s.stack.mem hb
    rw [← hCn]; exact Nat.ne_of_lt (Heap.lt_size (h := hp) ho)
  obtain ⟨hlen, hix⟩ := fromB_ok hfrom
  have IY : Inv (X.blk N' sc B) [] (bst ix σ) H3 { s with heap := h1, toks := s.toks + ([] : List (Str × Value)).length } := by
    refine ⟨okY, rfl, I.bare, Un.kept old, ⟨_, hns, fun i x v e1 e2 e3 => ?_⟩, fun x c e => ?_, I3s.hok.fresh (by show hp.objs.size ≤ C; rw [hCn]; exact Nat.le_refl _), fun x c e => I3s.freeC x c (hcl x c e), fun p hp' => ?_, I3s.hok.kept old, by show (bst ix σ).length = N'.length; rw [← hlen]; simp [bst]⟩
    · have e1' : N'[i]? = some x := e1
      unfold bst at e2
      rw [List.getElem?_map] at e2
      cases hi : ix[i]? with
      | none => rw [hi] at e2; cases e2
      | some o =>
        rw [hi] at e2
        cases o with
        | none => cases e2
        | some j =>
          obtain ⟨hj, hfr⟩ := hix i j x e1' hi
          have e2' : (σ[j]?).getD none = some v := Option.some.inj e2
          have e4 : σ[j]? = some (some v) := by
            cases z : σ[j]? with
            | none => rw [z] at e2'; cases e2'
            | some w => rw [z] at e2'; exact congrArg some e2'
          have hkX := hfree _ (lookup_mem hfr) rfl
          obtain ⟨m, hn, hl⟩ := I3s.loc
          obtain ⟨u, r, l⟩ := hl j x v hj e4 (.inr (.inl hkX))
          refine ⟨u, r, .inr ⟨?_, ?_⟩⟩
          · have e3' : (relabel sc X.env).names.lookup x = some .local ∨ (relabel sc X.env).names.lookup x = some .cell ∨ (relabel sc X.env).names.lookup x = some .free := e3
            rcases e3' with z | z
            · exact absurd z (relabel_notlocal hfr)
            · exact z
          · obtain ⟨c, hc'⟩ := hcl2 _ (lookup_mem hfr) rfl
            refine ⟨c, hc', ?_⟩
            rcases l with ⟨z, _⟩ | ⟨_, d, hd, hcell'⟩
            · rw [hkX] at z; cases z
            · rw [hcl x c hc'] at hd
              cases hd
              obtain ⟨o, ho, hod⟩ := hcell'
              exact ⟨o, old _ o ho, hod⟩
    · obtain ⟨v, o, ho, hod⟩ := I3s.cell x c (hcl x c e)
      exact ⟨v, o, old _ o ho, hod⟩
    · have hp'' : p ∈ X.pn ++ pins := by simpa [Cx.blk, B] using hp'
      obtain ⟨z1, z2, z3, z4, z5⟩ := I3s.pin p hp''
      refine ⟨old _ _ z1, z2, by show p.1 ≠ C; rw [← hCn]; exact Nat.ne_of_lt (Heap.lt_size (h := hp) z1), fun z => ?_, z5⟩
      rcases List.mem_cons.mp (I.stkSub p.1 z) with w | w
      · exact z3 w
      · exact z4 w
  have st1 : tn 0 h1 := T.keep _ _ _ st fun b _ o e => old b o (old0 b o e)
  have fpY : ∀ {H' : Hp}, (∀ b ∈ fp, H' b = none) → ∀ b ∈ fp, FpOk (X.blk N' sc B) [] H' b := fun hn b hb => by
    refine ⟨hn b hb, Nat.ne_of_lt (Nat.lt_trans (fpLt b hb) hDC), okY.exfs b hb, .inl hb, fun x c e => (cellX x c e).2 b hb, fun p hp' => ?_⟩
    have hp'' : p ∈ X.pn ++ pins := by simpa [Cx.blk, B] using hp'
    exact (f2 b hb).2.2.2.2.2 p hp''
  have qD := q B D hD
  rw [hH3] at qD
  obtain ⟨W, ⟨m0, w0⟩, turn⟩ := qD
  -- behind the loop
  have fin : ∀ {i : Nat} {σ' : St} {H' : Hp} {s' : Shared}, Inv (X.blk N' sc B) [] σ' H' s' → Q (.ref D) H' → RR (.ref D) C (.ok .next) s' := fun {i σ' H' s'} I' q' => by
    have IX : Inv X pins σ H' s' := I3s.call' (ch := fp) I'.os I'.base I'.hok I'.bare fun b hb => by
      obtain ⟨_, a2, _, a4, a5, a6⟩ := f2 b hb
      exact ⟨a4, a2, a5, a6⟩
    have hCs : X.s₀.heap.objs.size ≤ C := Nat.le_trans I3s.sz (by show hp.objs.size ≤ C; rw [hCn]; exact Nat.le_refl _)
    refine hRR D C s' H' IX q' (let ⟨m, hn, _⟩ := I'.loc; ⟨m, hn⟩) I'.free ?_ hCs (fun x c e => ?_) fun p hp' => ?_
    · rw [← hCn]; exact Nat.ne_of_gt I3s.lt
    · obtain ⟨v, z⟩ := I3s.cell x c e
      rw [← hCn]; exact Nat.ne_of_lt z.lt
    · rw [← hCn]; exact Nat.ne_of_lt (Heap.lt_size (h := hp) (I3s.pin p hp').1)
  have loop : codeAny (model X.prog X.w) X.A (.compLoop (.ListComp elt [⟨tg, iter, ifs, 0⟩] sc pos) 0 (.ref it) (.ref D) (compEnvC sc cl C X.env)) (RR (.ref D) C) { s with heap := h1, toks := s.toks + ([] : List (Str × Value)).length } := by
    refine codeAny_loop rfl (fun n s' => ∃ i σ' H', Inv (X.blk N' sc B) [] σ' H' s' ∧ tn i s'.heap ∧ (∀ b ∈ fp, H' b = none) ∧ W i n σ' H') (fun n s5 hI => ?_) m0 ⟨0, _, _, IY, st1, fun b hb => ?_, w0⟩
    · obtain ⟨i, σ5, H5, I5, st5, fr5, w5⟩ := hI
      show wpAny _ _ ((compTurn (.ListComp elt [⟨tg, iter, ifs, 0⟩] sc pos) 0 (.ref it) (.ref D) (compEnvC sc cl C X.env)).onRaise (fun x => do noteFrame x (compEnvC sc cl C X.env); theTreesLotGoes x)) _ _ s5
      refine wpAny_noted ?_
      rw [compTurn_list]
      refine wpAny_bind (wpAny_standAt ?_)
      rcases turn i n σ5 H5 w5 with ⟨stop, qn⟩ | ⟨go, N1, N2, hN1, hN2, step⟩
      · refine wpAny_bind (wpAny_mono (T.done (X.blk N' sc B) rfl rfl rfl hc i [] s5 σ5 H5 (fun _ _ => False) I5 (fpY fr5) st5 stop) (fun r s6 h6 => ?_) fun _ _ f => f.elim)
        obtain ⟨hr, I6⟩ := h6
        subst hr
        exact wpAny_pure (fin (i := i) I6 qn)
      · refine wpAny_bind (wpAny_mono (T.item (X.blk N' sc B) rfl rfl rfl hc i [] s5 σ5 H5 (fun _ _ => False) I5 (fpY fr5) st5 go) (fun r s6 h6 => ?_) fun _ _ f => f.elim)
        obtain ⟨u, hr, h6⟩ := h6
        subst hr
        refine wpAny_bind (wpAny_mono h6 (fun _ s7 h7 => ?_) fun _ _ f => f.elim)
        obtain ⟨x, H7, I7, r7, y7, st7, fr7⟩ := h7
        have I7' := I7.pinned (fpY fr7) (T.obj _ _ st7)
        refine wpAny_bind (wpAny_mono (hg B _ s7 σ5 H7 x u _ I7' r7 (step x H7 y7)) (fun _ s8 h8 => ?_) fun _ _ f => f.elim)
        obtain ⟨σ8, H8, I8, q8⟩ := h8
        refine wpAny_bind (wpAny_mono (ht B _ s8 σ8 H8 _ I8 q8) (fun ok s9 h9 => ?_) fun _ _ f => f.elim)
        obtain ⟨H9, I9, q9⟩ := h9
        have again : ∀ {s' : Shared} {H' : Hp}, Inv (X.blk N' sc B) ([] ++ pinsAt fp s7.heap) σ8 H' s' → (∃ m', m' < n ∧ W (i + 1) m' σ8 H') →
            ∃ m, m < n ∧ ∃ i σ' H', Inv (X.blk N' sc B) [] σ' H' s' ∧ tn i s'.heap ∧ (∀ b ∈ fp, H' b = none) ∧ W i m σ' H' := fun {s' H'} I' w' => by
          obtain ⟨m', hm, w'⟩ := w'
          have pn : ∀ b ∈ fp, ∀ o, s7.heap.get? b = some o → s'.heap.get? b = some o ∧ H' b = none := fun b hb o e => by
            have z := I'.pin (b, o) (List.mem_append_right _ (List.mem_append_right _ (mem_pinsAt hb e)))
            exact ⟨z.1, z.2.1⟩
          refine ⟨m', hm, i + 1, σ8, H', I'.unpinned, T.keep _ _ _ st7 fun b hb o e => (pn b hb o e).1, fun b hb => ?_, w'⟩
          obtain ⟨o, e, _⟩ := T.obj _ _ st7 b hb
          exact (pn b hb o e).2
        cases ok with
        | false =>
          have q9' : N2 σ8 H9 := by simpa using q9
          exact wpAny_pure ⟨rfl, again I9 (hN2 _ _ q9')⟩
        | true =>
          have q9' : te B σ8 H9 fun y H4 => N1 y σ8 H4 := by simpa using q9
          refine wpAny_bind (wpAny_bind (wpAny_mono (he B _ s9 σ8 H9 _ I9 q9') (fun y sA hA => ?_) fun _ _ f => f.elim))
          obtain ⟨yv, HA, IA, rA, nA⟩ := hA
          obtain ⟨ys, eA, zA, w'⟩ := hN1 _ _ _ nA
          refine wpAny_bind (wpAny_mono (mt_append (X := X.blk N' sc B) _ sA σ8 HA (.ref D) [yv] (.ref D) [y] (fun _ H' => H' = upd HA D (.lst (ys ++ [yv]))) IA rfl (.cons rA .nil) ⟨D, ys, yv, rfl, rfl, eA, zA, rfl⟩) (fun _ sB hB => ?_) fun _ _ f => f.elim)
          obtain ⟨_, HB, IB, _, eB⟩ := hB
          subst eB
          exact wpAny_pure (wpAny_pure ⟨rfl, again IB w'⟩)
    · rw [← hH3, upd_ne (Nat.ne_of_lt (fpLt b hb))]
      exact (f2 b hb).1
  exact codeAny_compStart_list loop (T.self _ 0 _ _ _ st1 loop)
/-- [elt for tg in iter if ..] -/
theorem pe_comp {tg elt iter : Expr} {ifs : List Expr} {sc : Scope} {pos : Pos} {wi : TI} {g : Bk → TG} {tt : Bk → TT} {te : Bk → TE} (N' : List Str) (ix : List (Option Nat)) (hc : X.calm = true)
    (hi : PI X tg iter wi) (hg : ∀ b : Bk, PG (X.blk N' sc b) tg (g b)) (ht : ∀ b : Bk, PTs (X.blk N' sc b) ifs (tt b)) (he : ∀ b : Bk, PE (X.blk N' sc b) elt (te b)) {N : List Str} {ks : List (Str × NameKind)}
    (hN : X.N = N) (hks : X.env.scope.names = ks) (hfree : ∀ p ∈ sc.names, p.2 = .free → ks.lookup p.1 = some .cell) (hfrom : fromB N sc.names N' ix = true)
    (hcell : ∀ y ∈ sc.names, y.2 ≠ .cell) (hnames : ∀ y ∈ sc.names, y.2 = .local → sc.names.lookup y.1 = some .local) (hkind : sc.kind = .function := by rfl)
    (hs : ∀ x, foldedSetIterable iter X.env x = pure x := by intro _; rfl) : PE X (.ListComp elt [⟨tg, iter, ifs, 0⟩] sc pos) (tComp wi ix g tt te) := by
  intro pins s σ H Q I h
  have hfree' : ∀ p ∈ sc.names, p.2 = .free → X.env.kindOf p.1 = some .cell := fun p hp hf => by
    show X.env.scope.names.lookup p.1 = _
    rw [hks]; exact hfree p hp hf
  obtain ⟨cl, hclos, hcl, hcl2⟩ := closure_of (sc := sc) (env := X.env) fun p hp hf => I.ok.has p.1 (.inl (hfree' p hp hf))
  rw [eval_ListComp]
  refine wpAny_comprehension_free (use := none) rfl hs hclos hkind hnames (thn (hi pins s σ H _ I h) fun v s1 h1 => thn h1 fun itv s2 h2 => ?_)
  obtain ⟨it, fp, tn, J, H2, e, I2, T, st2, f2, q⟩ := h2
  subst e
  refine blk_run (RR := fun acc C => compPost (model X.prog X.w) X.A X.xe none (EP X pins σ Q) acc C) hc hkind hcell hfree' (by rw [hN]; exact hfrom) hg ht he hcl hcl2 I2 T st2 f2 q ?_
  intro D C s' H' I' q' hns hC hL hsz hcel hpin
  obtain ⟨m, hn⟩ := hns
  refine ⟨m, hn, fun h' hsb => ?_⟩
  exact ⟨.ref D, H', I'.turned (t' := s'.toks) (fun b o hb e => hsb.extBut b o hb e) hC hL (.inr hsz) hcel hpin, rfl, q'⟩
/-- y = [elt for tg in iter if ..], y a plain local -/
theorem ps_comp {i : Nat} {y : Str} {py spos : Pos} {tg elt iter : Expr} {ifs : List Expr} {sc : Scope} {pos : Pos} {wi : TI} {g : Bk → TG} {tt : Bk → TT} {te : Bk → TE} (N' : List Str) (ix : List (Option Nat)) (hc : X.calm = true) (hNd : X.N.Nodup) (hiy : X.N[i]? = some y) (hy : X.env.scope.names.lookup y = some .local)
    (hi : PI X tg iter wi) (hg : ∀ b : Bk, PG (X.blk N' sc b) tg (g b)) (ht : ∀ b : Bk, PTs (X.blk N' sc b) ifs (tt b)) (he : ∀ b : Bk, PE (X.blk N' sc b) elt (te b)) {N : List Str} {ks : List (Str × NameKind)}
    (hN : X.N = N) (hks : X.env.scope.names = ks) (hfree : ∀ p ∈ sc.names, p.2 = .free → ks.lookup p.1 = some .cell) (hfrom : fromB N sc.names N' ix = true)
    (hcell : ∀ y ∈ sc.names, y.2 ≠ .cell) (hnames : ∀ y ∈ sc.names, y.2 = .local → sc.names.lookup y.1 = some .local) (hkind : sc.kind = .function := by rfl)
    (hs : ∀ x, foldedSetIterable iter X.env x = pure x := by intro _; rfl) (hsw : swapsWith (.ListComp elt [⟨tg, iter, ifs, 0⟩] sc pos) (some (.Name y py)) spos.line X.env = pure true := by rfl) :
    PS X (.Assign [.Name y py] (.ListComp elt [⟨tg, iter, ifs, 0⟩] sc pos) spos) (tAsg (tComp wi ix g tt te) (gName i)) := by
  intro pins s σ H D I h
  have hfree' : ∀ p ∈ sc.names, p.2 = .free → X.env.kindOf p.1 = some .cell := fun p hp hf => by
    show X.env.scope.names.lookup p.1 = _
    rw [hks]; exact hfree p hp hf
  obtain ⟨cl, hclos, hcl, hcl2⟩ := closure_of (sc := sc) (env := X.env) fun p hp hf => I.ok.has p.1 (.inl (hfree' p hp hf))
  rw [exec_Assign_Name_used _ _ _ _ hsw]
  refine wpAny_bind (wpAny_standAt (wpAny_bind ?_))
  show wpAny _ X.A (do let _ ← comprehension (.ListComp elt [⟨tg, iter, ifs, 0⟩] sc pos) sc X.env _ (newList []) false (eval iter X.env) (some (assign (.Name y py) X.env))) _ _ s
  refine wpAny_bind (wpAny_mono (wpAny_comprehension_free (use := some (assign (.Name y py) X.env)) (Q := fun _ s' => SP X pins D .next s') rfl hs hclos hkind hnames
    (thn (hi pins s σ H _ I h) fun v s1 h1 => thn h1 fun itv s2 h2 => ?_)) (fun _ s' hq => wpAny_pure (wpAny_pure hq)) fun _ _ e => e)
  obtain ⟨it, fp, tn, J, H2, e, I2, T, st2, f2, q⟩ := h2
  subst e
  refine blk_run (Q := fun x H1 => gName i x σ H1 D.nx) (RR := fun acc C => compPost (model X.prog X.w) X.A X.xe (some (assign (.Name y py) X.env)) (fun _ s' => SP X pins D .next s') acc C) hc hkind hcell hfree' (by rw [hN]; exact hfrom) hg ht he hcl hcl2 I2 T st2 f2 q ?_
  intro E C s' H' I' q' hns hC hL hsz hcel hpin
  obtain ⟨m, hn⟩ := hns
  show wpAny _ X.A (assign (.Name y py) X.env (.ref E)) _ _ _
  refine wpAny_assign_Name (store_ok2 I' hNd hiy (.inl hy) (show RelV (.ref E) (.ref E) from rfl) (fun s2 I2' hch => ?_) (.inr hy))
  obtain ⟨a, hsb, ha⟩ := hch
  have haC : C ≠ a := by
    rcases ha with z | z
    · rw [z]; exact hL
    · exact (hcel _ _ z).symm
  refine ⟨m, hn.sameBut hsb haC, fun h' hsb' => ?_⟩
  exact ⟨_, H', I2'.turned (t' := s2.toks) (fun b o hb e => hsb'.extBut b o hb e) hC hL (.inr hsz) hcel hpin, q'⟩
end
/-! ### the loop's forms -/
theorem comp_range {lo : Int} {n : Nat} {g : TG} {tt : TT} {te : TE} {D : Addr} {Q : VK} {σ : St} {H : Hp} (Pv : Nat → List V → St → Hp → Prop) (h0 : Pv 0 [] σ (upd H D (.lst [])))
    (hs : ∀ i ys σ H, i < n → H D = some (.lst ys) → Pv i ys σ H → g (.int (lo + i)) σ H fun σ2 H2 => tt σ2 H2 fun b H3 =>
      if b = true then te σ2 H3 fun y H4 => H4 D = some (.lst ys) ∧ ys.length < sizeLine ∧ Pv (i + 1) (ys ++ [y]) σ2 (upd H4 D (.lst (ys ++ [y]))) else H3 D = some (.lst ys) ∧ Pv (i + 1) ys σ2 H3)
    (hd : ∀ ys σ H, H D = some (.lst ys) → Pv n ys σ H → Q (.ref D) H) :
    tLoop (Itr lo n) g tt te D Q σ (upd H D (.lst [])) := by
  refine ⟨fun i m σ H => m = n - i ∧ i ≤ n ∧ ∃ ys, H D = some (.lst ys) ∧ Pv i ys σ H, ⟨n, by simp, Nat.zero_le _, [], upd_same, h0⟩, ?_⟩
  rintro i m σ H ⟨rfl, hi, ys, hD, p⟩
  by_cases hlt : i < n
  · refine .inr ⟨hlt, fun y σ' H' => H' D = some (.lst ys) ∧ ys.length < sizeLine ∧ Pv (i + 1) (ys ++ [y]) σ' (upd H' D (.lst (ys ++ [y]))), fun σ' H' => H' D = some (.lst ys) ∧ Pv (i + 1) ys σ' H',
      fun y σ' H' q => ⟨ys, q.1, q.2.1, n - (i + 1), by omega, rfl, hlt, _, upd_same, q.2.2⟩, fun σ' H' q => ⟨n - (i + 1), by omega, rfl, hlt, ys, q⟩, fun x H' y => ?_⟩
    obtain ⟨e, y⟩ := y
    subst e y
    exact hs i ys σ _ hlt hD p
  · have e : i = n := by omega
    subst e
    exact .inl ⟨Nat.le_refl _, hd ys σ H hD p⟩
theorem comp_list {K : PySem.W.Frag} {a : Addr} {xs : List V} {g : TG} {tt : TT} {te : TE} {D : Addr} {Q : VK} {σ : St} {H : Hp} (Pv : Nat → List V → St → Hp → Prop) (h0 : Pv 0 [] σ (upd H D (.lst [])))
    (hl : ∀ i ys σ H, i ≤ xs.length → H D = some (.lst ys) → Pv i ys σ H → SqL K H a xs)
    (hs : ∀ i x ys σ H, xs[i]? = some x → H D = some (.lst ys) → Pv i ys σ H → g x σ H fun σ2 H2 => tt σ2 H2 fun b H3 =>
      if b = true then te σ2 H3 fun y H4 => H4 D = some (.lst ys) ∧ ys.length < sizeLine ∧ Pv (i + 1) (ys ++ [y]) σ2 (upd H4 D (.lst (ys ++ [y]))) else H3 D = some (.lst ys) ∧ Pv (i + 1) ys σ2 H3)
    (hd : ∀ ys σ H, H D = some (.lst ys) → Pv xs.length ys σ H → Q (.ref D) H) :
    tLoop (Itl K a) g tt te D Q σ (upd H D (.lst [])) := by
  refine ⟨fun i m σ H => m = xs.length - i ∧ i ≤ xs.length ∧ ∃ ys, H D = some (.lst ys) ∧ Pv i ys σ H, ⟨xs.length, by simp, Nat.zero_le _, [], upd_same, h0⟩, ?_⟩
  rintro i m σ H ⟨rfl, hi, ys, hD, p⟩
  have hq := hl i ys σ H hi hD p
  by_cases hlt : i < xs.length
  · refine .inr ⟨⟨xs, xs[i], hq, by simp [hlt]⟩, fun y σ' H' => H' D = some (.lst ys) ∧ ys.length < sizeLine ∧ Pv (i + 1) (ys ++ [y]) σ' (upd H' D (.lst (ys ++ [y]))), fun σ' H' => H' D = some (.lst ys) ∧ Pv (i + 1) ys σ' H',
      fun y σ' H' q => ⟨ys, q.1, q.2.1, xs.length - (i + 1), by omega, rfl, hlt, _, upd_same, q.2.2⟩, fun σ' H' q => ⟨xs.length - (i + 1), by omega, rfl, hlt, ys, q⟩, fun x H' y => ?_⟩
    obtain ⟨e, y⟩ := y
    subst e
    exact hs i x ys σ _ (y xs hq) hD p
  · have e : i = xs.length := by omega
    subst e
    exact .inl ⟨⟨xs, hq, Nat.le_refl _⟩, hd ys σ H hD p⟩
/-- without a test -/
theorem comp_rangeA {lo : Int} {n : Nat} {g : TG} {te : TE} {D : Addr} {Q : VK} {σ : St} {H : Hp} (Pv : Nat → List V → St → Hp → Prop) (h0 : Pv 0 [] σ (upd H D (.lst [])))
    (hs : ∀ i ys σ H, i < n → H D = some (.lst ys) → Pv i ys σ H → g (.int (lo + i)) σ H fun σ2 H3 => te σ2 H3 fun y H4 => H4 D = some (.lst ys) ∧ ys.length < sizeLine ∧ Pv (i + 1) (ys ++ [y]) σ2 (upd H4 D (.lst (ys ++ [y]))))
    (hd : ∀ ys σ H, H D = some (.lst ys) → Pv n ys σ H → Q (.ref D) H) : tLoop (Itr lo n) g tYes te D Q σ (upd H D (.lst [])) :=
  comp_range Pv h0 (fun i ys σ H hi hD p => hs i ys σ H hi hD p) hd
theorem comp_listA {K : PySem.W.Frag} {a : Addr} {xs : List V} {g : TG} {te : TE} {D : Addr} {Q : VK} {σ : St} {H : Hp} (Pv : Nat → List V → St → Hp → Prop) (h0 : Pv 0 [] σ (upd H D (.lst [])))
    (hl : ∀ i ys σ H, i ≤ xs.length → H D = some (.lst ys) → Pv i ys σ H → SqL K H a xs)
    (hs : ∀ i x ys σ H, xs[i]? = some x → H D = some (.lst ys) → Pv i ys σ H → g x σ H fun σ2 H3 => te σ2 H3 fun y H4 => H4 D = some (.lst ys) ∧ ys.length < sizeLine ∧ Pv (i + 1) (ys ++ [y]) σ2 (upd H4 D (.lst (ys ++ [y]))))
    (hd : ∀ ys σ H, H D = some (.lst ys) → Pv xs.length ys σ H → Q (.ref D) H) : tLoop (Itl K a) g tYes te D Q σ (upd H D (.lst [])) :=
  comp_list Pv h0 hl (fun i x ys σ H hi hD p => hs i x ys σ H hi hD p) hd
end L2
/-! ### for i, x in enumerate(a list) -/
namespace L2
open PySem PySem.Spec PyProof.Rows
/-- at turn i: a new pair (i, the item) -/
def Ite (K : PySem.W.Frag) (a : Addr) : It :=
  ⟨fun i H => ∃ xs x, SqL K H a xs ∧ xs[i]? = some x, fun i H y H' => ∃ t x, y = .ref t ∧ H t = none ∧ H' = upd H t (.tup [.int i, x]) ∧ ∀ xs, SqL K H a xs → xs[i]? = some x, fun i H => ∃ xs, SqL K H a xs ∧ xs.length ≤ i⟩
theorem turn_enum {P : Program} {w : World} {K : PySem.W.Frag} {elts : List Expr} {x1 : Nat} {tp : Pos} (a e it : Addr) (hne : e ≠ it) :
    Turn P w K (.Tuple elts x1 tp) (Ite K a) [e, it] e (fun i h => (∃ old, IsEnum h e it (i : Nat) old) ∧ h.IsListIter it a i) where
  mem := by simp
  obj := fun i h st b hb => by
    obtain ⟨⟨old, he⟩, o, ho, hc, hd⟩ := st
    rcases List.mem_cons.mp hb with z | hb
    · subst z
      exact ⟨_, he, fun v z => by cases (show Data.fields _ = Data.cell v from z)⟩
    · have z : b = it := by simpa using hb
      subst z
      exact ⟨o, ho, fun v z => by rw [hd] at z; cases z⟩
  keep := fun i h h' st k => by
    obtain ⟨⟨old, he⟩, hit⟩ := st
    exact ⟨⟨old, k e (by simp) _ he⟩, hit.at fun o z => k it (by simp) o z⟩
  item := by
    intro X hP hw hK hc i pins s σ H E I hf st hg
    subst hP hw hK
    obtain ⟨⟨old, he⟩, hit⟩ := st
    obtain ⟨xs, x, hq, hx⟩ := hg
    obtain ⟨its, rv, pl, hz⟩ := I.list hq
    obtain ⟨u, hu, ru⟩ := rv.get hx
    obtain ⟨f0, f1, f2, f3, f4, f5⟩ := hf e (by simp)
    obtain ⟨g0, g1, g2, g3, g4, g5⟩ := hf it (by simp)
    refine wpAny_pyNext_enum_item he hit pl.isList (x := u) (by simpa using hu) hne fun h1 heo hit1 ht1 hz1 hk1 => ⟨_, rfl, ?_⟩
    refine wpAny_letOwnedTupleGo_enum heo fun h2 he2 hs2 => ?_
    have hk2 : ∀ b o, b ≠ e → b ≠ it → s.heap.get? b = some o → h2.get? b = some o := fun b o n1 n2 q => (hs2.2 b n1).trans (hk1 b o n1 n2 q)
    have elt : e < s.heap.objs.size := Heap.lt_size he
    have ilt : it < s.heap.objs.size := by obtain ⟨o, z, _⟩ := hit; exact Heap.lt_size z
    have hTe : s.heap.objs.size ≠ e := Nat.ne_of_gt elt
    have hT : h2.get? s.heap.objs.size = some { cls := .type "tuple", data := .seq #[.int i s.toks, u] } := (hs2.2 _ hTe).trans ht1
    have hn : H s.heap.objs.size = none := I.fresh
    have hob : ∀ b o, h2.get? b = some o ∨ s.heap.get? b = some o → True := fun _ _ _ => trivial
    have e2 : ∃ o, h2.get? e = some o := ⟨_, he2⟩
    have i2 : ∃ o, h2.get? it = some o := by
      obtain ⟨o, z, _⟩ := hit1
      exact ⟨o, (hs2.2 it hne.symm).trans z⟩
    have I2 : Inv X pins σ (upd H s.heap.objs.size (.tup [.int i, x])) { s with heap := h2, toks := s.toks + 1 } := by
      refine I.step (g' := s.gens) (d' := s.drawn) (ch := [e, it]) (fun b hb => ?_) (fun b o _ _ hcb q _ => ?_) (fun b o _ _ hcb q _ => ?_) (fun b o _ q n => ?_) (fun b o hcb q => ?_) (fun b ys q => ?_) (fun b o v q => ?_) (fun b qs q => ?_) (fun m hm => ?_) (fun b v q => ?_) I.bare
      · rcases List.mem_cons.mp hb with z | hb
        · subst z; exact ⟨f3, f1, f4, f5⟩
        · have z : b = it := by simpa using hb
          subst z; exact ⟨g3, g1, g4, g5⟩
      · exact hk2 b o (fun z => hcb (by simp [z])) (fun z => hcb (by simp [z])) q
      · exact ⟨o.slots, hk2 b o (fun z => hcb (by simp [z])) (fun z => hcb (by simp [z])) q⟩
      · rw [upd_ne (Nat.ne_of_lt (Heap.lt_size q))]; exact n
      · exact ⟨o, hk2 b o (fun z => hcb (by simp [z])) (fun z => hcb (by simp [z])) q⟩
      · rw [upd_ne (ne_of_none q hn)]; exact q
      · rw [upd_ne (ne_of_none q hn)]; exact q
      · exact ⟨#[], by rw [upd_ne (ne_of_none q hn), q]; simp⟩
      · obtain ⟨o, es, ep, ho, r⟩ := hm
        exact ⟨o, es, ep, hk2 _ o (Ne.symm f1) (Ne.symm g1) ho, r⟩
      · by_cases hb : b = s.heap.objs.size
        · subst hb
          rw [upd_same] at q
          cases q
          exact ⟨by show 2 ≤ sizeLine; decide, [.int i s.toks, u], .cons ⟨_, rfl⟩ (.cons ru .nil), _, hT, rfl, _, rfl⟩
        · rw [upd_ne hb] at q
          refine (I.hok b v q).stay (fun c o hc' z => hk2 c o ?_ ?_ z) (fun c z => by rw [upd_ne (ne_of_none z hn)]; exact z) fun c ys z => by rw [upd_ne (ne_of_none z hn)]; exact z
          · rcases hc' with y | y
            · rw [y]; exact fun w => by rw [w, f0] at q; cases q
            · exact fun w => by rw [w, f0] at y; cases y
          · rcases hc' with y | y
            · rw [y]; exact fun w => by rw [w, g0] at q; cases q
            · exact fun w => by rw [w, g0] at y; cases y
    refine ⟨.ref s.heap.objs.size, _, I2, rfl, ⟨_, x, rfl, hn, rfl, fun ys hy => by rw [I.list_inj hy hq]; exact hx⟩, ⟨⟨_, he2⟩, ?_⟩, fun b hb => ?_⟩
    · exact hit1.at fun o z => (hs2.2 it hne.symm).trans z
    · rcases List.mem_cons.mp hb with z | hb
      · subst z; rw [upd_ne hTe.symm]; exact f0
      · have z : b = it := by simpa using hb
        subst z; rw [upd_ne (Nat.ne_of_lt ilt)]; exact g0
  done := by
    intro X hP hw hK hc i pins s σ H E I hf st hg
    subst hP hw hK
    obtain ⟨⟨old, he⟩, hit⟩ := st
    obtain ⟨xs, hq, hx⟩ := hg
    obtain ⟨its, rv, pl, hz⟩ := I.list hq
    obtain ⟨g0, g1, g2, g3, g4, g5⟩ := hf it (by simp)
    have hl := rv.length
    exact wpAny_pyNext_enum_end (I.ok.hd hc) he hit pl.isList (by simp; omega) fun h' eb => ⟨rfl, I.turned (t' := s.toks) (fun b o hb q => eb b o hb q) g0 g1 g3 g4 g5⟩
  self := fun _ _ _ _ _ st h => by
    obtain ⟨⟨old, he⟩, _⟩ := st
    exact wpAny_pyIter_enum he h
section
variable {X : Cx}
def iEnum (K : PySem.W.Frag) (ta : TA) : TI := fun σ H R => ta σ H fun vs H1 => ∃ a, vs = [.ref a] ∧ (∃ xs, SqL K H1 a xs) ∧ R (Ite K a) H1
theorem pi_enum {elts : List Expr} {x1 : Nat} {tp : Pos} {a : Expr} {ta : TA} {p pos : Pos} (hg : Gl X "enumerate") (hm : X.mg "enumerate" = none) (ha : PA X [a] ta) (hs : starEach [a] X.env = [(false, eval a X.env)] := by rfl) :
    PI X (.Tuple elts x1 tp) (.Call (.Name "enumerate" p) [a] [] pos) (iEnum X.K ta) := by
  intro pins s σ H R I h
  refine Call_ (ld_blt I hg hm (by decide +kernel : bootBuiltins "enumerate" = some (.type "enumerate")) (PyProof.Rows.callWith_type1 (thn (ha pos pins s σ H _ I h) fun us s1 ⟨vs, H1, I1, r1, q1⟩ => ?_) hs rfl))
  obtain ⟨b, e, ⟨xs, hq⟩, q⟩ := q1
  subst e
  obtain ⟨u, rfl, ru⟩ := Vals.one r1
  cases (show u = Value.ref b from ru)
  obtain ⟨its, rv, pl, hz⟩ := I1.list hq
  refine call_enumerate_list pl.isList fun h' he hit hsz hk => ?_
  refine wpAny_pyIter_enum he ?_
  have I2 : Inv X pins σ H1 { s1 with heap := h' } := I1.kept (t' := s1.toks) hk
  refine ⟨s1.heap.objs.size + 1, [s1.heap.objs.size + 1, s1.heap.objs.size], _, _, H1, rfl, I2, turn_enum b (s1.heap.objs.size + 1) s1.heap.objs.size (Nat.succ_ne_self _), ⟨⟨.none, he⟩, hit⟩, fun c hc => ?_, q⟩
  rcases List.mem_cons.mp hc with z | hc
  · subst z; exact I1.fpOk (Nat.le_succ _) (I1.hok.fresh (Nat.le_succ _))
  · have z : c = s1.heap.objs.size := by simpa using hc
    subst z; exact I1.fpOk (Nat.le_refl _) (I1.hok.fresh (Nat.le_refl _))
end
theorem for_enum {K : PySem.W.Frag} {a : Addr} {xs : List V} {g : TG} {tb : TS} {D : Ends} {σ : St} {H : Hp} (Pv : Nat → St → Hp → Prop) (h0 : Pv 0 σ H) (hl : ∀ i σ H, i ≤ xs.length → Pv i σ H → SqL K H a xs)
    (hs : ∀ i x t σ H, xs[i]? = some x → H t = none → Pv i σ H → g (.ref t) σ (upd H t (.tup [.int i, x])) fun σ2 H2 => tb { D with nx := Pv (i + 1), ct := Pv (i + 1), bk := D.nx } σ2 H2) (hd : ∀ σ H, Pv xs.length σ H → D.nx σ H) :
    ∃ W : Nat → Nat → St → Hp → Prop, (∃ m, W 0 m σ H) ∧ ∀ i m σ H, W i m σ H →
      ((Ite K a).stop i H ∧ D.nx σ H) ∨ ((Ite K a).go i H ∧ ∃ N : St → Hp → Prop, (∀ σ' H', N σ' H' → ∃ m', m' < m ∧ W (i + 1) m' σ' H') ∧ ∀ x H', (Ite K a).yld i H x H' → g x σ H' fun σ2 H2 => tb { D with nx := N, ct := N, bk := D.nx } σ2 H2) := by
  refine ⟨fun i m σ H => m = xs.length - i ∧ i ≤ xs.length ∧ Pv i σ H, ⟨xs.length, by simp, Nat.zero_le _, h0⟩, ?_⟩
  rintro i m σ H ⟨rfl, hi, p⟩
  have q := hl i σ H hi p
  by_cases hlt : i < xs.length
  · refine .inr ⟨⟨xs, xs[i], q, by simp [hlt]⟩, Pv (i + 1), fun σ' H' p' => ⟨xs.length - (i + 1), by omega, rfl, hlt, p'⟩, fun y H' hy => ?_⟩
    obtain ⟨t, x, rfl, ht, rfl, hx⟩ := hy
    exact hs i x t σ H (hx xs q) ht p
  · have e : i = xs.length := by omega
    subst e
    exact .inl ⟨⟨xs, q, Nat.le_refl _⟩, hd σ H p⟩
end L2
/-! ### xs.index(k), small ints -/
namespace L2
open PySem PySem.Spec PyProof.Rows
theorem small_weight : ∀ xs : List Int, (∀ x ∈ xs, 0 ≤ x ∧ x < 65536) → PyData.canLayAll0 (xs.map PyData.int) = true ∧ PyData.depthAll (xs.map PyData.int) = 0 ∧ PyData.weightAll (xs.map PyData.int) ≤ 17 * xs.length
  | [], _ => ⟨rfl, rfl, Nat.le_refl _⟩
  | x :: r, h => by
    obtain ⟨a, b, c⟩ := small_weight r fun y hy => h y (List.mem_cons_of_mem _ hy)
    obtain ⟨h1, h2⟩ := h x List.mem_cons_self
    have hw : PyData.weight (.int x) ≤ 16 := by
      simp only [PyData.weight]
      split
      · omega
      · rename_i hx
        have hx' : x ≠ 0 := by simpa using hx
        have : x.natAbs.log2 < 16 := (Nat.log2_lt (by omega)).mpr (by omega)
        omega
    refine ⟨?_, ?_, ?_⟩
    · simp only [List.map_cons, PyData.canLayAll0, PyData.canLay0, a, Bool.and_true]
    · simp only [List.map_cons, PyData.depthAll, PyData.depth, b]; rfl
    · simp only [List.map_cons, PyData.weightAll, List.length_cons]; omega
theorem small_layable {xs : List Int} (h : ∀ x ∈ xs, 0 ≤ x ∧ x < 65536) (hl : xs.length ≤ 1000) : PyData.layable0 (.list (xs.map PyData.int)) = true := by
  obtain ⟨a, b, c⟩ := small_weight xs h
  unfold PyData.layable0
  rw [Bool.and_eq_true, Bool.and_eq_true]
  refine ⟨⟨by simpa only [PyData.canLay0] using a, decide_eq_true ?_⟩, decide_eq_true ?_⟩
  · simp only [PyData.depth, b]; decide
  · simp only [PyData.weight]; omega
def rIndex (K : PySem.W.Frag) : V → List V → Hp → VK → Prop := fun x vs H Q => ∃ (l : Addr) (ns : List Int) (k : Int), x = .ref l ∧ vs = [.int k] ∧ SqL K H l (ns.map V.int) ∧ (∀ y ∈ ns, 0 ≤ y ∧ y < 65536) ∧ ns.length ≤ 1000 ∧ k ∈ ns ∧ Q (.int (ns.idxOf k : Nat)) H
theorem mt_index {X : Cx} : MtM X "list.index" (rIndex X.K) := by
  intro pins s σ H x vs v us Q I rx rv h
  obtain ⟨l, ns, k, rfl, rfl, hq, hs, hl, hk, q⟩ := h
  cases rx
  obtain ⟨u, rfl, ru⟩ := rv.one
  obtain ⟨t, rfl⟩ := (show ∃ t, u = Value.int k t from ru)
  obtain ⟨its, rr, pl, hz⟩ := I.list hq
  exact index_list_ints pl.isList (intsAre_of rr) (small_layable hs hl) hk ⟨.int _, H, I.tok _, ⟨_, rfl⟩, q⟩
end L2

set_option Elab.async false
set_option linter.all false
set_option maxRecDepth 100000
set_option maxHeartbeats 4000000
/-! My rules over the layer: list.insert. -/
namespace L2
open PySem PySem.Spec PyProof.Rows
section
variable {X : Cx}
/-- l.insert(k, y) -/
def rInsert : V → List V → Hp → VK → Prop := fun x vs H Q => ∃ (l : Addr) (xs : List V) (k : Nat) (y : V), x = .ref l ∧ vs = [.int k, y] ∧ H l = some (.lst xs) ∧ k ≤ xs.length ∧ xs.length ≤ 1000 ∧ Q .non (upd H l (.lst (xs.take k ++ y :: xs.drop k)))
seal PySem.Meets in
theorem mt_insert : MtM X "list.insert" rInsert := by
  intro pins s σ H x vs v us Q I rx rv h
  obtain ⟨l, xs, k, y, rfl, rfl, hH, hk, hz, q⟩ := h
  cases rx
  obtain ⟨u, u', rfl, ru, ru'⟩ := rv.two
  obtain ⟨t, rfl⟩ := (show ∃ t, u = Value.int k t from ru)
  obtain ⟨z, its, n, r, hl, e⟩ := I.lstM hH
  have hf : ¬ (!Builtin.List.listFitsIndex (k : Int)) = true := by
    have h1 : Builtin.List.listFitsIndex (k : Int) = true := by
      unfold Builtin.List.listFitsIndex
      rw [Bool.and_eq_true]
      exact ⟨decide_eq_true (by omega), decide_eq_true (by omega)⟩
    rw [h1]; decide
  have hsz : its.length ≤ sizeLine := Nat.le_of_lt (small1000 (by omega))
  have M := AutoSeq1.list_insert_list_int_val_1 l its.toArray n (k : Int) t u' hf hsz
  refine call_meets F.slot_list_insert ⟨_, e, rfl⟩ F.entry_list_insert (F.args_list_insert_3 _ _ _)
    M ⟨e, ?_⟩
  refine ⟨.non, _, I.lset (its' := its.take k ++ u' :: its.drop k) hH e ?_ ?_ ?_, rfl, q⟩
  · show (its.toArray.extract 0 _).push u' ++ its.toArray.extract _ = _
    have hkk : (if (k : Int) < 0 then ((k : Int) + (its.toArray.size : Int)).toNat else min (k : Int).toNat its.toArray.size) = k := by
      rw [if_neg (by omega), Int.toNat_natCast, List.size_toArray]; omega
    rw [hkk]
    rw [← Array.toList_inj]
    simp only [Array.toList_append, Array.toList_push, List.extract_toArray, List.toList_toArray]
    simp [List.extract_eq_drop_take]
    exact List.take_of_length_le (by simp)
  · exact (r.take k).append (.cons ru' (r.drop k))
  · rw [List.length_append, List.length_cons, List.length_take, List.length_drop]
    exact Nat.le_of_lt (Nat.lt_of_lt_of_le (show _ < 1002 by omega) (by unfold sizeLine; omega))
/-- isinstance(x, an own class) -/
theorem call_isinstC : CallR X (.builtin "isinstance") (fun xs H Q => ∃ x c t b, xs = [x, .ref c] ∧ TyOf X.K H x t ∧ PySem.W.kitOne X.K t (.ref c) = some b ∧ Q (.bl b) H) := by
  intro pins s σ H xs us Q I r h
  obtain ⟨x, c, t, b, rfl, ty, e, q⟩ := h
  obtain ⟨u, u', rfl, rx, ry⟩ := Vals.two r
  cases (show u' = Value.ref c from ry)
  exact isinst_ok I rx ty e fun tk => ⟨.bl b, H, I.tok tk, rfl, q⟩
end
end L2

set_option Elab.async false
set_option linter.all false
set_option maxRecDepth 100000
set_option maxHeartbeats 4000000
/-! My rules over the layer: a dict whose keys are tuples of ints and of such tuples. -/
namespace L2
open PySem PySem.Spec PyProof.Rows
/-- an int, or a tuple from the left -/
inductive Tr where
  | int (i : Int)
  | nil
  | cons (x r : Tr)
  deriving DecidableEq
def Tr.dep : Tr → Nat
  | .int _ => 0
  | .nil => 1
  | .cons x r => max (x.dep + 1) r.dep
def Tr.size : Tr → Nat
  | .int _ => 1
  | .nil => 1
  | .cons x r => x.size + r.size + 1
mutual
inductive TV (h : Heap) : Tr → Value → Prop
  | int (i : Int) (t : Tok) : TV h (.int i) (.int i t)
  | nil {a : Addr} {o : Obj} {n : Nat} : h.get? a = some o → o.cls = .type "tuple" → o.data = .seq #[] n → TV h .nil (.ref a)
  | cons {a : Addr} {o : Obj} {n : Nat} {x r : Tr} {v : Value} {vs : List Value} : h.get? a = some o → o.cls = .type "tuple" → o.data = .seq (v :: vs).toArray n → TV h x v → TVs h r vs → TV h (.cons x r) (.ref a)
inductive TVs (h : Heap) : Tr → List Value → Prop
  | nil : TVs h .nil []
  | cons {x r : Tr} {v : Value} {vs : List Value} : TV h x v → TVs h r vs → TVs h (.cons x r) (v :: vs)
end
/-- a tuple at a, and its items -/
theorem TV.tup {h : Heap} {k : Tr} {a : Addr} (x : TV h k (.ref a)) : ∃ o items n, h.get? a = some o ∧ o.cls = .type "tuple" ∧ o.data = .seq items n ∧ TVs h k items.toList := by
  cases x with
  | nil h1 h2 h3 => exact ⟨_, _, _, h1, h2, h3, .nil⟩
  | cons h1 h2 h3 h4 h5 => exact ⟨_, _, _, h1, h2, h3, .cons h4 h5⟩
theorem TV.typeIs {s : Shared} {k : Tr} {a : Addr} (x : TV s.heap k (.ref a)) : s.TypeIs (.ref a) "tuple" := let ⟨o, _, _, h1, h2, _⟩ := x.tup; ⟨o, h1, h2⟩
mutual
theorem TV.inj {h : Heap} : ∀ {x y : Tr} {v : Value}, TV h x v → TV h y v → x = y
  | _, _, _, .int i t, b => by cases b; rfl
  | _, _, _, .nil h1 h2 h3, b => by
    cases b with
    | nil _ _ _ => rfl
    | cons g1 g2 g3 _ _ =>
      rw [h1] at g1; cases g1
      rw [h3] at g3
      injection g3 with g3 _
      have := congrArg Array.toList g3
      simp at this
  | _, _, _, .cons h1 h2 h3 h4 h5, b => by
    cases b with
    | nil g1 g2 g3 =>
      rw [h1] at g1; cases g1
      rw [h3] at g3
      injection g3 with g3 _
      have := congrArg Array.toList g3
      simp at this
    | cons g1 g2 g3 g4 g5 =>
      rw [h1] at g1; cases g1
      rw [h3] at g3
      injection g3 with g3 _
      have e := congrArg Array.toList g3
      simp only [List.cons.injEq] at e
      obtain ⟨rfl, rfl⟩ := e
      rw [TV.inj h4 g4, TVs.inj h5 g5]
theorem TVs.inj {h : Heap} : ∀ {x y : Tr} {vs : List Value}, TVs h x vs → TVs h y vs → x = y
  | _, _, _, .nil, b => by cases b; rfl
  | _, _, _, .cons a1 a2, b => by
    cases b with
    | cons b1 b2 => rw [TV.inj a1 b1, TVs.inj a2 b2]
end
mutual
theorem TV.mono {h h' : Heap} (H : ∀ a o, h.get? a = some o → o.cls = .type "tuple" → (∃ items n, o.data = .seq items n) → h'.get? a = some o) : ∀ {x : Tr} {v : Value}, TV h x v → TV h' x v
  | _, _, .int i t => .int i t
  | _, _, .nil h1 h2 h3 => .nil (H _ _ h1 h2 ⟨_, _, h3⟩) h2 h3
  | _, _, .cons h1 h2 h3 h4 h5 => .cons (H _ _ h1 h2 ⟨_, _, h3⟩) h2 h3 (TV.mono H h4) (TVs.mono H h5)
theorem TVs.mono {h h' : Heap} (H : ∀ a o, h.get? a = some o → o.cls = .type "tuple" → (∃ items n, o.data = .seq items n) → h'.get? a = some o) : ∀ {x : Tr} {vs : List Value}, TVs h x vs → TVs h' x vs
  | _, _, .nil => .nil
  | _, _, .cons a b => .cons (TV.mono H a) (TVs.mono H b)
end
mutual
def Tr.hsh : Tr → Int
  | .int i => hashInt i
  | .nil => reduceHash (Builtin.Tuple.tupleHashOf [])
  | .cons x r => reduceHash (Builtin.Tuple.tupleHashOf (x.hsh :: r.hshs))
def Tr.hshs : Tr → List Int
  | .int _ => []
  | .nil => []
  | .cons x r => x.hsh :: r.hshs
end
mutual
def Tr.drw : Tr → Nat
  | .int _ => 1
  | .nil => 1
  | .cons x r => x.drw + r.drws + 1
def Tr.drws : Tr → Nat
  | .int _ => 0
  | .nil => 0
  | .cons x r => x.drw + r.drws
end
section
variable {prog : Program} {w : World} {E : Value → Shared → Prop}
theorem hash_tail {A : Around} {a : Addr} {s : Shared} {items : Array Value} {n : Nat} {o : Obj} {hs : List Int} {dr : Nat} {Q : Int → Shared → Prop} (ho : s.heap.get? a = some o) (hc : o.cls = .type "tuple") (hd : o.data = .seq items n) (hu : A.units < cLine)
    (loop : ∀ (A' : Around) (Q' : Array Int → Shared → Prop), A' = A.in1 → (∀ b' : Array Int, b'.toList = hs → Q' b' { s with toks := s.toks + dr }) →
      wpAny (model prog w) A' (forIn items.toList #[] fun x r => do let h ← pyHash x; pure PUnit.unit; pure (ForInStep.yield (r.push h))) Q' E s)
    (q : Q (reduceHash (Builtin.Tuple.tupleHashOf hs)) { s with toks := s.toks + (dr + 1) }) : wpAny (model prog w) A (pyHash (.ref a)) Q E s := by
  refine PySem.W.pyHash_slot (T := "tuple") ⟨_, ho, hc⟩ F.slot_tuple_hash F.entry_tuple_hash (F.args_tuple_hash_1 _) (beq_builtin_none _) (.inr hu) ?_
  show wpAny _ _ (Builtin.Tuple.tupleItemsOf (.ref a) >>= _) _ _ s
  refine wpAny_bind (wpAny_tupleItemsOf ho hd ?_)
  refine wpAny_bind ?_
  rw [← Array.forIn_toList]
  refine loop _ _ rfl fun b hb => ?_
  show wpAny _ _ (retInt (Builtin.Tuple.tupleHashOf b.toList)) _ _ _
  rw [hb]
  refine wpAny_bind (wpAny_mkInt (wpAny_pure ⟨_, _, rfl, ?_⟩))
  simpa [Nat.add_assoc] using q
mutual
theorem tv_hash : ∀ (k : Tr) {v : Value} {A : Around} {s : Shared} {Q : Int → Shared → Prop}, TV s.heap k v → A.units + k.dep < cLine → Q k.hsh { s with toks := s.toks + k.drw } → wpAny (model prog w) A (pyHash v) Q E s
  | .int i, v, A, s, Q, x, hu, h => by
    cases x
    exact wpAny_pyHash_int h
  | .nil, v, A, s, Q, x, hu, h => by
    cases x with
    | nil h1 h2 h3 =>
      refine hash_tail (hs := []) (dr := 0) h1 h2 h3 (by simp only [Tr.dep] at hu; omega) (fun A' Q' e q' => ?_) (by simpa [Tr.hsh, Tr.drw] using h)
      exact wpAny_pure (q' #[] rfl)
  | .cons y r, v, A, s, Q, x, hu, h => by
    cases x with
    | @cons a o n _ _ v' vs h1 h2 h3 h4 h5 =>
      simp only [Tr.dep] at hu
      refine hash_tail (hs := y.hsh :: r.hshs) (dr := y.drw + r.drws) h1 h2 h3 (by omega) (fun A' Q' e q' => ?_) (by simpa [Tr.hsh, Tr.drw] using h)
      subst e
      show wpAny _ _ (forIn (v' :: vs) _ _) _ _ _
      rw [List.forIn_cons]
      refine wpAny_bind (wpAny_bind (tv_hash y h4 (by rw [Around.in1_units]; omega) ?_))
      refine wpAny_bind (wpAny_pure (wpAny_pure ?_))
      refine tvs_hash r (s := { s with toks := s.toks + y.drw }) h5 (by rw [Around.in1_units]; omega) fun b' hb => ?_
      have z := q' b' (by rw [hb]; simp)
      simpa [Nat.add_assoc] using z
theorem tvs_hash : ∀ (k : Tr) {vs : List Value} {A : Around} {s : Shared} {b : Array Int} {Q : Array Int → Shared → Prop}, TVs s.heap k vs → A.units + (k.dep - 1) < cLine →
    (∀ b' : Array Int, b'.toList = b.toList ++ k.hshs → Q b' { s with toks := s.toks + k.drws }) → wpAny (model prog w) A (forIn vs b fun x r => do let h ← pyHash x; pure PUnit.unit; pure (ForInStep.yield (r.push h))) Q E s
  | .int i, vs, A, s, b, Q, x, hu, h => by cases x
  | .nil, vs, A, s, b, Q, x, hu, h => by
    cases x
    exact wpAny_pure (h b (by simp [Tr.hshs]))
  | .cons y r, vs, A, s, b, Q, x, hu, h => by
    cases x with
    | @cons _ _ v' vs h4 h5 =>
      simp only [Tr.dep] at hu
      rw [List.forIn_cons]
      refine wpAny_bind (wpAny_bind (tv_hash y h4 (by omega) ?_))
      refine wpAny_bind (wpAny_pure (wpAny_pure ?_))
      refine tvs_hash r (s := { s with toks := s.toks + y.drw }) h5 (by omega) fun b' hb => ?_
      have z := h b' (by rw [hb]; simp [Tr.hshs])
      simpa [Nat.add_assoc, Tr.drws] using z
end
/-- ints against ints, tuples against tuples -/
def Tr.cmp : Tr → Tr → Prop
  | .int _, .int _ => True
  | .int _, _ => False
  | _, .int _ => False
  | .cons x r, .cons y q => x.cmp y ∧ r.cmp q
  | _, _ => True
theorem tv_eq : ∀ (n : Nat) (x y : Tr) (v u : Value) (A : Around) (s : Shared) (Q : Bool → Shared → Prop), x.size ≤ n → TV s.heap x v → TV s.heap y u → x.cmp y → A.units + x.dep < cLine → Q (decide (x = y)) s → wpAny (model prog w) A (eqBool v u) Q E s
  | 0, x, y, v, u, A, s, Q, hn, _, _, _, _, _ => by cases x <;> simp [Tr.size] at hn
  | n + 1, x, y, v, u, A, s, Q, hn, hx, hy, hc, hu, h => by
    have tt : ∀ {a b : Addr}, TV s.heap x (.ref a) → TV s.heap y (.ref b) → 0 < x.dep → wpAny (model prog w) A (eqBool (.ref a) (.ref b)) Q E s := by
      intro a b hx hy hdep
      unfold eqBool
      try with_reducible refine wpAny_holding ?_
      show wpAny _ _ (if (Value.ref a == Value.ref b) = true then _ else _) Q E s
      by_cases hab : (Value.ref a == Value.ref b) = true
      · rw [if_pos hab]
        have e : a = b := by have := eq_of_beq hab; injection this
        subst e
        obtain rfl := hx.inj hy
        exact wpAny_bind (wpAny_rule (wpAny_pure (by simpa using h)))
      · rw [if_neg hab]
        refine wpAny_bind (wpAny_richCompare_same_room (op := .Eq) hx.typeIs hy.typeIs F.slot_tuple_eq
          (wpAny_call_entry F.slot_tuple_eq hx.typeIs F.entry_tuple_eq ?_ (F.args_tuple_eq_2 _ _)) (by omega))
        have hTb := hy.typeIs
        obtain ⟨oa, xs, na, hoa, _, hda, hia⟩ := hx.tup
        obtain ⟨ob, ys, nb, hob, _, hdb, hib⟩ := hy.tup
        show wpAny _ _ (isInstance (.ref b) (.type "tuple") >>= _) _ _ s
        refine wpAny_bind (wpAny_isInstance hTb isSubtype_tuple_tuple ?_)
        simp only [Bool.not_true, Bool.false_eq_true, if_false]
        refine wpAny_bind (wpAny_tupleItemsOf hoa hda ?_)
        refine wpAny_bind (wpAny_tupleItemsOf hob hdb ?_)
        refine wpAny_bind ?_
        refine wpAny_forIn_list _
          (fun rest r s' => r.1 = none ∧ s' = s ∧ ∃ x' y' xs' ys', rest = List.zip xs' ys' ∧ TVs s.heap x' xs' ∧ TVs s.heap y' ys' ∧ decide (x' = y') = decide (x = y) ∧ (xs'.length == ys'.length) = (xs.size == ys.size) ∧ x'.size ≤ n + 1 ∧ x'.dep ≤ x.dep ∧ x'.cmp y')
          _ ?_ ?_ _ _ ⟨rfl, rfl, x, y, xs.toList, ys.toList, rfl, hia, hib, rfl, by simp, hn, Nat.le_refl _, hc⟩
        · rintro ⟨u, v⟩ rest r s' ⟨hr, rfl, x', y', xs', ys', hz, hx', hy', hdec, hlen, hsz, hdp, hcp⟩
          cases hx' with
          | nil => simp at hz
          | @cons k1 x'' u' xs'' h1 hx'' =>
            cases hy' with
            | nil => simp at hz
            | @cons k2 y'' v' ys'' h2 hy'' =>
              simp only [List.zip_cons_cons, List.cons.injEq, Prod.mk.injEq] at hz
              obtain ⟨⟨rfl, rfl⟩, rfl⟩ := hz
              simp only [Tr.size] at hsz
              simp only [Tr.dep] at hdp
              obtain ⟨c1, c2⟩ := (show k1.cmp k2 ∧ x''.cmp y'' from hcp)
              refine wpAny_bind (tv_eq n k1 k2 _ _ _ _ _ (by omega) h1 h2 c1 (by rw [Around.in1_units]; omega) ?_)
              by_cases hk : k1 = k2
              · subst hk
                rw [decide_eq_true rfl]
                simp only [Bool.not_true, Bool.false_eq_true, if_false]
                refine wpAny_pure ⟨rfl, rfl, x'', y'', xs'', ys'', rfl, hx'', hy'', ?_, by simpa using hlen, by omega, by omega, c2⟩
                rw [← hdec]
                by_cases hxy : x'' = y''
                · simp [hxy]
                · simp [hxy]
              · rw [decide_eq_false hk]
                simp only [Bool.not_false, if_true]
                have hf : decide (x = y) = false := by rw [← hdec]; simp [hk]
                rw [hf] at h
                exact wpAny_bind (wpAny_pure (wpAny_pure (wpAny_pure ⟨_, rfl, (fun e => nomatch e), wpAny_truthy_bool h⟩)))
        · rintro ⟨r1, r2⟩ s' ⟨hr, rfl, x', y', xs', ys', hz, hx', hy', hdec, hlen, _, _, _⟩
          simp only at hr
          subst hr
          refine wpAny_pure ?_
          have hfin : (xs.size == ys.size) = decide (x = y) := by
            rw [← hdec, ← hlen]
            cases hx' with
            | nil =>
              cases hy' with
              | nil => simp
              | cons _ _ => simp
            | cons _ _ =>
              cases hy' with
              | nil => simp
              | cons _ _ => simp at hz
          refine ⟨_, rfl, (fun e => nomatch e), ?_⟩
          show wpAny _ _ (truthy (.bool (xs.size == ys.size))) _ _ _
          rw [hfin]
          exact wpAny_truthy_bool h
    cases x with
    | int i =>
      cases y with
      | int j =>
        cases hx with
        | int _ t =>
        cases hy with
        | int _ t' =>
        refine (intKind prog w).eqBool (a := i) (b := j) (show Value.isInt i (.int i t) = true by simp [Value.isInt]) (show Value.isInt j (.int j t') = true by simp [Value.isInt]) ?_
        have e : decide (Tr.int i = Tr.int j) = decide (i = j) := by simp
        rw [e] at h
        exact h
      | nil => exact absurd hc (by simp [Tr.cmp])
      | cons y q => exact absurd hc (by simp [Tr.cmp])
    | nil =>
      cases y with
      | int j => exact absurd hc (by simp [Tr.cmp])
      | nil =>
        cases hx with
        | nil a1 a2 a3 =>
        cases hy with
        | nil b1 b2 b3 => exact tt (.nil a1 a2 a3) (.nil b1 b2 b3) (by simp [Tr.dep])
      | cons y q => cases hx; cases hy; exact tt (.nil ‹_› ‹_› ‹_›) (.cons ‹_› ‹_› ‹_› ‹_› ‹_›) (by simp [Tr.dep])
    | cons x r =>
      cases y with
      | int j => exact absurd hc (by simp [Tr.cmp])
      | nil => cases hx; cases hy; exact tt (.cons ‹_› ‹_› ‹_› ‹_› ‹_›) (.nil ‹_› ‹_› ‹_›) (by simp [Tr.dep]; omega)
      | cons y q =>
        cases hx with
        | cons a1 a2 a3 a4 a5 =>
          cases hy with
          | cons b1 b2 b3 b4 b5 => exact tt (.cons a1 a2 a3 a4 a5) (.cons b1 b2 b3 b4 b5) (by simp [Tr.dep]; omega)
theorem tv_quiet : ∀ (n : Nat) (k : Tr) {v : Value} {A : Around} {s : Shared} {Q : Bool → Shared → Prop}, k.dep ≤ n → TV s.heap k v → Q true s → wpAny (model prog w) A (eqIsQuiet n v) Q E s := by
  intro n
  induction n with
  | zero =>
    intro k v A s Q hk hx h
    cases hx with
    | int i t =>
      rw [eqIsQuiet_byValue _ rfl]
      exact wpAny_pure h
    | nil => simp [Tr.dep] at hk
    | cons => simp [Tr.dep] at hk
  | succ n ih =>
    intro k v A s Q hk hx h
    have key : ∀ {a : Addr}, TV s.heap k (.ref a) → wpAny (model prog w) A (eqIsQuiet (n + 1) (.ref a)) Q E s := by
      intro a hx
      have hT := hx.typeIs
      obtain ⟨o, items, m, ho, _, hd, hi⟩ := hx.tup
      unfold eqIsQuiet
      refine wpAny_bind (wpAny_specialOf hT F.slot_tuple_eq.lookup ?_)
      show wpAny _ _ (isInstance (.ref a) (.type "tuple") >>= _) _ _ s
      refine wpAny_bind (wpAny_isInstance hT isSubtype_tuple_tuple ?_)
      simp only [Bool.not_true, Bool.false_eq_true, if_false]
      refine wpAny_bind (wpAny_seqItems ho hd ?_)
      refine wpAny_bind ?_
      show wpAny _ _ (forIn items _ _) _ _ s
      rw [← Array.forIn_toList]
      refine wpAny_forIn_list _ (fun rest r s' => r.1 = none ∧ s' = s ∧ ∃ k', TVs s.heap k' rest ∧ k'.dep ≤ n + 1) _ ?_ ?_ _ _ ⟨rfl, rfl, k, hi, hk⟩
      · rintro v rest r s' ⟨hr, rfl, k', hk', hd'⟩
        cases hk' with
        | @cons y q _ _ h1 h2 =>
          simp only [Tr.dep] at hd'
          refine wpAny_bind (ih y (by omega) h1 ?_)
          simp only [Bool.not_true, Bool.false_eq_true, if_false]
          exact wpAny_pure ⟨rfl, rfl, q, h2, by omega⟩
      · rintro ⟨r1, r2⟩ s' ⟨hr, rfl, _⟩
        simp only at hr
        subst hr
        exact wpAny_pure h
    cases hx with
    | int i t =>
      rw [eqIsQuiet_byValue _ rfl]
      exact wpAny_pure h
    | nil h1 h2 h3 => exact key (.nil h1 h2 h3)
    | cons h1 h2 h3 h4 h5 => exact key (.cons h1 h2 h3 h4 h5)
/-- the keys that are of one make -/
structure Make where
  fit : Tr → Prop
  dep : ∀ k, fit k → k.dep ≤ 8
  cmp : ∀ x y, fit x → fit y → x.cmp y
def trKind (prog : Program) (w : World) (F : Make) : HeapKind prog w Tr where
  is := fun h k a => TV h k (.ref a) ∧ F.fit k
  hash := Tr.hsh
  draws := Tr.drw
  room := fun A => A.units + 8 < cLine
  inj := fun hx hy => hx.1.inj hy.1
  keeps := fun x ho hd hs => ⟨x.1.mono (fun a o e hc hs' => by
    refine (hs.2 a ?_).trans e
    rintro rfl
    rw [ho] at e
    cases e
    obtain ⟨_, _, z⟩ := hs'
    rw [hd] at z
    cases z), x.2⟩
  pyHash := fun hu hk h => tv_hash _ hk.1 (by have := F.dep _ hk.2; omega) h
  eqBool := fun hu hx hy h => tv_eq _ _ _ _ _ _ _ _ (Nat.le_refl _) hx.1 hy.1 (F.cmp _ _ hx.2 hy.2) (by have := F.dep _ hx.2; omega) h
  quiet := fun hk h => tv_quiet 8 _ (F.dep _ hk.2) hk.1 h
end

/-! ### d.setdefault(k, v) -/
section
variable {prog : Program} {w : World} {K : Type} [DecidableEq K] {knd : HeapKind prog w K} {A : Around} {E : Value → Shared → Prop} {s : Shared}
theorem wpAny_setDefault_heap {d a : Addr} {xs : List (K × Addr × Value)} {k : K} {v : Value} {Q : Value → Shared → Prop} (hu : knd.room A) (hkey : knd.is s.heap k a) (hm : s.heap.DictOfH knd d xs)
    (h1 : ∀ p, atKey xs k = some p → Q p.2 { s with toks := s.toks + knd.draws k })
    (h2 : atKey xs k = none → ∀ h', h'.DictOfH knd d (xs ++ [(k, a, v)]) → Heap.SameBut d s.heap h' → Q v { s with heap := h', toks := s.toks + knd.draws k })
    (hsz : xs.length ≤ sizeLine) : wpAny (model prog w) A (dictSetDefault d (.ref a) v) Q E s := by
  obtain ⟨o, es, ep, ho, hc, hd, he, his, hn⟩ := hm
  unfold dictSetDefault
  try with_reducible refine wpAny_holding ?_
  refine wpAny_bind (knd.pyHash hu hkey ?_)
  refine wpAny_bind (wpAny_dictFind_heap (s := { s with toks := s.toks + knd.draws k }) hu hkey ho hd he his hn ?_ ?_)
  · intro hno
    have hnot : k ∉ xs.map (·.1) := not_mem_keys_of_get hno
    refine wpAny_bind (wpAny_rule (wpAny_bind (wpAny_updateDictKeys (hz := by have e := size_of_entries he; omega) (s := { s with toks := s.toks + knd.draws k }) ho hd (wpAny_pure (h2 (atKey_none_of_get hno) _ ⟨_, _, ep + 1, Heap.get?_update_self _ ho (Obj.isFreed_of_dict (Obj.data_mapDictKeys hd _)),
      hc.mapDictKeys _, Obj.data_mapDictKeys hd _, ?_, ?_, ?_⟩ (Heap.SameBut.update ..))))))
    · simp [he, entryOfKey]
    · intro x hx
      rcases List.mem_append.mp hx with hx | hx
      · exact knd.keeps (his x hx) ho hd (Heap.SameBut.update ..)
      · simp only [List.mem_singleton] at hx
        subst hx
        exact knd.keeps hkey ho hd (Heap.SameBut.update ..)
    · rw [List.map_append, List.nodup_append]
      refine ⟨hn, by simp, ?_⟩
      intro x hx y hy
      simp only [List.map_cons, List.map_nil, List.mem_singleton] at hy
      subst hy
      exact fun e => hnot (e ▸ hx)
  · intro j p hj
    refine wpAny_bind (wpAny_dictEntries (s := { s with toks := s.toks + knd.draws k }) ho hd ?_)
    rw [entry_at he j, hj]
    exact wpAny_bind (wpAny_rule (wpAny_pure (h1 p (atKey_of_get hn hj))))
theorem meetsH_setdefault (knd : HeapKind prog w K) (d a : Addr) (hd : (d == sysModules) = false) (dflt : Value) :
    MeetsIn prog w (Builtin.«dict.setdefault» ⟨[.ref d, .ref a, dflt], []⟩) (fun A R s => knd.room A.in1 ∧ ∃ k xs, knd.is s.heap k a ∧ s.heap.DictOfH knd d xs ∧ xs.length ≤ sizeLine ∧
      (∀ p, atKey xs k = some p → R (.ok (.ret p.2)) { s with toks := s.toks + knd.draws k }) ∧
      (atKey xs k = none → ∀ h', h'.DictOfH knd d (xs ++ [(k, a, dflt)]) → Heap.SameBut d s.heap h' → R (.ok (.ret dflt)) { s with heap := h', toks := s.toks + knd.draws k })) :=
  .of_wp fun A R s ⟨hu, k, xs, hkey, hm, hz, h1, h2⟩ => by
    unfold Builtin.«dict.setdefault»
    refine wpAny_bind ?_
    unfold Builtin.Dict.keyAndDefault
    refine wpAny_bind (wpAny_notOrdered_dict hm.typeIs ?_)
    show wpAny _ _ (pure (d, Value.ref a, some dflt)) _ _ s
    refine wpAny_pure ?_
    show wpAny _ _ (if (d == sysModules) = true then _ else (dictSetDefault d (.ref a) dflt >>= _)) _ _ s
    rw [if_neg (by rw [hd]; exact Bool.false_ne_true)]
    exact wpAny_bind (wpAny_setDefault_heap hu hkey hm (fun p hp => wpAny_pure ⟨_, rfl, h1 p hp⟩) (fun hn h' hm' hs' => wpAny_pure ⟨dflt, rfl, h2 hn h' hm' hs'⟩) hz)
end
/-! ### such trees, such dicts in the tracked heap -/
mutual
inductive TrAt (H : Hp) : Tr → V → Prop
  | int (i : Int) : TrAt H (.int i) (.int i)
  | tup {a : Addr} {vs : List V} {k : Tr} : H a = some (.tup vs) → TrsAt H k vs → TrAt H k (.ref a)
inductive TrsAt (H : Hp) : Tr → List V → Prop
  | nil : TrsAt H .nil []
  | cons {x r : Tr} {v : V} {vs : List V} : TrAt H x v → TrsAt H r vs → TrsAt H (.cons x r) (v :: vs)
end
mutual
theorem TrAt.keep {H H' : Hp} (k : ∀ a xs, H a = some (.tup xs) → H' a = some (.tup xs)) : ∀ {x : Tr} {v : V}, TrAt H x v → TrAt H' x v
  | _, _, .int i => .int i
  | _, _, .tup h hs => .tup (k _ _ h) (TrsAt.keep k hs)
theorem TrsAt.keep {H H' : Hp} (k : ∀ a xs, H a = some (.tup xs) → H' a = some (.tup xs)) : ∀ {x : Tr} {vs : List V}, TrsAt H x vs → TrsAt H' x vs
  | _, _, .nil => .nil
  | _, _, .cons a b => .cons (TrAt.keep k a) (TrsAt.keep k b)
end
section
variable {X : Cx} {pins : List (Addr × Obj)} {σ : St} {H : Hp} {s : Shared}
mutual
theorem TrAt.tv (I : Inv X pins σ H s) : ∀ {k : Tr} {v : V} {u : Value}, TrAt H k v → RelV v u → TV s.heap k u
  | _, _, u, .int i, r => by
    obtain ⟨t, q⟩ := (show ∃ t, u = Value.int i t from r)
    cases q
    exact .int i t
  | _, _, u, .tup (a := a) h hs, r => by
    cases (show u = Value.ref a from r)
    obtain ⟨its, rv, p, _⟩ := I.tuple (SqT.of h)
    obtain ⟨o, ho, hc, n, hd⟩ := p
    have z := TrsAt.tvs I hs rv
    cases z with
    | nil => exact .nil ho hc hd
    | cons z1 z2 => exact .cons ho hc hd z1 z2
theorem TrsAt.tvs (I : Inv X pins σ H s) : ∀ {k : Tr} {vs : List V} {us : List Value}, TrsAt H k vs → Vals vs us → TVs s.heap k us
  | _, _, _, .nil, .nil => .nil
  | _, _, _, .cons h hs, .cons r rs => .cons (TrAt.tv I h r) (TrsAt.tvs I hs rs)
end
end
abbrev NK := Tr × Addr × V
def nRel (p : NK) (q : Tr × Addr × Value) : Prop := p.1 = q.1 ∧ p.2.1 = q.2.1 ∧ RelV p.2.2 q.2.2
def ND (d : Addr) (kvs : List NK) : HO := .ext fun h => (d == sysModules) = false ∧ ∃ (o : Obj) (es : Array DictEntry) (ep : Nat) (xs : List (Tr × Addr × Value)), h.get? d = some o ∧ o.ExactDict ∧ o.data = .dict es ep ∧ Paired nRel kvs xs ∧
  es.toList = xs.map fun x => (⟨x.1.hsh, .ref x.2.1, x.2.2⟩ : DictEntry)
structure NAt (F : Make) (H : Hp) (d : Addr) (kvs : List NK) : Prop where
  ob : H d = some (ND d kvs)
  keys : ∀ x ∈ kvs, TrAt H x.1 (.ref x.2.1) ∧ F.fit x.1
  nd : (kvs.map (·.1)).Nodup
  few : kvs.length ≤ 1000
theorem NAt.keep {F : Make} {H H' : Hp} {d : Addr} {kvs : List NK} (h : NAt F H d kvs) (ob : H' d = some (ND d kvs)) (k : ∀ a xs, H a = some (.tup xs) → H' a = some (.tup xs)) : NAt F H' d kvs :=
  ⟨ob, fun x hx => ⟨(h.keys x hx).1.keep k, (h.keys x hx).2⟩, h.nd, h.few⟩
def valT (kvs : List NK) (k : Tr) : Option V := (kvs.find? fun x => decide (x.1 = k)).map (·.2.2)
theorem paired_at : ∀ {kvs : List NK} {xs : List (Tr × Addr × Value)}, Paired nRel kvs xs → ∀ k, (atKey xs k = none → valT kvs k = none) ∧ (∀ p, atKey xs k = some p → ∃ z, valT kvs k = some z ∧ RelV z p.2)
  | _, _, .nil, k => ⟨fun _ => rfl, fun p h => by simp [atKey] at h⟩
  | _, _, .cons (a := p) (b := q) h hs, k => by
    obtain ⟨i1, i2⟩ := paired_at hs k
    obtain ⟨e1, e2, e3⟩ := h
    by_cases hk : p.1 = k
    · have hq : q.1 = k := e1.symm.trans hk
      refine ⟨fun z => by simp [atKey, hq] at z, fun r hr => ?_⟩
      simp only [atKey, List.find?_cons, hq, decide_true, Option.map_some, Option.some.injEq] at hr
      subst hr
      exact ⟨p.2.2, by simp [valT, hk], e3⟩
    · have hq : ¬ q.1 = k := fun z => hk (e1.trans z)
      refine ⟨fun z => ?_, fun r hr => ?_⟩
      · have := i1 (by simpa [atKey, hq] using z)
        simpa [valT, hk] using this
      · obtain ⟨z, z1, z2⟩ := i2 r (by simpa [atKey, hq] using hr)
        exact ⟨z, by simpa [valT, hk] using z1, z2⟩
theorem paired_mem : ∀ {kvs : List NK} {xs : List (Tr × Addr × Value)}, Paired nRel kvs xs → (∀ x ∈ xs, ∃ p ∈ kvs, p.1 = x.1 ∧ p.2.1 = x.2.1) ∧ kvs.map (·.1) = xs.map (·.1)
  | _, _, .nil => ⟨fun x hx => by simp at hx, rfl⟩
  | _, _, .cons (a := p) (b := q) h hs => by
    obtain ⟨i1, i2⟩ := paired_mem hs
    refine ⟨fun x hx => ?_, by rw [List.map_cons, List.map_cons, i2, h.1]⟩
    rcases List.mem_cons.mp hx with z | z
    · subst z; exact ⟨p, List.mem_cons_self, h.1, h.2.1⟩
    · obtain ⟨p', hp', e⟩ := i1 x z
      exact ⟨p', List.mem_cons_of_mem _ hp', e⟩
theorem paired_snoc : ∀ {kvs : List NK} {xs : List (Tr × Addr × Value)} {p : NK} {q : Tr × Addr × Value}, Paired nRel kvs xs → nRel p q → Paired nRel (kvs ++ [p]) (xs ++ [q])
  | _, _, _, _, .nil, r => .cons r .nil
  | _, _, _, _, .cons h hs, r => .cons h (paired_snoc hs r)
theorem paired_len : ∀ {kvs : List NK} {xs : List (Tr × Addr × Value)}, Paired nRel kvs xs → kvs.length = xs.length
  | _, _, .nil => rfl
  | _, _, .cons _ hs => by simp [paired_len hs]
theorem nd_stay (d : Addr) (kvs : List NK) (h1 h2 : Heap) (p : (d == sysModules) = false ∧ ∃ (o : Obj) (es : Array DictEntry) (ep : Nat) (xs : List (Tr × Addr × Value)), h1.get? d = some o ∧ o.ExactDict ∧ o.data = .dict es ep ∧ Paired nRel kvs xs ∧
    es.toList = xs.map fun x => (⟨x.1.hsh, .ref x.2.1, x.2.2⟩ : DictEntry)) (k : ∀ o, h1.get? d = some o → h2.get? d = some o) :
    (d == sysModules) = false ∧ ∃ (o : Obj) (es : Array DictEntry) (ep : Nat) (xs : List (Tr × Addr × Value)), h2.get? d = some o ∧ o.ExactDict ∧ o.data = .dict es ep ∧ Paired nRel kvs xs ∧ es.toList = xs.map fun x => (⟨x.1.hsh, .ref x.2.1, x.2.2⟩ : DictEntry) := by
  obtain ⟨a, o, es, ep, xs, b1, b2⟩ := p
  exact ⟨a, o, es, ep, xs, k _ b1, b2⟩
section
variable {X : Cx} {pins : List (Addr × Obj)} {σ : St} {H : Hp} {s : Shared} {pos : Pos}
theorem sys_big (I : Inv X pins σ H s) : sysModules < s.heap.objs.size := by
  have h : mainGlobals < s.heap.objs.size := (I.mod.glob.keeps I.bk).lt
  exact Nat.lt_trans (by decide) h
/-- {}, for such keys -/
def tDNewN : TE := fun _ H Q => ∀ p, H p = none → Q (.ref p) (upd H p (ND p []))
theorem pe_dnewN : PE X (.Dict [] [] pos) tDNewN := fun pins s σ H Q I h => by
  refine wpAny_Dict_empty ⟨.ref s.heap.objs.size, _, I.laid (a := s.heap.objs.size) (o := ND s.heap.objs.size []) (t' := s.toks) (fun _ _ q => Heap.get?_push_of_some _ q) (Nat.le_refl _) ?_, rfl, h _ (I.hok.fresh (Nat.le_refl _))⟩
  have g := Heap.get?_push_size s.heap (o := { cls := .type "dict", data := .dict #[] }) rfl
  exact ⟨⟨beq_eq_false_iff_ne.mpr (Ne.symm (Nat.ne_of_lt (sys_big I))), _, #[], 0, [], g, ⟨rfl, rfl, rfl⟩, rfl, .nil, rfl⟩, ⟨_, g⟩, fun h1 h2 p k => nd_stay _ _ h1 h2 p k⟩
theorem nd_of (I : Inv X pins σ H s) {d : Addr} {kvs : List NK} (e : H d = some (ND d kvs)) : (d == sysModules) = false ∧ ∃ (o : Obj) (es : Array DictEntry) (ep : Nat) (xs : List (Tr × Addr × Value)), s.heap.get? d = some o ∧ o.ExactDict ∧ o.data = .dict es ep ∧ Paired nRel kvs xs ∧
    es.toList = xs.map fun x => (⟨x.1.hsh, .ref x.2.1, x.2.2⟩ : DictEntry) := (I.hok d _ e).1
/-- d.setdefault(k, v) -/
def rSetDef (F : Make) : V → List V → Hp → VK → Prop := fun x vs H Q => ∃ (d a : Addr) (kvs : List NK) (k : Tr) (v : V), x = .ref d ∧ vs = [.ref a, v] ∧ NAt F H d kvs ∧ kvs.length < 1000 ∧ TrAt H k (.ref a) ∧ F.fit k ∧
  (∀ z, valT kvs k = some z → Q z H) ∧ (valT kvs k = none → Q v (upd H d (ND d (kvs ++ [(k, a, v)]))))
theorem mt_setdef (F : Make) (hu : X.A.units + 64 < cLine) : MtM X "dict.setdefault" (rSetDef F) := by
  intro pins s σ H x vs v us Q I rx rv h
  obtain ⟨d, a, kvs, k, z, rfl, rfl, hN, hl, hk, hf, q1, q2⟩ := h
  cases rx
  obtain ⟨u, u', rfl, ru, ru'⟩ := rv.two
  cases (show u = Value.ref a from ru)
  obtain ⟨hs, o, es, ep, xs, h1, h2, h3, h4, h5⟩ := nd_of I hN.ob
  have hT : s.TypeIs (.ref d) "dict" := ⟨o, h1, h2.1⟩
  obtain ⟨m1, m2⟩ := paired_mem h4
  have hD : s.heap.DictOfH (trKind X.prog X.w F) d xs := by
    refine ⟨o, es, ep, h1, h2, h3, h5, fun x hx => ?_, by rw [← m2]; exact hN.nd⟩
    obtain ⟨p, hp, e1, e2⟩ := m1 x hx
    obtain ⟨k1, k2⟩ := hN.keys p hp
    rw [e1, e2] at k1
    rw [e1] at k2
    exact ⟨k1.tv I rfl, k2⟩
  obtain ⟨p1, p2⟩ := paired_at h4 k
  have lx := paired_len h4
  refine call_meetsIn PySem.F.slot_dict_setdefault hT PySem.F.entry_dict_setdefault (PySem.F.args_dict_setdefault_3 _ _ _) (meetsH_setdefault (trKind X.prog X.w F) d a hs u')
    ⟨by show X.A.in1.units + 8 < cLine; rw [Around.in1_units]; omega, k, xs, ⟨hk.tv I rfl, hf⟩, hD, Nat.le_trans (show xs.length ≤ 1000 by omega) (by decide), fun p hp => ?_, fun hn h' hm' hs' => ?_⟩
  · obtain ⟨z', z1, z2⟩ := p2 p hp
    exact ⟨z', H, I.tok _, z2, q1 z' z1⟩
  · obtain ⟨o', es', ep', g1, g2, g3, g4, g5, g6⟩ := hm'
    refine ⟨z, _, I.write (x := d) (e := d) (by rw [hN.ob]; exact True.intro) (.inl rfl) (fun b q hb y => (hs'.2 b hb).trans y) ⟨_, g1⟩ ?_, ru', q2 (p1 hn)⟩
    exact ⟨⟨hs, o', es', ep', _, g1, g2, g3, paired_snoc h4 ⟨rfl, rfl, ru'⟩, g4⟩, ⟨_, g1⟩, fun h1 h2 p k => nd_stay _ _ h1 h2 p k⟩
def tSetDef (F : Make) (to : TE) (t : TA) : TE := fun σ H Q => to σ H fun x H1 => (∃ d kvs, x = .ref d ∧ H1 d = some (ND d kvs)) ∧ t σ H1 fun xs H2 => rSetDef F x xs H2 Q
theorem pe_setdef (F : Make) (hu : X.A.units + 64 < cLine) {o e : Expr} {es : List Expr} {to : TE} {t : TA} {apos cpos : Pos} (ho : PE X o to) (ha : PA X (e :: es) t)
    (hbase : attributeBase o "setdefault" X.env (eval o X.env) = eval o X.env := by rfl)
    (hfew : ((backTo cpos (starEach (e :: es) X.env)).all (fun x => !x.1) && (backToKw cpos (keywordEach [] X.env)).all (fun x => x.1.isSome)
      && decide ((e :: es).length + ([] : List Keyword).length + (if ([] : List Keyword).isEmpty then 0 else 1) < 30)) = true := by rfl)
    (hline : (apos.endLine == cpos.line) = true := by rfl) (hs : starEach (e :: es) X.env = (false, eval e X.env) :: starEach es X.env := by rfl) (hplain : (backTo cpos (starEach es X.env)).any (·.1) = false := by rfl) :
    PE X (.Call (.Attribute o "setdefault" apos) (e :: es) [] cpos) (tSetDef F to t) := by
  intro pins s σ H Q I h
  refine wpAny_Call_method_late hbase hfew hline rfl (thn (ho pins s σ H _ I h) fun v s1 ⟨x, H1, I1, r1, ty, q1⟩ => ?_)
  obtain ⟨d, kvs, rfl, e⟩ := ty
  cases r1
  obtain ⟨_, o', _, _, _, h1, h2, _⟩ := nd_of I1 e
  refine ⟨"dict", "dict.setdefault", PySem.F.plainAttrs_dict, PySem.F.slot_dict_setdefault, PySem.F.type_dict_setdefault, ⟨o', h1, h2.1⟩, fun a ea => by cases ea; exact ⟨o', h1, h2.2.1⟩, ?_⟩
  have hA := ha cpos pins s1 σ H1 _ I1 q1
  rw [hs] at hA ⊢
  refine Calls.callWith_builtin (by show (false || (backTo cpos (starEach es X.env)).any (·.1)) = false; rw [hplain] <;> rfl) (Calls.evalArgs_plain ?_)
  exact thn hA fun us s2 ⟨vs, H2, I2, rv, q2⟩ => mt_setdef F hu pins s2 σ H2 (.ref d) vs (.ref d) us Q I2 rfl rv q2
end
end L2

set_option maxHeartbeats 4000000
namespace Toy
open PySem L2
seal PySem.wpAny
/-! ### the text by places -/
def top (i : Nat) : Stmt := PySem.Challenge.pw_chartfold_k12_machines_leaned.main.body.getD i (.Pass ⟨0, 0, 0, 0⟩)
abbrev sInit : Stmt := inClass (top 3) 0
abbrev sAlike : Stmt := top 5
abbrev sRefined : Stmt := top 6
abbrev sLeaned : Stmt := top 7
abbrev sLRow : Stmt := top 8
abbrev sCell : Stmt := top 10
abbrev sMach : Stmt := top 11
abbrev sRound : Stmt := top 12
abbrev sFar : Stmt := top 13
abbrev sRow : Stmt := top 14
abbrev sEntries : Stmt := top 15
abbrev sLeasts : Stmt := top 16
abbrev sLaw : Stmt := top 17
/-! ### flat machines: the heap's pictures -/
theorem same_new {H : Hp} {p : Addr} (h : H p = none) (o : HO) : Same H (upd H p o) := fun b u q => by rw [upd_ne (ne_of_none q h)]; exact q
theorem sameUpd {H H1 : Hp} {p : Addr} (h : Same H H1) (hp : H p = none) (o : HO) : Same H (upd H1 p o) := fun b u q => by rw [upd_ne (ne_of_none q hp)]; exact h b u q
theorem small {n : Nat} (h : n ≤ 1000) : n ≤ sizeLine := Nat.le_of_lt (small1000 h)
/-- two lists, item by item -/
def Z {α β : Type} (R : α → β → Prop) (xs : List α) (ys : List β) : Prop := xs.length = ys.length ∧ ∀ (i : Nat) x y, xs[i]? = some x → ys[i]? = some y → R x y
theorem Z.nil {α β : Type} {R : α → β → Prop} : Z R [] [] := ⟨rfl, fun i x y h => by simp at h⟩
theorem Z.mono {α β : Type} {R S : α → β → Prop} {xs : List α} {ys : List β} (h : Z R xs ys) (m : ∀ x y, R x y → S x y) : Z S xs ys := ⟨h.1, fun i x y a b => m _ _ (h.2 i x y a b)⟩
theorem Z.monoM {α β : Type} {R S : α → β → Prop} {xs : List α} {ys : List β} (h : Z R xs ys) (m : ∀ x y, x ∈ xs → R x y → S x y) : Z S xs ys := ⟨h.1, fun i x y a b => m _ _ (List.mem_of_getElem? a) (h.2 i x y a b)⟩
theorem Z.at {α β : Type} {R : α → β → Prop} {xs : List α} {ys : List β} (h : Z R xs ys) {i : Nat} {y : β} (e : ys[i]? = some y) : ∃ x, xs[i]? = some x ∧ R x y := by
  obtain ⟨hi, _⟩ := List.getElem?_eq_some_iff.mp e
  have hi' : i < xs.length := by rw [h.1]; exact hi
  exact ⟨xs[i], List.getElem?_eq_getElem hi', h.2 i _ y (List.getElem?_eq_getElem hi') e⟩
theorem Z.at1 {α β : Type} {R : α → β → Prop} {xs : List α} {ys : List β} (h : Z R xs ys) {i : Nat} {x : α} (e : xs[i]? = some x) : ∃ y, ys[i]? = some y ∧ R x y := by
  obtain ⟨hi, _⟩ := List.getElem?_eq_some_iff.mp e
  have hi' : i < ys.length := by rw [← h.1]; exact hi
  exact ⟨ys[i], List.getElem?_eq_getElem hi', h.2 i x _ e (List.getElem?_eq_getElem hi')⟩
theorem Z.snoc {α β : Type} {R : α → β → Prop} {xs : List α} {ys : List β} {x : α} {y : β} (h : Z R xs ys) (r : R x y) : Z R (xs ++ [x]) (ys ++ [y]) := by
  refine ⟨by simp [h.1], fun i p q a b => ?_⟩
  by_cases hi : i < xs.length
  · rw [List.getElem?_append_left hi] at a
    rw [List.getElem?_append_left (by rw [← h.1]; exact hi)] at b
    exact h.2 i p q a b
  · have hl := h.1
    rw [List.getElem?_append_right (by omega)] at a
    rw [List.getElem?_append_right (by omega)] at b
    have e1 : i - xs.length = 0 := by
      cases z : i - xs.length with
      | zero => rfl
      | succ n => rw [z] at a; simp at a
    have e2 : i - ys.length = 0 := by omega
    rw [e1] at a
    rw [e2] at b
    simp at a b
    subst a b
    exact r
theorem Z.cons {α β : Type} {R : α → β → Prop} {xs : List α} {ys : List β} {x : α} {y : β} (h : Z R xs ys) (r : R x y) : Z R (x :: xs) (y :: ys) := by
  refine ⟨by simp [h.1], fun i p q a b => ?_⟩
  cases i with
  | zero => simp at a b; subst a b; exact r
  | succ i => exact h.2 i p q (by simpa using a) (by simpa using b)
theorem Z.uncons {α β : Type} {R : α → β → Prop} {xs : List α} {ys : List β} {x : α} {y : β} (h : Z R (x :: xs) (y :: ys)) : R x y ∧ Z R xs ys :=
  ⟨h.2 0 x y rfl rfl, by have := h.1; simpa using this, fun i p q a b => h.2 (i + 1) p q (by simpa using a) (by simpa using b)⟩
/-- an entry: the state's number behind, the deeds -/
abbrev Ent := Int × List Int
abbrev Mach := List (List Ent)
def DeedsAt (H : Hp) (v : V) (ds : List Int) : Prop := ∃ d, v = .ref d ∧ H d = some (.tup (ds.map V.int))
def EntAt (H : Hp) (v : V) (e : Ent) : Prop := ∃ t u, v = .ref t ∧ H t = some (.tup [.int e.1, u]) ∧ DeedsAt H u e.2
def RowAt (H : Hp) (p : Addr) (r : List Ent) : Prop := ∃ vs, H p = some (.lst vs) ∧ Z (EntAt H) vs r
def RowsAt (H : Hp) (ps : List Addr) (M : Mach) : Prop := Z (RowAt H) ps M
/-- what stays when a list is changed -/
def Keeps (l : Addr) (H H' : Hp) : Prop := ∀ x o, H x = some o → x ≠ l → H' x = some o
theorem Same.keeps {H H' : Hp} {l : Addr} (s : Same H H') : Keeps l H H' := fun x o e _ => s x o e
theorem DeedsAt.keep {H H' : Hp} {l : Addr} {v : V} {ds : List Int} (k : Keeps l H H') (hl : ∀ ys, H l ≠ some (.tup ys)) (h : DeedsAt H v ds) : DeedsAt H' v ds := by
  obtain ⟨d, e, h⟩ := h
  exact ⟨d, e, k _ _ h fun z => hl _ (by rw [← z]; exact h)⟩
theorem EntAt.keep {H H' : Hp} {l : Addr} {v : V} {e : Ent} (k : Keeps l H H') (hl : ∀ ys, H l ≠ some (.tup ys)) (h : EntAt H v e) : EntAt H' v e := by
  obtain ⟨t, u, e1, h1, h2⟩ := h
  exact ⟨t, u, e1, k _ _ h1 (fun z => hl _ (by rw [← z]; exact h1)), h2.keep k hl⟩
theorem RowAt.keep {H H' : Hp} {l p : Addr} {r : List Ent} (k : Keeps l H H') (hl : ∀ ys, H l ≠ some (.tup ys)) (n : p ≠ l) (h : RowAt H p r) : RowAt H' p r := by
  obtain ⟨vs, h1, h2⟩ := h
  exact ⟨vs, k _ _ h1 n, h2.mono fun _ _ z => z.keep k hl⟩
theorem RowsAt.keep {H H' : Hp} {l : Addr} {ps : List Addr} {M : Mach} (k : Keeps l H H') (hl : ∀ ys, H l ≠ some (.tup ys)) (n : ∀ p ∈ ps, p ≠ l) (h : RowsAt H ps M) : RowsAt H' ps M :=
  h.monoM fun p _ hp z => z.keep k hl (n p hp)
theorem DeedsAt.same {H H' : Hp} {v : V} {ds : List Int} (s : Same H H') (h : DeedsAt H v ds) : DeedsAt H' v ds := by
  obtain ⟨d, e, h⟩ := h
  exact ⟨d, e, s _ _ h⟩
theorem EntAt.same {H H' : Hp} {v : V} {e : Ent} (s : Same H H') (h : EntAt H v e) : EntAt H' v e := by
  obtain ⟨t, u, e1, h1, h2⟩ := h
  exact ⟨t, u, e1, s _ _ h1, h2.same s⟩
theorem RowAt.same {H H' : Hp} {p : Addr} {r : List Ent} (s : Same H H') (h : RowAt H p r) : RowAt H' p r := by
  obtain ⟨vs, h1, h2⟩ := h
  exact ⟨vs, s _ _ h1, h2.mono fun _ _ z => z.same s⟩
theorem RowsAt.same {H H' : Hp} {ps : List Addr} {M : Mach} (s : Same H H') (h : RowsAt H ps M) : RowsAt H' ps M := h.mono fun _ _ z => z.same s
theorem lst_tup {H : Hp} {l : Addr} {xs : List V} (h : H l = some (.lst xs)) : ∀ ys, H l ≠ some (.tup ys) := fun ys z => by rw [h] at z; cases z
theorem non_tup {H : Hp} {l : Addr} (h : H l = none) : ∀ ys, H l ≠ some (.tup ys) := fun ys z => by rw [h] at z; cases z
/-! ### a flat machine at an address -/
theorem kf1 : ¬ (("states" : Str) = "rows") := by decide +kernel
theorem kf2 : ¬ (("states" : Str) = "ways") := by decide +kernel
theorem kf3 : ¬ (("rows" : Str) = "ways") := by decide +kernel
def fflds (s r y : Addr) : List (Str × V) := putF "ways" (.ref y) (putF "rows" (.ref r) (putF "states" (.ref s) []))
theorem fflds_states (s r y : Addr) : (fflds s r y).lookup ("states" : Str) = some (.ref s) := by
  unfold fflds
  rw [lookup_putF, if_neg kf2, lookup_putF, if_neg kf1, lookup_putF, if_pos rfl]
theorem fflds_rows (s r y : Addr) : (fflds s r y).lookup ("rows" : Str) = some (.ref r) := by
  unfold fflds
  rw [lookup_putF, if_neg kf3, lookup_putF, if_pos rfl]
theorem fflds_ways (s r y : Addr) : (fflds s r y).lookup ("ways" : Str) = some (.ref y) := by
  unfold fflds
  rw [lookup_putF, if_pos rfl]
structure FlatIs (C : Addr) (H : Hp) (c s r y : Addr) (ps : List Addr) (S : List V) (M : Mach) (W : List V) : Prop where
  ob : ∃ dx, H c = some (.ins C dx (fflds s r y))
  hs : H s = some (.lst S)
  hr : H r = some (.lst (ps.map V.ref))
  hm : RowsAt H ps M
  hw : H y = some (.lst W)
theorem FlatIs.same {C : Addr} {H H' : Hp} {c s r y : Addr} {ps : List Addr} {S W : List V} {M : Mach} (e : Same H H') (h : FlatIs C H c s r y ps S M W) : FlatIs C H' c s r y ps S M W := by
  obtain ⟨⟨dx, h1⟩, h2, h3, h4, h5⟩ := h
  exact ⟨⟨dx, e _ _ h1⟩, e _ _ h2, e _ _ h3, h4.same e, e _ _ h5⟩
/-- a machine as the law makes it -/
structure GoodM (M : Mach) : Prop where
  pos : 0 < M.length
  most : M.length ≤ 30
  four : ∀ r ∈ M, r.length = 4
  to : ∀ r ∈ M, ∀ e ∈ r, 0 ≤ e.1 ∧ e.1 < M.length
  few : ∀ r ∈ M, ∀ e ∈ r, e.2.length ≤ 2
/-! ### what the top has written -/
structure DefAt (K : PySem.W.Frag) (mg : Str → Option Value) (x : Str) (st : Stmt) (ps : List Str) (f : Addr) (fd : FuncData) : Prop where
  fn : Fun K x x st f fd
  bd : Binds K fd ps []
  mg : mg x = some (.ref f)
structure FTxt (K : PySem.W.Frag) (mg : Str → Option Value) (C : Addr) : Prop where
  cl : Cls K C
  nS : NoAttr K C "states"
  nR : NoAttr K C "rows"
  nW : NoAttr K C "ways"
  mgC : mg "Flat" = some (.ref C)
  len : mg "len" = none
  range : mg "range" = none
  list : mg "list" = none
  inst : mg "isinstance" = none
  tbool : mg "bool" = none
  tint : mg "int" = none
  tup : mg "tuple" = none
  tstr : mg "str" = none
  enum : mg "enumerate" = none
  zip : mg "zip" = none
  behind : ∃ t, mg "BEHIND" = some (.int 0 t)
  deeds : ∃ t, mg "DEEDS" = some (.int 1 t)
  ll : PySem.W.kitOne K (.type "list") (.type "list") = some true
  bb : PySem.W.kitOne K (.type "bool") (.type "bool") = some true
  ii : PySem.W.kitOne K (.type "int") (.type "int") = some true
  ib : PySem.W.kitOne K (.type "int") (.type "bool") = some false
  pp : PySem.W.kitOne K (.type "tuple") (.type "tuple") = some true
theorem pe_gint {X : Cx} {x : Str} {i : Int} {pos : Pos} (h : ∃ t, X.mg x = some (.int i t)) (hg : Gl X x) (hd : (x == ("__debug__" : Str)) = false := by decide) : PE X (.Name x pos) (tC (.int i)) := by
  obtain ⟨t, h⟩ := h
  exact pe_glob hg h ⟨t, rfl⟩ hd
theorem ints_get {ns : List Int} {k : Nat} (h : k < ns.length) : atI (ns.map V.int) (k : Int) = some (.int ns[k]) := atI_nat (by rw [List.getElem?_map, List.getElem?_eq_getElem h]; rfl)
section
variable {P : Program} {w : World} {K : PySem.W.Frag} {mg : Str → Option Value} {base : Heap}
/-! #### _law_cell_at -/
def spCell (K : PySem.W.Frag) : Sp := fun vs H Q _ => ∃ (a : Addr) (ns : List Int) (k : Nat), vs = [.ref a, .int k] ∧ SqL K H a (ns.map V.int) ∧ Q (.int (Rm.cell ns k)) H
theorem scCell : FnScope ["script", "k"] ["script", "k"] (defScope sCell) := ⟨rfl, rfl, rfl, by decide +kernel, rfl, by decide +kernel, by decide +kernel⟩
theorem ok_cell {f C : Addr} {fd : FuncData} (D : DefAt K mg "_law_cell_at" sCell ["script", "k"] f fd) (T : FTxt K mg C) : FnOk P w K mg base CX0 1 f fd ["script", "k"] (spCell K) := by
  refine D.fn.ok scCell (fun vs H Q E h => ?_) (fun cdv A outer s H vs Q E hr h => ?_)
  · obtain ⟨a, ns, k, rfl, _⟩ := h
    rfl
  obtain ⟨a, ns, k, rfl, hS, q⟩ := h
  refine ⟨_, pss_cons (ps_if (pt_cmpR op_lt (pv 1) (pe_callB call_len_seq (by rfl) T.len PySem.boot_len (pa_cons (pv 0) pa_nil)) (nomark _)) (pss_one (ps_ret (pe_ix ix_list (pv 0) (pv 1) (fun _ _ => rfl)))) pss_nil)
    (pss_one (ps_ret pe_int)), ?_⟩
  refine ⟨_, rfl, _, rfl, a, _, rfl, .inl hS, _, _, rfl, rfl, _, rfl, ?_⟩
  rw [List.length_map]
  refine ite2 (fun z => ?_) (fun z => ?_)
  · have z' : k < ns.length := by
      have : (k : Int) < (ns.length : Int) := by simpa using z
      omega
    refine ⟨_, rfl, _, rfl, a, _, _, _, rfl, rfl, hS, ints_get z', ?_⟩
    have e : Rm.cell ns k = ns[k] := by
      unfold Rm.cell
      rw [List.getD_eq_getElem?_getD, List.getElem?_eq_getElem z']; rfl
    rw [e] at q
    exact q
  · have z' : ¬ k < ns.length := fun y => z (by simpa using y)
    have e : Rm.cell ns k = 0 := by
      unfold Rm.cell
      rw [List.getD_eq_getElem?_getD, List.getElem?_eq_none (by omega)]; rfl
    rw [e] at q
    exact q

/-! ### data: reading, shapes -/
theorem ints_rd {K : PySem.W.Frag} {H : Hp} : ∀ xs : List Int, RdVs K H (xs.map V.int) (xs.map PyData.int)
  | [] => .nil
  | x :: r => .cons (.int x) (ints_rd r)
def shapes (n : Nat) (ds : List PyData) : Prop := PyData.canLayAll0 ds = true ∧ PyData.depthAll ds ≤ n ∧ PyData.eqvAll ds ds = true
def shape (n : Nat) (d : PyData) : Prop := PyData.canLay0 d = true ∧ PyData.depth d ≤ n ∧ PyData.eqv d d = true
theorem shapes_map {β : Type} {g : β → PyData} {n : Nat} : ∀ bs : List β, (∀ b ∈ bs, shape n (g b)) → shapes n (bs.map g)
  | [], _ => ⟨rfl, by simp [PyData.depthAll], rfl⟩
  | b :: bs, h => by
    obtain ⟨i1, i2, i3⟩ := shapes_map bs fun x hx => h x (List.mem_cons_of_mem _ hx)
    obtain ⟨j1, j2, j3⟩ := h b List.mem_cons_self
    refine ⟨?_, ?_, ?_⟩
    · simp only [List.map_cons, PyData.canLayAll0, i1, j1, Bool.and_true]
    · simp only [List.map_cons, PyData.depthAll]; omega
    · simp only [List.map_cons, PyData.eqvAll, i3, j3, Bool.and_true]
theorem shape_list {n : Nat} {ds : List PyData} (h : shapes n ds) : shape (n + 1) (.list ds) := by
  obtain ⟨a, b, c⟩ := h
  exact ⟨by simpa only [PyData.canLay0] using a, by simp only [PyData.depth]; omega, by simpa only [PyData.eqv] using c⟩
theorem shape_tuple {n : Nat} {ds : List PyData} (h : shapes n ds) : shape (n + 1) (.tuple ds) := by
  obtain ⟨a, b, c⟩ := h
  exact ⟨by simpa only [PyData.canLay0] using a, by simp only [PyData.depth]; omega, by simpa only [PyData.eqv] using c⟩
theorem shape_int (i : Int) : shape 0 (.int i) := ⟨rfl, by simp [PyData.depth], by simp only [PyData.eqv, beq_self_eq_true]⟩
theorem shape_ints (xs : List Int) : shapes 0 (xs.map PyData.int) := shapes_map xs fun i _ => shape_int i
theorem shaped_of {n : Nat} {d : PyData} (h : shape n d) (hn : n ≤ 8) : SeqAt.shaped d = true := by
  obtain ⟨a, b, _⟩ := h
  unfold SeqAt.shaped
  rw [Bool.and_eq_true]
  exact ⟨a, decide_eq_true (by omega)⟩

/-! as data -/
def entD (e : Ent) : PyData := .tuple [.int e.1, .tuple (e.2.map PyData.int)]
def rowD (r : List Ent) : PyData := .list (r.map entD)
def rowsD (M : Mach) : PyData := .list (M.map rowD)
theorem z_rd {K : PySem.W.Frag} {H : Hp} {β : Type} {R : V → β → Prop} {g : β → PyData} (m : ∀ v b, R v b → RdV K H v (g b)) : ∀ {vs : List V} {bs : List β}, Z R vs bs → RdVs K H vs (bs.map g)
  | [], [], _ => .nil
  | [], _ :: _, h => by have := h.1; simp at this
  | _ :: _, [], h => by have := h.1; simp at this
  | v :: vs, b :: bs, h => .cons (m _ _ h.uncons.1) (z_rd m h.uncons.2)
theorem DeedsAt.rd {K : PySem.W.Frag} {H : Hp} {v : V} {ds : List Int} (h : DeedsAt H v ds) : RdV K H v (.tuple (ds.map PyData.int)) := by
  obtain ⟨d, rfl, h⟩ := h
  exact .tup (SqT.of h) (ints_rd ds)
theorem EntAt.rd {K : PySem.W.Frag} {H : Hp} {v : V} {e : Ent} (h : EntAt H v e) : RdV K H v (entD e) := by
  obtain ⟨t, u, rfl, h1, h2⟩ := h
  exact .tup (SqT.of h1) (.cons (.int _) (.cons h2.rd .nil))
theorem RowAt.rd {K : PySem.W.Frag} {H : Hp} {p : Addr} {r : List Ent} (h : RowAt H p r) : RdV K H (.ref p) (rowD r) := by
  obtain ⟨vs, h1, h2⟩ := h
  exact .lst (SqL.of h1) (z_rd (fun _ _ z => z.rd) h2)
theorem RowsAt.rd {K : PySem.W.Frag} {H : Hp} {r : Addr} {ps : List Addr} {M : Mach} (e : H r = some (.lst (ps.map V.ref))) (h : RowsAt H ps M) : RdV K H (.ref r) (rowsD M) := by
  refine .lst (SqL.of e) (z_rd (R := fun v r => ∃ p, v = V.ref p ∧ RowAt H p r) (fun v b z => ?_) ⟨by simp [h.1], fun i x y a b => ?_⟩)
  · obtain ⟨p, rfl, z⟩ := z
    exact z.rd
  · rw [List.getElem?_map] at a
    cases q : ps[i]? with
    | none => rw [q] at a; simp at a
    | some p =>
      rw [q] at a
      exact ⟨p, by simpa using a.symm, h.2 i p y q b⟩
theorem shape_ent (e : Ent) : shape 2 (entD e) := by
  obtain ⟨a, b, c⟩ := shape_tuple (shape_ints e.2)
  refine ⟨?_, ?_, ?_⟩
  · simp only [entD, PyData.canLay0, PyData.canLayAll0, Bool.and_true] at a ⊢; exact a
  · simp only [entD, PyData.depth, PyData.depthAll] at b ⊢; omega
  · simp only [entD, PyData.eqv, PyData.eqvAll, beq_self_eq_true, Bool.and_true, Bool.true_and] at c ⊢; exact c
theorem shape_row (r : List Ent) : shape 3 (rowD r) := shape_list (shapes_map r fun e _ => shape_ent e)
theorem shape_rows (M : Mach) : shape 4 (rowsD M) := shape_list (shapes_map M fun e _ => shape_row e)

/-! #### _law_machine -/
def someL : List (List Int) := [[], [5], [5, 7], [], [0], [5]]
def mixM (ns : List Int) (k e : Nat) : Int := (Rm.cell ns (2 + (4 * k + e) % 56) * 48271 + 7919 * (4 * (k : Int) + (e : Int))) % 10007
def deedM (ns : List Int) (g : Nat → Bool) (k e : Nat) : List Int := if g e = true then someL.getD (mixM ns k e / 30 % 6).toNat [] else []
def entM (ns : List Int) (m : Nat) (g : Nat → Bool) (k e : Nat) : Ent := (mixM ns k e % (m : Int), deedM ns g k e)
def machR (ns : List Int) (m : Nat) (g : Nat → Bool) (k : Nat) : List Ent := (List.range 4).map (entM ns m g k)
def machL (ns : List Int) (m : Nat) (g : Nat → Bool) : Mach := (List.range m).map (machR ns m g)
theorem machL_len (ns : List Int) (m : Nat) (g : Nat → Bool) : (machL ns m g).length = m := by simp [machL]
theorem someL_at {n : Nat} (h : n < 6) : someL[n]? = some (someL.getD n []) := by
  match n, h with
  | 0, _ => rfl
  | 1, _ => rfl
  | 2, _ => rfl
  | 3, _ => rfl
  | 4, _ => rfl
  | 5, _ => rfl
theorem someL_few (n : Nat) : (someL.getD n []).length ≤ 2 := by
  by_cases h : n < 6
  · match n, h with
    | 0, _ => decide
    | 1, _ => decide
    | 2, _ => decide
    | 3, _ => decide
    | 4, _ => decide
    | 5, _ => decide
  · rw [List.getD_eq_getElem?_getD, List.getElem?_eq_none (by simpa [someL] using h)]; decide
theorem mach_good (ns : List Int) {m : Nat} (g : Nat → Bool) (h0 : 0 < m) (h1 : m ≤ 30) : GoodM (machL ns m g) := by
  refine ⟨by rw [machL_len]; exact h0, by rw [machL_len]; exact h1, fun r hr => ?_, fun r hr e he => ?_, fun r hr e he => ?_⟩
  · obtain ⟨k, _, rfl⟩ := List.mem_map.mp hr
    simp [machR]
  · obtain ⟨k, _, rfl⟩ := List.mem_map.mp hr
    obtain ⟨j, _, rfl⟩ := List.mem_map.mp he
    rw [machL_len]
    exact ⟨Int.emod_nonneg _ (by omega), Int.emod_lt_of_pos _ (by omega)⟩
  · obtain ⟨k, _, rfl⟩ := List.mem_map.mp hr
    obtain ⟨j, _, rfl⟩ := List.mem_map.mp he
    show (deedM ns g k j).length ≤ 2
    unfold deedM
    split
    · exact someL_few _
    · decide
/-- the tuples of deeds -/
def SomeAt (H : Hp) (so : Addr) : Prop := ∃ vs, H so = some (.lst vs) ∧ Z (DeedsAt H) vs someL
theorem SomeAt.same {H H' : Hp} {so : Addr} (s : Same H H') (h : SomeAt H so) : SomeAt H' so := by
  obtain ⟨vs, h1, h2⟩ := h
  exact ⟨vs, s _ _ h1, h2.mono fun _ _ z => z.same s⟩
def spMach (K : PySem.W.Frag) (G : List Int → Nat → Bool) : Sp := fun vs H Q _ => ∃ (a : Addr) (ns : List Int) (m : Nat), vs = [.ref a, .int m] ∧ SqL K H a (ns.map V.int) ∧ 0 < m ∧ m ≤ 30 ∧
  ∀ (r : Addr) (ps : List Addr) (H' : Hp), H r = Option.none → (∀ p ∈ ps, H p = Option.none ∧ p ≠ r) → Same H H' → H' r = some (.lst (ps.map V.ref)) → RowsAt H' ps (machL ns m (G ns)) → Q (.ref r) H'

def g9 (ns : List Int) (e : Nat) : Bool := decide ((e : Int) ≤ Rm.cell ns 1 / 64 % 4)
theorem scMach : FnScope ["script", "many", "some", "rows", "k", "row", "event", "cell", "mixed", "deeds"] ["script", "many"] (defScope sMach) := ⟨rfl, rfl, rfl, by decide +kernel, rfl, by decide +kernel, by decide +kernel⟩
theorem ok_mach {f C fc : Addr} {fd fdc : FuncData} (D : DefAt K mg "_law_machine" sMach ["script", "many"] f fd) (T : FTxt K mg C) (Dc : DefAt K mg "_law_cell_at" sCell ["script", "k"] fc fdc) : FnOk P w K mg base CX0 2 f fd ["script", "many"] (spMach K g9) := by
  have Gc : FnOk P w K mg base CX0 1 fc fdc ["script", "k"] (spCell K) := ok_cell Dc T
  refine D.fn.ok scMach (fun vs H Q E h => ?_) (fun cdv A outer s H vs Q E hr h => ?_)
  · obtain ⟨a, ns, m, rfl, _⟩ := h
    rfl
  obtain ⟨a, ns, m, rfl, hS, h0, h30, q⟩ := h
  refine ⟨_, pss_cons (ps_set (i := 2) scMach.nd rfl (Or.inl rfl) (pe_lst (pa_cons (pe_tup pa_nil) (pa_cons (pe_tup (pa_cons pe_int pa_nil)) (pa_cons (pe_tup (pa_cons pe_int (pa_cons pe_int pa_nil))) (pa_cons (pe_tup pa_nil) (pa_cons (pe_tup (pa_cons pe_int pa_nil)) (pa_cons (pe_tup (pa_cons pe_int pa_nil)) pa_nil))))))))
    (pss_cons (ps_set (i := 3) scMach.nd rfl (Or.inl rfl) (pe_lst pa_nil))
    (pss_cons (ps_for PassesOwn.never rfl (pi_range1 rfl T.range (pa_cons (pv 1) pa_nil)) (pg_name (i := 4) scMach.nd rfl (Or.inl rfl))
      (pss_cons (ps_set (i := 5) scMach.nd rfl (Or.inl rfl) (pe_lst pa_nil))
      (pss_cons (ps_for PassesOwn.never rfl (pi_range1 rfl T.range (pa_cons pe_int pa_nil)) (pg_name (i := 6) scMach.nd rfl (Or.inl rfl))
        (pss_cons (ps_set (i := 7) scMach.nd rfl (Or.inl rfl) (pe_call Gc hr rfl Dc.mg Dc.fn.kp Dc.bd .nil pass0 (pa_cons (pv 0) (pa_cons (pe_op op_add pe_int (pe_op op_mod (pe_op op_add (pe_op op_mul pe_int (pv 4)) (pv 6)) pe_int)) pa_nil))))
        (pss_cons (ps_set (i := 8) scMach.nd rfl (Or.inl rfl) (pe_op op_mod (pe_op op_add (pe_op op_mul (pv 7) pe_int) (pe_op op_mul pe_int (pe_op op_add (pe_op op_mul pe_int (pv 4)) (pv 6)))) pe_int))
        (pss_cons (ps_set (i := 9) scMach.nd rfl (Or.inl rfl) (pe_tup pa_nil))
        (pss_cons (ps_if (pt_cmpR op_le (pv 6) (pe_op op_mod (pe_op op_fdiv (pe_call Gc hr rfl Dc.mg Dc.fn.kp Dc.bd .nil pass0 (pa_cons (pv 0) (pa_cons pe_int pa_nil))) pe_int) pe_int) (nomark _))
          (pss_one (ps_set (i := 9) scMach.nd rfl (Or.inl rfl) (pe_ix ix_list (pv 2) (pe_op op_mod (pe_op op_fdiv (pv 8) pe_int) pe_int) (fun _ _ => rfl)))) pss_nil)
        (pss_one (ps_expr (pe_bm PySem.F.plainAttrs_list PySem.F.slot_list_append PySem.F.type_list_append mt_append (pv 5) (pa_cons (pe_tup (pa_cons (pe_op op_mod (pv 8) (pv 1)) (pa_cons (pv 9) pa_nil))) pa_nil)))))))))
      (pss_one (ps_expr (pe_bm PySem.F.plainAttrs_list PySem.F.slot_list_append PySem.F.type_list_append mt_append (pv 3) (pa_cons (pv 5) pa_nil)))))))
    (pss_one (ps_ret (pv 3))))), ?_⟩
  -- some = [...]
  refine ⟨(by show 0 ≤ sizeLine; decide), fun t1 h1 => ?_⟩
  refine ⟨(by show 1 ≤ sizeLine; decide), fun t2 h2 => ?_⟩
  refine ⟨(by show 2 ≤ sizeLine; decide), fun t3 h3 => ?_⟩
  refine ⟨(by show 0 ≤ sizeLine; decide), fun t4 h4 => ?_⟩
  refine ⟨(by show 1 ≤ sizeLine; decide), fun t5 h5 => ?_⟩
  refine ⟨(by show 1 ≤ sizeLine; decide), fun t6 h6 => ?_⟩
  refine ⟨(by show 6 ≤ sizeLine; decide), fun so h7 => ?_⟩
  have u1 := same_new h1 (.tup [])
  have u2 := same_new h2 (.tup [.int 5])
  have u3 := same_new h3 (.tup [.int 5, .int 7])
  have u4 := same_new h4 (.tup [])
  have u5 := same_new h5 (.tup [.int 0])
  have u6 := same_new h6 (.tup [.int 5])
  have u7 := same_new h7 (.lst [.ref t1, .ref t2, .ref t3, .ref t4, .ref t5, .ref t6])
  have hso : SomeAt (upd (upd (upd (upd (upd (upd (upd H t1 (.tup [])) t2 (.tup [.int 5])) t3 (.tup [.int 5, .int 7])) t4 (.tup [])) t5 (.tup [.int 0])) t6 (.tup [.int 5])) so (.lst [.ref t1, .ref t2, .ref t3, .ref t4, .ref t5, .ref t6])) so := by
    refine ⟨_, upd_same, ?_⟩
    refine Z.cons (Z.cons (Z.cons (Z.cons (Z.cons (Z.cons Z.nil ?_) ?_) ?_) ?_) ?_) ?_
    · exact ⟨t6, rfl, u7 _ _ upd_same⟩
    · exact ⟨t5, rfl, u7 _ _ (u6 _ _ upd_same)⟩
    · exact ⟨t4, rfl, u7 _ _ (u6 _ _ (u5 _ _ upd_same))⟩
    · exact ⟨t3, rfl, u7 _ _ (u6 _ _ (u5 _ _ (u4 _ _ upd_same)))⟩
    · exact ⟨t2, rfl, u7 _ _ (u6 _ _ (u5 _ _ (u4 _ _ (u3 _ _ upd_same))))⟩
    · exact ⟨t1, rfl, u7 _ _ (u6 _ _ (u5 _ _ (u4 _ _ (u3 _ _ (u2 _ _ upd_same)))))⟩
  have s0 := u1.trans (u2.trans (u3.trans (u4.trans (u5.trans (u6.trans u7)))))
  generalize upd (upd (upd (upd (upd (upd (upd H t1 (.tup [])) t2 (.tup [.int 5])) t3 (.tup [.int 5, .int 7])) t4 (.tup [])) t5 (.tup [.int 0])) t6 (.tup [.int 5])) so (.lst [.ref t1, .ref t2, .ref t3, .ref t4, .ref t5, .ref t6]) = H0 at hso s0
  clear u1 u2 u3 u4 u5 u6 u7 h1 h2 h3 h4 h5 h6 h7
  -- rows = []
  refine ⟨(by show 0 ≤ sizeLine; decide), fun ro hro => ?_⟩
  have hro0 : H ro = Option.none := s0.free hro
  refine ⟨_, rfl, m, rfl, by omega, by omega, ?_⟩
  have em : ((m : Int)).toNat = m := by omega
  rw [em]
  refine for_range (fun i σ H1 => ∃ v4 v5 v6 v7 v8 v9 ps, σ = [some (.ref a), some (.int m), some (.ref so), some (.ref ro), v4, v5, v6, v7, v8, v9] ∧ Same H0 H1 ∧ H1 ro = some (.lst (ps.map V.ref)) ∧ RowsAt H1 ps ((List.range i).map (machR ns m (g9 ns))) ∧ ∀ p ∈ ps, H p = Option.none ∧ p ≠ ro)
    ⟨_, _, _, _, _, _, [], rfl, same_new hro _, upd_same, Z.nil, fun p hp => by simp at hp⟩ ?_ ?_
  · rintro k σ H1 hk ⟨v4, v5, v6, v7, v8, v9, ps, rfl, s1, e1, hR1, hps⟩
    have ek : (0 : Int) + (k : Int) = (k : Int) := by omega
    rw [ek]
    -- row = []
    refine ⟨(by show 0 ≤ sizeLine; decide), fun rw hrw => ?_⟩
    have nrr : ro ≠ rw := ne_of_none e1 hrw
    refine ⟨_, rfl, by decide, by decide, ?_⟩
    refine for_range (n := 4) (fun i σ H2 => ∃ v6 v7 v8 v9 vs, σ = [some (.ref a), some (.int m), some (.ref so), some (.ref ro), some (.int k), some (.ref rw), v6, v7, v8, v9] ∧ Same H1 H2 ∧ H2 rw = some (.lst vs) ∧ Z (EntAt H2) vs ((List.range i).map (entM ns m (g9 ns) k)))
      ⟨_, _, _, _, [], rfl, same_new hrw _, upd_same, Z.nil⟩ ?_ ?_
    · rintro e σ H2 he ⟨v6, v7, v8, v9, vs, rfl, s2, e2, hE2⟩
      have ee : (0 : Int) + (e : Int) = (e : Int) := by omega
      rw [ee]
      have s02 := s1.trans s2
      have hlen : vs.length = e := by rw [hE2.1]; simp
      -- the last statement
      have last : ∀ (v : V) (H3 : Hp), DeedsAt H3 v (deedM ns (g9 ns) k e) → Same H2 H3 → (tDrop (tBM K "list" rAppend (tVar 5) (tCons (tTup (tCons (tOp (rI (fun _ j => 0 < j) fun i j => .int (i % j)) (tVar 8) (tVar 1)) (tCons (tVar 9) tNil))) tNil)))
          { nx := fun σ H2 => ∃ v6 v7 v8 v9 vs, σ = [some (.ref a), some (.int m), some (.ref so), some (.ref ro), some (.int k), some (.ref rw), v6, v7, v8, v9] ∧ Same H1 H2 ∧ H2 rw = some (.lst vs) ∧ Z (EntAt H2) vs ((List.range (e + 1)).map (entM ns m (g9 ns) k)), rt := Q }
          [some (.ref a), some (.int m), some (.ref so), some (.ref ro), some (.int k), some (.ref rw), some (.int e), some (.int (Rm.cell ns (2 + (4 * k + e) % 56))), some (.int (mixM ns k e)), some v] H3 := by
        rintro v H3 hd s3
        refine ⟨_, rfl, .inl ⟨rfl, _, SqL.of (s3 _ _ e2)⟩, _, rfl, _, rfl, _, _, rfl, rfl, by omega, _, rfl, (by show 2 ≤ sizeLine; decide), fun t ht => ?_⟩
        have nt : rw ≠ t := ne_of_none (s3 _ _ e2) ht
        refine ⟨rw, _, _, rfl, rfl, (by rw [upd_ne nt]; exact s3 _ _ e2), by rw [hlen]; exact small1000 (by omega), ?_⟩
        have kp : Keeps rw H3 (upd (upd H3 t (.tup [.int (mixM ns k e % m), v])) rw (.lst (vs ++ [.ref t]))) := fun x o ex n => by
          rw [upd_ne n, upd_ne (ne_of_none ex ht)]; exact ex
        refine ⟨_, _, _, _, _, rfl, fun x o ex => kp x o (s3 _ _ (s2 _ _ ex)) (ne_of_none ex hrw), upd_same, ?_⟩
        rw [List.range_succ, List.map_append]
        refine Z.snoc (hE2.mono fun _ _ z => (z.same s3).keep kp (lst_tup (s3 _ _ e2))) ?_
        exact ⟨t, v, rfl, by rw [upd_ne nt.symm, upd_same]; rfl, hd.keep kp (lst_tup (s3 _ _ e2))⟩
      -- cell
      refine ⟨_, rfl, _, rfl, _, _, rfl, rfl, .inl ⟨by decide, by decide⟩, _, rfl, _, _, rfl, rfl, _, _, rfl, rfl, (by show (0 : Int) < _; decide), _, _, rfl, rfl, a, ns, 2 + (4 * k + e) % 56, ?_, (s0.trans s02).seq hS, ?_⟩
      · have z : (2 : Int) + (4 * (k : Int) + (e : Int)) % 56 = ((2 + (4 * k + e) % 56 : Nat) : Int) := by omega
        show [V.ref a, V.int ((2 : Int) + (4 * (k : Int) + (e : Int)) % 56)] = _
        rw [z]
      -- mixed
      refine ⟨_, rfl, _, _, rfl, rfl, .inr ⟨by decide, by decide⟩, _, rfl, _, _, rfl, rfl, .inl ⟨by decide, by decide⟩, _, rfl, _, _, rfl, rfl, _, _, rfl, rfl, .inl ⟨by decide, by decide⟩, _, _, rfl, rfl, _, _, rfl, rfl, (by show (0 : Int) < _; decide), ?_⟩
      -- deeds = ()
      refine ⟨(by show 0 ≤ sizeLine; decide), fun td htd => ?_⟩
      have s3 := same_new htd (.tup [])
      refine ⟨_, rfl, _, rfl, a, ns, 1, rfl, ((s0.trans s02).trans s3).seq hS, _, _, rfl, rfl, ⟨by decide, by decide⟩, _, _, rfl, rfl, (by show (0 : Int) < _; decide), _, _, rfl, rfl, _, rfl, ?_⟩
      refine ite2 (fun z => ?_) (fun z => ?_)
      · have z' : g9 ns e = true := z
        obtain ⟨ws, w1, w2⟩ := (hso.same s02).same s3
        have hlt : (mixM ns k e / 30 % 6).toNat < 6 := by omega
        obtain ⟨x, x1, x2⟩ := w2.at (someL_at hlt)
        refine ⟨_, rfl, _, rfl, _, _, rfl, rfl, ⟨by decide, by decide⟩, _, _, rfl, rfl, (by show (0 : Int) < _; decide), so, _, _, x, rfl, rfl, SqL.of w1, ?_, ?_⟩
        · have z2 : mixM ns k e / 30 % 6 = ((mixM ns k e / 30 % 6).toNat : Int) := by omega
          show atI ws (mixM ns k e / 30 % 6) = some x
          rw [z2]
          exact atI_nat x1
        · refine last x _ ?_ s3
          unfold deedM
          rw [if_pos z']
          exact x2
      · have z' : ¬ g9 ns e = true := z
        refine last (.ref td) _ ?_ s3
        unfold deedM
        rw [if_neg z']
        exact ⟨td, rfl, upd_same⟩
    · rintro σ H2 ⟨v6, v7, v8, v9, vs, rfl, s2, e2, hE2⟩
      -- rows.append(row)
      refine ⟨_, rfl, .inl ⟨rfl, _, SqL.of (s2 _ _ e1)⟩, _, rfl, ro, _, _, rfl, rfl, s2 _ _ e1, ?_, ?_⟩
      · rw [List.length_map, hR1.1]; exact small1000 (by simp; omega)
      have kp : Keeps ro H2 (upd H2 ro (.lst (ps.map V.ref ++ [.ref rw]))) := fun x o ex n => by rw [upd_ne n]; exact ex
      refine ⟨_, _, _, _, _, _, ps ++ [rw], rfl, fun x o ex => kp x o (s2 _ _ (s1 _ _ ex)) (ne_of_none ex hro), ?_, ?_, fun p hp => ?_⟩
      · rw [upd_same, List.map_append]; rfl
      · rw [List.range_succ, List.map_append]
        refine Z.snoc ((hR1.same s2).keep kp (lst_tup (s2 _ _ e1)) fun p hp => (hps p hp).2) ?_
        exact ⟨vs, kp _ _ e2 nrr.symm, hE2.mono fun _ _ z => z.keep kp (lst_tup (s2 _ _ e1))⟩
      · rcases List.mem_append.mp hp with z | z
        · exact hps p z
        · have z' : p = rw := by simpa using z
          subst z'
          exact ⟨s0.free (s1.free hrw), nrr.symm⟩
  · rintro σ H1 ⟨v4, v5, v6, v7, v8, v9, ps, rfl, s1, e1, hR1, hps⟩
    refine ⟨_, rfl, ?_⟩
    exact q ro ps H1 hro0 hps (s0.trans s1) e1 hR1

/-! ### Flat(states, rows, ways) -/
def ListsAt (H : Hp) (ps : List Addr) (vss : List (List V)) : Prop := Z (fun p vs => H p = some (.lst vs)) ps vss
def spFInit (C : Addr) : Sp := fun vs H Q _ => ∃ (c dx s r y : Addr) (qs : List Addr) (ss : List V) (vss : List (List V)) (ws : List V), vs = [.ref c, .ref s, .ref r, .ref y] ∧ H c = some (.ins C dx []) ∧ H s = some (.lst ss) ∧ H r = some (.lst (qs.map V.ref)) ∧ ListsAt H qs vss ∧ H y = some (.lst ws) ∧ qs.length ≤ 100 ∧
  ∀ (s' r' y' : Addr) (ps : List Addr) (H' : Hp), Keeps c H H' → H' c = some (.ins C dx (fflds s' r' y')) → H s' = Option.none → H' s' = some (.lst ss) → H r' = Option.none → H' r' = some (.lst (ps.map V.ref)) → ListsAt H' ps vss → (∀ p ∈ ps, H p = Option.none ∧ p ≠ r') → H y' = Option.none → H' y' = some (.lst ws) → Q .non H'
theorem scFInit : FnScope ["self", "states", "rows", "ways"] ["self", "states", "rows", "ways"] (defScope sInit) := ⟨rfl, rfl, rfl, by decide +kernel, rfl, by decide +kernel, by decide +kernel⟩
theorem ok_finit {f C : Addr} {fd : FuncData} (F : Fun K "__init__" "Flat.__init__" sInit f fd) (T : FTxt K mg C) : FnOk P w K mg base CX0 1 f fd ["self", "states", "rows", "ways"] (spFInit C) := by
  refine F.ok scFInit (fun vs H Q E h => ?_) (fun cdv A outer s H vs Q E hr h => ?_)
  · obtain ⟨c, dx, s, r, y, qs, ss, vss, ws, rfl, _⟩ := h
    rfl
  obtain ⟨c, dx, sa, ra, ya, qs, ss, vss, ws, rfl, hc, hs, hra, hqs, hy, hl, q⟩ := h
  refine ⟨_, pss_cons (ps_fld (pv 0) (pe_callTy call_list_of (by rfl) T.list (by decide +kernel) (pa_cons (pv 1) pa_nil)) rfl)
    (pss_cons (ps_fld (pv 0) (pe_comp ["row"] [Option.none] rfl (pi_list (pv 2)) (fun _ => pg_name (i := 0) (show (["row"] : List Str).Nodup by decide +kernel) rfl (Or.inl rfl)) (fun _ => pts_nil)
      (fun _ => pe_callTy call_list_of (by rfl) T.list (by decide +kernel) (pa_cons (pv 0) pa_nil))
      (N := ["self", "states", "rows", "ways"]) (ks := (defScope sInit).names) rfl rfl (by decide +kernel) (by decide +kernel) (by decide +kernel) (by decide +kernel)) rfl)
    (pss_one (ps_fld (pv 0) (pe_callTy call_list_of (by rfl) T.list (by decide +kernel) (pa_cons (pv 3) pa_nil)) rfl))), ?_⟩
  -- self.states
  refine ⟨_, rfl, sa, _, rfl, .inl (SqL.of hs), fun l1 hl1 => ?_⟩
  have n1 : c ≠ l1 := ne_of_none hc hl1
  refine ⟨_, rfl, c, C, dx, _, rfl, (by rw [upd_ne n1]; exact hc), T.cl, T.nS, (by show 0 < 1000; decide), ?_⟩
  have k1 : Keeps c H (upd (upd H l1 (.lst ss)) c (.ins C dx (putF "states" (.ref l1) []))) := fun x o e n => by rw [upd_ne n, upd_ne (ne_of_none e hl1)]; exact e
  have c1 : (upd (upd H l1 (.lst ss)) c (.ins C dx (putF "states" (.ref l1) []))) c = some (.ins C dx (putF "states" (.ref l1) [])) := upd_same
  have e1 : (upd (upd H l1 (.lst ss)) c (.ins C dx (putF "states" (.ref l1) []))) l1 = some (.lst ss) := by rw [upd_ne n1.symm, upd_same]
  have f1 : ∀ x, (upd (upd H l1 (.lst ss)) c (.ins C dx (putF "states" (.ref l1) []))) x = Option.none → H x = Option.none := fun x e => by
    cases z : H x with
    | none => rfl
    | some o =>
      by_cases n : x = c
      · rw [n, c1] at e; cases e
      · rw [k1 x o z n] at e; cases e
  generalize upd (upd H l1 (.lst ss)) c (.ins C dx (putF "states" (.ref l1) [])) = H1 at k1 c1 e1 f1 ⊢
  have ntc : ∀ {p xs}, H p = some (.lst xs) → p ≠ c := fun e => ne_of e hc (by intro z; cases z)
  have r1 : H1 ra = some (.lst (qs.map V.ref)) := k1 _ _ hra (ntc hra)
  -- self.rows
  refine ⟨_, rfl, ra, rfl, ⟨_, SqL.of r1⟩, fun bk D hD => ?_⟩
  refine comp_listA (K := K) (xs := qs.map V.ref) (Pv := fun i ys σ H' => ∃ v ps, σ = [v] ∧ ys = ps.map V.ref ∧ Same H1 H' ∧ ListsAt H' ps (vss.take i) ∧ ∀ p ∈ ps, H1 p = Option.none ∧ p ≠ D) ⟨_, [], rfl, rfl, same_new hD _, by rw [List.take_zero]; exact Z.nil, fun p hp => by simp at hp⟩ ?_ ?_ ?_
  · rintro i ys σ H' hi hDi ⟨v, ps, rfl, rfl, s2, _, _⟩
    exact SqL.of (s2 _ _ r1)
  · rintro i x ys σ H' hx hDi ⟨v, ps, rfl, rfl, s2, hL, hps⟩
    obtain ⟨qa, hqa, rfl⟩ : ∃ qa, qs[i]? = some qa ∧ V.ref qa = x := by
      rw [List.getElem?_map] at hx
      cases z : qs[i]? with
      | none => rw [z] at hx; simp at hx
      | some p => rw [z] at hx; exact ⟨p, rfl, by simpa using hx⟩
    obtain ⟨vs, hvs, hq⟩ := hqs.at1 hqa
    refine ⟨_, rfl, qa, vs, rfl, .inl (SqL.of (s2 _ _ (k1 _ _ hq (ntc hq)))), fun l hl => ?_⟩
    have nDl : D ≠ l := ne_of_none hDi hl
    have hi : i < vss.length := (List.getElem?_eq_some_iff.mp hvs).1
    refine ⟨by rw [upd_ne nDl]; exact hDi, ?_, ⟨_, ps ++ [l], rfl, by rw [List.map_append]; rfl, ?_, ?_, fun p hp => ?_⟩⟩
    · have z := hL.1
      rw [List.length_take] at z
      have z2 := hqs.1
      rw [List.length_map]
      exact small1000 (by omega)
    · exact sameUpd (sameUpd s2 (s2.free hl) _) hD _
    · rw [List.take_succ, hvs]
      refine Z.snoc (hL.monoM fun p vs hp e => ?_) ?_
      · show (upd (upd H' l (.lst _)) D _) p = _
        rw [upd_ne (hps p hp).2, upd_ne (ne_of_none e hl)]; exact e
      · show (upd (upd H' l (.lst _)) D _) l = _
        rw [upd_ne nDl.symm, upd_same]
    · rcases List.mem_append.mp hp with z | z
      · exact hps p z
      · have z' : p = l := by simpa using z
        subst z'
        exact ⟨s2.free hl, nDl.symm⟩
  · rintro ys σ H2 hD2 ⟨v, ps, rfl, rfl, s2, hL, hps⟩
    have ecl : (qs.map V.ref).length = vss.length := by rw [List.length_map, hqs.1]
    rw [ecl, List.take_length] at hL
    refine ⟨_, rfl, c, C, dx, _, rfl, s2 _ _ c1, T.cl, T.nR, (by show 1 < 1000; decide), ?_⟩
    have c2 := s2 _ _ c1
    have ncD : c ≠ D := ne_of_none c1 hD
    have npc : ∀ p ∈ ps, p ≠ c := fun p hp z => by
      have y := (hps p hp).1
      rw [z, c1] at y
      cases y
    -- self.ways
    have k2 : Keeps c H2 (upd H2 c (.ins C dx (putF "rows" (.ref D) (putF "states" (.ref l1) [])))) := fun x o e n => by rw [upd_ne n]; exact e
    have c3 : (upd H2 c (.ins C dx (putF "rows" (.ref D) (putF "states" (.ref l1) [])))) c = some (.ins C dx (putF "rows" (.ref D) (putF "states" (.ref l1) []))) := upd_same
    have f3 : ∀ x, (upd H2 c (.ins C dx (putF "rows" (.ref D) (putF "states" (.ref l1) [])))) x = Option.none → H2 x = Option.none := fun x e => by
      by_cases n : x = c
      · rw [n, c3] at e; cases e
      · rw [upd_ne n] at e; exact e
    generalize upd H2 c (.ins C dx (putF "rows" (.ref D) (putF "states" (.ref l1) []))) = H3 at k2 c3 f3 ⊢
    have y3 : H3 ya = some (.lst ws) := k2 _ _ (s2 _ _ (k1 _ _ hy (ntc hy))) (ntc hy)
    refine ⟨_, rfl, ya, _, rfl, .inl (SqL.of y3), fun l3 hl3 => ?_⟩
    have n3 : c ≠ l3 := ne_of_none c3 hl3
    refine ⟨_, rfl, c, C, dx, _, rfl, (by rw [upd_ne n3]; exact c3), T.cl, T.nW, (by show 2 < 1000; decide), ?_⟩
    have k4 : Keeps c H3 (upd (upd H3 l3 (.lst ws)) c (.ins C dx (putF "ways" (.ref l3) (putF "rows" (.ref D) (putF "states" (.ref l1) []))))) := fun x o e n => by rw [upd_ne n, upd_ne (ne_of_none e hl3)]; exact e
    have hl3' := f3 _ hl3
    have hl3H : H1 l3 = Option.none := s2.free hl3'
    refine q l1 D l3 ps _ (fun x o e n => k4 _ _ (k2 _ _ (s2 _ _ (k1 _ _ e n)) n) n) upd_same hl1 (k4 _ _ (k2 _ _ (s2 _ _ e1) n1.symm) n1.symm) (f1 _ hD) (k4 _ _ (k2 _ _ hD2 ncD.symm) ncD.symm) (hL.monoM fun p vs hp e => k4 _ _ (k2 _ _ e (npc p hp)) (npc p hp)) (fun p hp => ⟨f1 _ (hps p hp).1, (hps p hp).2⟩) (f1 _ hl3H) ?_
    rw [upd_ne n3.symm, upd_same]

/-! ### entry_of, flat_run -/
def entAt (M : Mach) (n e : Nat) : Ent := (M.getD n []).getD e (0, [])
theorem entAt_get {M : Mach} (G : GoodM M) {n e : Nat} (hn : n < M.length) (he : e < 4) : ∃ r, M[n]? = some r ∧ r.length = 4 ∧ r[e]? = some (entAt M n e) ∧ 0 ≤ (entAt M n e).1 ∧ (entAt M n e).1 < M.length ∧ (entAt M n e).2.length ≤ 2 := by
  have hm : M[n] ∈ M := List.getElem_mem hn
  have h4 := G.four _ hm
  have ee : entAt M n e = M[n][e]'(by omega) := by
    unfold entAt
    rw [List.getD_eq_getElem?_getD, List.getD_eq_getElem?_getD, List.getElem?_eq_getElem hn]
    rw [Option.getD_some, List.getElem?_eq_getElem (show e < M[n].length by omega)]; rfl
  have hme : M[n][e]'(by omega) ∈ M[n] := List.getElem_mem _
  refine ⟨M[n], List.getElem?_eq_getElem hn, h4, ?_, ?_⟩
  · rw [ee]; exact List.getElem?_eq_getElem (by omega)
  · rw [ee]
    exact ⟨(G.to _ hm _ hme).1, (G.to _ hm _ hme).2, G.few _ hm _ hme⟩

/-! ### refined -/
def intsTr : List Int → Tr
  | [] => .nil
  | i :: r => .cons (.int i) (intsTr r)
def entTr (e : Ent) : Tr := .cons (.int e.1) (.cons (intsTr e.2) .nil)
def entsTr : List Ent → Tr
  | [] => .nil
  | e :: r => .cons (entTr e) (entsTr r)
abbrev LKey := Int × List Ent
def keyTr (κ : LKey) : Tr := .cons (.int κ.1) (.cons (entsTr κ.2) .nil)
theorem intsTr_inj : ∀ {a b : List Int}, intsTr a = intsTr b → a = b
  | [], [], _ => rfl
  | [], _ :: _, h => by cases h
  | _ :: _, [], h => by cases h
  | x :: a, y :: b, h => by
    injection h with h1 h2
    injection h1 with h1
    rw [h1, intsTr_inj h2]
theorem entTr_inj {a b : Ent} (h : entTr a = entTr b) : a = b := by
  injection h with h1 h2
  injection h1 with h1
  injection h2 with h2 _
  exact Prod.ext h1 (intsTr_inj h2)
theorem entsTr_inj : ∀ {a b : List Ent}, entsTr a = entsTr b → a = b
  | [], [], _ => rfl
  | [], _ :: _, h => by cases h
  | _ :: _, [], h => by cases h
  | x :: a, y :: b, h => by
    injection h with h1 h2
    rw [entTr_inj h1, entsTr_inj h2]
theorem keyTr_inj {a b : LKey} (h : keyTr a = keyTr b) : a = b := by
  injection h with h1 h2
  injection h1 with h1
  injection h2 with h2 _
  exact Prod.ext h1 (entsTr_inj h2)
theorem intsTr_dep : ∀ a : List Int, (intsTr a).dep = 1
  | [] => rfl
  | x :: a => by
    show max ((Tr.int x).dep + 1) (intsTr a).dep = 1
    rw [intsTr_dep a]; rfl
theorem entTr_dep (e : Ent) : (entTr e).dep = 2 := by
  show max (0 + 1) (max ((intsTr e.2).dep + 1) 1) = 2
  rw [intsTr_dep]; rfl
theorem entsTr_dep : ∀ a : List Ent, (entsTr a).dep ≤ 3
  | [] => by show 1 ≤ 3; decide
  | x :: a => by
    show max ((entTr x).dep + 1) (entsTr a).dep ≤ 3
    have := entsTr_dep a
    rw [entTr_dep]
    omega
theorem intsTr_cmp : ∀ a b : List Int, (intsTr a).cmp (intsTr b)
  | [], [] => trivial
  | [], _ :: _ => trivial
  | _ :: _, [] => trivial
  | x :: a, y :: b => ⟨trivial, intsTr_cmp a b⟩
theorem entTr_cmp (a b : Ent) : (entTr a).cmp (entTr b) := ⟨trivial, intsTr_cmp a.2 b.2, trivial⟩
theorem entsTr_cmp : ∀ a b : List Ent, (entsTr a).cmp (entsTr b)
  | [], [] => trivial
  | [], _ :: _ => trivial
  | _ :: _, [] => trivial
  | x :: a, y :: b => ⟨entTr_cmp x y, entsTr_cmp a b⟩
def mkN : Make where
  fit := fun k => ∃ κ, k = keyTr κ
  dep := by
    rintro k ⟨κ, rfl⟩
    show max (0 + 1) (max ((entsTr κ.2).dep + 1) 1) ≤ 8
    have := entsTr_dep κ.2
    omega
  cmp := by
    rintro x y ⟨κ, rfl⟩ ⟨μ, rfl⟩
    exact ⟨trivial, entsTr_cmp κ.2 μ.2, trivial⟩
theorem ints_tr {H : Hp} : ∀ xs : List Int, TrsAt H (intsTr xs) (xs.map V.int)
  | [] => .nil
  | x :: r => .cons (.int x) (ints_tr r)
theorem EntAt.tr {H : Hp} {v : V} {e : Ent} (h : EntAt H v e) : TrAt H (entTr e) v := by
  obtain ⟨t, u, rfl, h1, d, rfl, h2⟩ := h
  exact .tup h1 (.cons (.int _) (.cons (.tup h2 (ints_tr _)) .nil))
theorem ents_tr {H : Hp} : ∀ {vs : List V} {es : List Ent}, Z (EntAt H) vs es → TrsAt H (entsTr es) vs
  | [], [], _ => .nil
  | [], _ :: _, h => by have := h.1; simp at this
  | _ :: _, [], h => by have := h.1; simp at this
  | v :: vs, e :: es, h => .cons h.uncons.1.tr (ents_tr h.uncons.2)
theorem valT_snoc (kvs : List NK) (k : Tr) (a : Addr) (v : V) (x : Tr) : valT (kvs ++ [(k, a, v)]) x = (match valT kvs x with | some z => some z | Option.none => if k = x then some v else Option.none) := by
  unfold valT
  rw [List.find?_append]
  cases h : kvs.find? fun y => decide (y.1 = x) with
  | some y => simp
  | none =>
    by_cases hk : k = x
    · simp [hk]
    · simp [hk]
/-! the mirror -/
def lookE (G : List Nat) (e : Ent) : Ent := ((G.getD e.1.toNat 0 : Nat), e.2)
def keyAt (M : Mach) (G : List Nat) (k : Nat) : LKey := ((G.getD k 0 : Nat), (M.getD k []).map (lookE G))
def firstK (M : Mach) (G : List Nat) (n : Nat) (κ : LKey) : Option Nat := (List.range n).find? fun j => decide (keyAt M G j = κ)
def finerL (M : Mach) (G : List Nat) : List Nat := (List.range M.length).map fun k => (firstK M G (k + 1) (keyAt M G k)).getD k
theorem firstK_succ (M : Mach) (G : List Nat) (n : Nat) (κ : LKey) : firstK M G (n + 1) κ = (match firstK M G n κ with | some z => some z | Option.none => if keyAt M G n = κ then some n else Option.none) := by
  unfold firstK
  rw [List.range_succ, List.find?_append]
  cases h : (List.range n).find? fun j => decide (keyAt M G j = κ) with
  | some y => simp
  | none =>
    by_cases hk : keyAt M G n = κ
    · simp [hk]
    · simp [hk]
def nV (xs : List Nat) : List V := xs.map fun (n : Nat) => V.int (n : Int)
theorem nV_len (xs : List Nat) : (nV xs).length = xs.length := by simp [nV]
theorem nV_at {xs : List Nat} {i : Nat} (h : i < xs.length) : atI (nV xs) (i : Int) = some (.int ((xs.getD i 0 : Nat) : Int)) := atI_nat (by
  unfold nV
  rw [List.getElem?_map, List.getElem?_eq_getElem h, List.getD_eq_getElem?_getD, List.getElem?_eq_getElem h]; rfl)
def spRefined (C : Addr) : Sp := fun vs H Q _ => ∃ (c s r y g : Addr) (ps : List Addr) (S W : List V) (M : Mach) (G : List Nat), vs = [.ref c, .ref g] ∧ FlatIs C H c s r y ps S M W ∧ GoodM M ∧ H g = some (.lst (nV G)) ∧ G.length = M.length ∧
  ∀ (l : Addr) (H' : Hp), Same H H' → H l = Option.none → H' l = some (.lst (nV (finerL M G))) → Q (.ref l) H'
theorem scRefined : FnScope ["flat", "groups", "least", "finer", "number", "row", "look"] ["flat", "groups"] (defScope sRefined) := ⟨rfl, rfl, rfl, by decide +kernel, rfl, by decide +kernel, by decide +kernel⟩
theorem ok_refined {f C : Addr} {fd : FuncData} (D : DefAt K mg "refined" sRefined ["flat", "groups"] f fd) (T : FTxt K mg C) : FnOk P w K mg base CX0 1 f fd ["flat", "groups"] (spRefined C) := by
  refine D.fn.ok scRefined (fun vs H Q E h => ?_) (fun cdv A outer s H vs Q E hr h => ?_)
  · obtain ⟨c, s, r, y, g, ps, S, W, M, G, rfl, _⟩ := h
    rfl
  obtain ⟨c, sa, ra, ya, g, ps, S, W, M, G, rfl, hF, hG, hg, hGl, q⟩ := h
  refine ⟨_, pss_cons (ps_set (i := 2) scRefined.nd rfl (Or.inl rfl) pe_dnewN)
    (pss_cons (ps_set (i := 3) scRefined.nd rfl (Or.inl rfl) (pe_lst pa_nil))
    (pss_cons (ps_for PassesOwn.never rfl (pi_enum rfl T.enum (pa_cons (pe_fld (pv 0) rfl) pa_nil)) (pg_tup (n := 2) rfl (pgs_cons (pg_name (i := 4) scRefined.nd rfl (Or.inl rfl)) (pgs_cons (pg_name (i := 5) scRefined.nd rfl (Or.inl rfl)) pgs_nil)))
      (pss_cons (ps_set (i := 6) scRefined.nd rfl (Or.inl rfl) (pe_callTy call_tuple_of (by rfl) T.tup (by decide +kernel) (pa_cons (pe_comp ["entry", "groups"] [Option.none, some 1] rfl (pi_list (pv 5))
        (fun _ => pg_name (i := 0) (show (["entry", "groups"] : List Str).Nodup by decide +kernel) rfl (Or.inl rfl)) (fun _ => pts_nil)
        (fun _ => pe_tup (pa_cons (pe_ix ix_list (pv 1) (pe_ix ix_tup (pv 0) (pe_gint T.behind rfl) (fun _ _ => rfl)) (fun _ _ => rfl)) (pa_cons (pe_ix ix_tup (pv 0) (pe_gint T.deeds rfl) (fun _ _ => rfl)) pa_nil)))
        (N := ["flat", "groups", "least", "finer", "number", "row", "look"]) (ks := (defScope sRefined).names) rfl rfl (by decide +kernel) (by decide +kernel) (by decide +kernel) (by decide +kernel)) pa_nil)))
      (pss_one (ps_expr (pe_bm PySem.F.plainAttrs_list PySem.F.slot_list_append PySem.F.type_list_append mt_append (pv 3) (pa_cons (pe_setdef mkN hr.units (pv 2) (pa_cons (pe_tup (pa_cons (pe_ix ix_list (pv 1) (pv 4) (fun _ _ => rfl)) (pa_cons (pv 6) pa_nil))) (pa_cons (pv 4) pa_nil))) pa_nil))))))
    (pss_one (ps_ret (pv 3))))), ?_⟩
  obtain ⟨⟨dx, h1⟩, h2, h3, h4, h5⟩ := hF
  -- least = {}, finer = []
  intro d hd
  refine ⟨(by show 0 ≤ sizeLine; decide), fun fi hfi => ?_⟩
  have s1 := same_new hd (ND d [])
  have s2 := same_new hfi (.lst [])
  have ndf : d ≠ fi := ne_of_none upd_same hfi
  have hfi0 : H fi = Option.none := s1.free hfi
  refine ⟨_, rfl, c, C, dx, _, _, rfl, (s1.trans s2) _ _ h1, T.cl, T.nR, fflds_rows sa ra ya, ra, rfl, ⟨_, SqL.of ((s1.trans s2) _ _ h3)⟩, ?_⟩
  have hml : (ps.map V.ref).length = M.length := by rw [List.length_map, h4.1]
  have hm30 := hG.most
  refine for_enum (xs := ps.map V.ref) (fun i σ H1 => ∃ v4 v5 v6 kvs, σ = [some (.ref c), some (.ref g), some (.ref d), some (.ref fi), v4, v5, v6] ∧ Same H H1 ∧ NAt mkN H1 d kvs ∧ kvs.length ≤ i ∧ H1 fi = some (.lst (nV ((finerL M G).take i))) ∧ ∀ κ, valT kvs (keyTr κ) = (firstK M G i κ).map fun (j : Nat) => V.int (j : Int))
    ⟨_, _, _, [], rfl, s1.trans s2, ⟨by rw [upd_ne ndf]; exact upd_same, fun x hx => by simp at hx, by simp, by simp⟩, Nat.le_refl _, by rw [upd_same]; rfl, fun κ => rfl⟩ ?_ ?_ ?_
  · rintro i σ H1 hi ⟨v4, v5, v6, kvs, rfl, (s : Same _ _), _⟩
    exact SqL.of (s _ _ h3)
  · rintro i x t σ H1 hx ht ⟨v4, v5, v6, kvs, rfl, (s3 : Same _ _), hN, hkl, e3, hval⟩
    obtain ⟨p, hp, rfl⟩ : ∃ p, ps[i]? = some p ∧ V.ref p = x := by
      rw [List.getElem?_map] at hx
      cases z : ps[i]? with
      | none => rw [z] at hx; simp at hx
      | some p => rw [z] at hx; exact ⟨p, rfl, by simpa using hx⟩
    obtain ⟨row, hrow, vs, hv0, hE0⟩ := h4.at1 hp
    have hi : i < M.length := (List.getElem?_eq_some_iff.mp hrow).1
    have erow : M.getD i [] = row := by rw [List.getD_eq_getElem?_getD, hrow]; rfl
    have hmem : row ∈ M := List.mem_of_getElem? hrow
    have r4 := hG.four row hmem
    have s4 := same_new ht (.tup [.int i, .ref p])
    have et : (upd H1 t (.tup [.int i, .ref p])) t = some (.tup [.int i, .ref p]) := upd_same
    have nd1 : (upd H1 t (.tup [.int i, .ref p])) d = some (ND d kvs) := s4 _ _ hN.ob
    have nf1 := s4 _ _ e3
    generalize hH2 : upd H1 t (.tup [.int i, .ref p]) = H2 at s4 et nd1 nf1 ⊢
    have s02 := s3.trans s4
    refine ⟨t, _, rfl, SqT.of et, rfl, _, _, rfl, _, _, rfl, rfl, ?_⟩
    -- look
    refine ⟨_, rfl, p, rfl, ⟨_, SqL.of (s02 _ _ hv0)⟩, fun bk D hD => ?_⟩
    refine comp_listA (K := K) (xs := vs) (Pv := fun j ys σ H' => ∃ v, σ = [v, some (.ref g)] ∧ Same H2 H' ∧ Z (EntAt H') ys ((row.take j).map (lookE G))) ⟨_, rfl, same_new hD _, by simp [List.take_zero]; exact Z.nil⟩ ?_ ?_ ?_
    · rintro j ys σ H' hj hDj ⟨v, rfl, (s5 : Same _ _), _⟩
      exact SqL.of (s5 _ _ (s02 _ _ hv0))
    · rintro j x ys σ H' hx hDj ⟨v, rfl, (s5 : Same _ _), hZ⟩
      obtain ⟨e, he, te, u, rfl, k1, k2⟩ := hE0.at1 hx
      have s05 := s02.trans s5
      have hto := hG.to row hmem e (List.mem_of_getElem? he)
      have eN : e.1 = ((e.1.toNat : Nat) : Int) := by omega
      have hlt : e.1.toNat < G.length := by omega
      have ga : atI (nV G) e.1 = some (.int ((G.getD e.1.toNat 0 : Nat) : Int)) := by
        rw [eN, Int.toNat_natCast]; exact nV_at hlt
      have hj4 : j < row.length := (List.getElem?_eq_some_iff.mp he).1
      refine ⟨_, rfl, _, rfl, te, _, _, _, rfl, rfl, SqT.of (s05 _ _ k1), rfl, g, _, _, _, rfl, rfl, SqL.of (s05 _ _ hg), ga, _, rfl, te, _, _, _, rfl, rfl, SqT.of (s05 _ _ k1), rfl, (by show 2 ≤ sizeLine; decide), fun tn htn => ?_⟩
      have nDt : D ≠ tn := ne_of_none hDj htn
      have kp : Keeps D H' (upd (upd H' tn (.tup [.int ((G.getD e.1.toNat 0 : Nat) : Int), u])) D (.lst (ys ++ [.ref tn]))) := fun x o ex n => by rw [upd_ne n, upd_ne (ne_of_none ex htn)]; exact ex
      refine ⟨by rw [upd_ne nDt]; exact hDj, ?_, ⟨_, rfl, sameUpd (sameUpd s5 (s5.free htn) _) hD _, ?_⟩⟩
      · rw [hZ.1, List.length_map, List.length_take]; exact small1000 (by omega)
      · rw [List.take_succ, he, List.map_append]
        refine Z.snoc (hZ.mono fun _ _ z => z.keep kp (lst_tup hDj)) ?_
        exact ⟨tn, u, rfl, by rw [upd_ne nDt.symm, upd_same]; rfl, (k2.same s05).keep kp (lst_tup hDj)⟩
    · rintro ys σ H3 hD3 ⟨v, rfl, (s5 : Same _ _), hZ⟩
      have evl : vs.length = row.length := hE0.1
      rw [evl, List.take_length] at hZ
      refine ⟨D, ys, rfl, .inl ⟨SqL.of hD3, fun lk hlk => ?_⟩⟩
      have s6 := same_new hlk (.tup ys)
      have elk : (upd H3 lk (.tup ys)) lk = some (.tup ys) := upd_same
      have hZ4 : Z (EntAt (upd H3 lk (.tup ys))) ys (row.map (lookE G)) := hZ.mono fun _ _ z => z.same s6
      have s26 := s5.trans s6
      generalize upd H3 lk (.tup ys) = H4 at s26 elk hZ4 ⊢
      have s04 := s02.trans s26
      -- finer.append(least.setdefault((groups[number], look), number))
      refine ⟨_, rfl, .inl ⟨rfl, _, SqL.of (s26 _ _ nf1)⟩, _, rfl, ⟨d, kvs, rfl, s26 _ _ nd1⟩, _, rfl, _, rfl, g, _, _, _, rfl, rfl, SqL.of (s04 _ _ hg), nV_at (show i < G.length by omega), _, rfl, (by show 2 ≤ sizeLine; decide), fun tk htk => ?_⟩
      have s7 := same_new htk (.tup [.int ((G.getD i 0 : Nat) : Int), .ref lk])
      have etk : (upd H4 tk (.tup [.int ((G.getD i 0 : Nat) : Int), .ref lk])) tk = some (.tup [.int ((G.getD i 0 : Nat) : Int), .ref lk]) := upd_same
      have hZ5 : Z (EntAt (upd H4 tk (.tup [.int ((G.getD i 0 : Nat) : Int), .ref lk]))) ys (row.map (lookE G)) := hZ4.mono fun _ _ z => z.same s7
      have elk5 := s7 _ _ elk
      have s27 := s26.trans s7
      generalize upd H4 tk (.tup [.int ((G.getD i 0 : Nat) : Int), .ref lk]) = H5 at s27 etk hZ5 elk5 ⊢
      have s15 : Same H1 H5 := s4.trans s27
      have ekey : keyAt M G i = (((G.getD i 0 : Nat) : Int), row.map (lookE G)) := by unfold keyAt; rw [erow]
      have hT : TrAt H5 (keyTr (keyAt M G i)) (.ref tk) := by
        rw [ekey]
        exact .tup etk (.cons (.int _) (.cons (.tup elk5 (ents_tr hZ5)) .nil))
      have hN5 : NAt mkN H5 d kvs := hN.keep (s15 _ _ hN.ob) fun a xs e => s15 _ _ e
      have f5 := s27 _ _ nf1
      have s05 := s3.trans s15
      have htl : ((finerL M G).take i).length = i := by rw [List.length_take]; simp [finerL]; omega
      have step : ∀ (jn : Nat) (H6 : Hp) (kvs' : List NK), (firstK M G (i + 1) (keyAt M G i)).getD i = jn → Same H H6 → NAt mkN H6 d kvs' → kvs'.length ≤ i + 1 → H6 fi = some (.lst (nV ((finerL M G).take i))) → (∀ κ, valT kvs' (keyTr κ) = (firstK M G (i + 1) κ).map fun (j : Nat) => V.int (j : Int)) →
          rAppend (.ref fi) [.int (jn : Int)] H6 fun _ H1_1 => ∃ v4 v5 v6 kvs, [some (V.ref c), some (V.ref g), some (V.ref d), some (V.ref fi), some (V.int (i : Int)), some (V.ref p), some (V.ref lk)] = [some (V.ref c), some (V.ref g), some (V.ref d), some (V.ref fi), v4, v5, v6] ∧ Same H H1_1 ∧ NAt mkN H1_1 d kvs ∧ kvs.length ≤ i + 1 ∧ H1_1 fi = some (.lst (nV ((finerL M G).take (i + 1)))) ∧ ∀ κ, valT kvs (keyTr κ) = (firstK M G (i + 1) κ).map fun (j : Nat) => V.int (j : Int) := by
        intro jn H6 kvs' ej s6' hN6 hl6 f6 hv6
        have ndf6 : d ≠ fi := ndf
        refine ⟨fi, _, _, rfl, rfl, f6, by rw [nV_len, htl]; exact small1000 (by omega), ?_⟩
        refine ⟨_, _, _, kvs', rfl, fun x o ex => ?_, hN6.keep (by rw [upd_ne ndf6]; exact hN6.ob) (fun a xs e => by rw [upd_ne (ne_of e f6 (by intro z; cases z))]; exact e), hl6, ?_, hv6⟩
        · rw [upd_ne (ne_of_none ex hfi0)]; exact s6' _ _ ex
        · rw [upd_same, List.take_succ]
          have eg : (finerL M G)[i]? = some jn := by
            unfold finerL
            rw [List.getElem?_map, List.getElem?_range hi]
            show some ((firstK M G (i + 1) (keyAt M G i)).getD i) = some jn
            rw [ej]
          rw [eg]
          unfold nV
          rw [List.map_append]; rfl
      have hvi := hval (keyAt M G i)
      have nsd : NAt mkN H5 d kvs := hN5
      refine ⟨_, rfl, d, tk, kvs, keyTr (keyAt M G i), .int (i : Int), rfl, rfl, hN5, by omega, hT, ⟨_, rfl⟩, fun z hz => ?_, fun hz => ?_⟩
      · rw [hvi] at hz
        cases hfk : firstK M G i (keyAt M G i) with
        | none => rw [hfk] at hz; cases hz
        | some j =>
          rw [hfk] at hz
          cases hz
          refine step j H5 kvs ?_ s05 hN5 (by omega) f5 fun κ => ?_
          · rw [firstK_succ, hfk]; rfl
          · rw [hval κ, firstK_succ]
            cases hκ : firstK M G i κ with
            | some z => rfl
            | none =>
              by_cases ek : keyAt M G i = κ
              · rw [← ek, hfk] at hκ; cases hκ
              · rw [if_neg ek]
      · rw [hvi] at hz
        cases hfk : firstK M G i (keyAt M G i) with
        | some j => rw [hfk] at hz; cases hz
        | none =>
          have s6 : Same H (upd H5 d (ND d (kvs ++ [(keyTr (keyAt M G i), tk, .int (i : Int))]))) := fun x o ex => by rw [upd_ne (ne_of_none ex hd)]; exact s05 _ _ ex
          have tupk : ∀ a xs, H5 a = some (.tup xs) → (upd H5 d (ND d (kvs ++ [(keyTr (keyAt M G i), tk, .int (i : Int))]))) a = some (.tup xs) := fun a xs e => by
            rw [upd_ne (fun z => by rw [z, hN5.ob] at e; cases e)]; exact e
          have nk : ∀ x ∈ kvs, x.1 ≠ keyTr (keyAt M G i) := fun x hx ex => by
            have z := hval (keyAt M G i)
            rw [hfk] at z
            unfold valT at z
            cases y : kvs.find? fun x => decide (x.1 = keyTr (keyAt M G i)) with
            | none => exact absurd (decide_eq_true ex) (List.find?_eq_none.mp y x hx)
            | some w => rw [y] at z; cases z
          refine step i _ (kvs ++ [(keyTr (keyAt M G i), tk, .int (i : Int))]) ?_ s6 ⟨upd_same, fun x hx => ?_, ?_, by rw [List.length_append]; simp; omega⟩ (by rw [List.length_append]; simp; omega) (by rw [upd_ne ndf.symm]; exact f5) fun κ => ?_
          · rw [firstK_succ, hfk]
            show (if keyAt M G i = keyAt M G i then some i else Option.none).getD i = i
            rw [if_pos rfl]; rfl
          · rcases List.mem_append.mp hx with z | z
            · exact ⟨(hN5.keys x z).1.keep tupk, (hN5.keys x z).2⟩
            · have z' : x = (keyTr (keyAt M G i), tk, .int (i : Int)) := by simpa using z
              subst z'
              exact ⟨hT.keep tupk, ⟨_, rfl⟩⟩
          · rw [List.map_append, List.nodup_append]
            refine ⟨hN5.nd, by simp, fun a ha b hb e => ?_⟩
            obtain ⟨x, hx, rfl⟩ := List.mem_map.mp ha
            have hb' : b = keyTr (keyAt M G i) := by simpa using hb
            exact nk x hx (e.trans hb')
          · rw [valT_snoc, hval κ, firstK_succ]
            cases hκ : firstK M G i κ with
            | some z => rfl
            | none =>
              by_cases ek : keyAt M G i = κ
              · rw [if_pos ek]
                show (if keyTr (keyAt M G i) = keyTr κ then some (V.int (i : Int)) else Option.none) = _
                rw [if_pos (by rw [ek])]; rfl
              · rw [if_neg ek]
                show (if keyTr (keyAt M G i) = keyTr κ then some (V.int (i : Int)) else Option.none) = _
                rw [if_neg (fun z => ek (keyTr_inj z))]; rfl
  · rintro σ H1 ⟨v4, v5, v6, kvs, rfl, (s3 : Same _ _), hN, hkl, e3, hval⟩
    rw [hml] at e3
    have hlen : (finerL M G).length = M.length := by simp [finerL]
    rw [← hlen, List.take_length] at e3
    exact ⟨_, rfl, q fi H1 s3 hfi0 e3⟩

/-! ### alike -/
def mcOf (M : Mach) : Fm.Mc := ⟨M.length, fun a e => (entAt M a e).1.toNat, fun a e => (entAt M a e).2⟩
theorem mc_ok {M : Mach} (G : GoodM M) : (mcOf M).Ok := ⟨G.pos, fun a e ha he => by
  obtain ⟨r, _, _, _, g1, g2, _⟩ := entAt_get G (show a < M.length from ha) he
  show (entAt M a e).1.toNat < M.length
  omega⟩
def grp (M : Mach) (t : Nat) : List Nat := (List.range M.length).map (Fm.mr (mcOf M) t)
theorem grp_len (M : Mach) (t : Nat) : (grp M t).length = M.length := by simp [grp]
theorem grp_get {M : Mach} {t k : Nat} (h : k < M.length) : (grp M t).getD k 0 = Fm.mr (mcOf M) t k := by
  unfold grp
  rw [List.getD_eq_getElem?_getD, List.getElem?_map, List.getElem?_range h]; rfl
theorem grp_zero (M : Mach) : grp M 0 = List.replicate M.length 0 := by
  unfold grp
  refine List.ext_getElem? fun i => ?_
  rw [List.getElem?_map, List.getElem?_replicate]
  by_cases h : i < M.length
  · rw [List.getElem?_range h, if_pos h]
    show some (Fm.mr (mcOf M) 0 i) = some 0
    have := Fm.mr_of (m := mcOf M) (t := 0) (j := 0) (k := i) rfl
    have e : Fm.mr (mcOf M) 0 i = 0 := by omega
    rw [e]
  · rw [List.getElem?_eq_none (by simpa using h), if_neg h]; rfl
theorem row4 {M : Mach} (G : GoodM M) {k : Nat} (h : k < M.length) : M.getD k [] = (List.range 4).map (entAt M k) := by
  obtain ⟨r, e1, e2, _⟩ := entAt_get G h (show 0 < 4 by decide)
  have e : M.getD k [] = r := by rw [List.getD_eq_getElem?_getD, e1]; rfl
  rw [e]
  refine List.ext_getElem? fun i => ?_
  rw [List.getElem?_map]
  by_cases hi : i < 4
  · obtain ⟨r', e1', _, e3, _⟩ := entAt_get G h hi
    rw [e1] at e1'
    cases e1'
    rw [List.getElem?_range hi, e3]; rfl
  · rw [List.getElem?_eq_none (by omega), List.getElem?_eq_none (by simpa using hi)]; rfl
theorem key_al {M : Mach} (G : GoodM M) {t j k : Nat} (hj : j < M.length) (hk : k < M.length) : keyAt M (grp M t) j = keyAt M (grp M t) k ↔ Fm.al (mcOf M) (t + 1) j k = true := by
  have ok := mc_ok G
  have lk : ∀ {a e}, a < M.length → e < 4 → lookE (grp M t) (entAt M a e) = (((Fm.mr (mcOf M) t ((mcOf M).nx a e) : Nat) : Int), (mcOf M).dd a e) := fun {a e} ha he => by
    show ((((grp M t).getD ((mcOf M).nx a e) 0 : Nat) : Int), (entAt M a e).2) = _
    rw [grp_get (ok.nx a e ha he)]; rfl
  unfold keyAt
  rw [row4 G hj, row4 G hk, List.map_map, List.map_map, grp_get hj, grp_get hk]
  constructor
  · intro z
    have z1 : ((Fm.mr (mcOf M) t j : Nat) : Int) = ((Fm.mr (mcOf M) t k : Nat) : Int) := (Prod.mk.inj z).1
    have z2 := (Prod.mk.inj z).2
    refine Fm.al_succ.mpr fun e he => ?_
    have y := congrArg (fun l => l[e]?) z2
    simp only [List.getElem?_map, List.getElem?_range he, Option.map_some, Function.comp_apply, Option.some.injEq] at y
    rw [lk hj he, lk hk he] at y
    obtain ⟨y1, y2⟩ := Prod.mk.inj y
    exact ⟨y2, Fm.mr_iff.mp (by omega)⟩
  · intro z
    have z1 : Fm.mr (mcOf M) t j = Fm.mr (mcOf M) t k := Fm.mr_eq (Fm.al_down z)
    refine Prod.ext (by show ((Fm.mr (mcOf M) t j : Nat) : Int) = _; rw [z1]) (List.map_congr_left fun e he => ?_)
    have he' := List.mem_range.mp he
    show lookE _ (entAt M j e) = lookE _ (entAt M k e)
    rw [lk hj he', lk hk he']
    obtain ⟨y1, y2⟩ := Fm.al_succ.mp z e he'
    rw [y1, Fm.mr_eq y2]
theorem find_congr {α : Type} {p q : α → Bool} : ∀ (l : List α), (∀ x ∈ l, p x = q x) → l.find? p = l.find? q
  | [], _ => rfl
  | x :: l, h => by
    rw [List.find?_cons, List.find?_cons, h x List.mem_cons_self, find_congr l fun y hy => h y (List.mem_cons_of_mem _ hy)]
theorem finer_grp {M : Mach} (G : GoodM M) (t : Nat) : finerL M (grp M t) = grp M (t + 1) := by
  unfold finerL grp
  refine List.map_congr_left fun k hk => ?_
  have hk' := List.mem_range.mp hk
  unfold firstK Fm.mr
  congr 1
  refine find_congr _ fun j hj => ?_
  have hj' : j < k + 1 := List.mem_range.mp hj
  have h := key_al (t := t) G (show j < M.length by omega) hk'
  cases z : Fm.al (mcOf M) (t + 1) j k with
  | true => exact decide_eq_true (h.mpr z)
  | false => exact decide_eq_false fun y => by rw [h.mp y] at z; cases z
theorem eqv_nats : ∀ a b : List Nat, PyData.eqvAll (a.map fun (n : Nat) => PyData.int (n : Int)) (b.map fun (n : Nat) => PyData.int (n : Int)) = decide (a = b)
  | [], [] => rfl
  | [], _ :: _ => rfl
  | _ :: _, [] => rfl
  | x :: a, y :: b => by
    simp only [List.map_cons, PyData.eqvAll, PyData.eqv, eqv_nats a b]
    by_cases h : x = y
    · subst h
      by_cases h2 : a = b
      · simp [h2]
      · simp [h2]
    · have h' : ¬ (x : Int) = (y : Int) := by omega
      simp [h, h']
theorem nats_rd {K : PySem.W.Frag} {H : Hp} {a : Addr} {xs : List Nat} (h : H a = some (.lst (nV xs))) : RdV K H (.ref a) (.list (xs.map fun (n : Nat) => PyData.int (n : Int))) := by
  have z := ints_rd (K := K) (H := H) (xs.map fun (n : Nat) => (n : Int))
  rw [List.map_map, List.map_map] at z
  exact .lst (SqL.of h) z
theorem nats_shape (xs : List Nat) : shape 1 (.list (xs.map fun (n : Nat) => PyData.int (n : Int))) := shape_list (shapes_map xs fun i _ => shape_int _)
def spAlike (C : Addr) : Sp := fun vs H Q _ => ∃ (c s r y : Addr) (ps : List Addr) (S W : List V) (M : Mach), vs = [.ref c] ∧ FlatIs C H c s r y ps S M W ∧ GoodM M ∧
  ∀ (l : Addr) (H' : Hp), Same H H' → H l = Option.none → H' l = some (.lst (nV (grp M M.length))) → Q (.ref l) H'
theorem scAlike : FnScope ["flat", "groups", "finer"] ["flat"] (defScope sAlike) := ⟨rfl, rfl, rfl, by decide +kernel, rfl, by decide +kernel, by decide +kernel⟩
theorem ok_alike {f C fr : Addr} {fd fdr : FuncData} (D : DefAt K mg "alike" sAlike ["flat"] f fd) (T : FTxt K mg C) (Dr : DefAt K mg "refined" sRefined ["flat", "groups"] fr fdr) : FnOk P w K mg base CX0 2 f fd ["flat"] (spAlike C) := by
  have Gr : FnOk P w K mg base CX0 1 fr fdr ["flat", "groups"] (spRefined C) := ok_refined Dr T
  refine D.fn.ok scAlike (fun vs H Q E h => ?_) (fun cdv A outer s H vs Q E hr h => ?_)
  · obtain ⟨c, s, r, y, ps, S, W, M, rfl, _⟩ := h
    rfl
  obtain ⟨c, sa, ra, ya, ps, S, W, M, rfl, hF, hG, q⟩ := h
  refine ⟨_, pss_cons (ps_comp (i := 1) ["row"] [Option.none] rfl scAlike.nd rfl rfl (pi_list (pe_fld (pv 0) rfl)) (fun _ => pg_name (i := 0) (show (["row"] : List Str).Nodup by decide +kernel) rfl (Or.inl rfl)) (fun _ => pts_nil) (fun _ => pe_int)
      (N := ["flat", "groups", "finer"]) (ks := (defScope sAlike).names) rfl rfl (by decide +kernel) (by decide +kernel) (by decide +kernel) (by decide +kernel))
    (pss_cons (ps_set (i := 2) scAlike.nd rfl (Or.inl rfl) (pe_call Gr hr rfl Dr.mg Dr.fn.kp Dr.bd .nil pass0 (pa_cons (pv 0) (pa_cons (pv 1) pa_nil))))
    (pss_cons (ps_while PassesOwn.never (pt_cmpR (op_neD hr.units) (pv 2) (pv 1) (nomark _))
      (pss_cons (ps_set (i := 1) scAlike.nd rfl (Or.inl rfl) (pv 2))
      (pss_one (ps_set (i := 2) scAlike.nd rfl (Or.inl rfl) (pe_call Gr hr rfl Dr.mg Dr.fn.kp Dr.bd .nil pass0 (pa_cons (pv 0) (pa_cons (pv 1) pa_nil)))))))
    (pss_one (ps_ret (pv 1))))), ?_⟩
  have ok := mc_ok hG
  obtain ⟨⟨dx, h1⟩, h2, h3, h4, h5⟩ := id hF
  have hml : (ps.map V.ref).length = M.length := by rw [List.length_map, h4.1]
  have hm30 := hG.most
  -- groups
  refine ⟨_, rfl, c, C, dx, _, _, rfl, h1, T.cl, T.nR, fflds_rows sa ra ya, ra, rfl, ⟨_, SqL.of h3⟩, fun bk g0 hg0 => ?_⟩
  refine comp_listA (K := K) (xs := ps.map V.ref) (Pv := fun i ys σ H' => ∃ v, σ = [v] ∧ ys = nV (List.replicate i 0) ∧ Same H H') ⟨_, rfl, rfl, same_new hg0 _⟩ ?_ ?_ ?_
  · rintro i ys σ H' hi hDi ⟨v, rfl, _, (s : Same _ _)⟩
    exact SqL.of (s _ _ h3)
  · rintro i x ys σ H' hx hDi ⟨v, rfl, hys, (s : Same _ _)⟩
    have hi : i < M.length := by
      have z := (List.getElem?_eq_some_iff.mp hx).1
      omega
    refine ⟨hDi, by rw [hys, nV_len, List.length_replicate]; exact small1000 (by omega), ⟨_, rfl, ?_, sameUpd s hg0 _⟩⟩
    rw [List.replicate_succ', hys]
    unfold nV
    rw [List.map_append]; rfl
  rintro ys σ H1 hD1 ⟨v, rfl, hys, (s1 : Same _ _)⟩
  rw [hml, ← grp_zero] at hys
  subst hys
  -- finer
  refine ⟨_, rfl, _, rfl, c, sa, ra, ya, g0, ps, S, W, M, grp M 0, rfl, hF.same s1, hG, hD1, grp_len M 0, fun f0 H2 s2 hf0 e2 => ?_⟩
  rw [finer_grp hG] at e2
  refine ⟨fun n σ H' => ∃ t ga fa, σ = [some (.ref c), some (.ref ga), some (.ref fa)] ∧ Same H H' ∧ H ga = Option.none ∧ H' ga = some (.lst (nV (grp M t))) ∧ H fa = Option.none ∧ H' fa = some (.lst (nV (grp M (t + 1)))) ∧ n = M.length - Fm.cnt (mcOf M) t,
    ⟨_, 0, g0, f0, rfl, s1.trans s2, hg0, s2 _ _ hD1, s1.free hf0, e2, rfl⟩, ?_⟩
  rintro n σ H3 ⟨t, ga, fa, rfl, s3, hga, ega, hfa, efa, rfl⟩
  have shA := nats_shape (grp M (t + 1))
  have shB := nats_shape (grp M t)
  refine ⟨_, rfl, _, rfl, _, _, nats_rd efa, nats_rd ega, shaped_of shA (by decide), shaped_of shB (by decide), _, rfl, ?_⟩
  have eq : (if (true : Bool) = true then !PyData.eqv (.list ((grp M (t + 1)).map fun (n : Nat) => PyData.int (n : Int))) (.list ((grp M t).map fun (n : Nat) => PyData.int (n : Int))) else PyData.eqv (.list ((grp M (t + 1)).map fun (n : Nat) => PyData.int (n : Int))) (.list ((grp M t).map fun (n : Nat) => PyData.int (n : Int)))) = !decide (grp M (t + 1) = grp M t) := by
    rw [if_pos rfl, ← eqv_nats]
    simp only [PyData.eqv]
  rw [eq]
  by_cases he : grp M (t + 1) = grp M t
  · rw [decide_eq_true he]
    refine iteF ?_
    have hst : Fm.Stable (mcOf M) t := Fm.mr_stable ok fun k hk => by
      have hk' : k < M.length := hk
      have z := congrArg (fun l => l.getD k 0) he
      have z' : (grp M (t + 1)).getD k 0 = (grp M t).getD k 0 := z
      rw [grp_get hk', grp_get hk'] at z'
      exact z'.symm
    have eend : grp M t = grp M M.length := by
      unfold grp
      exact List.map_congr_left fun k hk => Fm.mr_end ok (List.mem_range.mp hk) hst
    refine ⟨_, rfl, q ga H3 s3 hga ?_⟩
    rw [← eend]; exact ega
  · rw [decide_eq_false he]
    refine iteT ?_
    have hlt : Fm.cnt (mcOf M) t < Fm.cnt (mcOf M) (t + 1) := by
      refine Classical.byContradiction fun z => he ?_
      unfold grp
      refine List.map_congr_left fun k hk => ?_
      refine Classical.byContradiction fun y => z (Fm.mr_unstable (List.mem_range.mp hk) (fun e => y e.symm))
    have hle : Fm.cnt (mcOf M) (t + 1) ≤ M.length := Fm.cnt_le (m := mcOf M) (t + 1)
    refine ⟨fun σ' H' => ∃ ga fa, σ' = [some (.ref c), some (.ref ga), some (.ref fa)] ∧ Same H H' ∧ H ga = Option.none ∧ H' ga = some (.lst (nV (grp M (t + 1)))) ∧ H fa = Option.none ∧ H' fa = some (.lst (nV (grp M (t + 2)))), ?_, ?_⟩
    · rintro σ' H' ⟨ga', fa', rfl, a1, a2, a3, a4, a5⟩
      exact ⟨M.length - Fm.cnt (mcOf M) (t + 1), by omega, t + 1, ga', fa', rfl, a1, a2, a3, a4, a5, rfl⟩
    · refine ⟨_, rfl, _, rfl, _, rfl, c, sa, ra, ya, fa, ps, S, W, M, grp M (t + 1), rfl, hF.same s3, hG, efa, grp_len M _, fun f1 H4 s4 hf1 e4 => ?_⟩
      rw [finer_grp hG] at e4
      exact ⟨fa, f1, rfl, s3.trans s4, hfa, s4 _ _ efa, s3.free hf1, e4⟩

/-! #### _law_far_round -/
/-- a table of numbers, by a function -/
def tabL (n : Nat) (F : Nat → Nat → Nat) (a : Nat) : List Nat := (List.range n).map (F a)
theorem tabL_len (n : Nat) (F : Nat → Nat → Nat) (a : Nat) : (tabL n F a).length = n := by simp [tabL]
theorem tabL_get {n : Nat} {F : Nat → Nat → Nat} {a b : Nat} (h : b < n) : (tabL n F a)[b]? = some (F a b) := by
  unfold tabL
  rw [List.getElem?_map, List.getElem?_range h]; rfl
def LineAt (n : Nat) (F : Nat → Nat → Nat) (H : Hp) (p : Addr) (a : Nat) : Prop := H p = some (.lst (nV (tabL n F a)))
def TabAt (n : Nat) (F : Nat → Nat → Nat) (H : Hp) (f : Addr) (ps : List Addr) : Prop := H f = some (.lst (ps.map V.ref)) ∧ Z (LineAt n F H) ps (List.range n)
theorem TabAt.same {n : Nat} {F : Nat → Nat → Nat} {H H' : Hp} {f : Addr} {ps : List Addr} (s : Same H H') (h : TabAt n F H f ps) : TabAt n F H' f ps := ⟨s _ _ h.1, h.2.mono fun _ _ z => s _ _ z⟩
theorem TabAt.line {n : Nat} {F : Nat → Nat → Nat} {H : Hp} {f : Addr} {ps : List Addr} (h : TabAt n F H f ps) {a : Nat} (ha : a < n) : ∃ p, atI (ps.map V.ref) (a : Int) = some (.ref p) ∧ H p = some (.lst (nV (tabL n F a))) := by
  obtain ⟨p, hp, hl⟩ := h.2.at (List.getElem?_range ha)
  exact ⟨p, atI_nat (by rw [List.getElem?_map, hp]; rfl), hl⟩
theorem nV_get {xs : List Nat} {i x : Nat} (h : xs[i]? = some x) : atI (nV xs) (i : Int) = some (.int (x : Int)) := atI_nat (by unfold nV; rw [List.getElem?_map, h]; rfl)
theorem nV_set (xs : List Nat) (i x : Nat) : (nV xs).set i (.int (x : Int)) = nV (xs.set i x) := by unfold nV; rw [List.map_set]
theorem ixN_of {n : Nat} {i : Int} {j : Nat} (e : i = (j : Int)) (h : j < n) : ixN n i = some j := by
  subst e
  unfold ixN
  rw [if_pos (by omega), if_pos (by omega), Int.toNat_natCast]
/-- the rows at an address -/
structure RowsIs (H : Hp) (r : Addr) (ps : List Addr) (M : Mach) : Prop where
  hr : H r = some (.lst (ps.map V.ref))
  hm : RowsAt H ps M
theorem RowsIs.same {H H' : Hp} {r : Addr} {ps : List Addr} {M : Mach} (s : Same H H') (h : RowsIs H r ps M) : RowsIs H' r ps M := ⟨s _ _ h.hr, h.hm.same s⟩
theorem RowsIs.ent {H : Hp} {r : Addr} {ps : List Addr} {M : Mach} (h : RowsIs H r ps M) (G : GoodM M) {a e : Nat} (ha : a < M.length) (he : e < 4) :
    ∃ p vs v, atI (ps.map V.ref) (a : Int) = some (.ref p) ∧ H p = some (.lst vs) ∧ atI vs (e : Int) = some v ∧ EntAt H v (entAt M a e) := by
  obtain ⟨row, er, _, ee, _⟩ := entAt_get G ha he
  obtain ⟨p, hp, vs, hv, hE⟩ := h.hm.at er
  obtain ⟨v, hv2, hv3⟩ := hE.at ee
  exact ⟨p, vs, v, atI_nat (by rw [List.getElem?_map, hp]; rfl), hv, atI_nat hv2, hv3⟩
def fcond (m : Fm.Mc) (t a b e : Nat) : Bool := if t = 0 then decide (m.dd a e ≠ m.dd b e) else decide (Fm.far m t (m.nx a e) (m.nx b e) = t)
def fcur (m : Fm.Mc) (t a b e : Nat) : Nat := if Fm.far m t a b ≠ 0 then Fm.far m t a b else if (List.range e).any (fcond m t a b) = true then t + 1 else 0
theorem fcur_zero (m : Fm.Mc) (t a b : Nat) : fcur m t a b 0 = Fm.far m t a b := by
  unfold fcur
  by_cases h : Fm.far m t a b ≠ 0
  · rw [if_pos h]
  · rw [if_neg h]
    have : Fm.far m t a b = 0 := by omega
    rw [this]; rfl
theorem fcur_four (m : Fm.Mc) (t a b : Nat) : fcur m t a b 4 = Fm.far m (t + 1) a b := by
  unfold fcur
  rw [Fm.far]
  have e : (List.range 4).any (fcond m t a b) = (if t = 0 then (List.range 4).any fun e => decide (m.dd a e ≠ m.dd b e) else (List.range 4).any fun e => decide (Fm.far m t (m.nx a e) (m.nx b e) = t)) := by
    by_cases h : t = 0
    · rw [if_pos h]
      unfold fcond
      simp only [if_pos h]
    · rw [if_neg h]
      unfold fcond
      simp only [if_neg h]
  rw [e]
theorem fcur_succ_nz {m : Fm.Mc} {t a b e : Nat} (h : fcur m t a b e ≠ 0) : fcur m t a b (e + 1) = fcur m t a b e := by
  unfold fcur at h ⊢
  by_cases hf : Fm.far m t a b ≠ 0
  · rw [if_pos hf, if_pos hf]
  · rw [if_neg hf] at h
    rw [if_neg hf, if_neg hf]
    by_cases hy : (List.range e).any (fcond m t a b) = true
    · rw [if_pos hy, List.range_succ, List.any_append, hy, Bool.true_or, if_pos rfl]
    · rw [if_neg hy] at h
      exact absurd rfl h
theorem fcur_succ_z {m : Fm.Mc} {t a b e : Nat} (h : fcur m t a b e = 0) : fcur m t a b (e + 1) = if fcond m t a b e = true then t + 1 else 0 := by
  unfold fcur at h ⊢
  by_cases hf : Fm.far m t a b ≠ 0
  · rw [if_pos hf] at h
    exact absurd h hf
  · rw [if_neg hf] at h
    rw [if_neg hf]
    by_cases hy : (List.range e).any (fcond m t a b) = true
    · rw [if_pos hy] at h
      omega
    · have hy' : (List.range e).any (fcond m t a b) = false := by cases z : (List.range e).any (fcond m t a b) with | true => exact absurd z hy | false => rfl
      rw [List.range_succ, List.any_append, hy', Bool.false_or, List.any_cons, List.any_nil, Bool.or_false]
theorem eqv_ints : ∀ a b : List Int, PyData.eqvAll (a.map PyData.int) (b.map PyData.int) = decide (a = b)
  | [], [] => rfl
  | [], _ :: _ => rfl
  | _ :: _, [] => rfl
  | x :: a, y :: b => by
    simp only [List.map_cons, PyData.eqvAll, PyData.eqv, eqv_ints a b]
    by_cases h : x = y
    · subst h
      by_cases h2 : a = b
      · simp [h2]
      · simp [h2]
    · simp [h]
def spRound : Sp := fun vs H Q _ => ∃ (r f : Addr) (ps fs : List Addr) (M : Mach) (t : Nat), vs = [.ref r, .ref f, .int ((t + 1 : Nat) : Int)] ∧ RowsIs H r ps M ∧ GoodM M ∧ TabAt M.length (Fm.far (mcOf M) t) H f fs ∧ t ≤ 100 ∧
  ∀ (g : Addr) (gs : List Addr) (H' : Hp), Same H H' → TabAt M.length (Fm.far (mcOf M) (t + 1)) H' g gs → Q (.ref g) H'
theorem scRound : FnScope ["rows", "far", "turn", "found", "a", "line", "b", "event", "mine", "theirs"] ["rows", "far", "turn"] (defScope sRound) := ⟨rfl, rfl, rfl, by decide +kernel, rfl, by decide +kernel, by decide +kernel⟩
theorem ok_round {f C : Addr} {fd : FuncData} (D : DefAt K mg "_law_far_round" sRound ["rows", "far", "turn"] f fd) (T : FTxt K mg C) : FnOk P w K mg base CX0 1 f fd ["rows", "far", "turn"] spRound := by
  refine D.fn.ok scRound (fun vs H Q E h => ?_) (fun cdv A outer s H vs Q E hr h => ?_)
  · obtain ⟨r, f, ps, fs, M, t, rfl, _⟩ := h
    rfl
  obtain ⟨r, fa, ps, fs, M, t, rfl, hR, hG, hT, ht, q⟩ := h
  refine ⟨_, pss_cons (ps_set (i := 3) scRound.nd rfl (Or.inl rfl) (pe_lst pa_nil))
    (pss_cons (ps_for PassesOwn.never rfl (pi_range1 rfl T.range (pa_cons (pe_callB call_len_seq (by rfl) T.len PySem.boot_len (pa_cons (pv 0) pa_nil)) pa_nil)) (pg_name (i := 4) scRound.nd rfl (Or.inl rfl))
      (pss_cons (ps_set (i := 5) scRound.nd rfl (Or.inl rfl) (pe_callTy call_list_of (by rfl) T.list (by decide +kernel) (pa_cons (pe_ix ix_list (pv 1) (pv 4) (fun _ _ => rfl)) pa_nil)))
      (pss_cons (ps_for PassesOwn.never rfl (pi_range1 rfl T.range (pa_cons (pe_callB call_len_seq (by rfl) T.len PySem.boot_len (pa_cons (pv 0) pa_nil)) pa_nil)) (pg_name (i := 6) scRound.nd rfl (Or.inl rfl))
        (pss_one (ps_for PassesOwn.never rfl (pi_range1 rfl T.range (pa_cons pe_int pa_nil)) (pg_name (i := 7) scRound.nd rfl (Or.inl rfl))
          (pss_cons (ps_set (i := 8) scRound.nd rfl (Or.inl rfl) (pe_ix ix_list (pe_ix ix_list (pv 0) (pv 4) (fun _ _ => rfl)) (pv 7) (fun _ _ => rfl)))
          (pss_cons (ps_set (i := 9) scRound.nd rfl (Or.inl rfl) (pe_ix ix_list (pe_ix ix_list (pv 0) (pv 6) (fun _ _ => rfl)) (pv 7) (fun _ _ => rfl)))
          (pss_cons (ps_if (PW.pt (pw_and (pt_cmpR op_eq (pe_ix ix_list (pv 5) (pv 6) (fun _ _ => rfl)) pe_int (nomark _)) (pw_and (pt_cmpR op_eq (pv 2) pe_int (nomark _)) (pw_and1 (pt_cmpR (op_neD hr.units) (pe_ix ix_tup (pv 8) pe_int (fun _ _ => rfl)) (pe_ix ix_tup (pv 9) pe_int (fun _ _ => rfl)) (nomark _))))))
            (pss_one (ps_asg pe_int (pg_sub (pv 5) (pv 6) set_list))) pss_nil)
          (pss_one (ps_if (PW.pt (pw_and (pt_cmpR op_eq (pe_ix ix_list (pv 5) (pv 6) (fun _ _ => rfl)) pe_int (nomark _)) (pw_and (pt_cmpR op_gt (pv 2) pe_int (nomark _)) (pw_and1 (pt_cmpR op_eq (pe_ix ix_list (pe_ix ix_list (pv 1) (pe_ix ix_tup (pv 8) pe_int (fun _ _ => rfl)) (fun _ _ => rfl)) (pe_ix ix_tup (pv 9) pe_int (fun _ _ => rfl)) (fun _ _ => rfl)) (pe_op op_sub (pv 2) pe_int) (nomark _))))))
            (pss_one (ps_asg (pv 2) (pg_sub (pv 5) (pv 6) set_list))) pss_nil)))))))
      )
      (pss_one (ps_expr (pe_bm PySem.F.plainAttrs_list PySem.F.slot_list_append PySem.F.type_list_append mt_append (pv 3) (pa_cons (pv 5) pa_nil)))))))
    (pss_one (ps_ret (pv 3)))), ?_⟩
  have hpl : (ps.map V.ref).length = M.length := by rw [List.length_map, hR.hm.1]
  have hm30 := hG.most
  have ok := mc_ok hG
  refine ⟨(by show 0 ≤ sizeLine; decide), fun fo hfo => ?_⟩
  have s1 := same_new hfo (.lst [])
  refine ⟨_, rfl, r, _, rfl, .inl (SqL.of (s1 _ _ hR.hr)), _, rfl, by rw [hpl]; omega, by rw [hpl]; omega, ?_⟩
  rw [hpl]
  have em : ((M.length : Int)).toNat = M.length := by omega
  rw [em]
  refine for_range (fun a σ H1 => ∃ v4 v5 v6 v7 v8 v9 gs, σ = [some (.ref r), some (.ref fa), some (.int ((t + 1 : Nat) : Int)), some (.ref fo), v4, v5, v6, v7, v8, v9] ∧ Same H H1 ∧ H1 fo = some (.lst (gs.map V.ref)) ∧ Z (LineAt M.length (Fm.far (mcOf M) (t + 1)) H1) gs (List.range a) ∧ ∀ p ∈ gs, p ≠ fo)
    ⟨_, _, _, _, _, _, [], rfl, s1, upd_same, Z.nil, fun p hp => by simp at hp⟩ ?_ ?_
  · rintro a σ H1 ha ⟨v4, v5, v6, v7, v8, v9, gs, rfl, s2, e2, hZ, hgs⟩
    have ea : (0 : Int) + (a : Int) = (a : Int) := by omega
    rw [ea]
    obtain ⟨pl, hpl1, hpl2⟩ := (hT.same s2).line ha
    -- line = list(far[a])
    refine ⟨_, rfl, _, rfl, fa, _, _, _, rfl, rfl, SqL.of (s2 _ _ hT.1), hpl1, pl, _, rfl, .inl (SqL.of hpl2), fun ln hln => ?_⟩
    have s3 := same_new hln (.lst (nV (tabL M.length (Fm.far (mcOf M) t) a)))
    have nfl : fo ≠ ln := ne_of_none e2 hln
    have hln0 : H ln = Option.none := s2.free hln
    refine ⟨_, rfl, r, _, rfl, .inl (SqL.of ((s2.trans s3) _ _ hR.hr)), _, rfl, by rw [hpl]; omega, by rw [hpl]; omega, ?_⟩
    rw [hpl, em]
    refine for_range (fun b σ H2 => ∃ v6 v7 v8 v9 L, σ = [some (.ref r), some (.ref fa), some (.int ((t + 1 : Nat) : Int)), some (.ref fo), some (.int (a : Int)), some (.ref ln), v6, v7, v8, v9] ∧ Same H1 H2 ∧ H2 ln = some (.lst (nV L)) ∧ L.length = M.length ∧ ∀ j, j < M.length → L[j]? = some (if j < b then Fm.far (mcOf M) (t + 1) a j else Fm.far (mcOf M) t a j))
      ⟨_, _, _, _, tabL M.length (Fm.far (mcOf M) t) a, rfl, s3, upd_same, tabL_len _ _ _, fun j hj => by rw [if_neg (by omega)]; exact tabL_get hj⟩ ?_ ?_
    · rintro b σ H2 hb ⟨v6, v7, v8, v9, L, rfl, s4, e4, hL, hLj⟩
      have eb : (0 : Int) + (b : Int) = (b : Int) := by omega
      rw [eb]
      refine ⟨_, rfl, by decide, by decide, ?_⟩
      refine for_range (n := 4) (fun e σ H3 => ∃ v7 v8 v9 L, σ = [some (.ref r), some (.ref fa), some (.int ((t + 1 : Nat) : Int)), some (.ref fo), some (.int (a : Int)), some (.ref ln), some (.int (b : Int)), v7, v8, v9] ∧ Same H1 H3 ∧ H3 ln = some (.lst (nV L)) ∧ L.length = M.length ∧ ∀ j, j < M.length → L[j]? = some (if j < b then Fm.far (mcOf M) (t + 1) a j else if j = b then fcur (mcOf M) t a b e else Fm.far (mcOf M) t a j))
        ⟨_, _, _, L, rfl, s4, e4, hL, fun j hj => by
          rw [hLj j hj]
          by_cases h1 : j < b
          · rw [if_pos h1, if_pos h1]
          · rw [if_neg h1, if_neg h1]
            by_cases h2 : j = b
            · rw [if_pos h2, fcur_zero, h2]
            · rw [if_neg h2]⟩ ?_ ?_
      · rintro e σ H3 he ⟨v7, v8, v9, L, rfl, s5, e5, hL, hLj⟩
        have ee : (0 : Int) + (e : Int) = (e : Int) := by omega
        rw [ee]
        have he4 : e < 4 := he
        have s05 := s2.trans s5
        have hR5 := hR.same s05
        obtain ⟨p1, vs1, x1, a1, a2, a3, t1, u1, rfl, a5, a6⟩ := hR5.ent hG ha he4
        obtain ⟨p2, vs2, x2, b1, b2, b3, t2, u2, rfl, b5, b6⟩ := hR5.ent hG hb he4
        refine ⟨_, rfl, _, rfl, r, _, _, _, rfl, rfl, SqL.of hR5.hr, a1, _, rfl, p1, _, _, _, rfl, rfl, SqL.of a2, a3, ?_⟩
        refine ⟨_, rfl, _, rfl, r, _, _, _, rfl, rfl, SqL.of hR5.hr, b1, _, rfl, p2, _, _, _, rfl, rfl, SqL.of b2, b3, ?_⟩
        -- line[b]
        have hLb : L[b]? = some (fcur (mcOf M) t a b e) := by rw [hLj b hb, if_neg (by omega), if_pos rfl]
        have gLb : atI (nV L) (b : Int) = some (.int ((fcur (mcOf M) t a b e : Nat) : Int)) := nV_get hLb
        have hbl : b < (nV L).length := by rw [nV_len]; omega
        -- the end of a turn where nothing is stored
        have keep : fcur (mcOf M) t a b (e + 1) = fcur (mcOf M) t a b e → ∃ v7 v8 v9 L, [some (V.ref r), some (.ref fa), some (.int ((t + 1 : Nat) : Int)), some (.ref fo), some (.int (a : Int)), some (.ref ln), some (.int (b : Int)), some (.int (e : Int)), some (.ref t1), some (.ref t2)] = [some (V.ref r), some (.ref fa), some (.int ((t + 1 : Nat) : Int)), some (.ref fo), some (.int (a : Int)), some (.ref ln), some (.int (b : Int)), v7, v8, v9] ∧ Same H1 H3 ∧ H3 ln = some (.lst (nV L)) ∧ L.length = M.length ∧ ∀ j, j < M.length → L[j]? = some (if j < b then Fm.far (mcOf M) (t + 1) a j else if j = b then fcur (mcOf M) t a b (e + 1) else Fm.far (mcOf M) t a j) :=
          fun z => ⟨_, _, _, L, rfl, s5, e5, hL, by rw [z]; exact hLj⟩
        have store : fcur (mcOf M) t a b (e + 1) = t + 1 → ∃ v7 v8 v9 L', [some (V.ref r), some (.ref fa), some (.int ((t + 1 : Nat) : Int)), some (.ref fo), some (.int (a : Int)), some (.ref ln), some (.int (b : Int)), some (.int (e : Int)), some (.ref t1), some (.ref t2)] = [some (V.ref r), some (.ref fa), some (.int ((t + 1 : Nat) : Int)), some (.ref fo), some (.int (a : Int)), some (.ref ln), some (.int (b : Int)), v7, v8, v9] ∧ Same H1 (upd H3 ln (.lst ((nV L).set b (.int ((t + 1 : Nat) : Int))))) ∧ (upd H3 ln (.lst ((nV L).set b (.int ((t + 1 : Nat) : Int))))) ln = some (.lst (nV L')) ∧ L'.length = M.length ∧ ∀ j, j < M.length → L'[j]? = some (if j < b then Fm.far (mcOf M) (t + 1) a j else if j = b then fcur (mcOf M) t a b (e + 1) else Fm.far (mcOf M) t a j) :=
          fun z => ⟨_, _, _, L.set b (t + 1), rfl, fun x o ex => by rw [upd_ne (ne_of_none ex hln)]; exact s5 _ _ ex, by rw [upd_same, nV_set], by rw [List.length_set]; exact hL, fun j hj => by
            by_cases h2 : j = b
            · subst h2
              rw [List.getElem?_set_self (by omega), if_neg (by omega), if_pos rfl, z]
            · rw [List.getElem?_set_ne (fun y => h2 y.symm), hLj j hj, if_neg h2, if_neg h2]⟩
        by_cases hx : fcur (mcOf M) t a b e = 0
        · -- line[b] is 0
          have hs := fcur_succ_z hx
          have z0 : decide (V.int ((fcur (mcOf M) t a b e : Nat) : Int) = V.int 0) = true := decide_eq_true (by rw [hx]; rfl)
          refine ⟨_, rfl, _, rfl, ln, _, _, _, rfl, rfl, SqL.of e5, gLb, rfl, _, rfl, ?_⟩
          rw [z0]
          refine iteT ?_
          refine ⟨_, rfl, rfl, _, rfl, ?_⟩
          by_cases t0 : t = 0
          · rw [decide_eq_true (show V.int ((t + 1 : Nat) : Int) = V.int 1 by rw [t0]; rfl)]
            refine iteT ?_
            have sh1 := shape_tuple (shape_ints (entAt M a e).2)
            have sh2 := shape_tuple (shape_ints (entAt M b e).2)
            refine ⟨_, rfl, t1, _, _, _, rfl, rfl, SqT.of a5, rfl, _, rfl, t2, _, _, _, rfl, rfl, SqT.of b5, rfl, _, _, a6.rd, b6.rd, shaped_of sh1 (by decide), shaped_of sh2 (by decide), _, rfl, ?_⟩
            have eq : (if (true : Bool) = true then !PyData.eqv (.tuple ((entAt M a e).2.map PyData.int)) (.tuple ((entAt M b e).2.map PyData.int)) else PyData.eqv (.tuple ((entAt M a e).2.map PyData.int)) (.tuple ((entAt M b e).2.map PyData.int))) = !decide ((entAt M a e).2 = (entAt M b e).2) := by
              rw [if_pos rfl, ← eqv_ints]
              simp only [PyData.eqv]
            rw [eq]
            by_cases hd : (entAt M a e).2 = (entAt M b e).2
            · rw [decide_eq_true hd]
              refine iteF ?_
              have hc : fcond (mcOf M) t a b e = false := by
                unfold fcond
                rw [if_pos t0]
                exact decide_eq_false fun y => y hd
              rw [hc] at hs
              refine ⟨_, rfl, _, rfl, ln, _, _, _, rfl, rfl, SqL.of e5, gLb, rfl, _, rfl, ?_⟩
              rw [z0]
              refine iteT ?_
              refine ⟨_, rfl, _, _, rfl, rfl, _, rfl, ?_⟩
              rw [decide_eq_false (show ¬ (1 : Int) < ((t + 1 : Nat) : Int) by omega)]
              refine iteF ?_
              refine iteF ?_
              exact keep (by rw [hs, hx]; rfl)
            · rw [decide_eq_false hd]
              refine iteT ?_
              have hc : fcond (mcOf M) t a b e = true := by
                unfold fcond
                rw [if_pos t0]
                exact decide_eq_true hd
              rw [hc, if_pos rfl] at hs
              refine ⟨_, rfl, _, rfl, ln, _, _, b, rfl, rfl, e5, ixN_of rfl hbl, ?_⟩
              have st := store hs
              have e1 : V.int ((t + 1 : Nat) : Int) = V.int 1 := by rw [t0]; rfl
              have g1 : atI ((nV L).set b (.int 1)) (b : Int) = some (.int 1) := atI_nat (List.getElem?_set_self hbl)
              refine ⟨_, rfl, _, rfl, ln, _, _, _, rfl, rfl, SqL.of upd_same, g1, rfl, _, rfl, ?_⟩
              refine iteF ?_
              refine iteF ?_
              rw [e1] at st
              rw [e1]
              exact st
          · rw [decide_eq_false (show ¬ V.int ((t + 1 : Nat) : Int) = V.int 1 from fun y => by injection y with y; omega)]
            refine iteF ?_
            refine iteF ?_
            refine ⟨_, rfl, _, rfl, ln, _, _, _, rfl, rfl, SqL.of e5, gLb, rfl, _, rfl, ?_⟩
            rw [z0]
            refine iteT ?_
            refine ⟨_, rfl, _, _, rfl, rfl, _, rfl, ?_⟩
            rw [decide_eq_true (show (1 : Int) < ((t + 1 : Nat) : Int) by omega)]
            refine iteT ?_
            obtain ⟨_, _, _, _, q1, q2, _⟩ := entAt_get hG ha he4
            obtain ⟨_, _, _, _, q3, q4, _⟩ := entAt_get hG hb he4
            have n1 : (entAt M a e).1 = (((entAt M a e).1.toNat : Nat) : Int) := by omega
            have n2 : (entAt M b e).1 = (((entAt M b e).1.toNat : Nat) : Int) := by omega
            obtain ⟨pq, pq1, pq2⟩ := (hT.same s05).line (show (entAt M a e).1.toNat < M.length by omega)
            rw [← n1] at pq1
            have gq : atI (nV (tabL M.length (Fm.far (mcOf M) t) (entAt M a e).1.toNat)) (entAt M b e).1 = some (.int ((Fm.far (mcOf M) t (entAt M a e).1.toNat (entAt M b e).1.toNat : Nat) : Int)) := by
              have := nV_get (tabL_get (n := M.length) (F := Fm.far (mcOf M) t) (a := (entAt M a e).1.toNat) (b := (entAt M b e).1.toNat) (by omega))
              rw [← n2] at this
              exact this
            refine ⟨_, rfl, _, rfl, t1, _, _, _, rfl, rfl, SqT.of a5, rfl, fa, _, _, _, rfl, rfl, SqL.of (s05 _ _ hT.1), pq1, _, rfl, t2, _, _, _, rfl, rfl, SqT.of b5, rfl, pq, _, _, _, rfl, rfl, SqL.of pq2, gq, _, rfl, _, _, rfl, rfl, rfl, _, rfl, ?_⟩
            have ec : decide (V.int ((Fm.far (mcOf M) t (entAt M a e).1.toNat (entAt M b e).1.toNat : Nat) : Int) = V.int (((t + 1 : Nat) : Int) - 1)) = fcond (mcOf M) t a b e := by
              unfold fcond
              rw [if_neg t0]
              refine decide_eq_decide.mpr ⟨fun y => ?_, fun y => ?_⟩
              · injection y with y
                show Fm.far (mcOf M) t (entAt M a e).1.toNat (entAt M b e).1.toNat = t
                omega
              · have y' : Fm.far (mcOf M) t (entAt M a e).1.toNat (entAt M b e).1.toNat = t := y
                rw [y']
                congr 1
                omega
            show if decide (V.int ((Fm.far (mcOf M) t (entAt M a e).1.toNat (entAt M b e).1.toNat : Nat) : Int) = V.int (((t + 1 : Nat) : Int) - 1)) = true then _ else _
            rw [ec]
            cases hc : fcond (mcOf M) t a b e with
            | false =>
              rw [hc] at hs
              refine iteF ?_
              exact keep (by rw [hs, hx]; rfl)
            | true =>
              rw [hc, if_pos rfl] at hs
              refine iteT ?_
              exact ⟨_, rfl, _, rfl, _, rfl, ln, _, _, b, rfl, rfl, e5, ixN_of rfl hbl, store hs⟩
        · -- line[b] is set
          have hs := fcur_succ_nz hx
          have z0 : decide (V.int ((fcur (mcOf M) t a b e : Nat) : Int) = V.int 0) = false := decide_eq_false fun y => by injection y with y; omega
          refine ⟨_, rfl, _, rfl, ln, _, _, _, rfl, rfl, SqL.of e5, gLb, rfl, _, rfl, ?_⟩
          rw [z0]
          refine iteF ?_
          refine iteF ?_
          refine ⟨_, rfl, _, rfl, ln, _, _, _, rfl, rfl, SqL.of e5, gLb, rfl, _, rfl, ?_⟩
          rw [z0]
          refine iteF ?_
          refine iteF ?_
          exact keep hs
      · rintro σ H3 ⟨v7, v8, v9, L, rfl, s5, e5, hL, hLj⟩
        refine ⟨_, _, _, _, L, rfl, s5, e5, hL, fun j hj => ?_⟩
        rw [hLj j hj]
        by_cases h1 : j < b
        · rw [if_pos h1, if_pos (by omega)]
        · rw [if_neg h1]
          by_cases h2 : j = b
          · rw [if_pos h2, if_pos (by omega), fcur_four, h2]
          · rw [if_neg h2, if_neg (by omega)]
    · rintro σ H2 ⟨v6, v7, v8, v9, L, rfl, s4, e4, hL, hLj⟩
      have eL : L = tabL M.length (Fm.far (mcOf M) (t + 1)) a := List.ext_getElem? fun j => by
        by_cases hj : j < M.length
        · rw [hLj j hj, if_pos hj, tabL_get hj]
        · rw [List.getElem?_eq_none (by omega), List.getElem?_eq_none (by rw [tabL_len]; omega)]
      rw [eL] at e4
      refine ⟨_, rfl, .inl ⟨rfl, _, SqL.of (s4 _ _ e2)⟩, _, rfl, fo, _, _, rfl, rfl, s4 _ _ e2, ?_, ?_⟩
      · rw [List.length_map, hZ.1, List.length_range]; exact small1000 (by omega)
      have kp : Keeps fo H2 (upd H2 fo (.lst (gs.map V.ref ++ [.ref ln]))) := fun x o ex n => by rw [upd_ne n]; exact ex
      refine ⟨_, _, _, _, _, _, gs ++ [ln], rfl, fun x o ex => kp x o (s4 _ _ (s2 _ _ ex)) (ne_of_none ex hfo), ?_, ?_, fun p hp => ?_⟩
      · rw [upd_same, List.map_append]; rfl
      · rw [List.range_succ]
        refine Z.snoc (hZ.monoM fun p x hp z => kp _ _ (s4 _ _ z) (hgs p hp)) ?_
        exact kp _ _ e4 nfl.symm
      · rcases List.mem_append.mp hp with z | z
        · exact hgs p z
        · have z' : p = ln := by simpa using z
          subst z'
          exact nfl.symm
  · rintro σ H1 ⟨v4, v5, v6, v7, v8, v9, gs, rfl, s2, e2, hZ, hgs⟩
    exact ⟨_, rfl, q fo gs H1 s2 ⟨e2, hZ⟩⟩

/-! #### _law_far -/
theorem no_free {sc : Scope} {ks : List (Str × NameKind)} (h : (sc.names.all fun p => decide (p.2 ≠ .free)) = true) : ∀ p ∈ sc.names, p.2 = .free → ks.lookup p.1 = some .cell := fun p hp hf =>
  absurd hf (of_decide_eq_true (List.all_eq_true.mp h p hp))
theorem far0 (m : Fm.Mc) (n a : Nat) : tabL n (Fm.far m 0) a = List.replicate n 0 := by
  refine List.ext_getElem? fun i => ?_
  rw [List.getElem?_replicate]
  by_cases h : i < n
  · rw [tabL_get h, if_pos h]; rfl
  · rw [List.getElem?_eq_none (by rw [tabL_len]; omega), if_neg h]
def tabD (n : Nat) (F : Nat → Nat → Nat) : PyData := .list ((List.range n).map fun a => PyData.list ((tabL n F a).map fun (x : Nat) => PyData.int (x : Int)))
theorem TabAt.rd {K : PySem.W.Frag} {n : Nat} {F : Nat → Nat → Nat} {H : Hp} {f : Addr} {ps : List Addr} (h : TabAt n F H f ps) : RdV K H (.ref f) (tabD n F) := by
  refine .lst (SqL.of h.1) (z_rd (R := fun v a => ∃ p, v = V.ref p ∧ LineAt n F H p a) (g := fun a => PyData.list ((tabL n F a).map fun (x : Nat) => PyData.int (x : Int))) (fun v b z => ?_) ⟨by simp [h.2.1], fun i x y a b => ?_⟩)
  · obtain ⟨p, rfl, z⟩ := z
    exact nats_rd z
  · rw [List.getElem?_map] at a
    cases q : ps[i]? with
    | none => rw [q] at a; simp at a
    | some p =>
      rw [q] at a
      exact ⟨p, by simpa using a.symm, h.2.2 i p y q b⟩
theorem tab_shape (n : Nat) (F : Nat → Nat → Nat) : shape 2 (tabD n F) := shape_list (shapes_map (List.range n) fun a _ => nats_shape (tabL n F a))
theorem eqv_map {α : Type} {f g : α → PyData} : ∀ l : List α, PyData.eqvAll (l.map f) (l.map g) = l.all fun x => PyData.eqv (f x) (g x)
  | [] => rfl
  | x :: l => by simp only [List.map_cons, PyData.eqvAll, List.all_cons, eqv_map l]
theorem tab_eqv (n : Nat) (F G : Nat → Nat → Nat) : PyData.eqv (tabD n F) (tabD n G) = true ↔ ∀ a b, a < n → b < n → F a b = G a b := by
  unfold tabD
  simp only [PyData.eqv]
  rw [eqv_map, List.all_eq_true]
  simp only [PyData.eqv, eqv_nats, decide_eq_true_eq]
  constructor
  · intro h a b ha hb
    have z := congrArg (fun l => l[b]?) (h a (List.mem_range.mpr ha))
    have z' : (tabL n F a)[b]? = (tabL n G a)[b]? := z
    rw [tabL_get hb, tabL_get hb] at z'
    exact Option.some.inj z'
  · intro h a ha
    unfold tabL
    exact List.map_congr_left fun b hb => h a b (List.mem_range.mp ha) (List.mem_range.mp hb)
def spFar : Sp := fun vs H Q _ => ∃ (r : Addr) (ps : List Addr) (M : Mach), vs = [.ref r] ∧ RowsIs H r ps M ∧ GoodM M ∧
  ∀ (t : Nat) (g : Addr) (gs : List Addr) (H' : Hp), Same H H' → Fm.Stable (mcOf M) t → TabAt M.length (Fm.far (mcOf M) t) H' g gs → Q (.ref g) H'
theorem scFar : FnScope ["rows", "far", "turn", "turned"] ["rows"] (defScope sFar) := ⟨rfl, rfl, rfl, by decide +kernel, rfl, by decide +kernel, by decide +kernel⟩
theorem ok_far {f C fr : Addr} {fd fdr : FuncData} (D : DefAt K mg "_law_far" sFar ["rows"] f fd) (T : FTxt K mg C) (Dr : DefAt K mg "_law_far_round" sRound ["rows", "far", "turn"] fr fdr) : FnOk P w K mg base CX0 2 f fd ["rows"] spFar := by
  have Gr : FnOk P w K mg base CX0 1 fr fdr ["rows", "far", "turn"] spRound := ok_round Dr T
  refine D.fn.ok scFar (fun vs H Q E h => ?_) (fun cdv A outer s H vs Q E hr h => ?_)
  · obtain ⟨r, ps, M, rfl, _⟩ := h
    rfl
  obtain ⟨r, ps, M, rfl, hR, hG, q⟩ := h
  refine ⟨_, pss_cons (ps_comp (i := 1) ["a", "rows"] [Option.none, some 0] rfl scFar.nd rfl rfl (pi_list (pv 0)) (fun _ => pg_name (i := 0) (show (["a", "rows"] : List Str).Nodup by decide +kernel) rfl (Or.inl rfl)) (fun _ => pts_nil)
      (fun _ => pe_comp ["b"] [Option.none] rfl (pi_list (pv 1)) (fun _ => pg_name (i := 0) (show (["b"] : List Str).Nodup by decide +kernel) rfl (Or.inl rfl)) (fun _ => pts_nil) (fun _ => pe_int)
        (N := ["a", "rows"]) rfl rfl (no_free (by decide +kernel)) (by decide +kernel) (by decide +kernel) (by decide +kernel))
      (N := ["rows", "far", "turn", "turned"]) (ks := (defScope sFar).names) rfl rfl (by decide +kernel) (by decide +kernel) (by decide +kernel) (by decide +kernel))
    (pss_cons (ps_for PassesOwn.never rfl (pi_range2 rfl T.range (pa_cons pe_int (pa_cons (pe_op op_add (pe_callB call_len_seq (by rfl) T.len PySem.boot_len (pa_cons (pv 0) pa_nil)) pe_int) pa_nil))) (pg_name (i := 2) scFar.nd rfl (Or.inl rfl))
      (pss_cons (ps_set (i := 3) scFar.nd rfl (Or.inl rfl) (pe_call Gr hr rfl Dr.mg Dr.fn.kp Dr.bd .nil pass0 (pa_cons (pv 0) (pa_cons (pv 1) (pa_cons (pv 2) pa_nil)))))
      (pss_cons (ps_if (pt_cmpR (op_eqD hr.units) (pv 3) (pv 1) (nomark _)) (pss_one (ps_ret (pv 1))) pss_nil)
      (pss_one (ps_set (i := 1) scFar.nd rfl (Or.inl rfl) (pv 3))))))
    (pss_one (ps_ret (pv 1)))), ?_⟩
  have hpl : (ps.map V.ref).length = M.length := by rw [List.length_map, hR.hm.1]
  have hm30 := hG.most
  have hm0 := hG.pos
  have ok := mc_ok hG
  -- far = [[0 ..] ..]
  refine ⟨_, rfl, r, rfl, ⟨_, SqL.of hR.hr⟩, fun bk D1 hD1 => ?_⟩
  refine comp_listA (K := K) (xs := ps.map V.ref) (Pv := fun i ys σ H' => ∃ v gs, σ = [v, some (.ref r)] ∧ ys = gs.map V.ref ∧ Same H H' ∧ Z (LineAt M.length (Fm.far (mcOf M) 0) H') gs (List.range i) ∧ ∀ p ∈ gs, p ≠ D1) ⟨_, [], rfl, rfl, same_new hD1 _, Z.nil, fun p hp => by simp at hp⟩ ?_ ?_ ?_
  · rintro i ys σ H' hi hDi ⟨v, gs, rfl, _, (s : Same _ _), _⟩
    exact SqL.of (s _ _ hR.hr)
  · rintro i x ys σ H' hx hDi ⟨v, gs, rfl, rfl, (s : Same _ _), hZ, hgs⟩
    have hi : i < M.length := by
      have z := (List.getElem?_eq_some_iff.mp hx).1
      omega
    refine ⟨_, rfl, r, rfl, ⟨_, SqL.of (s _ _ hR.hr)⟩, fun bk2 D2 hD2 => ?_⟩
    refine comp_listA (K := K) (xs := ps.map V.ref) (Pv := fun j zs σ H2 => ∃ v, σ = [v] ∧ zs = nV (List.replicate j 0) ∧ Same H' H2) ⟨_, rfl, rfl, same_new hD2 _⟩ ?_ ?_ ?_
    · rintro j zs σ H2 hj hDj ⟨v, rfl, _, (s2 : Same _ _)⟩
      exact SqL.of (s2 _ _ (s _ _ hR.hr))
    · rintro j y zs σ H2 hy hDj ⟨v, rfl, hzs, (s2 : Same _ _)⟩
      have hj : j < M.length := by
        have z := (List.getElem?_eq_some_iff.mp hy).1
        omega
      refine ⟨hDj, by rw [hzs, nV_len, List.length_replicate]; exact small1000 (by omega), ⟨_, rfl, ?_, sameUpd s2 hD2 _⟩⟩
      rw [List.replicate_succ', hzs]
      unfold nV
      rw [List.map_append]; rfl
    · rintro zs σ H2 hDn ⟨v, rfl, hzs, (s2 : Same _ _)⟩
      rw [hpl, ← far0 (mcOf M) M.length i] at hzs
      subst hzs
      have n12 : D1 ≠ D2 := ne_of_none hDi hD2
      have kp : Keeps D1 H2 (upd H2 D1 (.lst (gs.map V.ref ++ [.ref D2]))) := fun x o ex n => by rw [upd_ne n]; exact ex
      refine ⟨s2 _ _ hDi, ?_, ⟨_, gs ++ [D2], rfl, by rw [List.map_append]; rfl, sameUpd (s.trans s2) hD1 _, ?_, fun p hp => ?_⟩⟩
      · rw [List.length_map, hZ.1, List.length_range]; exact small1000 (by omega)
      · rw [List.range_succ]
        exact Z.snoc (hZ.monoM fun p x hp z => kp _ _ (s2 _ _ z) (hgs p hp)) (kp _ _ hDn n12.symm)
      · rcases List.mem_append.mp hp with z | z
        · exact hgs p z
        · have z' : p = D2 := by simpa using z
          subst z'
          exact n12.symm
  rintro ys σ H1 hDn ⟨v, gs, rfl, rfl, (s1 : Same _ _), hZ, _⟩
  rw [hpl] at hZ
  -- the turns
  refine ⟨_, rfl, r, _, rfl, .inl (SqL.of (s1 _ _ hR.hr)), _, _, rfl, rfl, 1, (M.length : Int) + 1, by rw [hpl], ⟨by decide, by decide, by omega, by omega⟩, ?_⟩
  have em : ((M.length : Int) + 1 - 1).toNat = M.length := by omega
  rw [em]
  refine for_range (fun i σ H2 => ∃ v2 v3 fa fs, σ = [some (.ref r), some (.ref fa), v2, v3] ∧ Same H H2 ∧ TabAt M.length (Fm.far (mcOf M) i) H2 fa fs) ⟨_, _, D1, gs, rfl, s1, hDn, hZ⟩ ?_ ?_
  · rintro i σ H2 hi ⟨v2, v3, fa, fs, rfl, s2, hT⟩
    have ek : (1 : Int) + (i : Int) = ((i + 1 : Nat) : Int) := by omega
    rw [ek]
    refine ⟨_, rfl, _, rfl, _, rfl, r, fa, ps, fs, M, i, rfl, hR.same s2, hG, hT, by omega, fun g gs' H3 s3 hT3 => ?_⟩
    have sh1 := tab_shape M.length (Fm.far (mcOf M) (i + 1))
    have sh2 := tab_shape M.length (Fm.far (mcOf M) i)
    refine ⟨_, rfl, _, rfl, _, _, hT3.rd, (hT.same s3).rd, shaped_of sh1 (by decide), shaped_of sh2 (by decide), _, rfl, ?_⟩
    show if (PyData.eqv (tabD M.length (Fm.far (mcOf M) (i + 1))) (tabD M.length (Fm.far (mcOf M) i))) = true then _ else _
    refine ite2 (fun z => ?_) (fun z => ?_)
    · have z' := (tab_eqv _ _ _).mp z
      exact ⟨_, rfl, q i fa fs H3 (s2.trans s3) (Fm.far_stop ok fun a b ha hb => (z' a b ha hb).symm) (hT.same s3)⟩
    · exact ⟨_, rfl, _, _, g, gs', rfl, s2.trans s3, hT3⟩
  · rintro σ H2 ⟨v2, v3, fa, fs, rfl, s2, hT⟩
    exact ⟨_, rfl, q M.length fa fs H2 s2 (Fm.stable_n ok) hT⟩

theorem good_set {M : Mach} (G : GoodM M) {i j : Nat} (hj : j < M.length) : GoodM (M.set i (M.getD j [])) := by
  have hm : ∀ r ∈ M.set i (M.getD j []), r ∈ M := fun r hr => by
    rcases List.mem_or_eq_of_mem_set hr with z | z
    · exact z
    · rw [z, List.getD_eq_getElem?_getD, List.getElem?_eq_getElem hj]; exact List.getElem_mem hj
  refine ⟨by rw [List.length_set]; exact G.pos, by rw [List.length_set]; exact G.most, fun r hr => G.four r (hm r hr), fun r hr e he => ?_, fun r hr => G.few r (hm r hr)⟩
  rw [List.length_set]
  exact G.to r (hm r hr) e he
theorem Z.set {α β : Type} {R : α → β → Prop} {xs : List α} {ys : List β} (h : Z R xs ys) (i : Nat) {x : α} {y : β} (r : R x y) : Z R (xs.set i x) (ys.set i y) := by
  refine ⟨by rw [List.length_set, List.length_set]; exact h.1, fun j p q a b => ?_⟩
  by_cases hj : j = i
  · subst hj
    have l1 : j < xs.length := by
      have := (List.getElem?_eq_some_iff.mp a).1
      rw [List.length_set] at this; exact this
    rw [List.getElem?_set_self l1] at a
    rw [List.getElem?_set_self (by rw [← h.1]; exact l1)] at b
    cases a
    cases b
    exact r
  · rw [List.getElem?_set_ne (fun z => hj z.symm)] at a b
    exact h.2 j p q a b
theorem mr_first {M : Mach} (G : GoodM M) {t k : Nat} (hk : k < M.length) : ((List.range M.length).filter fun j => decide (Fm.far (mcOf M) t j k = 0)).head? = some (Fm.mr (mcOf M) t k) := by
  rw [List.head?_filter, List.find?_eq_some_iff_getElem]
  have h1 := Fm.mr_le (m := mcOf M) t k
  refine ⟨decide_eq_true ((Fm.far_zero _ _ _).mpr (Fm.mr_al t k)), Fm.mr (mcOf M) t k, by rw [List.length_range]; omega, by rw [List.getElem_range], fun j hj => ?_⟩
  rw [List.getElem_range]
  have z := Fm.mr_min (m := mcOf M) (t := t) (k := k) hj
  have y : ¬ Fm.far (mcOf M) t j k = 0 := fun y => by rw [(Fm.far_zero _ _ _).mp y] at z; cases z
  rw [decide_eq_false y]; rfl
def m9 (ns : List Int) : Nat := if Rm.cell ns 1 % 16 = 1 then 30 else (1 + Rm.cell ns 0 % 8).toNat
theorem m9_le (ns : List Int) : 0 < m9 ns ∧ m9 ns ≤ 30 := by
  unfold m9
  split <;> omega
theorem small_log {i : Nat} (h : i ≤ 100) : (i : Int).natAbs.log2 < 1920 := by
  have e : (i : Int).natAbs = i := Int.natAbs_natCast i
  rw [e]
  by_cases z : i = 0
  · subst z; decide
  · exact (Nat.log2_lt z).mpr (Nat.lt_of_le_of_lt h (by decide +kernel))
theorem rows_lists {H1 : Hp} {qs : List Addr} {M : Mach} (hR1 : RowsAt H1 qs M) : ∃ vss : List (List V), qs.length = vss.length ∧ ∀ (H' : Hp), Same H1 H' → ∀ (i : Nat) q vs, qs[i]? = some q → vss[i]? = some vs → H' q = some (.lst vs) ∧ ∃ ro, M[i]? = some ro ∧ Z (EntAt H') vs ro := by
  refine ⟨qs.map fun q => match H1 q with | some (.lst vs) => vs | _ => [], by simp, fun H' s' i q vs h1 h2 => ?_⟩
  obtain ⟨ro, a1, ws, a2, a3⟩ := hR1.at1 h1
  rw [List.getElem?_map, h1] at h2
  have z : vs = ws := by
    have z := Option.some.inj h2
    simp only [a2] at z
    exact z.symm
  subst z
  exact ⟨s' _ _ a2, ro, a1, a3.mono fun _ _ y => y.same s'⟩

/-! ### leaned_row, leaned -/
theorem idx_nat (x : Nat) : ∀ L : List Nat, (L.map fun (n : Nat) => (n : Int)).idxOf (x : Int) = L.idxOf x
  | [] => rfl
  | y :: L => by
    have e : ((y : Int) == (x : Int)) = (y == x) := by
      by_cases h : y = x
      · subst h; simp
      · have h' : ¬ (y : Int) = (x : Int) := by omega
        rw [beq_eq_false_iff_ne.mpr h, beq_eq_false_iff_ne.mpr h']
    rw [List.map_cons, List.idxOf_cons, List.idxOf_cons, idx_nat x L, e]
theorem nV_ints (xs : List Nat) : nV xs = (xs.map fun (n : Nat) => (n : Int)).map V.int := by unfold nV; rw [List.map_map]; rfl
def leanE (g L : List Nat) (e : Ent) : Ent := ((L.idxOf (g.getD e.1.toNat 0) : Nat), e.2)
def spLRow (K : PySem.W.Frag) : Sp := fun vs H Q _ => ∃ (p ls lf : Addr) (row : List Ent) (g L : List Nat), vs = [.ref p, .ref ls, .ref lf] ∧ RowAt H p row ∧ row.length ≤ 100 ∧ H ls = some (.lst (nV g)) ∧ H lf = some (.lst (nV L)) ∧ L.length ≤ 100 ∧ (∀ x ∈ L, x < 1000) ∧
  (∀ e ∈ row, 0 ≤ e.1 ∧ e.1.toNat < g.length ∧ g.getD e.1.toNat 0 ∈ L) ∧ ∀ (D : Addr) (H' : Hp), Same H H' → H D = Option.none → RowAt H' D (row.map (leanE g L)) → Q (.ref D) H'
theorem scLRow : FnScope ["row", "least", "left"] ["row", "least", "left"] (defScope sLRow) := ⟨rfl, rfl, rfl, by decide +kernel, rfl, by decide +kernel, by decide +kernel⟩
theorem ok_lrow {f C : Addr} {fd : FuncData} (D : DefAt K mg "leaned_row" sLRow ["row", "least", "left"] f fd) (T : FTxt K mg C) : FnOk P w K mg base CX0 1 f fd ["row", "least", "left"] (spLRow K) := by
  refine D.fn.ok scLRow (fun vs H Q E h => ?_) (fun cdv A outer s H vs Q E hr h => ?_)
  · obtain ⟨p, ls, lf, row, g, L, rfl, _⟩ := h
    rfl
  obtain ⟨p, ls, lf, row, g, L, rfl, ⟨vs, hp, hE⟩, hrl, hls, hlf, hL, hLx, he, q⟩ := h
  refine ⟨_, pss_one (ps_ret (pe_comp ["entry", "least", "left"] [Option.none, some 1, some 2] rfl (pi_list (pv 0)) (fun _ => pg_name (i := 0) (show (["entry", "least", "left"] : List Str).Nodup by decide +kernel) rfl (Or.inl rfl)) (fun _ => pts_nil)
    (fun _ => pe_tup (pa_cons (pe_bm PySem.F.plainAttrs_list PySem.F.slot_list_index PySem.F.type_list_index mt_index (pv 2) (pa_cons (pe_ix ix_list (pv 1) (pe_ix ix_tup (pv 0) (pe_gint T.behind rfl) (fun _ _ => rfl)) (fun _ _ => rfl)) pa_nil)) (pa_cons (pe_ix ix_tup (pv 0) (pe_gint T.deeds rfl) (fun _ _ => rfl)) pa_nil)))
    (N := ["row", "least", "left"]) (ks := (defScope sLRow).names) rfl rfl (by decide +kernel) (by decide +kernel) (by decide +kernel) (by decide +kernel))), ?_⟩
  refine ⟨_, rfl, p, rfl, ⟨_, SqL.of hp⟩, fun bk D hD => ?_⟩
  refine comp_listA (K := K) (xs := vs) (Pv := fun j ys σ H' => ∃ v, σ = [v, some (.ref ls), some (.ref lf)] ∧ Same H H' ∧ Z (EntAt H') ys ((row.take j).map (leanE g L))) ⟨_, rfl, same_new hD _, by simp [List.take_zero]; exact Z.nil⟩ ?_ ?_ ?_
  · rintro j ys σ H' hj hDj ⟨v, rfl, (s5 : Same _ _), _⟩
    exact SqL.of (s5 _ _ hp)
  · rintro j x ys σ H' hx hDj ⟨v, rfl, (s5 : Same _ _), hZ⟩
    obtain ⟨e, hee, te, u, rfl, k1, k2⟩ := hE.at1 hx
    obtain ⟨e0, e1, e2⟩ := he e (List.mem_of_getElem? hee)
    have eN : e.1 = ((e.1.toNat : Nat) : Int) := by omega
    have ga : atI (nV g) e.1 = some (.int ((g.getD e.1.toNat 0 : Nat) : Int)) := by
      rw [eN, Int.toNat_natCast]; exact nV_at e1
    have hj4 : j < row.length := (List.getElem?_eq_some_iff.mp hee).1
    have hq : SqL K H' lf ((L.map fun (n : Nat) => (n : Int)).map V.int) := by rw [← nV_ints]; exact SqL.of (s5 _ _ hlf)
    refine ⟨_, rfl, .inl ⟨rfl, _, hq⟩, _, rfl, _, rfl, te, _, _, _, rfl, rfl, SqT.of (s5 _ _ k1), rfl, ls, _, _, _, rfl, rfl, SqL.of (s5 _ _ hls), ga, lf, _, _, rfl, rfl, hq, ?_, ?_, ?_, ?_⟩
    · intro y hy
      obtain ⟨z, hz, rfl⟩ := List.mem_map.mp hy
      have := hLx z hz
      omega
    · rw [List.length_map]; omega
    · exact List.mem_map.mpr ⟨_, e2, rfl⟩
    rw [idx_nat]
    refine ⟨_, rfl, te, _, _, _, rfl, rfl, SqT.of (s5 _ _ k1), rfl, (by show 2 ≤ sizeLine; decide), fun tn htn => ?_⟩
    have nDt : D ≠ tn := ne_of_none hDj htn
    have kp : Keeps D H' (upd (upd H' tn (.tup [.int ((L.idxOf (g.getD e.1.toNat 0) : Nat) : Int), u])) D (.lst (ys ++ [.ref tn]))) := fun x o ex n => by rw [upd_ne n, upd_ne (ne_of_none ex htn)]; exact ex
    refine ⟨by rw [upd_ne nDt]; exact hDj, ?_, ⟨_, rfl, sameUpd (sameUpd s5 (s5.free htn) _) hD _, ?_⟩⟩
    · rw [hZ.1, List.length_map, List.length_take]; exact small1000 (by omega)
    · rw [List.take_succ, hee, List.map_append]
      refine Z.snoc (hZ.mono fun _ _ z => z.keep kp (lst_tup hDj)) ?_
      exact ⟨tn, u, rfl, by rw [upd_ne nDt.symm, upd_same]; rfl, (k2.same s5).keep kp (lst_tup hDj)⟩
  · rintro ys σ H' hDn ⟨v, rfl, (s5 : Same _ _), hZ⟩
    have evl : vs.length = row.length := hE.1
    rw [evl, List.take_length] at hZ
    exact q D H' s5 hD ⟨ys, hDn, hZ⟩
/-! the mirror -/
def leftL (g : List Nat) : List Nat := (List.range g.length).filter fun k => decide (g.getD k 0 = k)
def leanM (M : Mach) (g : List Nat) : Mach := (leftL g).map fun k => (M.getD k []).map (leanE g (leftL g))
theorem left_lt {g : List Nat} {x : Nat} (h : x ∈ leftL g) : x < g.length := List.mem_range.mp (List.mem_filter.mp h).1
theorem left_len (g : List Nat) : (leftL g).length ≤ g.length := by
  have := List.length_filter_le (fun k => decide (g.getD k 0 = k)) (List.range g.length)
  rw [List.length_range] at this
  exact this
theorem left_mem {M : Mach} (t : Nat) {k : Nat} (hk : k < M.length) : (grp M t).getD k 0 ∈ leftL (grp M t) := by
  rw [grp_get hk]
  have hl := Fm.mr_le (m := mcOf M) t k
  refine List.mem_filter.mpr ⟨List.mem_range.mpr (by rw [grp_len]; omega), decide_eq_true ?_⟩
  rw [grp_get (by omega)]
  exact Fm.mr_eq (Fm.mr_al t k)
def spLeaned (K : PySem.W.Frag) (C : Addr) : Sp := fun vs H Q _ => ∃ (c s r y : Addr) (ps : List Addr) (S W : List V) (M : Mach), vs = [.ref c] ∧ FlatIs C H c s r y ps S M W ∧ GoodM M ∧ S.length = M.length ∧ W.length = M.length ∧
  ∀ (c' s' r' y' : Addr) (ps' : List Addr) (H' : Hp), Same H H' → FlatIs C H' c' s' r' y' ps' ((leftL (grp M M.length)).map fun k => S.getD k .non) (leanM M (grp M M.length)) ((leftL (grp M M.length)).map fun k => W.getD k .non) →
    H s' = Option.none → H r' = Option.none → H y' = Option.none → (∀ p ∈ ps', H p = Option.none ∧ p ≠ r') → Q (.ref c') H'
theorem scLeaned : FnScope ["flat", "least", "left", "states", "rows", "ways"] ["flat"] (defScope sLeaned) := ⟨rfl, rfl, rfl, by decide +kernel, rfl, by decide +kernel, by decide +kernel⟩
theorem ok_leaned {f C fi fal flr : Addr} {fd fdi fdal fdlr : FuncData} (D : DefAt K mg "leaned" sLeaned ["flat"] f fd) (T : FTxt K mg C) (Mm : Mk K C fi) (bi : Binds K fdi ["self", "states", "rows", "ways"] []) (Gi : FnOk P w K mg base CX0 1 fi fdi ["self", "states", "rows", "ways"] (spFInit C))
    (Da : DefAt K mg "alike" sAlike ["flat"] fal fdal) (Ga : FnOk P w K mg base CX0 2 fal fdal ["flat"] (spAlike C)) (Dl : DefAt K mg "leaned_row" sLRow ["row", "least", "left"] flr fdlr) : FnOk P w K mg base CX0 3 f fd ["flat"] (spLeaned K C) := by
  have Gl : FnOk P w K mg base CX0 1 flr fdlr ["row", "least", "left"] (spLRow K) := ok_lrow Dl T
  refine D.fn.ok scLeaned (fun vs H Q E h => ?_) (fun cdv A outer s H vs Q E hr h => ?_)
  · obtain ⟨c, s, r, y, ps, S, W, M, rfl, _⟩ := h
    rfl
  obtain ⟨c, sa, ra, ya, ps, S, W, M, rfl, hF, hG, hS, hW, q⟩ := h
  refine ⟨_, pss_cons (ps_set (i := 1) scLeaned.nd rfl (Or.inr rfl) (pe_call Ga hr rfl Da.mg Da.fn.kp Da.bd .nil pass0 (pa_cons (pv 0) pa_nil)))
    (pss_cons (ps_set (i := 2) scLeaned.nd rfl (Or.inr rfl) (pe_comp ["number", "least"] [Option.none, some 1] rfl (pi_range1 rfl T.range (pa_cons (pe_callB call_len_seq (by rfl) T.len PySem.boot_len (pa_cons (pv 1) pa_nil)) pa_nil))
      (fun _ => pg_name (i := 0) (show (["number", "least"] : List Str).Nodup by decide +kernel) rfl (Or.inl rfl)) (fun _ => pts_one (pt_cmpR op_eq (pe_ix ix_list (pv 1) (pv 0) (fun _ _ => rfl)) (pv 0) (nomark _))) (fun _ => pv 0)
      (N := ["flat", "least", "left", "states", "rows", "ways"]) (ks := (defScope sLeaned).names) rfl rfl (by decide +kernel) (by decide +kernel) (by decide +kernel) (by decide +kernel)))
    (pss_cons (ps_comp (i := 3) ["number", "flat"] [Option.none, some 0] rfl scLeaned.nd rfl rfl (pi_list (pv 2)) (fun _ => pg_name (i := 0) (show (["number", "flat"] : List Str).Nodup by decide +kernel) rfl (Or.inl rfl)) (fun _ => pts_nil) (fun _ => pe_ix ix_list (pe_fld (pv 1) rfl) (pv 0) (fun _ _ => rfl))
      (N := ["flat", "least", "left", "states", "rows", "ways"]) (ks := (defScope sLeaned).names) rfl rfl (by decide +kernel) (by decide +kernel) (by decide +kernel) (by decide +kernel))
    (pss_cons (ps_comp (i := 4) ["number", "flat", "least", "left"] [Option.none, some 0, some 1, some 2] rfl scLeaned.nd rfl rfl (pi_list (pv 2)) (fun _ => pg_name (i := 0) (show (["number", "flat", "least", "left"] : List Str).Nodup by decide +kernel) rfl (Or.inl rfl)) (fun _ => pts_nil)
      (fun _ => pe_call Gl (hr.mono (by decide)) rfl Dl.mg Dl.fn.kp Dl.bd .nil pass0 (pa_cons (pe_ix ix_list (pe_fld (pv 1) rfl) (pv 0) (fun _ _ => rfl)) (pa_cons (pv 2) (pa_cons (pv 3) pa_nil))))
      (N := ["flat", "least", "left", "states", "rows", "ways"]) (ks := (defScope sLeaned).names) rfl rfl (by decide +kernel) (by decide +kernel) (by decide +kernel) (by decide +kernel))
    (pss_cons (ps_comp (i := 5) ["number", "flat"] [Option.none, some 0] rfl scLeaned.nd rfl rfl (pi_list (pv 2)) (fun _ => pg_name (i := 0) (show (["number", "flat"] : List Str).Nodup by decide +kernel) rfl (Or.inl rfl)) (fun _ => pts_nil) (fun _ => pe_ix ix_list (pe_fld (pv 1) rfl) (pv 0) (fun _ _ => rfl))
      (N := ["flat", "least", "left", "states", "rows", "ways"]) (ks := (defScope sLeaned).names) rfl rfl (by decide +kernel) (by decide +kernel) (by decide +kernel) (by decide +kernel))
    (pss_one (ps_ret (pe_make Mm Gi (hr.mono (by decide)) rfl T.mgC bi .nil pass0 (pa_cons (pv 3) (pa_cons (pv 4) (pa_cons (pv 5) pa_nil)))))))))), ?_⟩
  have hm30 := hG.most
  obtain ⟨⟨dx, h1⟩, h2, h3, h4, h5⟩ := id hF
  -- least
  refine ⟨_, rfl, c, sa, ra, ya, ps, S, W, M, rfl, hF, hG, fun ls H1 s1 _ e1 => ?_⟩
  have hgl : (grp M M.length).length = M.length := grp_len _ _
  have hmem : ∀ k, k < M.length → (grp M M.length).getD k 0 ∈ leftL (grp M M.length) := fun k hk => left_mem M.length hk
  generalize grp M M.length = g at e1 hgl hmem q
  -- left
  refine ⟨_, rfl, ls, _, rfl, .inl (SqL.of e1), _, rfl, by rw [nV_len]; omega, by rw [nV_len]; omega, fun bk lf hlf => ?_⟩
  rw [nV_len]
  have eg : ((g.length : Int)).toNat = g.length := by omega
  rw [eg]
  refine comp_range (Pv := fun j ys σ H' => ∃ v, σ = [v, some (.ref ls)] ∧ ys = nV ((List.range j).filter fun k => decide (g.getD k 0 = k)) ∧ Same H1 H') ⟨_, rfl, rfl, same_new hlf _⟩ ?_ ?_
  · rintro j ys σ H' hj hDj ⟨v, rfl, hys, (s' : Same _ _)⟩
    have ej : (0 : Int) + (j : Int) = (j : Int) := by omega
    rw [ej]
    refine ⟨_, rfl, _, rfl, ls, _, _, _, rfl, rfl, SqL.of (s' _ _ e1), nV_at hj, _, rfl, rfl, _, rfl, ?_⟩
    have ec : decide (V.int ((g.getD j 0 : Nat) : Int) = V.int (j : Int)) = decide (g.getD j 0 = j) := decide_eq_decide.mpr ⟨fun y => by injection y with y; omega, fun y => by rw [y]⟩
    rw [ec]
    have el : ((List.range (j + 1)).filter fun k => decide (g.getD k 0 = k)) = ((List.range j).filter fun k => decide (g.getD k 0 = k)) ++ (if decide (g.getD j 0 = j) = true then [j] else []) := by
      rw [List.range_succ, List.filter_append]
      congr 1
      rw [List.filter_cons, List.filter_nil]
    refine ite2 (fun z => ?_) (fun z => ?_)
    · refine ⟨_, rfl, hDj, ?_, ⟨_, rfl, ?_, sameUpd s' hlf _⟩⟩
      · rw [hys, nV_len]
        have := List.length_filter_le (fun k => decide (g.getD k 0 = k)) (List.range j)
        rw [List.length_range] at this
        exact small1000 (by omega)
      · rw [el, if_pos z, hys]
        unfold nV
        rw [List.map_append]; rfl
    · refine ⟨hDj, ⟨_, rfl, ?_, s'⟩⟩
      rw [el, if_neg z, List.append_nil]
      exact hys
  rintro ys σ H2 e2 ⟨v, rfl, hys, (s2 : Same _ _)⟩
  have hys' : ys = nV (leftL g) := hys
  rw [hys'] at e2
  clear hys hys'
  have hll := left_len g
  have hlx : ∀ x ∈ leftL g, x < M.length := fun x hx => by have := left_lt hx; omega
  have lget : ∀ {i : Nat} {x : V}, (nV (leftL g))[i]? = some x → ∃ k : Nat, (leftL g)[i]? = some k ∧ x = V.int (k : Int) ∧ k < M.length := fun {i x} hx => by
    unfold nV at hx
    rw [List.getElem?_map] at hx
    cases z : (leftL g)[i]? with
    | none => rw [z] at hx; simp at hx
    | some k => rw [z] at hx; exact ⟨k, rfl, by simpa using hx.symm, hlx k (List.mem_of_getElem? z)⟩
  have vget : ∀ {Vs : List V} {k : Nat}, Vs.length = M.length → k < M.length → atI Vs (k : Int) = some (Vs.getD k .non) := fun {Vs k} hl hk => atI_nat (by rw [List.getD_eq_getElem?_getD, List.getElem?_eq_getElem (by omega)]; rfl)
  -- states
  refine ⟨_, rfl, lf, rfl, ⟨_, SqL.of e2⟩, fun bk st hst => ?_⟩
  refine comp_listA (K := K) (xs := nV (leftL g)) (Pv := fun j ys σ H' => ∃ v, σ = [v, some (.ref c)] ∧ ys = ((leftL g).take j).map (fun k => S.getD k .non) ∧ Same H2 H') ⟨_, rfl, by simp, same_new hst _⟩ ?_ ?_ ?_
  · rintro j ys σ H' hj hDj ⟨v, rfl, _, (s' : Same _ _)⟩
    exact SqL.of (s' _ _ e2)
  · rintro j x ys σ H' hx hDj ⟨v, rfl, hys, (s' : Same _ _)⟩
    obtain ⟨k, hk, rfl, hkM⟩ := lget hx
    have sx := s1.trans (s2.trans s')
    refine ⟨_, rfl, c, C, dx, _, _, rfl, sx _ _ h1, T.cl, T.nS, fflds_states sa ra ya, _, rfl, sa, _, _, _, rfl, rfl, SqL.of (sx _ _ h2), vget hS hkM, hDj, ?_, ⟨_, rfl, ?_, sameUpd s' hst _⟩⟩
    · rw [hys, List.length_map, List.length_take]; exact small1000 (by omega)
    · rw [List.take_succ, hk, List.map_append, ← hys]; rfl
  rintro ss σ H3 e3 ⟨v, rfl, hss, (s3 : Same _ _)⟩
  rw [nV_len, List.take_length] at hss
  -- rows
  refine ⟨_, rfl, lf, rfl, ⟨_, SqL.of (s3 _ _ e2)⟩, fun bk rl hrl => ?_⟩
  have s13 := s2.trans s3
  have s03 := s1.trans s13
  refine comp_listA (K := K) (xs := nV (leftL g)) (Pv := fun j ys σ H' => ∃ v qs, σ = [v, some (.ref c), some (.ref ls), some (.ref lf)] ∧ ys = qs.map V.ref ∧ Same H3 H' ∧ Z (RowAt H') qs (((leftL g).take j).map fun k => (M.getD k []).map (leanE g (leftL g))) ∧ ∀ p ∈ qs, p ≠ rl) ⟨_, [], rfl, rfl, same_new hrl _, by simp [List.take_zero]; exact Z.nil, fun p hp => by simp at hp⟩ ?_ ?_ ?_
  · rintro j ys σ H' hj hDj ⟨v, qs, rfl, _, (s' : Same _ _), _⟩
    exact SqL.of (s' _ _ (s3 _ _ e2))
  · rintro j x ys σ H' hx hDj ⟨v, qs, rfl, rfl, (s' : Same _ _), hZ, hqs⟩
    obtain ⟨k, hk, rfl, hkM⟩ := lget hx
    have sx := s03.trans s'
    have hNk : M[k]? = some (M.getD k []) := by rw [List.getD_eq_getElem?_getD, List.getElem?_eq_getElem hkM]; rfl
    obtain ⟨p, hp, hrow⟩ := h4.at hNk
    have hrm : M.getD k [] ∈ M := List.mem_of_getElem? hNk
    have hp' : (ps.map V.ref)[k]? = some (.ref p) := by rw [List.getElem?_map, hp]; rfl
    have lz := hZ.1
    rw [List.length_map, List.length_take] at lz
    refine ⟨_, rfl, c, C, dx, _, _, rfl, sx _ _ h1, T.cl, T.nR, fflds_rows sa ra ya, _, rfl, ra, _, _, _, rfl, rfl, SqL.of (sx _ _ h3), atI_nat hp', _, rfl, _, rfl, p, ls, lf, M.getD k [], g, leftL g, rfl, hrow.same sx, by rw [hG.four _ hrm]; decide, (s13.trans s') _ _ e1, (s3.trans s') _ _ e2, by omega, fun x hx => by have := hlx x hx; omega, fun e he => ?_, fun D1 H'' s'' hD1 hrow' => ?_⟩
    · obtain ⟨g1, g2⟩ := hG.to _ hrm e he
      exact ⟨g1, by omega, hmem _ (by omega)⟩
    · have n12 : rl ≠ D1 := ne_of_none hDj hD1
      have eD := s'' _ _ hDj
      have kp : Keeps rl H'' (upd H'' rl (.lst (qs.map V.ref ++ [.ref D1]))) := fun x o ex n => by rw [upd_ne n]; exact ex
      refine ⟨eD, by rw [List.length_map, lz]; exact small1000 (by omega), ⟨_, qs ++ [D1], rfl, by rw [List.map_append]; rfl, sameUpd (s'.trans s'') hrl _, ?_, fun p hp => ?_⟩⟩
      · rw [List.take_succ, hk, List.map_append]
        exact Z.snoc (hZ.monoM fun p _ hp z => (z.same s'').keep kp (lst_tup eD) (hqs p hp)) (hrow'.keep kp (lst_tup eD) n12.symm)
      · rcases List.mem_append.mp hp with z | z
        · exact hqs p z
        · have z' : p = D1 := by simpa using z
          subst z'
          exact n12.symm
  rintro ys σ H4 e4 ⟨v, qs, rfl, rfl, (s4 : Same _ _), hZ4, _⟩
  rw [nV_len, List.take_length] at hZ4
  have hM4 : RowsAt H4 qs (leanM M g) := hZ4
  -- ways
  have s04 := s03.trans s4
  refine ⟨_, rfl, lf, rfl, ⟨_, SqL.of ((s3.trans s4) _ _ e2)⟩, fun bk wl hwl => ?_⟩
  refine comp_listA (K := K) (xs := nV (leftL g)) (Pv := fun j ys σ H' => ∃ v, σ = [v, some (.ref c)] ∧ ys = ((leftL g).take j).map (fun k => W.getD k .non) ∧ Same H4 H') ⟨_, rfl, by simp, same_new hwl _⟩ ?_ ?_ ?_
  · rintro j ys σ H' hj hDj ⟨v, rfl, _, (s' : Same _ _)⟩
    exact SqL.of (s' _ _ ((s3.trans s4) _ _ e2))
  · rintro j x ys σ H' hx hDj ⟨v, rfl, hys, (s' : Same _ _)⟩
    obtain ⟨k, hk, rfl, hkM⟩ := lget hx
    have sx := s04.trans s'
    refine ⟨_, rfl, c, C, dx, _, _, rfl, sx _ _ h1, T.cl, T.nW, fflds_ways sa ra ya, _, rfl, ya, _, _, _, rfl, rfl, SqL.of (sx _ _ h5), vget hW hkM, hDj, ?_, ⟨_, rfl, ?_, sameUpd s' hwl _⟩⟩
    · rw [hys, List.length_map, List.length_take]; exact small1000 (by omega)
    · rw [List.take_succ, hk, List.map_append, ← hys]; rfl
  rintro ws σ H5 e5 ⟨v, rfl, hws, (s5 : Same _ _)⟩
  rw [nV_len, List.take_length] at hws
  -- Flat(..)
  have s05 := s04.trans s5
  obtain ⟨vss, hvl, hvs⟩ := rows_lists (RowsAt.same s5 hM4)
  refine ⟨_, rfl, _, rfl, _, rfl, fun c' dx' hc' hdx' ncd => ?_⟩
  have kc : ∀ x o, H5 x = some o → (upd (upd H5 dx' (.own c')) c' (.ins C dx' [])) x = some o := fun x o e => by
    rw [upd_ne (ne_of_none e hc'), upd_ne (ne_of_none e hdx')]; exact e
  have fc : ∀ x, (upd (upd H5 dx' (.own c')) c' (.ins C dx' [])) x = Option.none → H x = Option.none := fun x e => by
    cases z : H x with
    | none => rfl
    | some o => rw [kc x o (s05 _ _ z)] at e; cases e
  have lq := hM4.1
  have lM : (leanM M g).length = (leftL g).length := by simp [leanM]
  refine ⟨c', dx', st, rl, wl, qs, ss, vss, ws, rfl, upd_same, kc _ _ ((s4.trans s5) _ _ e3), kc _ _ (s5 _ _ e4), ⟨hvl, fun i p vs a1 a2 => kc _ _ (hvs H5 (Same.refl _) i p vs a1 a2).1⟩, kc _ _ e5, by omega, fun sb rb yb pb H6 k6 o6 f1 g1 f2 g2 g3 f3 f4 g4 => ⟨rfl, ?_⟩⟩
  have s56 : Same H5 H6 := fun x o e => k6 x o (kc x o e) (ne_of_none e hc')
  refine q c' sb rb yb pb H6 (s05.trans s56) ⟨⟨dx', o6⟩, by rw [← hss]; exact g1, g2, ?_, by rw [← hws]; exact g4⟩ (fc _ f1) (fc _ f2) (fc _ f4) fun p hp => ⟨fc _ (f3 p hp).1, (f3 p hp).2⟩
  refine ⟨by rw [g3.1, ← hvl]; exact lq, fun i p ro a1 a2 => ?_⟩
  obtain ⟨vs, b1, b2⟩ := g3.at1 a1
  have hi : i < qs.length := by rw [hvl]; exact (List.getElem?_eq_some_iff.mp b1).1
  obtain ⟨_, ro', c1, c2⟩ := hvs H6 s56 i _ vs (List.getElem?_eq_getElem hi) b1
  rw [a2] at c1
  cases c1
  exact ⟨vs, b2, c2⟩

def spRow : Sp := fun vs H Q _ => ∃ (f d : Addr) (xs : List Int), vs = [.ref f, .ref d] ∧ H f = some (.tup (xs.map V.int)) ∧ H d = some (.tup (xs.map V.int)) ∧ xs.length ≤ 100 ∧ Q (.bl true) H
theorem scRow : FnScope ["found", "due", "k"] ["found", "due"] (defScope sRow) := ⟨rfl, rfl, rfl, by decide +kernel, rfl, by decide +kernel, by decide +kernel⟩
theorem ok_row {f C : Addr} {fd : FuncData} (D : DefAt K mg "_law_row" sRow ["found", "due"] f fd) (T : FTxt K mg C) : FnOk P w K mg base CX0 1 f fd ["found", "due"] spRow := by
  refine D.fn.ok scRow (fun vs H Q E h => ?_) (fun cdv A outer s H vs Q E hr h => ?_)
  · obtain ⟨a, d, xs, rfl, _⟩ := h
    rfl
  obtain ⟨a, d, xs, rfl, ha, hd, hx, q⟩ := h
  refine ⟨_, pss_cons (ps_if (PW.pt (pw_or (pt_not (pt_val (pe_callB call_isinst (by rfl) T.inst (by decide +kernel) (pa_cons (pv 0) (pa_cons (pe_bltn (by rfl) T.tup (by decide +kernel) (v := .ty "tuple") rfl) pa_nil)))))
      (pw_or1 (pt_cmpR op_ne (pe_callB call_len_seq (by rfl) T.len PySem.boot_len (pa_cons (pv 0) pa_nil)) (pe_callB call_len_seq (by rfl) T.len PySem.boot_len (pa_cons (pv 1) pa_nil)) (nomark _))))) pss_never pss_nil)
    (pss_cons (ps_for PassesOwn.never rfl (pi_range1 rfl T.range (pa_cons (pe_callB call_len_seq (by rfl) T.len PySem.boot_len (pa_cons (pv 1) pa_nil)) pa_nil)) (pg_name (i := 2) scRow.nd rfl (Or.inl rfl))
      (pss_one (ps_if (PW.pt (pw_or (pt_val (pe_callB call_isinst (by rfl) T.inst (by decide +kernel) (pa_cons (pe_ix ix_tup (pv 0) (pv 2) (fun _ _ => rfl)) (pa_cons (pe_bltn (by rfl) T.tbool (by decide +kernel) (v := .ty "bool") rfl) pa_nil))))
        (pw_or (pt_not (pt_val (pe_callB call_isinst (by rfl) T.inst (by decide +kernel) (pa_cons (pe_ix ix_tup (pv 0) (pv 2) (fun _ _ => rfl)) (pa_cons (pe_bltn (by rfl) T.tint (by decide +kernel) (v := .ty "int") rfl) pa_nil)))))
        (pw_or1 (pt_cmpR op_ne (pe_ix ix_tup (pv 0) (pv 2) (fun _ _ => rfl)) (pe_ix ix_tup (pv 1) (pv 2) (fun _ _ => rfl)) (nomark _)))))) pss_never pss_nil)))
    (pss_one (ps_ret pe_bl))), ?_⟩
  refine ⟨_, rfl, _, _, _, _, rfl, .tup ha, T.pp, _, rfl, ?_⟩
  refine iteF ?_
  refine ⟨_, rfl, a, _, rfl, .inr (SqT.of ha), _, rfl, d, _, rfl, .inr (SqT.of hd), rfl, _, rfl, ?_⟩
  refine iteNS rfl ?_
  refine ⟨_, rfl, d, _, rfl, .inr (SqT.of hd), _, rfl, by rw [List.length_map]; omega, by rw [List.length_map]; omega, ?_⟩
  rw [List.length_map]
  refine for_range (fun i σ H1 => ∃ v, σ = [some (.ref a), some (.ref d), v] ∧ H1 = H) ⟨_, rfl, rfl⟩ ?_ ?_
  · rintro i σ H1 hi ⟨v, rfl, rfl⟩
    have hi' : i < xs.length := by omega
    have ek : (0 : Int) + (i : Int) = (i : Int) := by omega
    rw [ek]
    refine ⟨_, rfl, _, rfl, a, _, _, _, rfl, rfl, SqT.of ha, ints_get hi', _, _, _, _, rfl, .int _, T.ib, _, rfl, ?_⟩
    refine iteF ?_
    refine ⟨_, rfl, _, rfl, a, _, _, _, rfl, rfl, SqT.of ha, ints_get hi', _, _, _, _, rfl, .int _, T.ii, _, rfl, ?_⟩
    refine iteF ?_
    refine ⟨_, rfl, _, rfl, a, _, _, _, rfl, rfl, SqT.of ha, ints_get hi', _, rfl, _, rfl, d, _, _, _, rfl, rfl, SqT.of hd, ints_get hi', rfl, _, rfl, ?_⟩
    refine iteNS rfl ?_
    exact ⟨_, rfl, rfl⟩
  · rintro σ H1 ⟨v, rfl, rfl⟩
    exact q

/-! #### _law_entries, _law_leasts -/
def spEntries : Sp := fun vs H Q _ => ∃ (f d : Addr) (row : List Ent), vs = [.ref f, .ref d] ∧ RowAt H f row ∧ RowAt H d row ∧ row.length ≤ 100 ∧ (∀ e ∈ row, e.2.length ≤ 100) ∧ Q (.bl true) H
theorem scEntries : FnScope ["found", "due", "k", "entry"] ["found", "due"] (defScope sEntries) := ⟨rfl, rfl, rfl, by decide +kernel, rfl, by decide +kernel, by decide +kernel⟩
theorem ok_entries {f C fr : Addr} {fd fdr : FuncData} (D : DefAt K mg "_law_entries" sEntries ["found", "due"] f fd) (T : FTxt K mg C) (Dr : DefAt K mg "_law_row" sRow ["found", "due"] fr fdr) : FnOk P w K mg base CX0 2 f fd ["found", "due"] spEntries := by
  have Gr : FnOk P w K mg base CX0 1 fr fdr ["found", "due"] spRow := ok_row Dr T
  refine D.fn.ok scEntries (fun vs H Q E h => ?_) (fun cdv A outer s H vs Q E hr h => ?_)
  · obtain ⟨f, d, row, rfl, _⟩ := h
    rfl
  obtain ⟨fa, da, row, rfl, ⟨fs, hf, hZ1⟩, ⟨ds, hd, hZ2⟩, hX, hX2, q⟩ := h
  refine ⟨_, pss_cons (ps_if (PW.pt (pw_or (pt_not (pt_val (pe_callB call_isinst (by rfl) T.inst (by decide +kernel) (pa_cons (pv 0) (pa_cons (pe_bltn (by rfl) T.list (by decide +kernel) (v := .ty "list") rfl) pa_nil)))))
      (pw_or1 (pt_cmpR op_ne (pe_callB call_len_seq (by rfl) T.len PySem.boot_len (pa_cons (pv 0) pa_nil)) (pe_callB call_len_seq (by rfl) T.len PySem.boot_len (pa_cons (pv 1) pa_nil)) (nomark _))))) pss_never pss_nil)
    (pss_cons (ps_for PassesOwn.never rfl (pi_range1 rfl T.range (pa_cons (pe_callB call_len_seq (by rfl) T.len PySem.boot_len (pa_cons (pv 1) pa_nil)) pa_nil)) (pg_name (i := 2) scEntries.nd rfl (Or.inl rfl))
      (pss_cons (ps_set (i := 3) scEntries.nd rfl (Or.inl rfl) (pe_ix ix_list (pv 0) (pv 2) (fun _ _ => rfl)))
      (pss_cons (ps_if (PW.pt (pw_or (pt_not (pt_val (pe_callB call_isinst (by rfl) T.inst (by decide +kernel) (pa_cons (pv 3) (pa_cons (pe_bltn (by rfl) T.tup (by decide +kernel) (v := .ty "tuple") rfl) pa_nil)))))
        (pw_or (pt_cmpR op_ne (pe_callB call_len_seq (by rfl) T.len PySem.boot_len (pa_cons (pv 3) pa_nil)) pe_int (nomark _))
        (pw_or1 (pt_val (pe_callB call_isinst (by rfl) T.inst (by decide +kernel) (pa_cons (pe_ix ix_tup (pv 3) pe_int (fun _ _ => rfl)) (pa_cons (pe_bltn (by rfl) T.tbool (by decide +kernel) (v := .ty "bool") rfl) pa_nil)))))))) pss_never pss_nil)
      (pss_one (ps_if (PW.pt (pw_or (pt_not (pt_val (pe_callB call_isinst (by rfl) T.inst (by decide +kernel) (pa_cons (pe_ix ix_tup (pv 3) pe_int (fun _ _ => rfl)) (pa_cons (pe_bltn (by rfl) T.tint (by decide +kernel) (v := .ty "int") rfl) pa_nil)))))
        (pw_or (pt_cmpR op_ne (pe_ix ix_tup (pv 3) pe_int (fun _ _ => rfl)) (pe_ix ix_tup (pe_ix ix_list (pv 1) (pv 2) (fun _ _ => rfl)) pe_int (fun _ _ => rfl)) (nomark _))
        (pw_or1 (pt_not (pt_val (pe_call Gr hr rfl Dr.mg Dr.fn.kp Dr.bd .nil pass0 (pa_cons (pe_ix ix_tup (pv 3) pe_int (fun _ _ => rfl)) (pa_cons (pe_ix ix_tup (pe_ix ix_list (pv 1) (pv 2) (fun _ _ => rfl)) pe_int (fun _ _ => rfl)) pa_nil))))))))) pss_never pss_nil)))))
    (pss_one (ps_ret pe_bl))), ?_⟩
  refine ⟨_, rfl, _, _, _, _, rfl, .lst hf, T.ll, _, rfl, ?_⟩
  refine iteF ?_
  refine ⟨_, rfl, fa, _, rfl, .inl (SqL.of hf), _, rfl, da, _, rfl, .inl (SqL.of hd), rfl, _, rfl, ?_⟩
  have el : fs.length = ds.length := by rw [hZ1.1, hZ2.1]
  rw [el]
  refine iteNS rfl ?_
  have dl := hZ2.1
  refine ⟨_, rfl, da, _, rfl, .inl (SqL.of hd), _, rfl, by omega, by omega, ?_⟩
  refine for_range (fun i σ H1 => ∃ v3 v2, σ = [some (.ref fa), some (.ref da), v2, v3] ∧ H1 = H) ⟨_, _, rfl, rfl⟩ ?_ ?_
  · rintro i σ H1 hi ⟨v3, v2, rfl, rfl⟩
    have hi' : i < row.length := by omega
    have ek : (0 : Int) + (i : Int) = (i : Int) := by omega
    rw [ek]
    obtain ⟨x1, a1, t1, u1, rfl, b1, d1, rfl, c1⟩ := hZ1.at (List.getElem?_eq_getElem hi')
    obtain ⟨x2, a2, t2, u2, rfl, b2, d2, rfl, c2⟩ := hZ2.at (List.getElem?_eq_getElem hi')
    refine ⟨_, rfl, _, rfl, fa, _, _, _, rfl, rfl, SqL.of hf, atI_nat a1, ?_⟩
    refine ⟨_, rfl, _, _, _, _, rfl, .tup b1, T.pp, _, rfl, ?_⟩
    refine iteF ?_
    refine ⟨_, rfl, t1, _, rfl, .inr (SqT.of b1), rfl, _, rfl, ?_⟩
    refine iteNS rfl ?_
    refine ⟨_, rfl, t1, _, _, _, rfl, rfl, SqT.of b1, rfl, _, _, _, _, rfl, .int _, T.ib, _, rfl, ?_⟩
    refine iteF ?_
    refine ⟨_, rfl, t1, _, _, _, rfl, rfl, SqT.of b1, rfl, _, _, _, _, rfl, .int _, T.ii, _, rfl, ?_⟩
    refine iteF ?_
    refine ⟨_, rfl, t1, _, _, _, rfl, rfl, SqT.of b1, rfl, _, rfl, _, rfl, da, _, _, _, rfl, rfl, SqL.of hd, atI_nat a2, t2, _, _, _, rfl, rfl, SqT.of b2, rfl, rfl, _, rfl, ?_⟩
    refine iteNS rfl ?_
    refine ⟨_, rfl, t1, _, _, _, rfl, rfl, SqT.of b1, rfl, _, rfl, _, rfl, da, _, _, _, rfl, rfl, SqL.of hd, atI_nat a2, t2, _, _, _, rfl, rfl, SqT.of b2, rfl, d1, d2, _, rfl, c1, c2, hX2 _ (List.getElem_mem hi'), _, rfl, ?_⟩
    refine iteF ?_
    exact ⟨_, _, rfl, rfl⟩
  · rintro σ H1 ⟨v3, v2, rfl, rfl⟩
    exact q
def spLeasts : Sp := fun vs H Q _ => ∃ (r : Addr) (ps : List Addr) (M : Mach), vs = [.ref r] ∧ RowsIs H r ps M ∧ GoodM M ∧ ∀ (l : Addr) (H' : Hp), Same H H' → H' l = some (.lst (nV (grp M M.length))) → Q (.ref l) H'
theorem scLeasts : FnScope ["rows", "far", "leasts", "k"] ["rows"] (defScope sLeasts) := ⟨rfl, rfl, rfl, by decide +kernel, rfl, by decide +kernel, by decide +kernel⟩
theorem ok_leasts {f C ff : Addr} {fd fdf : FuncData} (D : DefAt K mg "_law_leasts" sLeasts ["rows"] f fd) (T : FTxt K mg C) (Df : DefAt K mg "_law_far" sFar ["rows"] ff fdf) (Gf : FnOk P w K mg base CX0 2 ff fdf ["rows"] spFar) : FnOk P w K mg base CX0 3 f fd ["rows"] spLeasts := by
  refine D.fn.ok scLeasts (fun vs H Q E h => ?_) (fun cdv A outer s H vs Q E hr h => ?_)
  · obtain ⟨r, ps, M, rfl, _⟩ := h
    rfl
  obtain ⟨r, qs, N, rfl, hR, hG, q⟩ := h
  refine ⟨_, pss_cons (ps_set (i := 1) scLeasts.nd rfl (Or.inr rfl) (pe_call Gf hr rfl Df.mg Df.fn.kp Df.bd .nil pass0 (pa_cons (pv 0) pa_nil)))
    (pss_cons (ps_set (i := 2) scLeasts.nd rfl (Or.inl rfl) (pe_lst pa_nil))
    (pss_cons (ps_for PassesOwn.never rfl (pi_range1 rfl T.range (pa_cons (pe_callB call_len_seq (by rfl) T.len PySem.boot_len (pa_cons (pv 0) pa_nil)) pa_nil)) (pg_name (i := 3) scLeasts.nd rfl (Or.inr rfl))
      (pss_one (ps_expr (pe_bm PySem.F.plainAttrs_list PySem.F.slot_list_append PySem.F.type_list_append mt_append (pv 2) (pa_cons (pe_ix ix_list (pe_comp ["j", "far", "k"] [Option.none, some 1, some 3] rfl (pi_range1 rfl T.range (pa_cons (pe_callB call_len_seq (by rfl) T.len PySem.boot_len (pa_cons (pv 0) pa_nil)) pa_nil))
        (fun _ => pg_name (i := 0) (show (["j", "far", "k"] : List Str).Nodup by decide +kernel) rfl (Or.inl rfl))
        (fun _ => pts_one (pt_cmpR op_eq (pe_ix ix_list (pe_ix ix_list (pv 1) (pv 0) (fun _ _ => rfl)) (pv 2) (fun _ _ => rfl)) pe_int (nomark _))) (fun _ => pv 0)
        (N := ["rows", "far", "leasts", "k"]) (ks := (defScope sLeasts).names) rfl rfl (by decide +kernel) (by decide +kernel) (by decide +kernel) (by decide +kernel)) pe_int (fun _ _ => rfl)) pa_nil)))))
    (pss_one (ps_ret (pv 2))))), ?_⟩
  have ok := mc_ok hG
  have hm30 := hG.most
  have hpl : (qs.map V.ref).length = N.length := by rw [List.length_map, hR.hm.1]
  have em : ((N.length : Int)).toNat = N.length := by omega
  refine ⟨_, rfl, r, qs, N, rfl, hR, hG, fun t g gs H8 s8 hst8 hT8 => ?_⟩
  refine ⟨(by show 0 ≤ sizeLine; decide), fun du hdu => ?_⟩
  have s9 := same_new hdu (.lst [])
  refine ⟨_, rfl, r, _, rfl, .inl (SqL.of ((s8.trans s9) _ _ hR.hr)), _, rfl, by rw [hpl]; omega, by rw [hpl]; omega, ?_⟩
  rw [hpl, em]
  refine for_range (fun i σ H' => ∃ v6, σ = [some (.ref r), some (.ref g), some (.ref du), v6] ∧ Same H8 H' ∧ H' du = some (.lst (nV ((grp N t).take i)))) ⟨_, rfl, s9, by rw [upd_same]; rfl⟩ ?_ ?_
  · rintro k σ H' hkN ⟨v6, rfl, (s : Same _ _), ed⟩
    have ek : (0 : Int) + (k : Int) = (k : Int) := by omega
    rw [ek]
    refine ⟨_, rfl, .inl ⟨rfl, _, SqL.of ed⟩, _, rfl, r, _, rfl, .inl (SqL.of ((s8.trans s) _ _ hR.hr)), _, rfl, by rw [hpl]; omega, by rw [hpl]; omega, fun bk D hD => ?_⟩
    rw [hpl, em]
    refine comp_range (Pv := fun j ys σ H'' => ∃ v, σ = [v, some (.ref g), some (.int (k : Int))] ∧ ys = nV ((List.range j).filter fun x => decide (Fm.far (mcOf N) t x k = 0)) ∧ Same H' H'') ⟨_, rfl, rfl, same_new hD _⟩ ?_ ?_
    · rintro j ys σ H'' hj hDj ⟨v, rfl, hys, (s' : Same _ _)⟩
      have ej : (0 : Int) + (j : Int) = (j : Int) := by omega
      rw [ej]
      obtain ⟨pl, l1, l2⟩ := (hT8.same (s.trans s')).line hj
      refine ⟨_, rfl, _, rfl, g, _, _, _, rfl, rfl, SqL.of ((s.trans s') _ _ hT8.1), l1, _, rfl, pl, _, _, _, rfl, rfl, SqL.of l2, nV_get (tabL_get hkN), rfl, _, rfl, ?_⟩
      have ec : decide (V.int ((Fm.far (mcOf N) t j k : Nat) : Int) = V.int 0) = decide (Fm.far (mcOf N) t j k = 0) := decide_eq_decide.mpr ⟨fun y => by injection y with y; omega, fun y => by rw [y]; rfl⟩
      rw [ec]
      have el : ((List.range (j + 1)).filter fun x => decide (Fm.far (mcOf N) t x k = 0)) = ((List.range j).filter fun x => decide (Fm.far (mcOf N) t x k = 0)) ++ (if decide (Fm.far (mcOf N) t j k = 0) = true then [j] else []) := by
        rw [List.range_succ, List.filter_append]
        congr 1
        rw [List.filter_cons, List.filter_nil]
      refine ite2 (fun z => ?_) (fun z => ?_)
      · refine ⟨_, rfl, hDj, ?_, ⟨_, rfl, ?_, sameUpd s' hD _⟩⟩
        · rw [hys, nV_len]
          have := List.length_filter_le (fun x => decide (Fm.far (mcOf N) t x k = 0)) (List.range j)
          rw [List.length_range] at this
          exact small1000 (by omega)
        · rw [el, if_pos z, hys]
          unfold nV
          rw [List.map_append]; rfl
      · refine ⟨hDj, ⟨_, rfl, ?_, s'⟩⟩
        rw [el, if_neg z, List.append_nil]
        exact hys
    · rintro ys σ H'' hDn ⟨v, rfl, hys, (s' : Same _ _)⟩
      have hh := mr_first (t := t) hG hkN
      have hg0 : atI ys 0 = some (.int ((Fm.mr (mcOf N) t k : Nat) : Int)) := by
        rw [hys]
        refine nV_get (i := 0) ?_
        rw [← List.head?_eq_getElem?]
        exact hh
      refine ⟨D, _, _, _, rfl, rfl, SqL.of hDn, hg0, du, _, _, rfl, rfl, s' _ _ ed, ?_, ?_⟩
      · rw [nV_len, List.length_take]; exact small1000 (by omega)
      · refine ⟨_, rfl, fun x o ex => by rw [upd_ne (ne_of_none ex hdu)]; exact s' _ _ (s _ _ ex), ?_⟩
        rw [upd_same, List.take_succ]
        have eg : (grp N t)[k]? = some (Fm.mr (mcOf N) t k) := by
          unfold grp
          rw [List.getElem?_map, List.getElem?_range hkN]; rfl
        rw [eg]
        unfold nV
        rw [List.map_append]; rfl
  · rintro σ H9 ⟨v6, rfl, (s9' : Same _ _), ed⟩
    have z : (grp N t).length = N.length := grp_len N t
    rw [← z, List.take_length] at ed
    have eend : grp N t = grp N N.length := by
      unfold grp
      exact List.map_congr_left fun k hk => Fm.mr_end ok (List.mem_range.mp hk) hst8
    rw [eend] at ed
    exact ⟨_, rfl, q du H9 (s8.trans s9') ed⟩

/-! #### law of the leaned machines -/
structure InsTxt (K : PySem.W.Frag) (C : Addr) : Prop where
  ha : PySem.W.findIn K (.ref C) "__class__" = some (some (.builtin "object.__class__"))
  hn : PySem.W.specialIn K (.builtin "object.__class__") "__get__" = some (some (.builtin "getset_descriptor.__get__"))
  htk : PySem.W.takesIn K (.builtin "object.__class__") = some true
  hm : PySem.W.mroIn K C (.type "object") = some true
theorem kit_self {K : PySem.W.Frag} {t : Value} : PySem.W.kitOne K t t = some true := by
  unfold PySem.W.kitOne
  rw [if_pos (by rw [beq_self_eq_true])]
def nmS (k : Nat) : Str := ("s" : Str) ++ (toString (k : Int) : Str)
theorem nmS_ok : ∀ k : Fin 30, PyData.strOk (nmS k) = true ∧ ("s" : Str).length + ((toString ((k : Nat) : Int) : Str)).length ≤ 10 := by decide +kernel
def wayAt (H : Hp) (v : V) (k : Nat) : Prop := ∃ t, v = .ref t ∧ H t = some (.tup [.int ((k : Int) % 4)])
theorem wayAt.same {H H' : Hp} {v : V} {k : Nat} (s : Same H H') (h : wayAt H v k) : wayAt H' v k := by
  obtain ⟨t, e, h⟩ := h
  exact ⟨t, e, s _ _ h⟩
def wayD (k : Nat) : PyData := .tuple [.int ((k : Int) % 4)]
theorem wayAt.rd {K : PySem.W.Frag} {H : Hp} {v : V} {k : Nat} (h : wayAt H v k) : RdV K H v (wayD k) := by
  obtain ⟨t, rfl, h⟩ := h
  exact .tup (SqT.of h) (.cons (.int _) .nil)
theorem way_shape (ks : List Nat) : shape 2 (.list (ks.map wayD)) := shape_list (shapes_map ks fun k _ => shape_tuple ⟨rfl, by simp [PyData.depthAll, PyData.depth], by simp only [PyData.eqvAll, PyData.eqv, beq_self_eq_true, Bool.and_true]⟩)
theorem nm_shape {ks : List Nat} (h : ∀ k ∈ ks, k < 30) : shape 1 (.list (ks.map fun k => PyData.str (nmS k))) := shape_list (shapes_map ks fun k hk => ⟨(nmS_ok ⟨k, h k hk⟩).1, by simp [PyData.depth], by simp only [PyData.eqv, beq_self_eq_true]⟩)
def stV (n : Nat) : List V := (List.range n).map fun k => V.str (nmS k)
theorem stV_get {n k : Nat} (h : k < n) : (stV n).getD k .non = V.str (nmS k) := by
  unfold stV
  rw [List.getD_eq_getElem?_getD, List.getElem?_map, List.getElem?_range h]; rfl
theorem strs_rd {K : PySem.W.Frag} {H : Hp} : ∀ ks : List Nat, RdVs K H (ks.map fun k => V.str (nmS k)) (ks.map fun k => PyData.str (nmS k))
  | [] => .nil
  | k :: r => .cons (.str _) (strs_rd r)
/-- a short list -/
def smL (H : Hp) (x : Addr) : Prop := ∃ xs, H x = some (.lst xs) ∧ xs.length ≤ 200
theorem smL.upd {H : Hp} {x p : Addr} {xs : List V} (h : smL H x) (hl : xs.length ≤ 200) : smL (upd H p (.lst xs)) x := by
  obtain ⟨ys, e, l⟩ := h
  by_cases z : x = p
  · subst z; exact ⟨xs, upd_same, hl⟩
  · exact ⟨ys, by rw [upd_ne z]; exact e, l⟩
theorem smL.new {H : Hp} {x p : Addr} {o : HO} (h : smL H x) (hp : H p = none) : smL (L2.upd H p o) x := by
  obtain ⟨ys, e, l⟩ := h
  exact ⟨ys, by rw [upd_ne (ne_of_none e hp)]; exact e, l⟩
theorem left_zero {M : Mach} (G : GoodM M) (t : Nat) : ∃ r, leftL (grp M t) = 0 :: r := by
  have h0 : 0 ∈ leftL (grp M t) := by
    have := left_mem (M := M) t G.pos
    rw [grp_get G.pos] at this
    have e : Fm.mr (mcOf M) t 0 = 0 := by
      have := Fm.mr_le (m := mcOf M) t 0
      omega
    rw [e] at this
    exact this
  unfold leftL at h0 ⊢
  have e : List.range (grp M t).length = 0 :: (List.range' 1 ((grp M t).length - 1)) := by
    rw [grp_len, List.range_eq_range']
    have := G.pos
    obtain ⟨n, hn⟩ : ∃ n, M.length = n + 1 := ⟨M.length - 1, by omega⟩
    rw [hn]; rfl
  rw [e, List.filter_cons]
  have := (List.mem_filter.mp h0).2
  rw [if_pos this]
  exact ⟨_, rfl⟩
abbrev nl12 : List Str := ["script", "many", "rows", "names", "flat", "made", "leasts", "left", "k", "due"]
def spLaw (K : PySem.W.Frag) : Sp := fun vs H Q _ => ∃ (a : Addr) (ns : List Int), vs = [.ref a] ∧ SqL K H a (ns.map V.int) ∧ ns.length ≤ 63 ∧ ∀ H', Q (.bl true) H'
theorem scLaw : FnScope ["script", "many", "rows", "names", "flat", "made", "leasts", "left", "k", "due"] ["script"] (defScope sLaw) := ⟨rfl, rfl, rfl, by decide +kernel, rfl, by decide +kernel, by decide +kernel⟩
theorem ok_law {f C fi fcell fm fle fls fen : Addr} {fd fdi fdcell fdm fdle fdls fden : FuncData} (D : DefAt K mg "law" sLaw ["script"] f fd) (T : FTxt K mg C) (IT : InsTxt K C) (M : Mk K C fi) (bi : Binds K fdi ["self", "states", "rows", "ways"] [])
    (Gi : FnOk P w K mg base CX0 1 fi fdi ["self", "states", "rows", "ways"] (spFInit C)) (Dc : DefAt K mg "_law_cell_at" sCell ["script", "k"] fcell fdcell) (Dm : DefAt K mg "_law_machine" sMach ["script", "many"] fm fdm)
    (De : DefAt K mg "leaned" sLeaned ["flat"] fle fdle) (Ge : FnOk P w K mg base CX0 3 fle fdle ["flat"] (spLeaned K C)) (Dl : DefAt K mg "_law_leasts" sLeasts ["rows"] fls fdls) (Gl : FnOk P w K mg base CX0 3 fls fdls ["rows"] spLeasts) (Dn : DefAt K mg "_law_entries" sEntries ["found", "due"] fen fden) (Gn : FnOk P w K mg base CX0 2 fen fden ["found", "due"] spEntries) :
    FnOk P w K mg base CX0 6 f fd ["script"] (spLaw K) := by
  have Gc : FnOk P w K mg base CX0 1 fcell fdcell ["script", "k"] (spCell K) := ok_cell Dc T
  have Gm : FnOk P w K mg base CX0 2 fm fdm ["script", "many"] (spMach K g9) := ok_mach Dm T Dc
  refine D.fn.ok scLaw (fun vs H Q E h => ?_) (fun cdv A outer s H vs Q E hr h => ?_)
  · obtain ⟨a, ns, rfl, _⟩ := h
    rfl
  obtain ⟨a, ns, rfl, hS, hn, q⟩ := h
  have hr1 : Room 1 _ := hr.mono (by decide)
  have hr2 : Room 2 _ := hr.mono (by decide)
  have hr3 : Room 3 _ := hr.mono (by decide)
  obtain ⟨m0, m30⟩ := m9_le ns
  -- behind the rows
  obtain ⟨t4, p4, r4⟩ : ∃ t, PSs (cxOf CX0 P w K mg base ["script", "many", "rows", "names", "flat", "made", "leasts", "left", "k", "due"] "law" (defScope sLaw) f cdv A outer s H E).nox ((defBody sLaw).drop 4) t ∧
      ∀ (r : Addr) (qs : List Addr) (N : Mach) (H1 : Hp), RowsIs H1 r qs N → GoodM N → N.length = m9 ns → t { nx := fun _ H' => Q .non H', rt := Q } [some (.ref a), some (.int (m9 ns)), some (.ref r), Option.none, Option.none, Option.none, Option.none, Option.none, Option.none, Option.none] H1 := by
    refine ⟨_, pss_cons (ps_set (i := 3) scLaw.nd rfl (Or.inr rfl) (pe_comp ["k"] [Option.none] rfl (pi_range1 rfl T.range (pa_cons (pv 1) pa_nil)) (fun _ => pg_name (i := 0) (show (["k"] : List Str).Nodup by decide +kernel) rfl (Or.inl rfl)) (fun _ => pts_nil) (fun _ => pe_op op_add_str pe_str (pe_callTy call_str_int (by rfl) T.tstr (by decide +kernel) (pa_cons (pv 0) pa_nil)))
          (N := nl12) (ks := (defScope sLaw).names) rfl rfl (by decide +kernel) (by decide +kernel) (by decide +kernel) (by decide +kernel)))
      (pss_cons (ps_set (i := 4) scLaw.nd rfl (Or.inl rfl) (pe_make M Gi hr2 rfl T.mgC bi .nil pass0
        (pa_cons (pe_callTy call_list_of (by rfl) T.list (by decide +kernel) (pa_cons (pv 3) pa_nil))
        (pa_cons (pe_comp ["row"] [Option.none] rfl (pi_list (pv 2)) (fun _ => pg_name (i := 0) (show (["row"] : List Str).Nodup by decide +kernel) rfl (Or.inl rfl)) (fun _ => pts_nil) (fun _ => pe_callTy call_list_of (by rfl) T.list (by decide +kernel) (pa_cons (pv 0) pa_nil))
          (N := nl12) (ks := (defScope sLaw).names) rfl rfl (by decide +kernel) (by decide +kernel) (by decide +kernel) (by decide +kernel))
        (pa_cons (pe_comp ["k"] [Option.none] rfl (pi_range1 rfl T.range (pa_cons (pv 1) pa_nil)) (fun _ => pg_name (i := 0) (show (["k"] : List Str).Nodup by decide +kernel) rfl (Or.inl rfl)) (fun _ => pts_nil) (fun _ => pe_tup (pa_cons (pe_op op_mod (pv 0) pe_int) pa_nil))
          (N := nl12) (ks := (defScope sLaw).names) rfl rfl (by decide +kernel) (by decide +kernel) (by decide +kernel) (by decide +kernel)) pa_nil)))))
      (pss_cons (ps_set (i := 5) scLaw.nd rfl (Or.inl rfl) (pe_call Ge hr3 rfl De.mg De.fn.kp De.bd .nil pass0 (pa_cons (pv 4) pa_nil)))
      (pss_cons (ps_set (i := 6) scLaw.nd rfl (Or.inr rfl) (pe_call Gl hr3 rfl Dl.mg Dl.fn.kp Dl.bd .nil pass0 (pa_cons (pv 2) pa_nil)))
      (pss_cons (ps_set (i := 7) scLaw.nd rfl (Or.inr rfl) (pe_comp ["k", "leasts"] [Option.none, some 6] rfl (pi_range1 rfl T.range (pa_cons (pv 1) pa_nil)) (fun _ => pg_name (i := 0) (show (["k", "leasts"] : List Str).Nodup by decide +kernel) rfl (Or.inl rfl)) (fun _ => pts_one (pt_cmpR op_eq (pe_ix ix_list (pv 1) (pv 0) (fun _ _ => rfl)) (pv 0) (nomark _))) (fun _ => pv 0)
          (N := nl12) (ks := (defScope sLaw).names) rfl rfl (by decide +kernel) (by decide +kernel) (by decide +kernel) (by decide +kernel)))
      (pss_cons (ps_if (PW.pt (pw_or (pt_not (pt_val (pe_callB (id := "isinstance") call_isinstC (by rfl) T.inst (by decide +kernel) (pa_cons (pv 5) (pa_cons (pe_glob rfl T.mgC (v := .ref C) rfl) pa_nil)))))
        (pw_or (pt_not (pt_val (pe_callB call_isinst (by rfl) T.inst (by decide +kernel) (pa_cons (pe_fld (pv 5) rfl) (pa_cons (pe_bltn (by rfl) T.list (by decide +kernel) (v := .ty "list") rfl) pa_nil)))))
        (pw_or1 (pt_cmpR op_ne (pe_callB call_len_seq (by rfl) T.len PySem.boot_len (pa_cons (pe_fld (pv 5) rfl) pa_nil)) (pe_callB call_len_seq (by rfl) T.len PySem.boot_len (pa_cons (pv 7) pa_nil)) (nomark _)))))) pss_never pss_nil)
      (pss_cons (ps_for PassesOwn.never rfl (pi_range1 rfl T.range (pa_cons (pe_callB call_len_seq (by rfl) T.len PySem.boot_len (pa_cons (pv 7) pa_nil)) pa_nil)) (pg_name (i := 8) scLaw.nd rfl (Or.inl rfl))
        (pss_cons (ps_comp (i := 9) ["entry", "leasts", "left"] [Option.none, some 6, some 7] rfl scLaw.nd rfl rfl (pi_list (pe_ix ix_list (pv 2) (pe_ix ix_list (pv 7) (pv 8) (fun _ _ => rfl)) (fun _ _ => rfl))) (fun _ => pg_name (i := 0) (show (["entry", "leasts", "left"] : List Str).Nodup by decide +kernel) rfl (Or.inl rfl)) (fun _ => pts_nil)
          (fun _ => pe_tup (pa_cons (pe_bm PySem.F.plainAttrs_list PySem.F.slot_list_index PySem.F.type_list_index mt_index (pv 2) (pa_cons (pe_ix ix_list (pv 1) (pe_ix ix_tup (pv 0) pe_int (fun _ _ => rfl)) (fun _ _ => rfl)) pa_nil)) (pa_cons (pe_ix ix_tup (pv 0) pe_int (fun _ _ => rfl)) pa_nil)))
          (N := nl12) (ks := (defScope sLaw).names) rfl rfl (by decide +kernel) (by decide +kernel) (by decide +kernel) (by decide +kernel))
        (pss_one (ps_if (pt_not (pt_val (pe_call Gn hr2 rfl Dn.mg Dn.fn.kp Dn.bd .nil pass0 (pa_cons (pe_ix ix_list (pe_fld (pv 5) rfl) (pv 8) (fun _ _ => rfl)) (pa_cons (pv 9) pa_nil))))) pss_never pss_nil))))
      (pss_cons (ps_if (PW.pt (pw_or (pt_cmpR (op_neD hr.units) (pe_fld (pv 5) rfl) (pe_comp ["k", "names"] [Option.none, some 3] rfl (pi_list (pv 7)) (fun _ => pg_name (i := 0) (show (["k", "names"] : List Str).Nodup by decide +kernel) rfl (Or.inl rfl)) (fun _ => pts_nil) (fun _ => pe_ix ix_list (pv 1) (pv 0) (fun _ _ => rfl))
          (N := nl12) (ks := (defScope sLaw).names) rfl rfl (by decide +kernel) (by decide +kernel) (by decide +kernel) (by decide +kernel)) (nomark _))
        (pw_or1 (pt_cmpR (op_neD hr.units) (pe_fld (pv 5) rfl) (pe_comp ["k"] [Option.none] rfl (pi_list (pv 7)) (fun _ => pg_name (i := 0) (show (["k"] : List Str).Nodup by decide +kernel) rfl (Or.inl rfl)) (fun _ => pts_nil) (fun _ => pe_tup (pa_cons (pe_op op_mod (pv 0) pe_int) pa_nil))
          (N := nl12) (ks := (defScope sLaw).names) rfl rfl (by decide +kernel) (by decide +kernel) (by decide +kernel) (by decide +kernel)) (nomark _))))) pss_never pss_nil)
      (pss_cons (ps_expr (pe_bm0 PySem.F.plainAttrs_list PySem.F.slot_list_clear PySem.F.type_list_clear mt_clear (pe_ix ix_list (pe_fld (pv 5) rfl) pe_int (fun _ _ => rfl))))
      (pss_cons (ps_expr (pe_bm PySem.F.plainAttrs_list PySem.F.slot_list_append PySem.F.type_list_append mt_append (pe_fld (pv 5) rfl) (pa_cons (pe_lst pa_nil) pa_nil)))
      (pss_cons (ps_expr (pe_bm0 PySem.F.plainAttrs_list PySem.F.slot_list_clear PySem.F.type_list_clear mt_clear (pe_fld (pv 5) rfl)))
      (pss_cons (ps_expr (pe_bm PySem.F.plainAttrs_list PySem.F.slot_list_append PySem.F.type_list_append mt_append (pe_fld (pv 5) rfl) (pa_cons (pe_tup (pa_cons pe_int pa_nil)) pa_nil)))
      (pss_one (ps_ret (pe_and (pe_cmpR (op_eqD hr.units) (pe_fld (pv 4) rfl) (pv 2) (nomark _)) (pe_and (pe_cmpR (op_eqD hr.units) (pe_fld (pv 4) rfl) (pv 3) (nomark _)) (pe_one (pe_cmpR (op_eqD hr.units) (pe_fld (pv 4) rfl) (pe_comp ["k"] [Option.none] rfl (pi_range1 rfl T.range (pa_cons (pv 1) pa_nil)) (fun _ => pg_name (i := 0) (show (["k"] : List Str).Nodup by decide +kernel) rfl (Or.inl rfl)) (fun _ => pts_nil) (fun _ => pe_tup (pa_cons (pe_op op_mod (pv 0) pe_int) pa_nil))
          (N := nl12) (ks := (defScope sLaw).names) rfl rfl (by decide +kernel) (by decide +kernel) (by decide +kernel) (by decide +kernel)) (nomark _)))))))))))))))))), fun r qs N H1 hR1 hG hNl => ?_⟩
    have hq30 : qs.length = m9 ns := by rw [hR1.hm.1, hNl]
    have e1 := hR1.hr
    have em : ((m9 ns : Int)).toNat = m9 ns := by omega
    -- the names
    refine ⟨_, rfl, _, rfl, by omega, by omega, fun bk nm hnm => ?_⟩
    rw [em]
    refine comp_rangeA (Pv := fun i ys σ H' => ∃ v, σ = [v] ∧ ys = stV i ∧ Same H1 H') ⟨_, rfl, rfl, same_new hnm _⟩ ?_ ?_
    · rintro i ys σ H' hi hDi ⟨v, rfl, hys, (s : Same _ _)⟩
      have ei : (0 : Int) + (i : Int) = (i : Int) := by omega
      rw [ei]
      have hk := (nmS_ok ⟨i, by omega⟩).2
      refine ⟨_, rfl, _, rfl, small_log (by omega), _, _, rfl, rfl, small (Nat.le_trans hk (by decide)), hDi, by rw [hys]; unfold stV; rw [List.length_map, List.length_range]; exact small1000 (by omega), ⟨_, rfl, ?_, sameUpd s hnm _⟩⟩
      rw [hys]
      unfold stV
      rw [List.range_succ, List.map_append]; rfl
    rintro ys σ H2 hD2 ⟨v, rfl, hys, (s2 : Same _ _)⟩
    subst hys
    -- list(names)
    refine ⟨_, rfl, nm, _, rfl, .inl (SqL.of hD2), fun st hst => ?_⟩
    have s3 := same_new hst (.lst (stV (m9 ns)))
    have hD3 : (upd H2 st (.lst (stV (m9 ns)))) st = some (.lst (stV (m9 ns))) := upd_same
    generalize upd H2 st (.lst (stV (m9 ns))) = H3 at s3 hD3 ⊢
    have s13 := s2.trans s3
    -- the rows' lists
    refine ⟨_, rfl, r, rfl, ⟨_, SqL.of (s13 _ _ e1)⟩, fun bk rl hrl => ?_⟩
    obtain ⟨vss, hvl, hvs⟩ := rows_lists hR1.hm
    refine comp_listA (K := K) (xs := qs.map V.ref) (Pv := fun i ys σ H' => ∃ v ps, σ = [v] ∧ ys = ps.map V.ref ∧ Same H3 H' ∧ ListsAt H' ps (vss.take i) ∧ ∀ p ∈ ps, p ≠ rl) ⟨_, [], rfl, rfl, same_new hrl _, by rw [List.take_zero]; exact Z.nil, fun p hp => by simp at hp⟩ ?_ ?_ ?_
    · rintro i ys σ H' hi hDi ⟨v, ps, rfl, rfl, (s : Same _ _), _, _⟩
      exact SqL.of (s _ _ (s13 _ _ e1))
    · rintro i x ys σ H' hx hDi ⟨v, ps, rfl, rfl, (s : Same _ _), hL, hps⟩
      obtain ⟨qa, hqa, rfl⟩ : ∃ qa, qs[i]? = some qa ∧ V.ref qa = x := by
        rw [List.getElem?_map] at hx
        cases z : qs[i]? with
        | none => rw [z] at hx; simp at hx
        | some p => rw [z] at hx; exact ⟨p, rfl, by simpa using hx⟩
      have hi : i < vss.length := by rw [← hvl]; exact (List.getElem?_eq_some_iff.mp hqa).1
      have hvi : vss[i]? = some vss[i] := List.getElem?_eq_getElem hi
      obtain ⟨b1, _⟩ := hvs H' (s13.trans s) i qa _ hqa hvi
      refine ⟨_, rfl, qa, _, rfl, .inl (SqL.of b1), fun l hl => ?_⟩
      have nDl : rl ≠ l := ne_of_none hDi hl
      refine ⟨by rw [upd_ne nDl]; exact hDi, ?_, ⟨_, ps ++ [l], rfl, by rw [List.map_append]; rfl, sameUpd (sameUpd s (s.free hl) _) hrl _, ?_, fun p hp => ?_⟩⟩
      · have z := hL.1
        rw [List.length_take] at z
        rw [List.length_map]
        exact small1000 (by omega)
      · rw [List.take_succ, hvi]
        refine Z.snoc (hL.monoM fun p vs hp e => ?_) ?_
        · show (upd (upd H' l (.lst _)) rl _) p = _
          rw [upd_ne (hps p hp), upd_ne (ne_of_none e hl)]; exact e
        · show (upd (upd H' l (.lst _)) rl _) l = _
          rw [upd_ne nDl.symm, upd_same]
      · rcases List.mem_append.mp hp with z | z
        · exact hps p z
        · have z' : p = l := by simpa using z
          subst z'
          exact nDl.symm
    rintro ys σ H5 hD5 ⟨v, ps5, rfl, rfl, (s5 : Same _ _), hL5, hps5⟩
    rw [List.length_map, hvl, List.take_length] at hL5
    have s15 := s13.trans s5
    -- the ways
    refine ⟨_, rfl, _, rfl, by omega, by omega, fun bk wl hwl => ?_⟩
    rw [em]
    refine comp_rangeA (Pv := fun i ys σ H' => ∃ v, σ = [v] ∧ Same H5 H' ∧ Z (wayAt H') ys (List.range i)) ⟨_, rfl, same_new hwl _, Z.nil⟩ ?_ ?_
    · rintro i ys σ H' hi hDi ⟨v, rfl, (s : Same _ _), hZ⟩
      have ei : (0 : Int) + (i : Int) = (i : Int) := by omega
      rw [ei]
      refine ⟨_, rfl, _, _, rfl, rfl, (by show (0 : Int) < _; decide), (by show 1 ≤ sizeLine; decide), fun t ht => ?_⟩
      have nDt : wl ≠ t := ne_of_none hDi ht
      refine ⟨by rw [upd_ne nDt]; exact hDi, by rw [hZ.1, List.length_range]; exact small1000 (by omega), ⟨_, rfl, sameUpd (sameUpd s (s.free ht) _) hwl _, ?_⟩⟩
      rw [List.range_succ]
      refine Z.snoc (hZ.mono fun v k z => ?_) ⟨t, rfl, by rw [upd_ne nDt.symm, upd_same]⟩
      obtain ⟨t', rfl, z⟩ := z
      exact ⟨t', rfl, by rw [upd_ne (ne_of z hDi (by intro y; cases y)), upd_ne (ne_of_none z ht)]; exact z⟩
    rintro ws σ H6 hD6 ⟨v, rfl, (s6 : Same _ _), hW6⟩
    have s16 := s15.trans s6
    -- Flat(..)
    intro c dx hc hdx ncd
    have kc : ∀ x o, H6 x = some o → (upd (upd H6 dx (.own c)) c (.ins C dx [])) x = some o := fun x o e => by
      rw [upd_ne (ne_of_none e hc), upd_ne (ne_of_none e hdx)]; exact e
    have lps : ps5.length = m9 ns := by rw [hL5.1, ← hvl, hq30]
    refine ⟨c, dx, st, rl, wl, ps5, stV (m9 ns), vss, ws, rfl, upd_same, kc _ _ ((s5.trans s6) _ _ hD3), kc _ _ (s6 _ _ hD5), hL5.mono fun _ _ e => kc _ _ (s6 _ _ e), kc _ _ hD6, by omega, fun sa ra ya ps H7 k7 o7 _ h7s _ h7r h7L _ _ h7w => ⟨rfl, ?_⟩⟩
    have s67 : Same H6 H7 := fun x o e => k7 x o (kc x o e) (ne_of_none e hc)
    have s17 := s16.trans s67
    have hM7 : RowsAt H7 ps N := by
      refine ⟨by rw [h7L.1, ← hvl, hq30, hNl], fun i p ro a1 a2 => ?_⟩
      obtain ⟨vs, b1, b2⟩ := h7L.at1 a1
      have hi : i < qs.length := by rw [hvl]; exact (List.getElem?_eq_some_iff.mp b1).1
      obtain ⟨_, ro', c1, c2⟩ := hvs H7 s17 i _ vs (List.getElem?_eq_getElem hi) b1
      rw [a2] at c1
      cases c1
      exact ⟨vs, b2, c2⟩
    have hF7 : FlatIs C H7 c sa ra ya ps (stV (m9 ns)) N ws := ⟨⟨dx, o7⟩, h7s, h7r, hM7, h7w⟩
    have hR7 := hR1.same s17
    have hW7 : Z (wayAt H7) ws (List.range (m9 ns)) := hW6.mono fun _ _ z => z.same s67
    have nm7 : H7 nm = some (.lst (stV (m9 ns))) := (s3.trans (s5.trans (s6.trans s67))) _ _ hD2
    have wl7 : ws.length = N.length := by rw [hW7.1, List.length_range, hNl]
    have sl7 : (stV (m9 ns)).length = N.length := by unfold stV; rw [List.length_map, List.length_range, hNl]
    clear s67 s16 s15 s13 kc k7 hvs h7L hL5 hW6
    -- made
    refine ⟨_, rfl, c, sa, ra, ya, ps, _, _, N, rfl, hF7, hG, sl7, wl7, fun c' s' r' y' ps' H8 s8 hF8 fs fr fy fp => ?_⟩
    have hgl : (grp N N.length).length = N.length := grp_len _ _
    have hmem : ∀ k, k < N.length → (grp N N.length).getD k 0 ∈ leftL (grp N N.length) := fun k hk => left_mem N.length hk
    obtain ⟨lr, hlr⟩ := left_zero hG N.length
    -- leasts
    refine ⟨_, rfl, r, qs, N, rfl, hR7.same s8, hG, fun lt H9 s9 e9 => ?_⟩
    generalize hgg : grp N N.length = g at e9 hgl hmem hF8 hlr
    have hll := left_len g
    have hlx : ∀ x ∈ leftL g, x < N.length := fun x hx => by have := left_lt hx; omega
    -- left
    refine ⟨_, rfl, _, rfl, by omega, by omega, fun bk lf hlf => ?_⟩
    have em2 : ((m9 ns : Int)).toNat = g.length := by omega
    rw [em2]
    refine comp_range (Pv := fun j ys σ H' => ∃ v, σ = [v, some (.ref lt)] ∧ ys = nV ((List.range j).filter fun k => decide (g.getD k 0 = k)) ∧ Same H9 H') ⟨_, rfl, rfl, same_new hlf _⟩ ?_ ?_
    · rintro j ys σ H' hj hDj ⟨v, rfl, hys, (s' : Same _ _)⟩
      have ej : (0 : Int) + (j : Int) = (j : Int) := by omega
      rw [ej]
      refine ⟨_, rfl, _, rfl, lt, _, _, _, rfl, rfl, SqL.of (s' _ _ e9), nV_at hj, _, rfl, rfl, _, rfl, ?_⟩
      have ec : decide (V.int ((g.getD j 0 : Nat) : Int) = V.int (j : Int)) = decide (g.getD j 0 = j) := decide_eq_decide.mpr ⟨fun y => by injection y with y; omega, fun y => by rw [y]⟩
      rw [ec]
      have el : ((List.range (j + 1)).filter fun k => decide (g.getD k 0 = k)) = ((List.range j).filter fun k => decide (g.getD k 0 = k)) ++ (if decide (g.getD j 0 = j) = true then [j] else []) := by
        rw [List.range_succ, List.filter_append]
        congr 1
        rw [List.filter_cons, List.filter_nil]
      refine ite2 (fun z => ?_) (fun z => ?_)
      · refine ⟨_, rfl, hDj, ?_, ⟨_, rfl, ?_, sameUpd s' hlf _⟩⟩
        · rw [hys, nV_len]
          have := List.length_filter_le (fun k => decide (g.getD k 0 = k)) (List.range j)
          rw [List.length_range] at this
          exact small1000 (by omega)
        · rw [el, if_pos z, hys]
          unfold nV
          rw [List.map_append]; rfl
      · refine ⟨hDj, ⟨_, rfl, ?_, s'⟩⟩
        rw [el, if_neg z, List.append_nil]
        exact hys
    rintro ys σ H10 e10 ⟨v, rfl, hys, (s10 : Same _ _)⟩
    have hys' : ys = nV (leftL g) := hys
    rw [hys'] at e10
    clear hys hys'
    have s810 := s9.trans s10
    have s710 := s8.trans s810
    have hF10 := hF8.same s810
    obtain ⟨⟨dx', o10⟩, k10s, k10r, k10m, k10y⟩ := id hF10
    have lpm : ps'.length = (leftL g).length := by rw [k10m.1]; simp [leanM]
    -- the first test
    refine ⟨_, rfl, _, _, _, _, rfl, .ins o10 T.cl IT.ha IT.hn IT.htk IT.hm, kit_self, _, rfl, ?_⟩
    refine iteF ?_
    refine ⟨_, rfl, c', C, dx', _, _, rfl, o10, T.cl, T.nR, fflds_rows s' r' y', _, _, _, _, rfl, .lst k10r, T.ll, _, rfl, ?_⟩
    refine iteF ?_
    refine ⟨_, rfl, c', C, dx', _, _, rfl, o10, T.cl, T.nR, fflds_rows s' r' y', r', _, rfl, .inl (SqL.of k10r), _, rfl, lf, _, rfl, .inl (SqL.of e10), rfl, _, rfl, ?_⟩
    rw [nV_len, List.length_map, lpm]
    refine iteNS rfl ?_
    -- the rows, one by one
    refine ⟨_, rfl, lf, _, rfl, .inl (SqL.of e10), _, rfl, by rw [nV_len]; omega, by rw [nV_len]; omega, ?_⟩
    rw [nV_len]
    have elf : (((leftL g).length : Int)).toNat = (leftL g).length := by omega
    rw [elf]
    refine for_range (fun i σ H' => ∃ v8 v9, σ = [some (.ref a), some (.int (m9 ns)), some (.ref r), some (.ref nm), some (.ref c), some (.ref c'), some (.ref lt), some (.ref lf), v8, v9] ∧ Same H10 H') ⟨_, _, rfl, Same.refl _⟩ ?_ ?_
    · rintro i σ H' hi ⟨v8, v9, rfl, (sx : Same _ _)⟩
      have ei : (0 : Int) + (i : Int) = (i : Int) := by omega
      rw [ei]
      have hli : (leftL g)[i]? = some (leftL g)[i] := List.getElem?_eq_getElem hi
      generalize hkk : (leftL g)[i] = k at hli
      have hkN := hlx k (List.mem_of_getElem? hli)
      have hNk : N[k]? = some (N.getD k []) := by rw [List.getD_eq_getElem?_getD, List.getElem?_eq_getElem hkN]; rfl
      have hrm : N.getD k [] ∈ N := List.mem_of_getElem? hNk
      have s7x := s710.trans sx
      obtain ⟨p, hp, vs, hv, hE⟩ := (hR7.same s7x).hm.at hNk
      have hp' : (qs.map V.ref)[k]? = some (.ref p) := by rw [List.getElem?_map, hp]; rfl
      refine ⟨_, rfl, _, rfl, _, rfl, lf, _, _, _, rfl, rfl, SqL.of (sx _ _ e10), nV_get hli, r, _, _, _, rfl, rfl, SqL.of (hR7.same s7x).hr, atI_nat hp', p, rfl, ⟨_, SqL.of hv⟩, fun bk D hD => ?_⟩
      have hv4 : vs.length = 4 := by rw [hE.1, hG.four _ hrm]
      refine comp_listA (K := K) (xs := vs) (Pv := fun j ys σ H'' => ∃ v, σ = [v, some (.ref lt), some (.ref lf)] ∧ Same H' H'' ∧ Z (EntAt H'') ys (((N.getD k []).take j).map (leanE g (leftL g)))) ⟨_, rfl, same_new hD _, by simp [List.take_zero]; exact Z.nil⟩ ?_ ?_ ?_
      · rintro j ys σ H'' hj hDj ⟨v, rfl, (s5 : Same _ _), _⟩
        exact SqL.of (s5 _ _ hv)
      · rintro j x ys σ H'' hx hDj ⟨v, rfl, (s5 : Same _ _), hZ⟩
        obtain ⟨e, hee, te, u, rfl, k1, k2⟩ := hE.at1 hx
        obtain ⟨e0, e2⟩ := hG.to _ hrm e (List.mem_of_getElem? hee)
        have hel : e.1.toNat < g.length := by omega
        have heL := hmem e.1.toNat (by omega)
        have eN : e.1 = ((e.1.toNat : Nat) : Int) := by omega
        have ga : atI (nV g) e.1 = some (.int ((g.getD e.1.toNat 0 : Nat) : Int)) := by
          rw [eN, Int.toNat_natCast]; exact nV_at hel
        have hj4 : j < (N.getD k []).length := (List.getElem?_eq_some_iff.mp hee).1
        have h44 := hG.four _ hrm
        have hq : SqL K H'' lf (((leftL g).map fun (n : Nat) => (n : Int)).map V.int) := by rw [← nV_ints]; exact SqL.of ((sx.trans s5) _ _ e10)
        refine ⟨_, rfl, .inl ⟨rfl, _, hq⟩, _, rfl, _, rfl, te, _, _, _, rfl, rfl, SqT.of (s5 _ _ k1), rfl, lt, _, _, _, rfl, rfl, SqL.of ((s10.trans (sx.trans s5)) _ _ e9), ga, lf, _, _, rfl, rfl, hq, ?_, ?_, ?_, ?_⟩
        · intro y hy
          obtain ⟨z, hz, rfl⟩ := List.mem_map.mp hy
          have := hlx z hz
          omega
        · rw [List.length_map]; omega
        · exact List.mem_map.mpr ⟨_, heL, rfl⟩
        rw [idx_nat]
        refine ⟨_, rfl, te, _, _, _, rfl, rfl, SqT.of (s5 _ _ k1), rfl, (by show 2 ≤ sizeLine; decide), fun tn htn => ?_⟩
        have nDt : D ≠ tn := ne_of_none hDj htn
        have kp : Keeps D H'' (upd (upd H'' tn (.tup [.int (((leftL g).idxOf (g.getD e.1.toNat 0) : Nat) : Int), u])) D (.lst (ys ++ [.ref tn]))) := fun x o ex n => by rw [upd_ne n, upd_ne (ne_of_none ex htn)]; exact ex
        refine ⟨by rw [upd_ne nDt]; exact hDj, ?_, ⟨_, rfl, sameUpd (sameUpd s5 (s5.free htn) _) hD _, ?_⟩⟩
        · rw [hZ.1, List.length_map, List.length_take]; exact small1000 (by omega)
        · rw [List.take_succ, hee, List.map_append]
          refine Z.snoc (hZ.mono fun _ _ z => z.keep kp (lst_tup hDj)) ?_
          exact ⟨tn, u, rfl, by rw [upd_ne nDt.symm, upd_same]; rfl, (k2.same s5).keep kp (lst_tup hDj)⟩
      · rintro ys σ H'' hDn ⟨v, rfl, (s5 : Same _ _), hZ⟩
        have evl : vs.length = (N.getD k []).length := hE.1
        rw [evl, List.take_length] at hZ
        have sxx := sx.trans s5
        obtain ⟨⟨dx2, o2⟩, _, k2r, k2m, _⟩ := hF10.same sxx
        have hMi : (leanM N g)[i]? = some ((N.getD k []).map (leanE g (leftL g))) := by
          unfold leanM
          rw [List.getElem?_map, hli]; rfl
        obtain ⟨p2, hp2, hrow2⟩ := k2m.at hMi
        have hp2' : (ps'.map V.ref)[i]? = some (.ref p2) := by rw [List.getElem?_map, hp2]; rfl
        refine ⟨_, rfl, c', C, dx2, _, _, rfl, o2, T.cl, T.nR, fflds_rows s' r' y', _, rfl, r', _, _, _, rfl, rfl, SqL.of k2r, atI_nat hp2', _, rfl, p2, D, _, rfl, hrow2, ⟨ys, hDn, hZ⟩, ?_, ?_, _, rfl, ?_⟩
        · rw [List.length_map, hG.four _ hrm]; decide
        · intro e he
          obtain ⟨e', he', rfl⟩ := List.mem_map.mp he
          exact Nat.le_trans (hG.few _ hrm e' he') (by decide)
        refine iteF ?_
        exact ⟨_, _, rfl, sxx⟩
    rintro σ H11 ⟨v8, v9, rfl, (s11 : Same _ _)⟩
    have s711 := s710.trans s11
    have hF11 := hF10.same s11
    obtain ⟨⟨dx3, o11⟩, k11s, k11r, k11m, k11y⟩ := id hF11
    have lget : ∀ {i : Nat} {x : V}, (nV (leftL g))[i]? = some x → ∃ k : Nat, (leftL g)[i]? = some k ∧ x = V.int (k : Int) ∧ k < N.length := fun {i x} hx => by
      unfold nV at hx
      rw [List.getElem?_map] at hx
      cases z : (leftL g)[i]? with
      | none => rw [z] at hx; simp at hx
      | some k => rw [z] at hx; exact ⟨k, rfl, by simpa using hx.symm, hlx k (List.mem_of_getElem? z)⟩
    -- made.states
    have est : ((leftL g).map fun k => (stV (m9 ns)).getD k .non) = (leftL g).map fun k => V.str (nmS k) := List.map_congr_left fun k hk => stV_get (by have := hlx k hk; omega)
    rw [est] at k11s
    refine ⟨_, rfl, c', C, dx3, _, _, rfl, o11, T.cl, T.nS, fflds_states s' r' y', _, rfl, lf, rfl, ⟨_, SqL.of (s11 _ _ e10)⟩, fun bk sl hsl => ?_⟩
    refine comp_listA (K := K) (xs := nV (leftL g)) (Pv := fun j ys σ H' => ∃ v, σ = [v, some (.ref nm)] ∧ ys = ((leftL g).take j).map (fun k => V.str (nmS k)) ∧ Same H11 H') ⟨_, rfl, by simp, same_new hsl _⟩ ?_ ?_ ?_
    · rintro j ys σ H' hj hDj ⟨v, rfl, _, (sx : Same _ _)⟩
      exact SqL.of (sx _ _ (s11 _ _ e10))
    · rintro j x ys σ H' hx hDj ⟨v, rfl, hys, (sx : Same _ _)⟩
      obtain ⟨k, hk, rfl, hkN⟩ := lget hx
      have gk : atI (stV (m9 ns)) (k : Int) = some (.str (nmS k)) := atI_nat (by unfold stV; rw [List.getElem?_map, List.getElem?_range (by omega)]; rfl)
      refine ⟨_, rfl, _, rfl, nm, _, _, _, rfl, rfl, SqL.of ((s711.trans sx) _ _ nm7), gk, hDj, ?_, ⟨_, rfl, ?_, sameUpd sx hsl _⟩⟩
      · rw [hys, List.length_map, List.length_take]; exact small1000 (by omega)
      · rw [List.take_succ, hk, List.map_append, ← hys]; rfl
    rintro ys σ H12 e12 ⟨v, rfl, hys, (s12 : Same _ _)⟩
    rw [nV_len, List.take_length] at hys
    subst hys
    have shS := nm_shape (ks := leftL g) fun k hk => by have := hlx k hk; omega
    refine ⟨_, _, .lst (SqL.of (s12 _ _ k11s)) (strs_rd _), .lst (SqL.of e12) (strs_rd _), shaped_of shS (by decide), shaped_of shS (by decide), _, rfl, ?_⟩
    rw [if_pos rfl, shS.2.2]
    refine iteF ?_
    -- made.ways
    refine ⟨_, rfl, c', C, dx3, _, _, rfl, s12 _ _ o11, T.cl, T.nW, fflds_ways s' r' y', _, rfl, lf, rfl, ⟨_, SqL.of ((s11.trans s12) _ _ e10)⟩, fun bk wk hwk => ?_⟩
    refine comp_listA (K := K) (xs := nV (leftL g)) (Pv := fun j ys σ H' => ∃ v, σ = [v] ∧ Same H12 H' ∧ Z (wayAt H') ys ((leftL g).take j)) ⟨_, rfl, same_new hwk _, by rw [List.take_zero]; exact Z.nil⟩ ?_ ?_ ?_
    · rintro j ys σ H' hj hDj ⟨v, rfl, (sx : Same _ _), _⟩
      exact SqL.of (sx _ _ ((s11.trans s12) _ _ e10))
    · rintro j x ys σ H' hx hDj ⟨v, rfl, (sx : Same _ _), hZ⟩
      obtain ⟨k, hk, rfl, hkN⟩ := lget hx
      refine ⟨_, rfl, _, _, rfl, rfl, (by show (0 : Int) < _; decide), (by show 1 ≤ sizeLine; decide), fun t ht => ?_⟩
      have nDt : wk ≠ t := ne_of_none hDj ht
      refine ⟨by rw [upd_ne nDt]; exact hDj, by rw [hZ.1, List.length_take]; exact small1000 (by omega), ⟨_, rfl, sameUpd (sameUpd sx (sx.free ht) _) hwk _, ?_⟩⟩
      rw [List.take_succ, hk]
      refine Z.snoc (hZ.mono fun v k z => ?_) ⟨t, rfl, by rw [upd_ne nDt.symm, upd_same]⟩
      obtain ⟨t', rfl, z⟩ := z
      exact ⟨t', rfl, by rw [upd_ne (ne_of z hDj (by intro y; cases y)), upd_ne (ne_of_none z ht)]; exact z⟩
    rintro ys σ H13 e13 ⟨v, rfl, (s13 : Same _ _), hZ13⟩
    rw [nV_len, List.take_length] at hZ13
    have s713 := s711.trans (s12.trans s13)
    have hF13 := hF11.same (s12.trans s13)
    obtain ⟨⟨dx4, o13⟩, k13s, k13r, k13m, k13y⟩ := id hF13
    have hWm : Z (wayAt H13) ((leftL g).map fun k => ws.getD k .non) (leftL g) := by
      refine ⟨by rw [List.length_map], fun i v k a1 a2 => ?_⟩
      rw [List.getElem?_map, a2] at a1
      have a1' : ws.getD k .non = v := Option.some.inj a1
      have hkN := hlx k (List.mem_of_getElem? a2)
      obtain ⟨x, b1, b2⟩ := hW7.at (List.getElem?_range (show k < m9 ns by omega))
      rw [List.getD_eq_getElem?_getD, b1] at a1'
      have : x = v := a1'
      rw [← this]
      exact b2.same s713
    have shW := way_shape (leftL g)
    refine ⟨_, _, .lst (SqL.of k13y) (z_rd (fun _ _ z => z.rd) hWm), .lst (SqL.of e13) (z_rd (fun _ _ z => z.rd) hZ13), shaped_of shW (by decide), shaped_of shW (by decide), _, rfl, ?_⟩
    rw [if_pos rfl, shW.2.2]
    refine iteF ?_
    -- made.rows[0].clear()
    have hM0 : (leanM N g)[0]? = some ((N.getD 0 []).map (leanE g (leftL g))) := by
      unfold leanM
      rw [List.getElem?_map, hlr]; rfl
    obtain ⟨p0, hp0, vs0, hv0, hZ0⟩ := k13m.at hM0
    have hp0' : (ps'.map V.ref)[0]? = some (.ref p0) := by rw [List.getElem?_map, hp0]; rfl
    obtain ⟨fp0, np0⟩ := fp p0 (List.mem_of_getElem? hp0)
    refine ⟨_, rfl, c', C, dx4, _, _, rfl, o13, T.cl, T.nR, fflds_rows s' r' y', r', _, _, _, rfl, rfl, SqL.of k13r, atI_nat hp0', .inl ⟨rfl, _, SqL.of hv0⟩, p0, _, rfl, rfl, hv0, ?_⟩
    have ncp : c' ≠ p0 := ne_of o13 hv0 (by intro z; cases z)
    have o14 : (upd H13 p0 (.lst [])) c' = some (.ins C dx4 (fflds s' r' y')) := by rw [upd_ne ncp]; exact o13
    have r14 : (upd H13 p0 (.lst [])) r' = some (.lst (ps'.map V.ref)) := by rw [upd_ne np0.symm]; exact k13r
    have st14 : smL (upd H13 p0 (.lst [])) s' := smL.upd ⟨_, k13s, by rw [List.length_map]; omega⟩ (by decide)
    have y14 : smL (upd H13 p0 (.lst [])) y' := smL.upd ⟨_, k13y, by rw [List.length_map]; omega⟩ (by decide)
    have s714 : Same H7 (upd H13 p0 (.lst [])) := sameUpd s713 fp0 _
    generalize upd H13 p0 (.lst []) = H14 at o14 r14 st14 y14 s714 ⊢
    -- made.rows.append([])
    refine ⟨_, rfl, c', C, dx4, _, _, rfl, o14, T.cl, T.nR, fflds_rows s' r' y', .inl ⟨rfl, _, SqL.of r14⟩, (by show 0 ≤ sizeLine; decide), fun el hel => ?_⟩
    have nre : r' ≠ el := ne_of_none r14 hel
    have lr30 : (ps'.map V.ref).length ≤ 30 := by rw [List.length_map, lpm]; omega
    refine ⟨r', _, _, rfl, rfl, (by rw [upd_ne nre]; exact r14), small1000 (by omega), ?_⟩
    have o15 : (upd (upd H14 el (.lst [])) r' (.lst (ps'.map V.ref ++ [.ref el]))) c' = some (.ins C dx4 (fflds s' r' y')) := by
      rw [upd_ne (ne_of o14 r14 (by intro z; cases z)), upd_ne (ne_of_none o14 hel)]; exact o14
    have st15 := (st14.new (o := .lst []) hel).upd (p := r') (xs := ps'.map V.ref ++ [.ref el]) (by rw [List.length_append]; simp at lr30 ⊢; omega)
    have y15 := (y14.new (o := .lst []) hel).upd (p := r') (xs := ps'.map V.ref ++ [.ref el]) (by rw [List.length_append]; simp at lr30 ⊢; omega)
    have s715 : Same H7 (upd (upd H14 el (.lst [])) r' (.lst (ps'.map V.ref ++ [.ref el]))) := sameUpd (sameUpd s714 (s714.free hel) _) fr _
    generalize upd (upd H14 el (.lst [])) r' (.lst (ps'.map V.ref ++ [.ref el])) = H15 at o15 st15 y15 s715 ⊢
    -- made.states.clear()
    obtain ⟨ls15, es15, _⟩ := st15
    refine ⟨_, rfl, c', C, dx4, _, _, rfl, o15, T.cl, T.nS, fflds_states s' r' y', .inl ⟨rfl, _, SqL.of es15⟩, s', _, rfl, rfl, es15, ?_⟩
    have o16 : (upd H15 s' (.lst [])) c' = some (.ins C dx4 (fflds s' r' y')) := by rw [upd_ne (ne_of o15 es15 (by intro z; cases z))]; exact o15
    have y16 := y15.upd (p := s') (xs := []) (by decide)
    have s716 : Same H7 (upd H15 s' (.lst [])) := sameUpd s715 fs _
    generalize upd H15 s' (.lst []) = H16 at o16 y16 s716 ⊢
    -- made.ways.append((9,))
    obtain ⟨ly, ey, hly⟩ := y16
    refine ⟨_, rfl, c', C, dx4, _, _, rfl, o16, T.cl, T.nW, fflds_ways s' r' y', .inl ⟨rfl, _, SqL.of ey⟩, (by show 1 ≤ sizeLine; decide), fun t9 ht9 => ?_⟩
    have nyt : y' ≠ t9 := ne_of_none ey ht9
    refine ⟨y', _, _, rfl, rfl, (by rw [upd_ne nyt]; exact ey), small1000 (by omega), ?_⟩
    have s717 : Same H7 (upd (upd H16 t9 (.tup [.int 9])) y' (.lst (ly ++ [.ref t9]))) := sameUpd (sameUpd s716 (s716.free ht9) _) fy _
    generalize upd (upd H16 t9 (.tup [.int 9])) y' (.lst (ly ++ [.ref t9])) = H17 at s717 ⊢
    -- the machine stays
    obtain ⟨⟨dx5, o17⟩, g17s, g17r, g17m, g17y⟩ := hF7.same s717
    have shR := shape_rows N
    refine ⟨_, rfl, c, C, dx5, _, _, rfl, o17, T.cl, T.nR, fflds_rows sa ra ya, _, rfl, _, _, RowsAt.rd g17r g17m, RowsAt.rd (hR7.same s717).hr (hR7.same s717).hm, shaped_of shR (by decide), shaped_of shR (by decide), _, rfl, ?_⟩
    rw [show (if (false : Bool) = true then !PyData.eqv (rowsD N) (rowsD N) else PyData.eqv (rowsD N) (rowsD N)) = true from shR.2.2]
    refine iteT ?_
    have shN := nm_shape (ks := List.range (m9 ns)) fun k hk => by have := List.mem_range.mp hk; omega
    refine ⟨_, rfl, c, C, dx5, _, _, rfl, o17, T.cl, T.nS, fflds_states sa ra ya, _, rfl, _, _, .lst (SqL.of g17s) (strs_rd _), .lst (SqL.of (s717 _ _ nm7)) (strs_rd _), shaped_of shN (by decide), shaped_of shN (by decide), _, rfl, ?_⟩
    rw [show (if (false : Bool) = true then !PyData.eqv (.list ((List.range (m9 ns)).map fun k => PyData.str (nmS k))) (.list ((List.range (m9 ns)).map fun k => PyData.str (nmS k))) else PyData.eqv (.list ((List.range (m9 ns)).map fun k => PyData.str (nmS k))) (.list ((List.range (m9 ns)).map fun k => PyData.str (nmS k)))) = true from shN.2.2]
    refine iteT ?_
    refine ⟨_, rfl, c, C, dx5, _, _, rfl, o17, T.cl, T.nW, fflds_ways sa ra ya, _, rfl, _, rfl, by omega, by omega, fun bk wz hwz => ?_⟩
    rw [em]
    refine comp_rangeA (Pv := fun i ys σ H' => ∃ v, σ = [v] ∧ Same H17 H' ∧ Z (wayAt H') ys (List.range i)) ⟨_, rfl, same_new hwz _, Z.nil⟩ ?_ ?_
    · rintro i ys σ H' hi hDi ⟨v, rfl, (s : Same _ _), hZ⟩
      have ei : (0 : Int) + (i : Int) = (i : Int) := by omega
      rw [ei]
      refine ⟨_, rfl, _, _, rfl, rfl, (by show (0 : Int) < _; decide), (by show 1 ≤ sizeLine; decide), fun t ht => ?_⟩
      have nDt : wz ≠ t := ne_of_none hDi ht
      refine ⟨by rw [upd_ne nDt]; exact hDi, by rw [hZ.1, List.length_range]; exact small1000 (by omega), ⟨_, rfl, sameUpd (sameUpd s (s.free ht) _) hwz _, ?_⟩⟩
      rw [List.range_succ]
      refine Z.snoc (hZ.mono fun v k z => ?_) ⟨t, rfl, by rw [upd_ne nDt.symm, upd_same]⟩
      obtain ⟨t', rfl, z⟩ := z
      exact ⟨t', rfl, by rw [upd_ne (ne_of z hDi (by intro y; cases y)), upd_ne (ne_of_none z ht)]; exact z⟩
    rintro ys σ H18 e18 ⟨v, rfl, (s18 : Same _ _), hZ18⟩
    have shV := way_shape (List.range (m9 ns))
    refine ⟨_, _, .lst (SqL.of (s18 _ _ g17y)) (z_rd (fun _ _ z => z.rd) (hW7.mono fun _ _ z => z.same (s717.trans s18))), .lst (SqL.of e18) (z_rd (fun _ _ z => z.rd) hZ18), shaped_of shV (by decide), shaped_of shV (by decide), ?_⟩
    rw [show (if (false : Bool) = true then !PyData.eqv (.list ((List.range (m9 ns)).map wayD)) (.list ((List.range (m9 ns)).map wayD)) else PyData.eqv (.list ((List.range (m9 ns)).map wayD)) (.list ((List.range (m9 ns)).map wayD))) = true from shV.2.2]
    exact q H18
  -- the rows
  obtain ⟨t2, p2, r2⟩ : ∃ t, PSs (cxOf CX0 P w K mg base ["script", "many", "rows", "names", "flat", "made", "leasts", "left", "k", "due"] "law" (defScope sLaw) f cdv A outer s H E).nox ((defBody sLaw).drop 2) t ∧
      t { nx := fun _ H' => Q .non H', rt := Q } [some (.ref a), some (.int (m9 ns)), Option.none, Option.none, Option.none, Option.none, Option.none, Option.none, Option.none, Option.none] H := by
    refine ⟨_, pss_cons (ps_set (i := 2) scLaw.nd rfl (Or.inl rfl) (pe_call Gm hr2 rfl Dm.mg Dm.fn.kp Dm.bd .nil pass0 (pa_cons (pv 0) (pa_cons (pv 1) pa_nil))))
      (pss_cons (ps_if (pt_cmpR op_eq (pe_op op_mod (pe_op op_fdiv (pe_call Gc hr1 rfl Dc.mg Dc.fn.kp Dc.bd .nil pass0 (pa_cons (pv 0) (pa_cons pe_int pa_nil))) pe_int) pe_int) pe_int (nomark _))
        (pss_one (ps_asg (pe_callTy call_list_of (by rfl) T.list (by decide +kernel) (pa_cons (pe_ix ix_list (pv 2) (pe_op op_mod (pe_call Gc hr1 rfl Dc.mg Dc.fn.kp Dc.bd .nil pass0 (pa_cons (pv 0) (pa_cons pe_int pa_nil))) (pv 1)) (fun _ _ => rfl)) pa_nil)) (pg_sub (pv 2) (pe_op op_mod (pe_call Gc hr1 rfl Dc.mg Dc.fn.kp Dc.bd .nil pass0 (pa_cons (pv 0) (pa_cons pe_int pa_nil))) (pv 1)) set_list))) pss_nil) p4), ?_⟩
    have hG := mach_good ns (g9 ns) m0 m30
    refine ⟨_, rfl, _, rfl, a, ns, m9 ns, rfl, hS, m0, m30, fun r qs H1 hr0 hqs s1 e1 hR1 => ?_⟩
    have hl : (machL ns (m9 ns) (g9 ns)).length = m9 ns := machL_len _ _ _
    refine ⟨_, rfl, a, ns, 1, rfl, s1.seq hS, _, _, rfl, rfl, ⟨by decide, by decide⟩, _, _, rfl, rfl, (by show (0 : Int) < _; decide), rfl, _, rfl, ?_⟩
    refine ite2 (fun z => ?_) (fun z => ?_)
    · generalize machL ns (m9 ns) (g9 ns) = N at hG hR1 hl
      have i1 := Int.emod_nonneg (Rm.cell ns 59) (show ((m9 ns : Nat) : Int) ≠ 0 by omega)
      have i2 := Int.emod_lt_of_pos (Rm.cell ns 59) (show (0 : Int) < ((m9 ns : Nat) : Int) by omega)
      have j1 := Int.emod_nonneg (Rm.cell ns 58) (show ((m9 ns : Nat) : Int) ≠ 0 by omega)
      have j2 := Int.emod_lt_of_pos (Rm.cell ns 58) (show (0 : Int) < ((m9 ns : Nat) : Int) by omega)
      have ej : Rm.cell ns 59 % ((m9 ns : Nat) : Int) = (((Rm.cell ns 59 % ((m9 ns : Nat) : Int)).toNat : Nat) : Int) := by omega
      have ei : Rm.cell ns 58 % ((m9 ns : Nat) : Int) = (((Rm.cell ns 58 % ((m9 ns : Nat) : Int)).toNat : Nat) : Int) := by omega
      have hj : (Rm.cell ns 59 % ((m9 ns : Nat) : Int)).toNat < N.length := by omega
      have hi : (Rm.cell ns 58 % ((m9 ns : Nat) : Int)).toNat < N.length := by omega
      generalize hjj : (Rm.cell ns 59 % ((m9 ns : Nat) : Int)).toNat = j at hj ej
      generalize hii : (Rm.cell ns 58 % ((m9 ns : Nat) : Int)).toNat = i at hi ei
      have hNj : N[j]? = some (N.getD j []) := by rw [List.getD_eq_getElem?_getD, List.getElem?_eq_getElem hj]; rfl
      obtain ⟨p, hp, vs, hv, hE⟩ := hR1.at hNj
      have hp' : (qs.map V.ref)[j]? = some (.ref p) := by rw [List.getElem?_map, hp]; rfl
      have ga : atI (qs.map V.ref) (Rm.cell ns 59 % ((m9 ns : Nat) : Int)) = some (.ref p) := by rw [ej]; exact atI_nat hp'
      refine ⟨_, rfl, _, rfl, a, ns, 59, rfl, s1.seq hS, _, rfl, _, _, rfl, rfl, by omega, r, _, _, _, rfl, rfl, SqL.of e1, ga, p, _, rfl, .inl (SqL.of hv), fun ln hln => ?_⟩
      have s2 := same_new hln (.lst vs)
      have nrl : r ≠ ln := ne_of_none e1 hln
      have lq : (qs.map V.ref).length = N.length := by rw [List.length_map, hR1.1]
      refine ⟨_, rfl, _, rfl, a, ns, 58, rfl, (s1.trans s2).seq hS, _, rfl, _, _, rfl, rfl, by omega, r, _, _, i, rfl, rfl, s2 _ _ e1, ?_, ?_⟩
      · rw [lq]
        unfold ixN
        rw [if_pos (by show 0 ≤ Rm.cell ns 58 % ((m9 ns : Nat) : Int); omega), if_pos (by show Rm.cell ns 58 % ((m9 ns : Nat) : Int) < _; omega)]
        show some (Rm.cell ns 58 % ((m9 ns : Nat) : Int)).toNat = some i
        rw [hii]
      · have kp : Keeps r (upd H1 ln (.lst vs)) (upd (upd H1 ln (.lst vs)) r (.lst ((qs.map V.ref).set i (.ref ln)))) := fun x o ex n => by rw [upd_ne n]; exact ex
        have hrt : ∀ ys, (upd H1 ln (.lst vs)) r ≠ some (.tup ys) := lst_tup (s2 _ _ e1)
        refine r4 r (qs.set i ln) (N.set i (N.getD j [])) _ ⟨by rw [upd_same, List.map_set], ?_⟩ (good_set hG hj) (by rw [List.length_set]; exact hl)
        refine Z.set ((RowsAt.same s2 hR1).keep kp hrt fun p hp => (hqs p hp).2) i ?_
        exact ⟨vs, kp _ _ upd_same nrl.symm, hE.mono fun _ _ z => (z.same s2).keep kp hrt⟩
    · exact r4 r qs _ H1 ⟨e1, hR1⟩ hG hl
  refine ⟨_, pss_cons (ps_set (i := 1) scLaw.nd rfl (Or.inl rfl) (pe_op op_add pe_int (pe_op op_mod (pe_call Gc hr1 rfl Dc.mg Dc.fn.kp Dc.bd .nil pass0 (pa_cons (pv 0) (pa_cons pe_int pa_nil))) pe_int)))
    (pss_cons (ps_if (pt_cmpR op_eq (pe_op op_mod (pe_call Gc hr1 rfl Dc.mg Dc.fn.kp Dc.bd .nil pass0 (pa_cons (pv 0) (pa_cons pe_int pa_nil))) pe_int) pe_int (nomark _)) (pss_one (ps_set (i := 1) scLaw.nd rfl (Or.inl rfl) pe_int)) pss_nil) p2), ?_⟩
  refine ⟨_, rfl, a, ns, 0, rfl, hS, _, _, rfl, rfl, (by show (0 : Int) < _; decide), _, _, rfl, rfl, ?_⟩
  refine ⟨_, rfl, a, ns, 1, rfl, hS, _, _, rfl, rfl, (by show (0 : Int) < _; decide), rfl, _, rfl, ?_⟩
  refine ite2 (fun z => ?_) (fun z => ?_)
  · have z' : Rm.cell ns 1 % 16 = 1 := by simpa using z
    have e : ((m9 ns : Nat) : Int) = 30 := by unfold m9; rw [if_pos z']; rfl
    rw [e] at r2
    exact r2
  · have z' : ¬ Rm.cell ns 1 % 16 = 1 := by simpa using z
    have e : ((m9 ns : Nat) : Int) = 1 + Rm.cell ns 0 % 8 := by unfold m9; rw [if_neg z']; omega
    rw [e] at r2
    exact r2
end

theorem all_mk {l : PySem.W.OpenLaw} {w : World} {K : PySem.W.Frag} {h : Heap} {mg : Str → Option Value} {fa C : Addr} (X : K.In h) (G : h.Ns mainGlobals mg) (hfa : mg "law" = some (.ref fa))
    {f1 : Addr} {od1 an1 : Option Addr} {sl1 : Array (Option Value)} {oc1 kV1 dc1 pm1 cd1 ct1 : Value}
    {f2 : Addr} {od2 an2 : Option Addr} {sl2 : Array (Option Value)} {oc2 kV2 dc2 pm2 cd2 ct2 : Value}
    {f3 : Addr} {od3 an3 : Option Addr} {sl3 : Array (Option Value)} {oc3 kV3 dc3 pm3 cd3 ct3 : Value}
    {f4 : Addr} {od4 an4 : Option Addr} {sl4 : Array (Option Value)} {oc4 kV4 dc4 pm4 cd4 ct4 : Value}
    {f5 : Addr} {od5 an5 : Option Addr} {sl5 : Array (Option Value)} {oc5 kV5 dc5 pm5 cd5 ct5 : Value}
    {f6 : Addr} {od6 an6 : Option Addr} {sl6 : Array (Option Value)} {oc6 kV6 dc6 pm6 cd6 ct6 : Value}
    {f7 : Addr} {od7 an7 : Option Addr} {sl7 : Array (Option Value)} {oc7 kV7 dc7 pm7 cd7 ct7 : Value}
    {f8 : Addr} {od8 an8 : Option Addr} {sl8 : Array (Option Value)} {oc8 kV8 dc8 pm8 cd8 ct8 : Value}
    {f9 : Addr} {od9 an9 : Option Addr} {sl9 : Array (Option Value)} {oc9 kV9 dc9 pm9 cd9 ct9 : Value}
    {f10 : Addr} {od10 an10 : Option Addr} {sl10 : Array (Option Value)} {oc10 kV10 dc10 pm10 cd10 ct10 : Value}
    {f11 : Addr} {od11 an11 : Option Addr} {sl11 : Array (Option Value)} {oc11 kV11 dc11 pm11 cd11 ct11 : Value}
    {f12 : Addr} {od12 an12 : Option Addr} {sl12 : Array (Option Value)} {oc12 kV12 dc12 pm12 cd12 ct12 : Value}
    {f13 : Addr} {od13 an13 : Option Addr} {sl13 : Array (Option Value)} {oc13 kV13 dc13 pm13 cd13 ct13 : Value}
    {t_BEHIND : Tok}
    {t_DEEDS : Tok}
    (aC_Flat : PySem.W.nsIn K mainGlobals "Flat" = some (some (.ref C))) (pg_Flat : PySem.W.plainGet K C Str.empty = true) (hd_Flat : PySem.W.hasDictIn K C = true) (po_Flat : PySem.W.plainOver K C = true) (sa_Flat : PySem.W.findIn K (.ref C) "__setattr__" = some (some (.builtin "object.__setattr__"))) (mk_Flat : PySem.W.makesIn K C = true) (kc_Flat : PySem.W.keepIn K (.ref C) = true)
    (n_Flat_states : PySem.W.findIn K (.ref C) "states" = some none)
    (n_Flat_rows : PySem.W.findIn K (.ref C) "rows" = some none)
    (n_Flat_ways : PySem.W.findIn K (.ref C) "ways" = some none)
    (ia : PySem.W.findIn K (.ref C) "__class__" = some (some (.builtin "object.__class__")))
    (ib : PySem.W.specialIn K (.builtin "object.__class__") "__get__" = some (some (.builtin "getset_descriptor.__get__")))
    (ic : PySem.W.takesIn K (.builtin "object.__class__") = some true)
    (id_ : PySem.W.mroIn K C (.type "object") = some true)
    (a1 : PySem.W.findIn K (.ref C) "__init__" = some (some (.ref f1))) (i1 : PySem.W.isFn K (.ref f1) = true)
    (l1 : K.lookup f1 = some ⟨oc1, od1, .func (PySem.W.fnOf "__init__" "Flat.__init__" (defArgs sInit) (defBody sInit) (defScope sInit) .none kV1 dc1 pm1 an1 cd1 ct1), sl1⟩) (c1 : PySem.W.codeIn K cd1 "Flat.__init__" = true) (k1 : PySem.W.keepIn K (.ref f1) = true)
    (a2 : PySem.W.nsIn K mainGlobals "alike" = some (some (.ref f2)))
    (l2 : K.lookup f2 = some ⟨oc2, od2, .func (PySem.W.fnOf "alike" "alike" (defArgs sAlike) (defBody sAlike) (defScope sAlike) .none kV2 dc2 pm2 an2 cd2 ct2), sl2⟩) (c2 : PySem.W.codeIn K cd2 "alike" = true) (k2 : PySem.W.keepIn K (.ref f2) = true)
    (a3 : PySem.W.nsIn K mainGlobals "refined" = some (some (.ref f3)))
    (l3 : K.lookup f3 = some ⟨oc3, od3, .func (PySem.W.fnOf "refined" "refined" (defArgs sRefined) (defBody sRefined) (defScope sRefined) .none kV3 dc3 pm3 an3 cd3 ct3), sl3⟩) (c3 : PySem.W.codeIn K cd3 "refined" = true) (k3 : PySem.W.keepIn K (.ref f3) = true)
    (a4 : PySem.W.nsIn K mainGlobals "leaned" = some (some (.ref f4)))
    (l4 : K.lookup f4 = some ⟨oc4, od4, .func (PySem.W.fnOf "leaned" "leaned" (defArgs sLeaned) (defBody sLeaned) (defScope sLeaned) .none kV4 dc4 pm4 an4 cd4 ct4), sl4⟩) (c4 : PySem.W.codeIn K cd4 "leaned" = true) (k4 : PySem.W.keepIn K (.ref f4) = true)
    (a5 : PySem.W.nsIn K mainGlobals "leaned_row" = some (some (.ref f5)))
    (l5 : K.lookup f5 = some ⟨oc5, od5, .func (PySem.W.fnOf "leaned_row" "leaned_row" (defArgs sLRow) (defBody sLRow) (defScope sLRow) .none kV5 dc5 pm5 an5 cd5 ct5), sl5⟩) (c5 : PySem.W.codeIn K cd5 "leaned_row" = true) (k5 : PySem.W.keepIn K (.ref f5) = true)
    (a6 : PySem.W.nsIn K mainGlobals "_law_cell_at" = some (some (.ref f6)))
    (l6 : K.lookup f6 = some ⟨oc6, od6, .func (PySem.W.fnOf "_law_cell_at" "_law_cell_at" (defArgs sCell) (defBody sCell) (defScope sCell) .none kV6 dc6 pm6 an6 cd6 ct6), sl6⟩) (c6 : PySem.W.codeIn K cd6 "_law_cell_at" = true) (k6 : PySem.W.keepIn K (.ref f6) = true)
    (a7 : PySem.W.nsIn K mainGlobals "_law_machine" = some (some (.ref f7)))
    (l7 : K.lookup f7 = some ⟨oc7, od7, .func (PySem.W.fnOf "_law_machine" "_law_machine" (defArgs sMach) (defBody sMach) (defScope sMach) .none kV7 dc7 pm7 an7 cd7 ct7), sl7⟩) (c7 : PySem.W.codeIn K cd7 "_law_machine" = true) (k7 : PySem.W.keepIn K (.ref f7) = true)
    (a8 : PySem.W.nsIn K mainGlobals "_law_far_round" = some (some (.ref f8)))
    (l8 : K.lookup f8 = some ⟨oc8, od8, .func (PySem.W.fnOf "_law_far_round" "_law_far_round" (defArgs sRound) (defBody sRound) (defScope sRound) .none kV8 dc8 pm8 an8 cd8 ct8), sl8⟩) (c8 : PySem.W.codeIn K cd8 "_law_far_round" = true) (k8 : PySem.W.keepIn K (.ref f8) = true)
    (a9 : PySem.W.nsIn K mainGlobals "_law_far" = some (some (.ref f9)))
    (l9 : K.lookup f9 = some ⟨oc9, od9, .func (PySem.W.fnOf "_law_far" "_law_far" (defArgs sFar) (defBody sFar) (defScope sFar) .none kV9 dc9 pm9 an9 cd9 ct9), sl9⟩) (c9 : PySem.W.codeIn K cd9 "_law_far" = true) (k9 : PySem.W.keepIn K (.ref f9) = true)
    (a10 : PySem.W.nsIn K mainGlobals "_law_row" = some (some (.ref f10)))
    (l10 : K.lookup f10 = some ⟨oc10, od10, .func (PySem.W.fnOf "_law_row" "_law_row" (defArgs sRow) (defBody sRow) (defScope sRow) .none kV10 dc10 pm10 an10 cd10 ct10), sl10⟩) (c10 : PySem.W.codeIn K cd10 "_law_row" = true) (k10 : PySem.W.keepIn K (.ref f10) = true)
    (a11 : PySem.W.nsIn K mainGlobals "_law_entries" = some (some (.ref f11)))
    (l11 : K.lookup f11 = some ⟨oc11, od11, .func (PySem.W.fnOf "_law_entries" "_law_entries" (defArgs sEntries) (defBody sEntries) (defScope sEntries) .none kV11 dc11 pm11 an11 cd11 ct11), sl11⟩) (c11 : PySem.W.codeIn K cd11 "_law_entries" = true) (k11 : PySem.W.keepIn K (.ref f11) = true)
    (a12 : PySem.W.nsIn K mainGlobals "_law_leasts" = some (some (.ref f12)))
    (l12 : K.lookup f12 = some ⟨oc12, od12, .func (PySem.W.fnOf "_law_leasts" "_law_leasts" (defArgs sLeasts) (defBody sLeasts) (defScope sLeasts) .none kV12 dc12 pm12 an12 cd12 ct12), sl12⟩) (c12 : PySem.W.codeIn K cd12 "_law_leasts" = true) (k12 : PySem.W.keepIn K (.ref f12) = true)
    (a13 : PySem.W.nsIn K mainGlobals "law" = some (some (.ref f13)))
    (l13 : K.lookup f13 = some ⟨oc13, od13, .func (PySem.W.fnOf "law" "law" (defArgs sLaw) (defBody sLaw) (defScope sLaw) .none kV13 dc13 pm13 an13 cd13 ct13), sl13⟩) (c13 : PySem.W.codeIn K cd13 "law" = true) (k13 : PySem.W.keepIn K (.ref f13) = true)
    (z_len : PySem.W.nsIn K mainGlobals "len" = some none)
    (z_range : PySem.W.nsIn K mainGlobals "range" = some none)
    (z_list : PySem.W.nsIn K mainGlobals "list" = some none)
    (z_isinstance : PySem.W.nsIn K mainGlobals "isinstance" = some none)
    (z_bool : PySem.W.nsIn K mainGlobals "bool" = some none)
    (z_int : PySem.W.nsIn K mainGlobals "int" = some none)
    (z_tuple : PySem.W.nsIn K mainGlobals "tuple" = some none)
    (z_str : PySem.W.nsIn K mainGlobals "str" = some none)
    (z_enumerate : PySem.W.nsIn K mainGlobals "enumerate" = some none)
    (z_zip : PySem.W.nsIn K mainGlobals "zip" = some none)
    (g_BEHIND : PySem.W.nsIn K mainGlobals "BEHIND" = some (some (.int (0) t_BEHIND)))
    (g_DEEDS : PySem.W.nsIn K mainGlobals "DEEDS" = some (some (.int (1) t_DEEDS)))
    (kt_list_list : PySem.W.kitOne K (.type "list") (.type "list") = some true)
    (kt_bool_bool : PySem.W.kitOne K (.type "bool") (.type "bool") = some true)
    (kt_int_int : PySem.W.kitOne K (.type "int") (.type "int") = some true)
    (kt_int_bool : PySem.W.kitOne K (.type "int") (.type "bool") = some false)
    (kt_tuple_tuple : PySem.W.kitOne K (.type "tuple") (.type "tuple") = some true)
    : ∃ fd : FuncData, (∀ (s : Shared) (v : Value), BindsTo s fd ⟨[v], []⟩ [("script", v)]) ∧ ∀ base : Heap, K.In base → base.Ns mainGlobals mg → FnOk l.prog w K mg base CX0 6 fa fd ["script"] (spLaw K) := by
  have e := hfa.symm.trans (PySem.W.mg_of X G a13)
  cases e
  have F1 := fun_mk (st := sInit) l1 c1 k1
  have b1 := F1.binds (ps := ["self", "states", "rows", "ways"]) fun _ _ _ _ _ _ us hl => match us, hl with | [_, _, _, _], _ => rfl
  have F2 := fun_mk (st := sAlike) l2 c2 k2
  have b2 := F2.binds (ps := ["flat"]) fun _ _ _ _ _ _ us hl => match us, hl with | [_], _ => rfl
  have D2 : DefAt K mg "alike" sAlike ["flat"] _ _ := ⟨F2, b2, PySem.W.mg_of X G a2⟩
  have F3 := fun_mk (st := sRefined) l3 c3 k3
  have b3 := F3.binds (ps := ["flat", "groups"]) fun _ _ _ _ _ _ us hl => match us, hl with | [_, _], _ => rfl
  have D3 : DefAt K mg "refined" sRefined ["flat", "groups"] _ _ := ⟨F3, b3, PySem.W.mg_of X G a3⟩
  have F4 := fun_mk (st := sLeaned) l4 c4 k4
  have b4 := F4.binds (ps := ["flat"]) fun _ _ _ _ _ _ us hl => match us, hl with | [_], _ => rfl
  have D4 : DefAt K mg "leaned" sLeaned ["flat"] _ _ := ⟨F4, b4, PySem.W.mg_of X G a4⟩
  have F5 := fun_mk (st := sLRow) l5 c5 k5
  have b5 := F5.binds (ps := ["row", "least", "left"]) fun _ _ _ _ _ _ us hl => match us, hl with | [_, _, _], _ => rfl
  have D5 : DefAt K mg "leaned_row" sLRow ["row", "least", "left"] _ _ := ⟨F5, b5, PySem.W.mg_of X G a5⟩
  have F6 := fun_mk (st := sCell) l6 c6 k6
  have b6 := F6.binds (ps := ["script", "k"]) fun _ _ _ _ _ _ us hl => match us, hl with | [_, _], _ => rfl
  have D6 : DefAt K mg "_law_cell_at" sCell ["script", "k"] _ _ := ⟨F6, b6, PySem.W.mg_of X G a6⟩
  have F7 := fun_mk (st := sMach) l7 c7 k7
  have b7 := F7.binds (ps := ["script", "many"]) fun _ _ _ _ _ _ us hl => match us, hl with | [_, _], _ => rfl
  have D7 : DefAt K mg "_law_machine" sMach ["script", "many"] _ _ := ⟨F7, b7, PySem.W.mg_of X G a7⟩
  have F8 := fun_mk (st := sRound) l8 c8 k8
  have b8 := F8.binds (ps := ["rows", "far", "turn"]) fun _ _ _ _ _ _ us hl => match us, hl with | [_, _, _], _ => rfl
  have D8 : DefAt K mg "_law_far_round" sRound ["rows", "far", "turn"] _ _ := ⟨F8, b8, PySem.W.mg_of X G a8⟩
  have F9 := fun_mk (st := sFar) l9 c9 k9
  have b9 := F9.binds (ps := ["rows"]) fun _ _ _ _ _ _ us hl => match us, hl with | [_], _ => rfl
  have D9 : DefAt K mg "_law_far" sFar ["rows"] _ _ := ⟨F9, b9, PySem.W.mg_of X G a9⟩
  have F10 := fun_mk (st := sRow) l10 c10 k10
  have b10 := F10.binds (ps := ["found", "due"]) fun _ _ _ _ _ _ us hl => match us, hl with | [_, _], _ => rfl
  have D10 : DefAt K mg "_law_row" sRow ["found", "due"] _ _ := ⟨F10, b10, PySem.W.mg_of X G a10⟩
  have F11 := fun_mk (st := sEntries) l11 c11 k11
  have b11 := F11.binds (ps := ["found", "due"]) fun _ _ _ _ _ _ us hl => match us, hl with | [_, _], _ => rfl
  have D11 : DefAt K mg "_law_entries" sEntries ["found", "due"] _ _ := ⟨F11, b11, PySem.W.mg_of X G a11⟩
  have F12 := fun_mk (st := sLeasts) l12 c12 k12
  have b12 := F12.binds (ps := ["rows"]) fun _ _ _ _ _ _ us hl => match us, hl with | [_], _ => rfl
  have D12 : DefAt K mg "_law_leasts" sLeasts ["rows"] _ _ := ⟨F12, b12, PySem.W.mg_of X G a12⟩
  have F13 := fun_mk (st := sLaw) l13 c13 k13
  have b13 := F13.binds (ps := ["script"]) fun _ _ _ _ _ _ us hl => match us, hl with | [_], _ => rfl
  have D13 : DefAt K mg "law" sLaw ["script"] _ _ := ⟨F13, b13, PySem.W.mg_of X G a13⟩
  have T : FTxt K mg C := ⟨⟨pg_Flat, hd_Flat, po_Flat, sa_Flat⟩, n_Flat_states, n_Flat_rows, n_Flat_ways, PySem.W.mg_of X G aC_Flat, PySem.W.mg_none_of X G z_len, PySem.W.mg_none_of X G z_range, PySem.W.mg_none_of X G z_list, PySem.W.mg_none_of X G z_isinstance, PySem.W.mg_none_of X G z_bool, PySem.W.mg_none_of X G z_int, PySem.W.mg_none_of X G z_tuple, PySem.W.mg_none_of X G z_str, PySem.W.mg_none_of X G z_enumerate, PySem.W.mg_none_of X G z_zip, ⟨_, PySem.W.mg_of X G g_BEHIND⟩, ⟨_, PySem.W.mg_of X G g_DEEDS⟩, kt_list_list, kt_bool_bool, kt_int_int, kt_int_bool, kt_tuple_tuple⟩
  refine ⟨PySem.W.fnOf "law" "law" (defArgs sLaw) (defBody sLaw) (defScope sLaw) .none kV13 dc13 pm13 an13 cd13 ct13, fun s v => .of_eq rfl, fun base _ _ => ?_⟩
  have M : Mk K C _ := ⟨mk_Flat, a1, i1, kc_Flat⟩
  have Gi := ok_finit (P := l.prog) (w := w) (base := base) F1 T
  exact ok_law D13 T ⟨ia, ib, ic, id_⟩ M b1 Gi D6 D7 D4 (ok_leaned D4 T M b1 Gi D2 (ok_alike D2 T D3) D5) D12 (ok_leasts D12 T D9 (ok_far D9 T D8)) D11 (ok_entries D11 T D10)
theorem walk {l : PySem.W.OpenLaw} {q : Program} {loose : List Str} {XP : (Str → Option Value) → Heap → Prop} {YP : World → Heap → Prop} {d : DefRec} {K : Params → PySem.W.Frag} (hn : l.most = some 63) (hdf : d.params.defaults = [])
    (hY : ∀ (w : World) (h : Heap), YP w h → (K w.params).In h)
    (F : ∀ (w : World) (mg : Str → Option Value) (fa : Addr) (h : Heap), (K w.params).In h → h.Ns mainGlobals mg → mg d.name = some (.ref fa) →
      ∃ fd : FuncData, (∀ (s : Shared) (u : Value), BindsTo s fd ⟨[u], []⟩ [("script", u)]) ∧ ∀ base : Heap, (K w.params).In base → base.Ns mainGlobals mg → FnOk l.prog w (K w.params) mg base CX0 6 fa fd ["script"] (spLaw (K w.params))) :
    PySem.W.WalkO q loose XP YP l.row.toRowW d [] (fun f vs => PySem.call f vs) :=
  L2.walk_of (n := 63) (k := 6) (x := "script") (CX := fun _ => CX0) (sp := fun w => spLaw (K w.params)) hn (by decide) hdf ⟨rfl, by decide, by decide⟩ hY F (fun _ _ a ns hl _ hS => ⟨a, ns, rfl, hS, hl, fun _ => rfl⟩) fun _ _ _ _ _ z => z
end Toy
open PySem PySem.W PyProof.Rows
set_option maxRecDepth 100000 in
set_option maxHeartbeats 0 in
theorem PySem.Challenge.cw_chartfold_k12_machines_leaned_holds : PySem.Challenge.rw_chartfold_k12_machines_leaned.Holds := by
  w_on; o_law; k_head; (case hw => w_witness2)
  k_fill
  refine Toy.walk (l := PySem.Challenge.rw_chartfold_k12_machines_leaned) rfl rfl (fun w h Y => PySem.W.kIn_of Y) ?F
  case F =>
    intro w mg fa h KX G hmg
    refine' Toy.all_mk KX G hmg ?aC_Flat ?pg_Flat ?hd_Flat ?po_Flat ?sa_Flat ?mk_Flat ?kc_Flat ?n_Flat_states ?n_Flat_rows ?n_Flat_ways ?ia ?ib ?ic ?id_ ?a1 ?i1 ?l1 ?c1 ?k1 ?a2 ?l2 ?c2 ?k2 ?a3 ?l3 ?c3 ?k3 ?a4 ?l4 ?c4 ?k4 ?a5 ?l5 ?c5 ?k5 ?a6 ?l6 ?c6 ?k6 ?a7 ?l7 ?c7 ?k7 ?a8 ?l8 ?c8 ?k8 ?a9 ?l9 ?c9 ?k9 ?a10 ?l10 ?c10 ?k10 ?a11 ?l11 ?c11 ?k11 ?a12 ?l12 ?c12 ?k12 ?a13 ?l13 ?c13 ?k13 ?z_len ?z_range ?z_list ?z_isinstance ?z_bool ?z_int ?z_tuple ?z_str ?z_enumerate ?z_zip ?g_BEHIND ?g_DEEDS ?kt_list_list ?kt_bool_bool ?kt_int_int ?kt_int_bool ?kt_tuple_tuple
    (case aC_Flat => k_is)
    (case pg_Flat => k_is)
    (case hd_Flat => k_is)
    (case po_Flat => k_is)
    (case sa_Flat => k_is)
    (case mk_Flat => k_is)
    (case kc_Flat => k_is)
    (case n_Flat_states => k_is)
    (case n_Flat_rows => k_is)
    (case n_Flat_ways => k_is)
    (case ia => k_is)
    (case ib => k_is)
    (case ic => k_is)
    (case id_ => k_is)
    (case a1 => k_is)
    (case i1 => k_is)
    (case l1 => k_is)
    (case c1 => k_is)
    (case k1 => k_is)
    (case a2 => k_is)
    (case l2 => k_is)
    (case c2 => k_is)
    (case k2 => k_is)
    (case a3 => k_is)
    (case l3 => k_is)
    (case c3 => k_is)
    (case k3 => k_is)
    (case a4 => k_is)
    (case l4 => k_is)
    (case c4 => k_is)
    (case k4 => k_is)
    (case a5 => k_is)
    (case l5 => k_is)
    (case c5 => k_is)
    (case k5 => k_is)
    (case a6 => k_is)
    (case l6 => k_is)
    (case c6 => k_is)
    (case k6 => k_is)
    (case a7 => k_is)
    (case l7 => k_is)
    (case c7 => k_is)
    (case k7 => k_is)
    (case a8 => k_is)
    (case l8 => k_is)
    (case c8 => k_is)
    (case k8 => k_is)
    (case a9 => k_is)
    (case l9 => k_is)
    (case c9 => k_is)
    (case k9 => k_is)
    (case a10 => k_is)
    (case l10 => k_is)
    (case c10 => k_is)
    (case k10 => k_is)
    (case a11 => k_is)
    (case l11 => k_is)
    (case c11 => k_is)
    (case k11 => k_is)
    (case a12 => k_is)
    (case l12 => k_is)
    (case c12 => k_is)
    (case k12 => k_is)
    (case a13 => k_is)
    (case l13 => k_is)
    (case c13 => k_is)
    (case k13 => k_is)
    (case z_len => k_is)
    (case z_range => k_is)
    (case z_list => k_is)
    (case z_isinstance => k_is)
    (case z_bool => k_is)
    (case z_int => k_is)
    (case z_tuple => k_is)
    (case z_str => k_is)
    (case z_enumerate => k_is)
    (case z_zip => k_is)
    (case g_BEHIND => k_is)
    (case g_DEEDS => k_is)
    (case kt_list_list => kit_is)
    (case kt_bool_bool => kit_is)
    (case kt_int_int => kit_is)
    (case kt_int_bool => kit_is)
    (case kt_tuple_tuple => kit_is)
#print axioms PySem.Challenge.cw_chartfold_k12_machines_leaned_holds
