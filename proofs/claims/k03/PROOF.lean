import PyProof.Rows.All
import Wide.All
import OpenK.AllK
import Wide.FinOn
import Lean
import PyProof.EqAt
import PyProof.EqKinds
import PyProof.TupleCall
import PySem.Challenge.RW_chartfold_k03_charts_refused
set_option Elab.async false
set_option linter.all false
set_option maxRecDepth 100000
/-! THE HAND LAYER, for ints, bools, texts, own classes, LISTS and tuples (index, slices, in, append, pop ..), calls, loops. Paste it whole ahead of your own text; what your proof does not reach may be deleted. -/
namespace L2
open PySem PySem.Spec PyProof.Rows

/-- a key: an int or a str -/
abbrev Key := Sum Int Str
def keyIs : Key → Value → Bool
  | .inl k, v => Value.isInt k v
  | .inr x, v => Value.isStrOf x v
def keyH (w : World) : Key → Int
  | .inl k => hashInt k
  | .inr x => hashStr w x
theorem keyIs_shape : ∀ {k : Key} {v : Value}, keyIs k v = true → (∃ i t, k = Sum.inl i ∧ v = Value.int i t) ∨ (∃ x t, k = Sum.inr x ∧ v = Value.str x t)
  | .inl i, v, h => by
    obtain ⟨t, e⟩ := Value.isInt_shape (k := i) (v := v) h
    exact .inl ⟨i, t, rfl, e⟩
  | .inr x, v, h => by
    obtain ⟨t, e⟩ := Value.isStrOf_shape (x := x) (v := v) h
    exact .inr ⟨x, t, rfl, e⟩
theorem keyIs_int (i : Int) (t : Tok) : keyIs (.inl i) (.int i t) = true := by simp [keyIs, Value.isInt]
theorem keyIs_str (x : Str) (t : Tok) : keyIs (.inr x) (.str x t) = true := by simp [keyIs, Value.isStrOf]
theorem key_ll (a b : Int) : decide ((Sum.inl a : Key) = Sum.inl b) = (a == b) := by
  by_cases e : a = b
  · subst e; simp
  · have h : ¬ (Sum.inl a : Key) = Sum.inl b := fun q => e (Sum.inl.inj q)
    rw [decide_eq_false h]
    exact (beq_eq_false_iff_ne.mpr e).symm
theorem key_rr (a b : Str) : decide ((Sum.inr a : Key) = Sum.inr b) = decide (a = b) := by
  by_cases e : a = b
  · subst e; simp
  · have h : ¬ (Sum.inr a : Key) = Sum.inr b := fun q => e (Sum.inr.inj q)
    rw [decide_eq_false h, decide_eq_false e]
theorem key_lr (a : Int) (b : Str) : decide ((Sum.inl a : Key) = Sum.inr b) = false := decide_eq_false (fun q => nomatch q)
theorem key_rl (a : Str) (b : Int) : decide ((Sum.inr a : Key) = Sum.inl b) = false := decide_eq_false (fun q => nomatch q)

def mixKind (prog : Program) (w : World) : PySem.KeyKind prog w Key where
  is := keyIs
  hash := keyH w
  inj := fun v a b ha hb => by
    rcases keyIs_shape ha with ⟨i, t, rfl, rfl⟩ | ⟨x, t, rfl, rfl⟩
    · rcases keyIs_shape hb with ⟨j, u, rfl, e⟩ | ⟨y, u, rfl, e⟩
      · injection e with e1 _; rw [e1]
      · exact nomatch e
    · rcases keyIs_shape hb with ⟨j, u, rfl, e⟩ | ⟨y, u, rfl, e⟩
      · exact nomatch e
      · injection e with e1 _; rw [e1]
  byValue := fun k v h => by
    rcases keyIs_shape h with ⟨i, t, rfl, rfl⟩ | ⟨x, t, rfl, rfl⟩ <;> rfl
  pyHash := fun hv h => by
    rcases keyIs_shape hv with ⟨i, t, rfl, rfl⟩ | ⟨x, t, rfl, rfl⟩
    · exact wpAny_pyHash_int h
    · exact wpAny_pyHash_str h
  eqBool := fun hu hv h => by
    rcases keyIs_shape hu with ⟨i, t, rfl, rfl⟩ | ⟨x, t, rfl, rfl⟩
    · rcases keyIs_shape hv with ⟨j, u, rfl, rfl⟩ | ⟨y, u, rfl, rfl⟩
      · rw [key_ll] at h; exact wpAny_eqBool_int h
      · rw [key_lr] at h; exact SeqAt.EqAt.int_str i t y u _ _ _ _ h
    · rcases keyIs_shape hv with ⟨j, u, rfl, rfl⟩ | ⟨y, u, rfl, rfl⟩
      · rw [key_rl] at h; exact SeqAt.EqAt.str_int x t j u _ _ _ _ h
      · rw [key_rr] at h; exact wpAny_eqBool_str h
  «strs» := fun k x t v h => by
    rcases keyIs_shape h with ⟨i, u, rfl, e⟩ | ⟨y, u, rfl, e⟩
    · exact nomatch e
    · injection e with e1 _
      subst e1
      cases v <;> rfl

theorem mixKind_is (prog : Program) (w : World) (k : Key) (v : Value) : (mixKind prog w).is k v = keyIs k v := rfl
theorem mixKind_int (prog : Program) (w : World) (i : Int) (t : Tok) : (mixKind prog w).is (.inl i) (.int i t) = true := keyIs_int i t
theorem mixKind_str (prog : Program) (w : World) (x : Str) (t : Tok) : (mixKind prog w).is (.inr x) (.str x t) = true := keyIs_str x t
end L2

namespace L2
open PySem PySem.Spec PyProof.Rows

/-- a value, without the heap -/
inductive V where
  | non | bl (b : Bool) | int (i : Int) | str (x : Str) | byt (b : Array UInt8) | flt (b : UInt64) | ref (a : Addr) | ty (n : String)
  deriving DecidableEq

def RelV : V → Value → Prop
  | .non, u => u = Value.none
  | .bl b, u => u = Value.bool b
  | .int i, u => ∃ t, u = Value.int i t
  | .str x, u => ∃ t, u = Value.str x t
  | .byt b, u => ∃ t, u = Value.bytes b t
  | .flt b, u => ∃ t, u = Value.float b t
  | .ref a, u => u = Value.ref a
  | .ty n, u => u = Value.type n

abbrev Vals : List V → List Value → Prop := Paired RelV
theorem Vals.length {xs : List V} {us : List Value} (r : Vals xs us) : xs.length = us.length := Paired.length r
theorem Vals.get : ∀ {xs : List V} {us : List Value} {i : Nat} {x : V}, Vals xs us → xs[i]? = some x → ∃ u, us[i]? = some u ∧ RelV x u
  | _, _, _, _, .nil, e => by simp at e
  | _, _, 0, _, .cons r _, e => by simp at e; subst e; exact ⟨_, rfl, r⟩
  | _, _, i + 1, x, .cons _ t, e => by
    obtain ⟨u, h1, h2⟩ := Vals.get (i := i) (x := x) t (by simpa using e)
    exact ⟨u, by simpa using h1, h2⟩
theorem Vals.set {x : V} {u : Value} (r : RelV x u) : ∀ {xs : List V} {us : List Value} (i : Nat), Vals xs us → Vals (xs.set i x) (us.set i u)
  | _, _, _, .nil => .nil
  | _, _, 0, .cons _ t => .cons r t
  | _, _, i + 1, .cons q t => .cons q (Vals.set r i t)
theorem Vals.append : ∀ {xs ys : List V} {us ws : List Value}, Vals xs us → Vals ys ws → Vals (xs ++ ys) (us ++ ws)
  | _, _, _, _, .nil, s => s
  | _, _, _, _, .cons r t, s => .cons r (Vals.append t s)
theorem Vals.take : ∀ {xs : List V} {us : List Value} (n : Nat), Vals xs us → Vals (xs.take n) (us.take n)
  | _, _, 0, _ => .nil
  | _, _, _ + 1, .nil => .nil
  | _, _, n + 1, .cons r t => .cons r (Vals.take n t)
theorem Vals.drop : ∀ {xs : List V} {us : List Value} (n : Nat), Vals xs us → Vals (xs.drop n) (us.drop n)
  | _, _, 0, r => r
  | _, _, _ + 1, .nil => .nil
  | _, _, n + 1, .cons _ t => Vals.drop n t
theorem Vals.none_of : ∀ {xs : List V} {us : List Value} {i : Nat}, Vals xs us → xs[i]? = none → us[i]? = none := fun {xs us i} r e => by
  have h1 := r.length
  have h2 : xs.length ≤ i := List.getElem?_eq_none_iff.mp e
  exact List.getElem?_eq_none_iff.mpr (by omega)

def RelO : Option V → Option Value → Prop
  | some v, some u => RelV v u
  | none, none => True
  | _, _ => False
def KV {κ : Type} : List (κ × V) → List (κ × Value) → Prop := Paired fun (p : κ × V) (q : κ × Value) => p.1 = q.1 ∧ RelV p.2 q.2

/-- a key of a dict (00_mix): an int or a text -/
def kV : Key → V
  | .inl i => .int i
  | .inr x => .str x

/-- what stands at a tracked address -/
inductive HO where
  /-- a list -/
  | lst (xs : List V)
  /-- a tuple (never changes) -/
  | tup (xs : List V)
  /-- a dict whose keys are ints and texts; one whose keys are tuples of ints and texts (the empty one is both) -/
  | dK (kvs : List (Key × V)) | dT (kvs : List (List Key × V))
  /-- a set of ints: its members, its size -/
  | set (S : Int → Bool) (n : Nat)
  /-- an instance of the class at C, its dict at dx, its attributes -/
  | ins (C dx : Addr) (fs : List (Str × V))
  /-- the dict of the instance at x -/
  | own (x : Addr)
  /-- the dict of an exception -/
  | xd (fs : List (Str × V))
  /-- a bound method, f of x -/
  | met (f x : Addr)
  /-- a range object lo, lo + 1, .. below hi -/
  | rng (lo hi : Int)
  /-- a thing that is known to the object (the script; a dict while a loop walks it): read, never written while it is so -/
  | frz (o : Obj) (u : HO)
  /-- a code object's table -/
  | tbl (ps : Array Value)
  /-- any other thing, by what is true of its one object (a def of one's own: SetO a S n := HO.ext fun h => ..) -/
  | ext (φ : Heap → Prop)

abbrev Hp := Addr → Option HO
def upd (H : Hp) (a : Addr) (o : HO) : Hp := fun b => if b = a then some o else H b
theorem upd_same {H : Hp} {a : Addr} {o : HO} : upd H a o a = some o := by unfold upd; rw [if_pos rfl]
theorem upd_ne {H : Hp} {a b : Addr} {o : HO} (h : b ≠ a) : upd H a o b = H b := by unfold upd; rw [if_neg h]
theorem upd_upd {H : Hp} {a : Addr} {o u : HO} : upd (upd H a o) a u = upd H a u := by
  funext b; unfold upd; split <;> rfl
/-- two objects of different content stand apart -/
theorem ne_of {H : Hp} {a b : Addr} {o u : HO} (h : H a = some o) (h' : H b = some u) (d : o ≠ u) : a ≠ b := by
  intro e; subst e; rw [h] at h'; exact d (Option.some.inj h')
theorem ne_of_none {H : Hp} {a b : Addr} {o : HO} (h : H a = some o) (h' : H b = none) : a ≠ b := by
  intro e; subst e; rw [h] at h'; cases h'

section
variable (P : Program) (w : World)
def ObjOk (H : Hp) (h : Heap) (a : Addr) : HO → Prop
  | .lst xs => xs.length ≤ sizeLine ∧ ∃ (its : List Value) (n : Nat), Vals xs its ∧ h.get? a = some { cls := .type "list", data := .seq its.toArray n }
  | .tup xs => xs.length ≤ sizeLine ∧ ∃ its : List Value, Vals xs its ∧ IsTup h a its.toArray
  | .dK kvs => kvs.length ≤ sizeLine ∧ (a == sysModules) = false ∧ ∃ vs, KV kvs vs ∧ h.DictOf (mixKind P w) a vs
  | .dT kvs => kvs.length ≤ sizeLine ∧ (a == sysModules) = false ∧ ∃ xs : List (List Key × Addr × Value),
      Paired (fun (p : List Key × V) (q : List Key × Addr × Value) => p.1 = q.1 ∧ H q.2.1 = some (.tup (p.1.map kV)) ∧ RelV p.2 q.2.2) kvs xs ∧
      ∃ o es ep, h.get? a = some o ∧ o.ExactDict ∧ o.data = .dict es ep ∧ es.toList = xs.map (entryOfKey (tupleKind (mixKind P w))) ∧ (xs.map (·.1)).Nodup
  | .set S n => h.SetOf (intKind P w) a S n
  | .ins C dx fs => H dx = some (.own a) ∧ fs.length ≤ 1000 ∧ dx ≠ a ∧ h.get? a = some (PySem.W.instObj C dx) ∧
      ∃ mA, h.Ns1 dx mA ∧ (∀ f, RelO (fs.lookup f) (mA f)) ∧ PySem.Within mA (fs.map (·.1))
  | .own _ => ∃ o, h.get? a = some o
  | .xd fs => ∃ mA, h.Ns1 a mA ∧ ∀ f, RelO (fs.lookup f) (mA f)
  | .rng lo hi => ∃ t u v, h.get? a = some { cls := .type "range", data := .fields #[.int lo t, .int hi u, .int 1 v] }
  | .frz o u => h.get? a = some o ∧ ObjOk H h a u
  | .tbl ps => h.get? a = some { cls := .none, data := .fields ps }
  | .met f x => h.get? a = some (PySem.W.methodObj (.ref f) (.ref x))
  | .ext φ => φ h ∧ (∃ o, h.get? a = some o) ∧ ∀ h1 h2 : Heap, φ h1 → (∀ o, h1.get? a = some o → h2.get? a = some o) → φ h2
/-- the abstract heap is held -/
def HOk (H : Hp) (h : Heap) : Prop := ∀ a o, H a = some o → ObjOk P w H h a o
end

section
variable {P : Program} {w : World} {H H' : Hp} {h h' : Heap} {a : Addr} {o : HO}
theorem ObjOk.lt (x : ObjOk P w H h a o) : a < h.objs.size := by
  cases o with
  | lst xs => obtain ⟨_, _, _, _, e⟩ := x; exact Heap.lt_size e
  | tup xs => obtain ⟨_, _, _, p⟩ := x; exact p.lt
  | dK kvs => obtain ⟨_, _, _, _, o, _, _, e, _⟩ := x; exact Heap.lt_size e
  | dT kvs => obtain ⟨_, _, _, _, o, _, _, e, _⟩ := x; exact Heap.lt_size e
  | set S n => obtain ⟨o, _, _, _, e, _⟩ := x; exact Heap.lt_size e
  | ins C dx fs => obtain ⟨_, _, _, e, _⟩ := x; exact Heap.lt_size e
  | own y => obtain ⟨_, e⟩ := x; exact Heap.lt_size e
  | xd fs => obtain ⟨_, ⟨_, _, _, e, _⟩, _⟩ := x; exact Heap.lt_size e
  | rng lo hi => obtain ⟨_, _, _, e⟩ := x; exact Heap.lt_size e
  | frz ob u => obtain ⟨e, _⟩ := x; exact Heap.lt_size e
  | tbl ps => exact Heap.lt_size (show h.get? a = some _ from x)
  | met f y => exact Heap.lt_size (show h.get? a = some _ from x)
  | ext φ => obtain ⟨_, ⟨_, e⟩, _⟩ := x; exact Heap.lt_size e
theorem Paired.mapP {α β : Type} {F G : α → β → Prop} : ∀ {l₁ : List α} {l₂ : List β}, Paired F l₁ l₂ → (∀ a b, F a b → G a b) → Paired G l₁ l₂
  | _, _, .nil, _ => .nil
  | _, _, .cons r t, f => .cons (f _ _ r) (Paired.mapP t f)
theorem Paired.imp' {α β : Type} {F G : α → β → Prop} (f : ∀ a b, F a b → G a b) {l₁ : List α} {l₂ : List β} (r : Paired F l₁ l₂) : Paired G l₁ l₂ := Paired.mapP r f
/-- what an object's description leans on: its own object, its own dict, the tuples -/
theorem ObjOk.stay (x : ObjOk P w H h a o) (k : ∀ b u, (b = a ∨ H b = some (.own a)) → h.get? b = some u → h'.get? b = some u)
    (ho : ∀ b, H b = some (.own a) → H' b = some (.own a)) (ht : ∀ b xs, H b = some (.tup xs) → H' b = some (.tup xs)) : ObjOk P w H' h' a o := by
  induction o with
  | lst xs => obtain ⟨z, its, n, r, e⟩ := x; exact ⟨z, its, n, r, k _ _ (.inl rfl) e⟩
  | tup xs => obtain ⟨z, its, r, ob, e, c⟩ := x; exact ⟨z, its, r, ob, k _ _ (.inl rfl) e, c⟩
  | dK kvs => obtain ⟨z, y, vs, r, ob, es, ep, e, c⟩ := x; exact ⟨z, y, vs, r, ob, es, ep, k _ _ (.inl rfl) e, c⟩
  | dT kvs =>
    obtain ⟨z, y, xs, r, ob, es, ep, e, c⟩ := x
    exact ⟨z, y, xs, Paired.mapP r fun p q z => ⟨z.1, ht _ _ z.2.1, z.2.2⟩, ob, es, ep, k _ _ (.inl rfl) e, c⟩
  | set S n => obtain ⟨ob, es, ep, t, e, c⟩ := x; exact ⟨ob, es, ep, t, k _ _ (.inl rfl) e, c⟩
  | ins C dx fs =>
    obtain ⟨d, z, ne, e, mA, ⟨od, es, ep, e2, c⟩, r⟩ := x
    exact ⟨ho _ d, z, ne, k _ _ (.inl rfl) e, mA, ⟨od, es, ep, k _ _ (.inr d) e2, c⟩, r⟩
  | own y => obtain ⟨ob, e⟩ := x; exact ⟨ob, k _ _ (.inl rfl) e⟩
  | xd fs => obtain ⟨mA, ⟨od, es, ep, e, c⟩, r⟩ := x; exact ⟨mA, ⟨od, es, ep, k _ _ (.inl rfl) e, c⟩, r⟩
  | rng lo hi => obtain ⟨t, u, v, e⟩ := x; exact ⟨t, u, v, k _ _ (.inl rfl) e⟩
  | frz ob u ih => obtain ⟨e, q⟩ := x; exact ⟨k _ _ (.inl rfl) e, ih q⟩
  | tbl ps =>
    have e : h.get? a = some { cls := .none, data := .fields ps } := x
    show h'.get? a = some { cls := .none, data := .fields ps }
    exact k a _ (.inl rfl) e
  | met f y =>
    have e : h.get? a = some (PySem.W.methodObj (.ref f) (.ref y)) := x
    show h'.get? a = some (PySem.W.methodObj (.ref f) (.ref y))
    exact k a _ (.inl rfl) e
  | ext φ => obtain ⟨p, ⟨o, e⟩, st⟩ := x; exact ⟨st _ _ p fun o q => k _ _ (.inl rfl) q, ⟨o, k _ _ (.inl rfl) e⟩, st⟩
theorem HOk.lt (x : HOk P w H h) (e : H a = some o) : a < h.objs.size := (x a o e).lt
theorem HOk.fresh (x : HOk P w H h) (e : h.objs.size ≤ a) : H a = none := by
  cases q : H a with
  | none => rfl
  | some u => exact absurd (Nat.lt_of_lt_of_le (x.lt q) e) (Nat.lt_irrefl _)
/-- every object of the heap is kept -/
theorem HOk.kept (x : HOk P w H h) (k : ∀ b u, h.get? b = some u → h'.get? b = some u) : HOk P w H h' := fun a o e =>
  (x a o e).stay (fun b u _ q => k b u q) (fun _ q => q) fun _ _ q => q
/-- a new object is laid and tracked -/
theorem HOk.laid (x : HOk P w H h) (k : ∀ b u, h.get? b = some u → h'.get? b = some u) (hp : h.objs.size ≤ a) (new : ObjOk P w (upd H a o) h' a o) : HOk P w (upd H a o) h' := fun b u e => by
  have hn := x.fresh hp
  by_cases hb : b = a
  · subst hb; rw [upd_same] at e; cases e; exact new
  · rw [upd_ne hb] at e
    exact (x b u e).stay (fun c v _ q => k c v q) (fun c q => by rw [upd_ne (ne_of_none q hn)]; exact q) fun c xs q => by rw [upd_ne (ne_of_none q hn)]; exact q
end

/-- what may be read as u: it is u, or a known u -/
def Rd (H : Hp) (a : Addr) (u : HO) : Prop := H a = some u ∨ ∃ o, H a = some (.frz o u)
theorem Rd.of {H : Hp} {a : Addr} {u : HO} (h : H a = some u) : Rd H a u := .inl h
theorem Rd.ok {P : Program} {w : World} {H : Hp} {h : Heap} {a : Addr} {u : HO} (r : Rd H a u) (x : HOk P w H h) : ObjOk P w H h a u := by
  rcases r with r | ⟨o, r⟩
  · exact x a u r
  · obtain ⟨_, q⟩ := x a _ r
    exact q
/-- what may be written -/
def Mut : Option HO → Prop
  | some (.lst _) => True
  | some (.dK _) => True
  | some (.dT _) => True
  | some (.set _ _) => True
  | some (.ins _ _ _) => True
  | some (.ext _) => True
  | _ => False
section
variable {P : Program} {w : World} {H : Hp} {h h' : Heap} {x e : Addr} {o' : HO}
/-- the object at e is changed: x itself, or the dict of the instance x -/
theorem HOk.write (ok : HOk P w H h) (mu : Mut (H x)) (he : e = x ∨ H e = some (.own x)) (k : ∀ b u, b ≠ e → h.get? b = some u → h'.get? b = some u) (heo : ∃ u, h'.get? e = some u)
    (new : ObjOk P w (upd H x o') h' x o') : HOk P w (upd H x o') h' := fun b u q => by
  have nown : ∀ c y, H c = some (.own y) → c ≠ x := fun c y r z => by subst z; rw [r] at mu; exact mu
  have ntup : ∀ c xs, H c = some (.tup xs) → c ≠ x := fun c xs r z => by subst z; rw [r] at mu; exact mu
  by_cases hb : b = x
  · subst hb; rw [upd_same] at q; cases q; exact new
  · rw [upd_ne hb] at q
    by_cases hbe : b = e
    · have q' : H b = some (.own x) := by
        rcases he with z | z
        · exact absurd (hbe.trans z) hb
        · rw [hbe]; exact z
      rw [q] at q'; cases q'
      obtain ⟨v, hv⟩ := heo
      exact ⟨v, by rw [hbe]; exact hv⟩
    · refine (ok b u q).stay (fun c v hc r => k c v ?_ r) (fun c r => by rw [upd_ne (nown c b r)]; exact r) fun c xs r => by rw [upd_ne (ntup c xs r)]; exact r
      rcases hc with rfl | hc
      · exact hbe
      · rintro rfl
        rcases he with z | z
        · exact nown c b hc z
        · rw [hc] at z; cases z; exact hb rfl
end

/-! ### kept unless tracked; of the frames at fs (the callers') the slots may change (an exception that passes writes there); of the records at ex (iterators) nothing is said -/
structure Un (fs ex : List Addr) (H H' : Hp) (h h' : Heap) : Prop where
  keep : ∀ b o, h.get? b = some o → H b = none → b ∉ fs → b ∉ ex → h'.get? b = some o
  slot : ∀ b o, h.get? b = some o → H b = none → b ∈ fs → b ∉ ex → ∃ sl, h'.get? b = some { o with slots := sl }
  free : ∀ b o, h.get? b = some o → H b = none → b ∉ ex → H' b = none
  there : ∀ b o, h.get? b = some o → b ∉ ex → ∃ o', h'.get? b = some o'
  tups : ∀ b xs, H b = some (.tup xs) → H' b = some (.tup xs)
  frzs : ∀ b o u, H b = some (.frz o u) → H' b = some (.frz o u)
  tbls : ∀ b ps, H b = some (.tbl ps) → ∃ more, H' b = some (.tbl (ps ++ more))
section
variable {fs fs' ex ex' : List Addr} {H H1 H2 : Hp} {h h1 h2 h' : Heap} {a x e : Addr} {o : HO}
theorem Un.any (u : Un fs ex H H1 h h1) {b : Addr} {ob : Obj} (q : h.get? b = some ob) (n : H b = none) (hx : b ∉ ex) : ∃ sl, h1.get? b = some { ob with slots := sl } := by
  by_cases hb : b ∈ fs
  · exact u.slot b ob q n hb hx
  · exact ⟨ob.slots, u.keep b ob q n hb hx⟩
theorem Un.trans (a : Un fs ex H H1 h h1) (b : Un fs ex H1 H2 h1 h2) : Un fs ex H H2 h h2 where
  keep := fun c ob q n hc hx => b.keep c ob (a.keep c ob q n hc hx) (a.free c ob q n hx) hc hx
  slot := fun c ob q n hc hx => by
    obtain ⟨sl, e1⟩ := a.slot c ob q n hc hx
    obtain ⟨sl', e2⟩ := b.slot c _ e1 (a.free c ob q n hx) hc hx
    exact ⟨sl', e2⟩
  free := fun c ob q n hx => by
    obtain ⟨o', e1⟩ := a.there c ob q hx
    exact b.free c o' e1 (a.free c ob q n hx) hx
  there := fun c ob q hx => by
    obtain ⟨o', e1⟩ := a.there c ob q hx
    exact b.there c o' e1 hx
  tups := fun c xs q => b.tups c xs (a.tups c xs q)
  frzs := fun c ob xs q => b.frzs c ob xs (a.frzs c ob xs q)
  tbls := fun c ps q => by
    obtain ⟨m1, e1⟩ := a.tbls c ps q
    obtain ⟨m2, e2⟩ := b.tbls c _ e1
    exact ⟨m1 ++ m2, by rw [e2, Array.append_assoc]⟩
theorem Un.kept (k : ∀ b u, h.get? b = some u → h'.get? b = some u) : Un fs ex H H h h' :=
  ⟨fun b ob q _ _ _ => k b ob q, fun b ob q _ _ _ => ⟨ob.slots, k b ob q⟩, fun _ _ _ n _ => n, fun b ob q _ => ⟨ob, k b ob q⟩, fun _ _ q => q, fun _ _ _ q => q, fun _ ps q => ⟨#[], by rw [q]; simp⟩⟩
theorem Un.refl : Un fs ex H H h h := Un.kept fun _ _ q => q
theorem Un.laid (k : ∀ b u, h.get? b = some u → h'.get? b = some u) (hp : h.objs.size ≤ a) (hn : H a = none) : Un fs ex H (upd H a o) h h' where
  keep := fun b u q _ _ _ => k b u q
  slot := fun b u q _ _ _ => ⟨u.slots, k b u q⟩
  free := fun b u q n _ => by rw [upd_ne (Nat.ne_of_lt (Nat.lt_of_lt_of_le (Heap.lt_size q) hp))]; exact n
  there := fun b u q _ => ⟨u, k b u q⟩
  tups := fun b xs q => by rw [upd_ne (ne_of_none q hn)]; exact q
  frzs := fun b u xs q => by rw [upd_ne (ne_of_none q hn)]; exact q
  tbls := fun b ps q => ⟨#[], by rw [upd_ne (ne_of_none q hn), q]; simp⟩
theorem Un.write (mu : Mut (H x)) (he : e = x ∨ H e = some (.own x)) (k : ∀ b u, b ≠ e → h.get? b = some u → h'.get? b = some u) (heo : ∃ u, h'.get? e = some u) : Un fs ex H (upd H x o) h h' := by
  have hx : ∀ b, H b = none → b ≠ x := fun b n z => by subst z; rw [n] at mu; exact mu
  have hb : ∀ b, H b = none → b ≠ e := fun b n z => by
    subst z
    rcases he with r | r
    · exact hx b n r
    · rw [n] at r; cases r
  have hm : ∀ b u, H b = some u → ¬ Mut (some u) → b ≠ x := fun b u q nm z => by subst z; rw [q] at mu; exact nm mu
  refine ⟨fun b u q n _ _ => k b u (hb b n) q, fun b u q n _ _ => ⟨u.slots, k b u (hb b n) q⟩, fun b u q n _ => by rw [upd_ne (hx b n)]; exact n, fun b u q _ => ?_,
    fun b xs q => by rw [upd_ne (hm b _ q fun z => z)]; exact q, fun b u xs q => by rw [upd_ne (hm b _ q fun z => z)]; exact q, fun b ps q => ⟨#[], by rw [upd_ne (hm b _ q fun z => z), q]; simp⟩⟩
  by_cases hbe : b = e
  · subst hbe; exact heo
  · exact ⟨u, k b u hbe q⟩
theorem Un.mono (u : Un fs ex H H1 h h1) (hs : ∀ b ∈ fs, b ∈ fs') (hx : ∀ b ∈ ex, b ∈ ex') : Un fs' ex' H H1 h h1 :=
  ⟨fun b ob q n hb he => u.keep b ob q n (fun z => hb (hs b z)) fun z => he (hx b z), fun _ _ q n _ he => u.any q n fun z => he (hx _ z), fun b ob q n he => u.free b ob q n fun z => he (hx b z), fun b ob q he => u.there b ob q fun z => he (hx b z), u.tups, u.frzs, u.tbls⟩
end

/-! ### the heap without what is tracked -/
def trk (h : Heap) (H : Hp) : List Addr := (List.range h.objs.size).filter fun a => (H a).isSome
def hidT (h : Heap) (H : Hp) : Heap := PySem.W.hideAll h (trk h H)
theorem hidT_size (h : Heap) (H : Hp) : (hidT h H).objs.size = h.objs.size := PySem.W.hideAll_size _ _
theorem hidT_get {h : Heap} {H : Hp} {b : Addr} {o : Obj} (e : h.get? b = some o) (n : H b = none) : (hidT h H).get? b = some o :=
  PySem.W.hideAll_get _ e fun hm => by
    have q : (H b).isSome = true := (List.mem_filter.mp hm).2
    rw [n] at q; simp at q
theorem of_hidT {h : Heap} {H : Hp} {b : Addr} {o : Obj} (e : (hidT h H).get? b = some o) : h.get? b = some o ∧ H b = none := by
  have e' : h.get? b = some o := PySem.W.of_hideAll (trk h H) e
  refine ⟨e', ?_⟩
  cases q : H b with
  | none => rfl
  | some x =>
    have hm : b ∈ trk h H := List.mem_filter.mpr ⟨List.mem_range.mpr (Heap.lt_size e'), by simp [q]⟩
    have z : (hidT h H).get? b = none := PySem.W.hideAll_none (trk h H) hm
    rw [z] at e; cases e

/-! ### OpenK's ledger, filled with every new object but one -/
def allNews (g h : Heap) (L : Addr) : List (Addr × Obj) := (List.range h.objs.size).filterMap fun a => if a = L ∨ (g.get? a).isSome = true then none else (h.get? a).map fun o => (a, o)
theorem mem_allNews {g h : Heap} {L a : Addr} {o : Obj} (h1 : a ≠ L) (h2 : g.get? a = none) (h3 : h.get? a = some o) : (a, o) ∈ allNews g h L :=
  List.mem_filterMap.mpr ⟨a, List.mem_range.mpr (Heap.lt_size h3), by simp [h1, h2, h3]⟩
theorem of_mem_allNews {g h : Heap} {L : Addr} {p : Addr × Obj} (hp : p ∈ allNews g h L) : p.1 ≠ L ∧ g.get? p.1 = none ∧ h.get? p.1 = some p.2 := by
  obtain ⟨b, _, e⟩ := List.mem_filterMap.mp hp
  split at e
  · cases e
  · rename_i hn
    cases q : h.get? b with
    | none => rw [q] at e; simp at e
    | some u =>
      rw [q] at e
      simp only [Option.map_some, Option.some.injEq] at e
      subst e
      refine ⟨fun z => hn (.inl z), ?_, q⟩
      show g.get? b = none
      cases r : g.get? b with
      | none => rfl
      | some v => exact (hn (.inr (by simp [r]))).elim
def rest (g h : Heap) (L d : Addr) : List (Addr × Obj) := (allNews g h L).filter fun p => decide (p.1 ≠ d)
theorem rest_ne {g h : Heap} {L d : Addr} : ∀ p ∈ rest g h L d, p.1 ≠ d := fun p hp => of_decide_eq_true (List.mem_filter.mp hp).2
theorem mem_rest {g h : Heap} {L d a : Addr} {o : Obj} (h1 : a ≠ L) (h2 : g.get? a = none) (h3 : h.get? a = some o) (h4 : a ≠ d) : (a, o) ∈ rest g h L d :=
  List.mem_filter.mpr ⟨mem_allNews h1 h2 h3, decide_eq_true h4⟩
theorem news_all {g h : Heap} {L : Addr} : News g L h (allNews g h L) := fun p hp => let ⟨a, b, c⟩ := of_mem_allNews hp; ⟨c, a, b⟩
theorem news_at {g h : Heap} {L d : Addr} {o : Obj} (h1 : d ≠ L) (h2 : g.get? d = none) (h3 : h.get? d = some o) : News g L h ((d, o) :: rest g h L d) := fun p hp => by
  rcases List.mem_cons.mp hp with rfl | hp
  · exact ⟨h3, h1, h2⟩
  · exact news_all p (List.mem_filter.mp hp).1
/-- behind a rule that changed d alone: all else but the frame is kept -/
theorem kept_of_news {g h h' : Heap} {L d : Addr} {m : Str → Option Value} (k : ∀ b o, g.get? b = some o → h.get? b = some o) (F : Fr g L h' m) (N : News g L h' (rest g h L d)) :
    ∀ b o, b ≠ L → b ≠ d → h.get? b = some o → h'.get? b = some o := fun b o h1 h2 e => by
  cases q : g.get? b with
  | some u =>
    have := k b u q
    rw [e] at this; cases this
    exact F.keep b _ q
  | none => exact (N (b, o) (mem_rest h1 q e h2)).1
end L2

namespace L2
open PySem PySem.Spec PyProof.Rows

/-- the module's facts, over the base: the heap at the law's entry without what is tracked there -/
structure Mod (K : PySem.W.Frag) (mg : Str → Option Value) (base : Heap) : Prop where
  kin : K.In base
  glob : base.Ns mainGlobals mg
  blt : ∃ mb, base.Ns builtinsNs mb ∧ ∀ x : Str, x ≠ "__name__" → mb x = bootBuiltins x
  nolimit : base.NoLimit

/-- the context: a def's body (or a comprehension's block) running. base: fixed through the whole law; s₀, H₀: the entry; outer: the frames whose slots others may change (a def's callers); stack: all frames that run;
   ex: iterators that were made ahead of the entry and are walked here (a comprehension's); fn: the names whose cells were made at the entry (a def: all; a comprehension's block: its own); calm: not within an except suite; pn: pins that every state bears; xe: what is wanted of an exception that leaves the code -/
structure Cx where
  prog : Program
  w : World
  K : PySem.W.Frag
  mg : Str → Option Value
  base : Heap
  A : Around
  N : List Str
  s₀ : Shared
  H₀ : Hp
  env : Env
  outer : List Env
  stack : List Env
  ex : List Addr
  fn : Str → Bool
  calm : Bool
  pn : List (Addr × Obj)
  xe : Value → Shared → Prop
/-- the callers' frames -/
def frs (l : List Env) : List Addr := l.filterMap (·.frame)
abbrev Cx.fs (X : Cx) : List Addr := frs X.outer

def Vis (sc : Scope) (x : Str) : Prop := sc.names.lookup x = some .local ∨ sc.names.lookup x = some .cell ∨ sc.names.lookup x = some .free
def Loc (sc : Scope) (x : Str) : Prop := sc.names.lookup x = some .local ∨ sc.names.lookup x = some .cell
def Look (env : Env) (h : Heap) (m : Str → Option Value) (x : Str) (u : Value) : Prop :=
  (env.kindOf x = some .local ∧ m x = some u) ∨ ((env.kindOf x = some .cell ∨ env.kindOf x = some .free) ∧ ∃ c, env.cells.lookup x = some c ∧ h.IsCell c (some u))

structure Cx.Ok (X : Cx) : Prop where
  mod : Mod X.K X.mg X.base
  kind : X.env.scope.kind = .function
  glob : X.env.globals = mainGlobals
  blt : X.env.builtins = builtinsNs
  above : X.s₀.heap.objs.size ≤ X.env.locals
  inj : ∀ x y c, X.env.cells.lookup x = some c → X.env.cells.lookup y = some c → x = y
  has : ∀ x, (X.env.kindOf x = some .cell ∨ X.env.kindOf x = some .free) → ∃ c, X.env.cells.lookup x = some c
  cab : ∀ x c, X.fn x = true → X.env.cells.lookup x = some c → X.s₀.heap.objs.size ≤ c
  hd : X.calm = true → X.A.handled = none
  frames : X.A.frames = some X.stack
  stk : X.stack = X.outer ∨ (X.stack = X.env :: X.outer ∧ X.env.frame = some X.env.locals)
  exf : ∀ b ∈ X.ex, b ≠ X.env.locals ∧ ∀ x c, X.env.cells.lookup x = some c → c ≠ b
  bs : ∀ b o, X.base.get? b = some o → X.s₀.heap.get? b = some o ∧ X.H₀ b = none
  bsz : X.base.objs.size ≤ X.s₀.heap.objs.size
  noex : ∀ b o, X.base.get? b = some o → b ∉ X.ex
  exfs : ∀ b ∈ X.ex, b ∉ X.fs
  funs : X.s₀.heap.FunFrames X.base X.outer
  frf : ∀ b ∈ X.fs, X.H₀ b = none

structure Inv (X : Cx) (pins : List (Addr × Obj)) (σ : List (Option V)) (H : Hp) (s : Shared) : Prop where
  ok : X.Ok
  os : s.os = X.s₀.os
  bare : AllBare s.gens
  base : Un X.fs X.ex X.H₀ H X.s₀.heap s.heap
  loc : ∃ m, s.heap.Ns X.env.locals m ∧ ∀ (i : Nat) (x : Str) (v : V), X.N[i]? = some x → σ[i]? = some (some v) → Vis X.env.scope x → ∃ u, RelV v u ∧ Look X.env s.heap m x u
  cell : ∀ x c, X.env.cells.lookup x = some c → ∃ v, s.heap.IsCell c v
  free : H X.env.locals = none
  freeC : ∀ x c, X.env.cells.lookup x = some c → H c = none
  pin : ∀ p ∈ X.pn ++ pins, s.heap.get? p.1 = some p.2 ∧ H p.1 = none ∧ p.1 ≠ X.env.locals ∧ p.1 ∉ X.fs ∧ ∀ v, p.2.data ≠ .cell v
  hok : HOk X.prog X.w H s.heap
  len : σ.length = X.N.length

section
variable {X : Cx} {pins : List (Addr × Obj)} {σ : List (Option V)} {H H' : Hp} {s : Shared} {h' : Heap}

theorem Cx.Ok.nofr (ok : X.Ok) {b : Addr} {o : Obj} (e : X.base.get? b = some o) : b ∉ X.fs := fun hb => by
  have := (ok.funs.mem hb).1
  rw [e] at this; cases this
theorem Inv.bs (I : Inv X pins σ H s) : ∀ b o, X.base.get? b = some o → s.heap.get? b = some o ∧ H b = none := fun b o e =>
  ⟨I.base.keep b o (I.ok.bs b o e).1 (I.ok.bs b o e).2 (I.ok.nofr e) (I.ok.noex b o e), I.base.free b o (I.ok.bs b o e).1 (I.ok.bs b o e).2 (I.ok.noex b o e)⟩
theorem Inv.bk (I : Inv X pins σ H s) : ∀ b o, X.base.get? b = some o → s.heap.get? b = some o := fun b o e => (I.bs b o e).1
theorem Inv.mod (I : Inv X pins σ H s) : Mod X.K X.mg X.base := I.ok.mod
theorem Inv.kIn (I : Inv X pins σ H s) : X.K.In s.heap := I.ok.mod.kin.keeps I.bk
theorem Inv.nolimit (I : Inv X pins σ H s) : s.heap.NoLimit := I.ok.mod.nolimit.keeps I.bk
/-- the frame over the base: for OpenK's rules (K.In X.base is I.mod.kin) -/
theorem Inv.fr (I : Inv X pins σ H s) : ∃ m, Fr X.base X.env.locals s.heap m :=
  let ⟨m, hn, _⟩ := I.loc
  ⟨m, hn, I.bk, Nat.le_trans I.ok.bsz I.ok.above⟩
theorem Inv.lt (I : Inv X pins σ H s) : X.env.locals < s.heap.objs.size := let ⟨_, hn, _⟩ := I.loc; hn.lt
theorem Inv.sz (I : Inv X pins σ H s) : X.s₀.heap.objs.size ≤ s.heap.objs.size := Nat.le_trans I.ok.above (Nat.le_of_lt I.lt)
theorem Inv.nofs (I : Inv X pins σ H s) {a : Addr} (h : s.heap.objs.size ≤ a) : a ∉ X.fs := fun hb => by
  obtain ⟨_, o, ho, _⟩ := I.ok.funs.mem hb
  exact absurd (Nat.lt_of_lt_of_le (Heap.lt_size ho) (Nat.le_trans I.sz h)) (Nat.lt_irrefl _)
theorem Inv.cne (I : Inv X pins σ H s) : ∀ x c, X.env.cells.lookup x = some c → c ≠ X.env.locals := fun x c e z => by
  obtain ⟨v, o, ho, hd⟩ := I.cell x c e
  obtain ⟨m, ⟨o', es, ep, ho', hd', _⟩, _⟩ := I.loc
  rw [z, ho'] at ho; cases ho; rw [hd'] at hd; cases hd
theorem Inv.funs (I : Inv X pins σ H s) : s.heap.FunFrames X.base X.outer := by
  have all : ∀ (l : List Env), (∀ b ∈ frs l, b ∈ X.fs) → X.s₀.heap.FunFrames X.base l → s.heap.FunFrames X.base l := by
    intro l
    induction l with
    | nil => intro _ _; trivial
    | cons env r ih =>
      intro hs hl
      obtain ⟨hk, ⟨L, o, hf, hn, ho, hd⟩, hr⟩ := hl
      have hL : L ∈ X.fs := hs L (by unfold frs; rw [List.filterMap_cons, hf]; exact List.mem_cons_self)
      obtain ⟨sl, e⟩ := I.base.slot L o ho (I.ok.frf L hL) hL fun z => I.ok.exfs L z hL
      exact ⟨hk, ⟨L, _, hf, hn, e, hd⟩, ih (fun b hb => hs b (by unfold frs; rw [List.filterMap_cons, hf]; exact List.mem_cons_of_mem _ hb)) hr⟩
  exact all X.outer (fun _ hb => hb) I.ok.funs

/-- the frames that run, for a call -/
theorem Inv.stack (I : Inv X pins σ H s) : s.heap.FunFrames X.base X.stack := by
  rcases I.ok.stk with e | ⟨e, hf⟩
  · rw [e]; exact I.funs
  · rw [e]
    obtain ⟨m, hn, _⟩ := I.loc
    refine .cons (by rw [I.ok.kind]; decide) hf hn ?_ I.funs
    exact Heap.get?_none_of_le (Nat.le_trans I.ok.bsz I.ok.above)
theorem Inv.stkSub (I : Inv X pins σ H s) : ∀ b ∈ frs X.stack, b ∈ X.env.locals :: X.fs := fun b hb => by
  rcases I.ok.stk with e | ⟨e, hf⟩
  · rw [e] at hb; exact List.mem_cons_of_mem _ hb
  · rw [e] at hb
    unfold frs at hb
    rw [List.filterMap_cons, hf] at hb
    exact hb
theorem Inv.stkFree (I : Inv X pins σ H s) : ∀ b ∈ frs X.stack, H b = none := fun b hb => by
  rcases List.mem_cons.mp (I.stkSub b hb) with e | hb
  · rw [e]; exact I.free
  · obtain ⟨_, o, ho, _⟩ := I.ok.funs.mem hb
    exact I.base.free b o ho (I.ok.frf b hb) fun z => I.ok.exfs b z hb

/-- THE STEP: the untracked objects but the frame and the records at ch are kept (the callers' frames up to slots), the frame's map is kept, the new abstract heap is held -/
theorem Inv.step {g' : Array GenState} {t' : Nat} {d' : Drawn} {ch : List Addr} (I : Inv X pins σ H s)
    (hch : ∀ b ∈ ch, (b ∈ X.ex ∨ X.s₀.heap.objs.size ≤ b) ∧ b ≠ X.env.locals ∧ (∀ x c, X.env.cells.lookup x = some c → c ≠ b) ∧ ∀ p ∈ X.pn ++ pins, p.1 ≠ b)
    (keep : ∀ b o, b ≠ X.env.locals → b ∉ X.fs → b ∉ ch → s.heap.get? b = some o → H b = none → h'.get? b = some o)
    (slot : ∀ b o, b ≠ X.env.locals → b ∈ X.fs → b ∉ ch → s.heap.get? b = some o → H b = none → ∃ sl, h'.get? b = some { o with slots := sl }) (free : ∀ b o, b ∉ ch → s.heap.get? b = some o → H b = none → H' b = none)
    (there : ∀ b o, b ∉ ch → s.heap.get? b = some o → ∃ o', h'.get? b = some o')
    (tups : ∀ b xs, H b = some (.tup xs) → H' b = some (.tup xs)) (frzs : ∀ b o u, H b = some (.frz o u) → H' b = some (.frz o u)) (tbls : ∀ b ps, H b = some (.tbl ps) → ∃ more, H' b = some (.tbl (ps ++ more)))
    (ns : ∀ m, s.heap.Ns X.env.locals m → h'.Ns X.env.locals m) (hok : HOk X.prog X.w H' h') (hg : AllBare g') :
    Inv X pins σ H' { s with heap := h', gens := g', drawn := d', toks := t' } := by
  have neL : ∀ b o, X.s₀.heap.get? b = some o → b ≠ X.env.locals := fun b o e => Nat.ne_of_lt (Nat.lt_of_lt_of_le (Heap.lt_size e) I.ok.above)
  have neC : ∀ b o, X.s₀.heap.get? b = some o → b ∉ X.ex → b ∉ ch := fun b o e hx hb => by
    rcases (hch b hb).1 with z | z
    · exact hx z
    · exact absurd (Nat.lt_of_lt_of_le (Heap.lt_size e) z) (Nat.lt_irrefl _)
  have cellK : ∀ x c, X.env.cells.lookup x = some c → ∀ v, s.heap.IsCell c v → h'.IsCell c v := fun x c e v ⟨o, ho, hd⟩ => by
    have nch : c ∉ ch := fun z => (hch c z).2.2.1 x c e rfl
    by_cases hc : c ∈ X.fs
    · obtain ⟨sl, q⟩ := slot c o (I.cne x c e) hc nch ho (I.freeC x c e)
      exact ⟨_, q, hd⟩
    · exact ⟨o, keep c o (I.cne x c e) hc nch ho (I.freeC x c e), hd⟩
  refine ⟨I.ok, I.os, hg, ⟨fun b o e n hb hx => ?_, fun b o e n hb hx => ?_, fun b o e n hx => ?_, fun b o e hx => ?_, fun b xs e => tups b xs (I.base.tups b xs e), fun b o xs e => frzs b o xs (I.base.frzs b o xs e), fun b ps e => ?_⟩, ?_, fun x c e => ?_, ?_, fun x c e => ?_, fun p hp => ?_, hok, I.len⟩
  · exact keep b o (neL b o e) hb (neC b o e hx) (I.base.keep b o e n hb hx) (I.base.free b o e n hx)
  · obtain ⟨sl, e1⟩ := I.base.slot b o e n hb hx
    obtain ⟨sl', e2⟩ := slot b _ (neL b o e) hb (neC b o e hx) e1 (I.base.free b o e n hx)
    exact ⟨sl', e2⟩
  · obtain ⟨o', e1⟩ := I.base.there b o e hx
    exact free b o' (neC b o e hx) e1 (I.base.free b o e n hx)
  · obtain ⟨o', e1⟩ := I.base.there b o e hx
    exact there b o' (neC b o e hx) e1
  · obtain ⟨m1, e1⟩ := I.base.tbls b ps e
    obtain ⟨m2, e2⟩ := tbls b _ e1
    exact ⟨m1 ++ m2, by rw [e2, Array.append_assoc]⟩
  · obtain ⟨m, hn, hl⟩ := I.loc
    refine ⟨m, ns m hn, fun i x v e1 e2 e3 => ?_⟩
    obtain ⟨u, r, l⟩ := hl i x v e1 e2 e3
    refine ⟨u, r, ?_⟩
    rcases l with l | ⟨k, c, e, z⟩
    · exact .inl l
    · exact .inr ⟨k, c, e, cellK x c e _ z⟩
  · obtain ⟨v, z⟩ := I.cell x c e
    exact ⟨v, cellK x c e v z⟩
  · obtain ⟨m, ⟨o, _, _, ho, _⟩, _⟩ := I.loc
    exact free _ o (fun z => (hch _ z).2.1 rfl) ho I.free
  · obtain ⟨v, o, ho, hd⟩ := I.cell x c e
    exact free c o (fun z => (hch c z).2.2.1 x c e rfl) ho (I.freeC x c e)
  · obtain ⟨e, n, ne, nf, d⟩ := I.pin p hp
    have nch : p.1 ∉ ch := fun z => (hch p.1 z).2.2.2 p hp rfl
    exact ⟨keep p.1 p.2 ne nf nch e n, free p.1 p.2 nch e n, ne, nf, d⟩
/-- .. where the frame's own object is kept too -/
theorem Inv.un {t' : Nat} (I : Inv X pins σ H s) (u : Un X.fs [] H H' s.heap h') (hok : HOk X.prog X.w H' h') : Inv X pins σ H' { s with heap := h', toks := t' } := by
  obtain ⟨m, ⟨o, es, ep, ho, r⟩, _⟩ := id I.loc
  obtain ⟨sl, hL⟩ := u.any ho I.free (by simp)
  exact I.step (g' := s.gens) (d' := s.drawn) (ch := []) (fun _ z => nomatch z) (fun b o _ hb _ e n => u.keep b o e n hb (by simp)) (fun b o _ hb _ e n => u.slot b o e n hb (by simp)) (fun b o _ e n => u.free b o e n (by simp)) (fun b o _ e => u.there b o e (by simp)) u.tups u.frzs u.tbls (fun m' hm => by
    obtain ⟨o', es', ep', ho', r'⟩ := hm
    rw [ho] at ho'; cases ho'
    exact ⟨_, es', ep', hL, r'⟩) hok I.bare
/-- behind a call (or a comprehension's block): the slots of this frame may have changed too, the records at ch may have turned -/
theorem Inv.call {g' : Array GenState} {t' : Nat} {d' : Drawn} {ch : List Addr} (I : Inv X pins σ H s) (u : Un (frs X.stack) ch H H' s.heap h') (hok : HOk X.prog X.w H' h') (hg : AllBare g')
    (hch : ∀ b ∈ ch, (b ∈ X.ex ∨ X.s₀.heap.objs.size ≤ b) ∧ b ≠ X.env.locals ∧ (∀ x c, X.env.cells.lookup x = some c → c ≠ b) ∧ ∀ p ∈ X.pn ++ pins, p.1 ≠ b) :
    Inv X pins σ H' { s with heap := h', gens := g', drawn := d', toks := t' } := by
  obtain ⟨m, ⟨o, es, ep, ho, r⟩, _⟩ := id I.loc
  obtain ⟨sl, hL⟩ := u.any ho I.free fun z => (hch _ z).2.1 rfl
  exact I.step (ch := ch) hch (fun b o hL hb hc e n => u.keep b o e n (fun z => (List.mem_cons.mp (I.stkSub b z)).elim hL hb) hc) (fun b o _ _ hc e n => u.any e n hc) (fun b o hc e n => u.free b o e n hc) (fun b o hc e => u.there b o e hc) u.tups u.frzs u.tbls (fun m' hm => by
    obtain ⟨o', es', ep', ho', r'⟩ := hm
    rw [ho] at ho'; cases ho'
    exact ⟨_, es', ep', hL, r'⟩) hok hg
/-- an untracked record of ours (an iterator) has turned -/
theorem Inv.turned {t' : Nat} {it : Addr} (I : Inv X pins σ H s) (k : ∀ b o, b ≠ it → s.heap.get? b = some o → h'.get? b = some o) (hn : H it = none) (hL : it ≠ X.env.locals)
    (h1 : it ∈ X.ex ∨ X.s₀.heap.objs.size ≤ it) (h2 : ∀ x c, X.env.cells.lookup x = some c → c ≠ it) (h3 : ∀ p ∈ X.pn ++ pins, p.1 ≠ it) : Inv X pins σ H { s with heap := h', toks := t' } := by
  have nit : ∀ b u, H b = some u → b ≠ it := fun b u e z => by rw [z, hn] at e; cases e
  refine I.step (g' := s.gens) (d' := s.drawn) (ch := [it]) (fun b hb => ?_) (fun b o _ _ hc e _ => k b o (fun z => hc (by simp [z])) e) (fun b o _ _ hc e _ => ⟨o.slots, k b o (fun z => hc (by simp [z])) e⟩) (fun _ _ _ _ n => n)
    (fun b o hc e => ⟨o, k b o (fun z => hc (by simp [z])) e⟩) (fun _ _ e => e) (fun _ _ _ e => e) (fun b ps e => ⟨#[], by rw [e]; simp⟩) (fun m hm => ?_) (fun b u e => ?_) I.bare
  · have e : b = it := by simpa using hb
    subst e
    exact ⟨h1, hL, h2, h3⟩
  · obtain ⟨o, es, ep, ho, r⟩ := hm
    exact ⟨o, es, ep, k _ o (Ne.symm hL) ho, r⟩
  · refine (I.hok b u e).stay (fun c v hc q => k c v ?_ q) (fun _ q => q) fun _ _ q => q
    rcases hc with z | z
    · rw [z]; exact nit b u e
    · exact nit c _ z
theorem Inv.tok (I : Inv X pins σ H s) (t : Nat) : Inv X pins σ H { s with toks := t } := I.un (h' := s.heap) (t' := t) Un.refl I.hok
/-- all objects kept -/
theorem Inv.kept {t' : Nat} (I : Inv X pins σ H s) (k : ∀ b u, s.heap.get? b = some u → h'.get? b = some u) : Inv X pins σ H { s with heap := h', toks := t' } := I.un (Un.kept k) (I.hok.kept k)
/-- a new object laid and tracked -/
theorem Inv.laid {a : Addr} {o : HO} {t' : Nat} (I : Inv X pins σ H s) (k : ∀ b u, s.heap.get? b = some u → h'.get? b = some u) (hp : s.heap.objs.size ≤ a) (new : ObjOk X.prog X.w (upd H a o) h' a o) :
    Inv X pins σ (upd H a o) { s with heap := h', toks := t' } := I.un (Un.laid k hp (I.hok.fresh hp)) (I.hok.laid k hp new)
/-- an object written -/
theorem Inv.write {x e : Addr} {o : HO} {t' : Nat} (I : Inv X pins σ H s) (mu : Mut (H x)) (he : e = x ∨ H e = some (.own x)) (k : ∀ b u, b ≠ e → s.heap.get? b = some u → h'.get? b = some u) (heo : ∃ u, h'.get? e = some u)
    (new : ObjOk X.prog X.w (upd H x o) h' x o) : Inv X pins σ (upd H x o) { s with heap := h', toks := t' } := I.un (Un.write mu he k heo) (I.hok.write mu he k heo new)
/-- forgetting slots, pins -/
theorem Inv.weak {σ' : List (Option V)} (I : Inv X pins σ H s) (hl : σ'.length = σ.length) (w : ∀ (i : Nat) v, σ'[i]? = some (some v) → σ[i]? = some (some v)) : Inv X pins σ' H s :=
  ⟨I.ok, I.os, I.bare, I.base, let ⟨m, hn, hl'⟩ := I.loc; ⟨m, hn, fun i x v e1 e2 e3 => hl' i x v e1 (w i v e2) e3⟩, I.cell, I.free, I.freeC, I.pin, I.hok, hl.trans I.len⟩
theorem Inv.pins_of {pins' : List (Addr × Obj)} (I : Inv X pins σ H s) (h : ∀ p ∈ pins', s.heap.get? p.1 = some p.2 ∧ H p.1 = none ∧ p.1 ≠ X.env.locals ∧ p.1 ∉ X.fs ∧ ∀ v, p.2.data ≠ .cell v) : Inv X pins' σ H s :=
  ⟨I.ok, I.os, I.bare, I.base, I.loc, I.cell, I.free, I.freeC, fun p hp => (List.mem_append.mp hp).elim (fun z => I.pin p (List.mem_append_left _ z)) (h p), I.hok, I.len⟩

theorem nodup_ix {N : List Str} (hN : N.Nodup) {i j : Nat} {x : Str} (a : N[i]? = some x) (b : N[j]? = some x) : i = j := by
  obtain ⟨h1, e1⟩ := List.getElem?_eq_some_iff.mp a
  obtain ⟨h2, e2⟩ := List.getElem?_eq_some_iff.mp b
  exact (List.getElem_inj hN).mp (e1.trans e2.symm)

/-- a name is stored; what changed -/
theorem store_ok2 {M : Model} {A : Around} {E : Value → Shared → Prop} {i : Nat} {x : Str} {v : V} {u : Value} {Q : Unit → Shared → Prop} (I : Inv X pins σ H s) (hN : X.N.Nodup) (hi : X.N[i]? = some x) (hx : Loc X.env.scope x) (r : RelV v u)
    (h : ∀ s', Inv X pins (σ.set i (some v)) H s' → (∃ a, Heap.SameBut a s.heap s'.heap ∧ (a = X.env.locals ∨ X.env.cells.lookup x = some a)) → Q () s') (hf : X.fn x = true ∨ X.env.scope.names.lookup x = some .local := by first | exact .inl rfl | exact .inr rfl | assumption) : wpAny M A (storeName X.env x u) Q E s := by
  obtain ⟨m, hn, hl⟩ := id I.loc
  have hcls : (X.env.scope.kind == .class || (X.env.scope.kind == .module && X.env.locals != X.env.globals)) = false := by rw [I.ok.kind]; rfl
  have hiσ : i < σ.length := by rw [I.len]; exact (List.getElem?_eq_some_iff.mp hi).1
  have cne := I.cne
  have tracked : ∀ {a : Addr} {h' : Heap}, (∃ o, s.heap.get? a = some o ∧ H a = none) → Heap.SameBut a s.heap h' → HOk X.prog X.w H h' := fun {a h'} ha hs b ob e => by
    obtain ⟨_, _, hfree⟩ := ha
    refine (I.hok b ob e).stay (fun c w' hc q => (hs.2 c ?_).trans q) (fun _ q => q) fun _ _ q => q
    rintro rfl
    rcases hc with rfl | hc
    · rw [hfree] at e; cases e
    · rw [hfree] at hc; cases hc
  rcases hx with hk | hk
  · refine wpAny_storeName_local hk hn (fun h' hn' hs => ?_) hcls
    obtain ⟨oL, _, _, hoL, _⟩ := id hn
    refine h _ ⟨I.ok, I.os, I.bare, ⟨fun b o e n hb hx => ?_, fun b o e n hb hx => ?_, I.base.free, fun b o e hx => ?_, I.base.tups, I.base.frzs, I.base.tbls⟩, ⟨_, hn', fun j y v' e1 e2 e3 => ?_⟩, fun y c e => ?_, I.free, I.freeC, fun p hp => ?_, tracked ⟨oL, hoL, I.free⟩ hs, by simpa using I.len⟩ ⟨_, hs, .inl rfl⟩
    · exact (hs.2 b (Nat.ne_of_lt (Nat.lt_of_lt_of_le (Heap.lt_size e) I.ok.above))).trans (I.base.keep b o e n hb hx)
    · obtain ⟨sl, e1⟩ := I.base.slot b o e n hb hx
      exact ⟨sl, (hs.2 b (Nat.ne_of_lt (Nat.lt_of_lt_of_le (Heap.lt_size e) I.ok.above))).trans e1⟩
    · obtain ⟨o', e1⟩ := I.base.there b o e hx
      exact ⟨o', (hs.2 b (Nat.ne_of_lt (Nat.lt_of_lt_of_le (Heap.lt_size e) I.ok.above))).trans e1⟩
    · by_cases hj : j = i
      · subst hj
        rw [hi] at e1; cases e1
        rw [List.getElem?_set_self hiσ] at e2
        cases e2
        exact ⟨u, r, .inl ⟨hk, by simp⟩⟩
      · rw [List.getElem?_set_ne (Ne.symm hj)] at e2
        obtain ⟨u', r', q⟩ := hl j y v' e1 e2 e3
        refine ⟨u', r', ?_⟩
        rcases q with ⟨k, e⟩ | ⟨k, c, e, z⟩
        · refine .inl ⟨k, ?_⟩
          have : y ≠ x := fun e => hj (nodup_ix hN e1 (e ▸ hi))
          simp [this, e]
        · exact .inr ⟨k, c, e, z.sameBut hs (cne y c e)⟩
    · obtain ⟨w', z⟩ := I.cell y c e
      exact ⟨w', z.sameBut hs (cne y c e)⟩
    · obtain ⟨e, n, ne, nf, d⟩ := I.pin p hp
      exact ⟨(hs.2 p.1 ne).trans e, n, ne, nf, d⟩
  · have hfn : X.fn x = true := by
      rcases hf with z | z
      · exact z
      · rw [z] at hk; cases hk
    obtain ⟨c, hc⟩ := I.ok.has x (.inl hk)
    obtain ⟨w', z⟩ := I.cell x c hc
    refine wpAny_storeName_cell I.ok.kind hk hc z (fun h' hc' hs => ?_)
    obtain ⟨oc, hoc, hocd⟩ := id z
    refine h { s with heap := h' } ⟨I.ok, I.os, I.bare, ⟨fun b o e n hb hx => ?_, fun b o e n hb hx => ?_, I.base.free, fun b o e hx => ?_, I.base.tups, I.base.frzs, I.base.tbls⟩, ⟨m, hn.sameBut hs (Ne.symm (cne x c hc)), fun j y v' e1 e2 e3 => ?_⟩, fun y c' e => ?_, I.free, I.freeC, fun p hp => ?_, tracked ⟨oc, hoc, I.freeC x c hc⟩ hs, by simpa using I.len⟩ ⟨c, hs, .inr hc⟩
    · exact (hs.2 b (Nat.ne_of_lt (Nat.lt_of_lt_of_le (Heap.lt_size e) (I.ok.cab x c hfn hc)))).trans (I.base.keep b o e n hb hx)
    · obtain ⟨sl, e1⟩ := I.base.slot b o e n hb hx
      exact ⟨sl, (hs.2 b (Nat.ne_of_lt (Nat.lt_of_lt_of_le (Heap.lt_size e) (I.ok.cab x c hfn hc)))).trans e1⟩
    · obtain ⟨o', e1⟩ := I.base.there b o e hx
      exact ⟨o', (hs.2 b (Nat.ne_of_lt (Nat.lt_of_lt_of_le (Heap.lt_size e) (I.ok.cab x c hfn hc)))).trans e1⟩
    · by_cases hj : j = i
      · subst hj
        rw [hi] at e1; cases e1
        rw [List.getElem?_set_self hiσ] at e2
        cases e2
        exact ⟨u, r, .inr ⟨.inl hk, c, hc, hc'⟩⟩
      · rw [List.getElem?_set_ne (Ne.symm hj)] at e2
        obtain ⟨u', r', q⟩ := hl j y v' e1 e2 e3
        refine ⟨u', r', ?_⟩
        rcases q with q | ⟨k, c', e, z'⟩
        · exact .inl q
        · refine .inr ⟨k, c', e, z'.sameBut hs ?_⟩
          rintro rfl
          exact hj (nodup_ix hN e1 (I.ok.inj _ _ _ e hc ▸ hi))
    · by_cases hcc : c' = c
      · subst hcc; exact ⟨_, hc'⟩
      · obtain ⟨w2, z2⟩ := I.cell y c' e
        exact ⟨w2, z2.sameBut hs hcc⟩
    · obtain ⟨e, n, ne, nf, d⟩ := I.pin p hp
      refine ⟨(hs.2 p.1 ?_).trans e, n, ne, nf, d⟩
      intro q
      rw [q, hoc] at e
      have q' : oc = p.2 := Option.some.inj e
      exact d w' (by rw [← q']; exact hocd)
theorem store_ok {M : Model} {A : Around} {E : Value → Shared → Prop} {i : Nat} {x : Str} {v : V} {u : Value} {Q : Unit → Shared → Prop} (I : Inv X pins σ H s) (hN : X.N.Nodup) (hi : X.N[i]? = some x) (hx : Loc X.env.scope x) (r : RelV v u)
    (h : ∀ s', Inv X pins (σ.set i (some v)) H s' → Q () s') (hf : X.fn x = true ∨ X.env.scope.names.lookup x = some .local := by first | exact .inl rfl | exact .inr rfl | assumption) : wpAny M A (storeName X.env x u) Q E s :=
  store_ok2 I hN hi hx r (fun s' I' _ => h s' I') hf
/-- behind a call or a block, the state as it is -/
theorem Inv.call' {s' : Shared} {ch : List Addr} (I : Inv X pins σ H s) (ho : s'.os = s.os) (u : Un (frs X.stack) ch H H' s.heap s'.heap) (hok : HOk X.prog X.w H' s'.heap) (hg : AllBare s'.gens)
    (hch : ∀ b ∈ ch, (b ∈ X.ex ∨ X.s₀.heap.objs.size ≤ b) ∧ b ≠ X.env.locals ∧ (∀ x c, X.env.cells.lookup x = some c → c ≠ b) ∧ ∀ p ∈ X.pn ++ pins, p.1 ≠ b) : Inv X pins σ H' s' := by
  obtain ⟨h', g', d', t', o'⟩ := s'
  have e : o' = s.os := ho
  subst e
  exact I.call (g' := g') (t' := t') (d' := d') u hok hg hch
end

/-! ### the judgements -/
/-- an exception: its class, its own dict's address (where it has one), the abstract heap behind it -/
abbrev XK := Value → Option Addr → Hp → Prop
abbrev St := List (Option V)
abbrev VK := V → Hp → Prop
/-- an expression's reading; a test's; an argument list's -/
abbrev TE := St → Hp → VK → Prop
abbrev TT := St → Hp → (Bool → Hp → Prop) → Prop
abbrev TA := St → Hp → (List V → Hp → Prop) → Prop
/-- what is wanted behind a statement -/
structure Ends where
  nx : St → Hp → Prop
  rt : VK
  bk : St → Hp → Prop := fun _ _ => False
  ct : St → Hp → Prop := fun _ _ => False
abbrev TS := Ends → St → Hp → Prop

def EP (X : Cx) (pins : List (Addr × Obj)) (σ : St) (Q : VK) (u : Value) (s' : Shared) : Prop := ∃ v H', Inv X pins σ H' s' ∧ RelV v u ∧ Q v H'
def TP (X : Cx) (pins : List (Addr × Obj)) (σ : St) (Q : Bool → Hp → Prop) (b : Bool) (s' : Shared) : Prop := ∃ H', Inv X pins σ H' s' ∧ Q b H'
def AP (X : Cx) (pins : List (Addr × Obj)) (σ : St) (Q : List V → Hp → Prop) (us : List Value) (s' : Shared) : Prop := ∃ vs H', Inv X pins σ H' s' ∧ Vals vs us ∧ Q vs H'
def SP (X : Cx) (pins : List (Addr × Obj)) (D : Ends) (f : Flow) (s' : Shared) : Prop :=
  match f with
  | .next => ∃ σ' H', Inv X pins σ' H' s' ∧ D.nx σ' H'
  | .brk => ∃ σ' H', Inv X pins σ' H' s' ∧ D.bk σ' H'
  | .cont => ∃ σ' H', Inv X pins σ' H' s' ∧ D.ct σ' H'
  | .ret u => ∃ v σ' H', Inv X pins σ' H' s' ∧ RelV v u ∧ D.rt v H'

def PE (X : Cx) (e : Expr) (t : TE) : Prop :=
  ∀ (pins : List (Addr × Obj)) (s : Shared) (σ : St) (H : Hp) (Q : VK), Inv X pins σ H s → t σ H Q → wpAny (model X.prog X.w) X.A (eval e X.env) (EP X pins σ Q) X.xe s
def PT (X : Cx) (e : Expr) (t : TT) : Prop :=
  ∀ (pins : List (Addr × Obj)) (s : Shared) (σ : St) (H : Hp) (Q : Bool → Hp → Prop), Inv X pins σ H s → t σ H Q → wpAny (model X.prog X.w) X.A (isTrue e X.env (eval e X.env)) (TP X pins σ Q) X.xe s
/-- a test whatever its 'whole' is (and, or) -/
def PW (X : Cx) (e : Expr) (t : TT) : Prop :=
  ∀ (whole : Sem Value) (pins : List (Addr × Obj)) (s : Shared) (σ : St) (H : Hp) (Q : Bool → Hp → Prop), Inv X pins σ H s → t σ H Q → wpAny (model X.prog X.w) X.A (isTrue e X.env whole) (TP X pins σ Q) X.xe s
theorem PW.pt {X : Cx} {e : Expr} {t : TT} (h : PW X e t) : PT X e t := h _
/-- an argument list (no star), from the left -/
def PA (X : Cx) (es : List Expr) (t : TA) : Prop :=
  ∀ (pos : Pos) (pins : List (Addr × Obj)) (s : Shared) (σ : St) (H : Hp) (Q : List V → Hp → Prop), Inv X pins σ H s → t σ H Q → wpAny (model X.prog X.w) X.A (spliced (backTo pos (starEach es X.env))) (AP X pins σ Q) X.xe s
def PS (X : Cx) (st : Stmt) (t : TS) : Prop :=
  ∀ (pins : List (Addr × Obj)) (s : Shared) (σ : St) (H : Hp) (D : Ends), Inv X pins σ H s → t D σ H → wpAny (model X.prog X.w) X.A (exec st X.env) (SP X pins D) X.xe s
def PSs (X : Cx) (st : List Stmt) (t : TS) : Prop :=
  ∀ (pins : List (Addr × Obj)) (s : Shared) (σ : St) (H : Hp) (D : Ends), Inv X pins σ H s → t D σ H → wpAny (model X.prog X.w) X.A (execs st X.env) (SP X pins D) X.xe s
/-- weaken the end -/
theorem thn {α : Type} {t : Sem α} {Q Q' : α → Shared → Prop} {M : Model} {A : Around} {E : Value → Shared → Prop} {s : Shared} (h : wpAny M A t Q E s) (hQ : ∀ a s, Q a s → Q' a s) : wpAny M A t Q' E s := wpAny_mono h hQ fun _ _ x => x
end L2

namespace L2
open PySem PySem.Spec PyProof.Rows
section
variable {X : Cx}

/-- two expressions in a row -/
theorem bin {a b : Expr} {ta tb : TE} (ha : PE X a ta) (hb : PE X b tb) {pins : List (Addr × Obj)} {s : Shared} {σ : St} {H : Hp} {R : V → V → Hp → Prop} (I : Inv X pins σ H s) (h : ta σ H fun x H1 => tb σ H1 fun y H2 => R x y H2)
    {α : Type} {Q : α → Shared → Prop} {f : Value → Value → Sem α}
    (hf : ∀ v u s2 x y H2, Inv X pins σ H2 s2 → RelV x v → RelV y u → R x y H2 → wpAny (model X.prog X.w) X.A (f v u) Q X.xe s2) :
    wpAny (model X.prog X.w) X.A (eval a X.env) (fun v s₁ => wpAny (model X.prog X.w) X.A (eval b X.env) (fun u s₂ => wpAny (model X.prog X.w) X.A (f v u) Q X.xe s₂) X.xe s₁) X.xe s := by
  refine thn (ha pins s σ H _ I h) fun v s1 ⟨x, H1, I1, r1, q1⟩ => ?_
  refine thn (hb pins s1 σ H1 _ I1 q1) fun u s2 ⟨y, H2, I2, r2, q2⟩ => ?_
  exact hf v u s2 x y H2 I2 r1 r2 q2

/-! ### names and constants -/
def tVar (i : Nat) : TE := fun σ H Q => ∃ v, σ[i]? = some (some v) ∧ Q v H
def tC (v : V) : TE := fun _ H Q => Q v H
theorem pe_var {i : Nat} {x : Str} {pos : Pos} (hN : X.N[i]? = some x) (hv : Vis X.env.scope x) (hd : (x == ("__debug__" : Str)) = false := by decide) (hcd : (x == ("__classdict__" : Str)) = false := by decide) : PE X (.Name x pos) (tVar i) := by
  intro pins s σ H Q I h
  obtain ⟨v, e, h⟩ := h
  obtain ⟨m, hn, hl⟩ := I.loc
  obtain ⟨u, r, l⟩ := hl i x v hN e hv
  have fin : EP X pins σ Q u s := ⟨v, H, I, r, h⟩
  rcases l with ⟨hk, hm⟩ | ⟨hk, c, hc, hcell⟩
  · exact wpAny_Name (wpAny_loadName_local I.ok.kind hk hn hm fin) hd
  · rcases hk with hk | hk
    · exact wpAny_Name (wpAny_loadName_cell I.ok.kind hk hc hcell fin) hd
    · exact wpAny_Name (wpAny_loadName_free I.ok.kind hk hc hcell fin hcd) hd
theorem pe_int {i j pos} : PE X (.Constant (.int i) j pos) (tC (.int i)) := fun _ _ _ H _ I h => wpAny_Constant_int ⟨.int i, H, I.tok _, ⟨_, rfl⟩, h⟩
theorem pe_bl {b j pos} : PE X (.Constant (.bool b) j pos) (tC (.bl b)) := fun _ _ _ H _ I h => Constant_bool ⟨.bl b, H, I, rfl, h⟩
theorem pe_non {j pos} : PE X (.Constant .none j pos) (tC .non) := fun _ _ _ H _ I h => Constant_none ⟨.non, H, I, rfl, h⟩
theorem pe_str {x j pos} : PE X (.Constant (.str x) j pos) (tC (.str x)) := fun _ _ _ H _ I h => Calls.Constant_str ⟨.str x, H, I.tok _, ⟨_, rfl⟩, h⟩

/-- a global name of the def -/
def Gl (X : Cx) (x : Str) : Prop := X.env.kindOf x = some .globalImplicit
theorem ld_glob {E : Value → Shared → Prop} {pins : List (Addr × Obj)} {s : Shared} {σ : St} {H : Hp} {x : Str} {u : Value} {pos : Pos} {Q : Value → Shared → Prop} (I : Inv X pins σ H s) (hg : Gl X x) (hm : X.mg x = some u) (h : Q u s)
    (hd : (x == ("__debug__" : Str)) = false := by decide) : wpAny (model X.prog X.w) X.A (eval (.Name x pos) X.env) Q E s :=
  Calls.Name_function_global I.ok.kind hg (Calls.loadGlobal_global (by rw [I.ok.glob]; exact I.mod.glob.keeps I.bk) hm h) hd
theorem ld_blt {E : Value → Shared → Prop} {pins : List (Addr × Obj)} {s : Shared} {σ : St} {H : Hp} {x : Str} {u : Value} {pos : Pos} {Q : Value → Shared → Prop} (I : Inv X pins σ H s) (hg : Gl X x) (hm : X.mg x = none) (hv : bootBuiltins x = some u) (h : Q u s)
    (hn : x ≠ "__name__" := by decide) (hd : (x == ("__debug__" : Str)) = false := by decide) : wpAny (model X.prog X.w) X.A (eval (.Name x pos) X.env) Q E s := by
  obtain ⟨mb, h1, h2⟩ := I.mod.blt
  exact Calls.Name_function_global I.ok.kind hg (Calls.loadGlobal_builtin (by rw [I.ok.glob]; exact I.mod.glob.keeps I.bk) hm (by rw [I.ok.blt]; exact h1.keeps I.bk) ((h2 x hn).trans hv) h) hd
/-- a module's constant, a class, a function, as a value -/
theorem pe_glob {x : Str} {v : V} {u : Value} {pos : Pos} (hg : Gl X x) (hm : X.mg x = some u) (r : RelV v u) (hd : (x == ("__debug__" : Str)) = false := by decide) : PE X (.Name x pos) (tC v) :=
  fun _ _ _ H _ I h => ld_glob I hg hm ⟨v, H, I, r, h⟩ hd
theorem pe_bltn {x : Str} {v : V} {u : Value} {pos : Pos} (hg : Gl X x) (hm : X.mg x = none) (hv : bootBuiltins x = some u) (r : RelV v u) (hn : x ≠ "__name__" := by decide) (hd : (x == ("__debug__" : Str)) = false := by decide) : PE X (.Name x pos) (tC v) :=
  fun _ _ _ H _ I h => ld_blt I hg hm hv ⟨v, H, I, r, h⟩ hn hd

/-! ### arithmetic -/
/-- two ints -/
def t2I (ta tb : TE) (k : Int → Int → Hp → Prop) : St → Hp → Prop := fun σ H => ta σ H fun x H1 => tb σ H1 fun y H2 => ∃ i j, x = .int i ∧ y = .int j ∧ k i j H2
def tAdd (ta tb : TE) : TE := fun σ H Q => t2I ta tb (fun i j H2 => Q (.int (i + j)) H2) σ H
def tSub (ta tb : TE) : TE := fun σ H Q => t2I ta tb (fun i j H2 => Q (.int (i - j)) H2) σ H
/-- the left factor below 2^64 -/
def tMul (ta tb : TE) : TE := fun σ H Q => t2I ta tb (fun i j H2 => (-(2 ^ 64) < i ∧ i < 2 ^ 64) ∧ Q (.int (i * j)) H2) σ H
variable {a b : Expr} {ta tb : TE} {pos : Pos}
theorem pe_add (ha : PE X a ta) (hb : PE X b tb) : PE X (.BinOp a .Add b pos) (tAdd ta tb) := by
  intro pins s σ H Q I h
  refine wpAny_BinOp (bin ha hb I h fun v u s2 x y H2 I2 rx ry q => ?_)
  obtain ⟨i, j, rfl, rfl, q⟩ := q
  obtain ⟨t, rfl⟩ := rx
  obtain ⟨t', rfl⟩ := ry
  exact add_int ⟨.int _, H2, I2.tok _, ⟨_, rfl⟩, q⟩
theorem pe_sub (ha : PE X a ta) (hb : PE X b tb) : PE X (.BinOp a .Sub b pos) (tSub ta tb) := by
  intro pins s σ H Q I h
  refine wpAny_BinOp (bin ha hb I h fun v u s2 x y H2 I2 rx ry q => ?_)
  obtain ⟨i, j, rfl, rfl, q⟩ := q
  obtain ⟨t, rfl⟩ := rx
  obtain ⟨t', rfl⟩ := ry
  exact sub_int ⟨.int _, H2, I2.tok _, ⟨_, rfl⟩, q⟩
theorem pe_mul (ha : PE X a ta) (hb : PE X b tb) : PE X (.BinOp a .Mult b pos) (tMul ta tb) := by
  intro pins s σ H Q I h
  refine wpAny_BinOp (bin ha hb I h fun v u s2 x y H2 I2 rx ry q => ?_)
  obtain ⟨i, j, rfl, rfl, ⟨q1, q2⟩, q⟩ := q
  obtain ⟨t, rfl⟩ := rx
  obtain ⟨t', rfl⟩ := ry
  exact mul_int ⟨.int _, H2, I2.tok _, ⟨_, rfl⟩, q⟩ (.of_left (intBits_le_64 q1 q2))

/-! ### comparisons -/
def PC (X : Cx) (op : CmpOp) (a b : Expr) (t : TE) : Prop :=
  ∀ (pins : List (Addr × Obj)) (s : Shared) (σ : St) (H : Hp) (Q : VK), Inv X pins σ H s → t σ H Q →
    wpAny (model X.prog X.w) X.A (eval a X.env) (fun v s₁ => wpAny (model X.prog X.w) X.A (eval b X.env) (fun u s₂ => wpAny (model X.prog X.w) X.A (compareOp op v u) (EP X pins σ Q) X.xe s₂) X.xe s₁) X.xe s
theorem nobehind (b : Expr) {op : CmpOp} (h : op ≠ .In) (h2 : op ≠ .NotIn) : behindInMarks op b = false := by
  have e1 : (op == CmpOp.In) = false := by cases op <;> first | rfl | exact absurd rfl h
  have e2 : (op == CmpOp.NotIn) = false := by cases op <;> first | rfl | exact absurd rfl h2
  cases b <;> simp [behindInMarks, e1, e2]
def tCmp (p : Int → Int → Bool) (ta tb : TE) : TE := fun σ H Q => t2I ta tb (fun i j H2 => Q (.bl (p i j)) H2) σ H
abbrev tLt : TE → TE → TE := tCmp fun i j => decide (i < j)
abbrev tLe : TE → TE → TE := tCmp fun i j => decide (i ≤ j)
abbrev tGt : TE → TE → TE := tCmp fun i j => decide (j < i)
abbrev tGe : TE → TE → TE := tCmp fun i j => decide (j ≤ i)
abbrev tEqI : TE → TE → TE := tCmp fun i j => decide (i = j)
abbrev tNeI : TE → TE → TE := tCmp fun i j => !decide (i = j)
/-- a comparison of two ints, by its rule -/
theorem pc_int {op : CmpOp} {p : Int → Int → Bool} (ha : PE X a ta) (hb : PE X b tb)
    (rule : ∀ (i j : Int) (t u : Tok) (Q : Value → Shared → Prop) (s : Shared), Q (.bool (p i j)) s → wpAny (model X.prog X.w) X.A (compareOp op (.int i t) (.int j u)) Q X.xe s) : PC X op a b (tCmp p ta tb) := by
  intro pins s σ H Q I h
  refine bin ha hb I h fun v u s2 x y H2 I2 rx ry q => ?_
  obtain ⟨i, j, rfl, rfl, q⟩ := q
  obtain ⟨t, rfl⟩ := rx
  obtain ⟨t', rfl⟩ := ry
  exact rule i j t t' _ s2 ⟨.bl _, H2, I2, rfl, q⟩
theorem pc_lt (ha : PE X a ta) (hb : PE X b tb) : PC X .Lt a b (tLt ta tb) := pc_int ha hb fun _ _ _ _ _ _ h => lt_int h
theorem pc_le (ha : PE X a ta) (hb : PE X b tb) : PC X .LtE a b (tLe ta tb) := pc_int ha hb fun _ _ _ _ _ _ h => le_int h
theorem pc_gt (ha : PE X a ta) (hb : PE X b tb) : PC X .Gt a b (tGt ta tb) := pc_int ha hb fun _ _ _ _ _ _ h => gt_int h
theorem pc_ge (ha : PE X a ta) (hb : PE X b tb) : PC X .GtE a b (tGe ta tb) := pc_int ha hb fun _ _ _ _ _ _ h => ge_int h
theorem pc_eqI (ha : PE X a ta) (hb : PE X b tb) : PC X .Eq a b (tEqI ta tb) := pc_int ha hb fun _ _ _ _ _ _ h => eq_int (by rw [Bool.beq_eq_decide_eq]; exact h)
theorem pc_neI (ha : PE X a ta) (hb : PE X b tb) : PC X .NotEq a b (tNeI ta tb) := pc_int ha hb fun _ _ _ _ _ _ h => ne_int (by rw [bne, Bool.beq_eq_decide_eq]; exact h)
/-- is None -/
def tIsN (ta : TE) : TE := fun σ H Q => ta σ H fun x H1 => Q (.bl (decide (x = .non))) H1
def tNotN (ta : TE) : TE := fun σ H Q => ta σ H fun x H1 => Q (.bl (!decide (x = .non))) H1
theorem RelV.none_iff {x : V} {v : Value} (r : RelV x v) : (v == Value.none) = decide (x = .non) := by
  cases x with
  | non => cases r; rfl
  | bl _ => cases r; rfl
  | int _ => obtain ⟨t, rfl⟩ := r; rfl
  | str _ => obtain ⟨t, rfl⟩ := r; rfl
  | byt _ => obtain ⟨t, rfl⟩ := r; rfl
  | flt _ => obtain ⟨t, rfl⟩ := r; rfl
  | ref _ => cases r; rfl
  | ty _ => cases r; rfl
theorem pc_isN {j pos'} (ha : PE X a ta) : PC X .Is a (.Constant .none j pos') (tIsN ta) := by
  intro pins s σ H Q I h
  refine thn (ha pins s σ H _ I h) fun v s1 ⟨x, H1, I1, r1, q1⟩ => ?_
  exact Constant_none (is_none_gen ⟨.bl _, H1, I1, by rw [r1.none_iff]; rfl, q1⟩)
theorem pc_notN {j pos'} (ha : PE X a ta) : PC X .IsNot a (.Constant .none j pos') (tNotN ta) := by
  intro pins s σ H Q I h
  refine thn (ha pins s σ H _ I h) fun v s1 ⟨x, H1, I1, r1, q1⟩ => ?_
  exact Constant_none (isnot_none_gen ⟨.bl _, H1, I1, by rw [r1.none_iff]; rfl, q1⟩)
/-- a comparison as a value, as a test -/
def tB (t : TE) : TT := fun σ H Q => t σ H fun x H1 => ∃ c, x = .bl c ∧ Q c H1
theorem pe_cmp {op : CmpOp} {t : TE} (h : PC X op a b t) (h1 : behindInMarks op b = false := by first | exact nobehind _ (by decide) (by decide) | rfl) : PE X (.Compare a [op] [b] pos) t := fun pins s σ H Q I hw => wpAny_Compare1 (h pins s σ H Q I hw) h1
theorem pt_cmp {op : CmpOp} {t : TE} (h : PC X op a b t) (h1 : behindInMarks op b = false := by first | exact nobehind _ (by decide) (by decide) | rfl) : PT X (.Compare a [op] [b] pos) (tB t) := by
  intro pins s σ H Q I hw
  refine wpAny_isTrue_Compare1 (thn (h pins s σ H _ I hw) fun v s1 h1 => thn h1 fun u s2 h2 => thn h2 fun c s3 ⟨x, H1, I1, r1, q1⟩ => ?_) h1
  obtain ⟨d, rfl, q⟩ := q1
  cases r1
  exact wpAny_truthy_bool ⟨H1, I1, q⟩
/-- an expression whose value is a bool, as a test -/
theorem pt_val {e : Expr} {t : TE} (h : PE X e t) (he : ∀ whole, isTrue e X.env whole = (do let v ← whole; standAt e.pos; holding [v] (truthy v)) := by intro _; rfl) : PT X e (tB t) := by
  intro pins s σ H Q I hw
  refine isTrue_plain (thn (h pins s σ H _ I hw) fun v s1 ⟨x, H1, I1, r1, q1⟩ => ?_) (he _)
  obtain ⟨d, rfl, q⟩ := q1
  cases r1
  exact wpAny_truthy_bool ⟨H1, I1, q⟩

/-! ### and, or, not -/
variable {tA tB' : TT} {rest : List Expr}
def tAnd (t u : TT) : TT := fun σ H Q => t σ H fun c H1 => if c = true then u σ H1 Q else Q false H1
def tOr (t u : TT) : TT := fun σ H Q => t σ H fun c H1 => if c = true then Q true H1 else u σ H1 Q
def tNot (t : TT) : TT := fun σ H Q => t σ H fun c H1 => Q (!c) H1
theorem pw_and1 (ha : PT X a tA) : PW X (.BoolOp .And [a] pos) tA := by
  intro wh pins s σ H Q I h
  refine isTrue_and (thn (ha pins s σ H Q I h) fun c s1 e => ?_)
  cases c with
  | true => exact isTrue_and_nil e
  | false => exact e
theorem pw_or1 (ha : PT X a tA) : PW X (.BoolOp .Or [a] pos) tA := by
  intro wh pins s σ H Q I h
  refine isTrue_or (thn (ha pins s σ H Q I h) fun c s1 e => ?_)
  cases c with
  | false => exact isTrue_or_nil e
  | true => exact e
theorem pw_and (ha : PT X a tA) (hb : PW X (.BoolOp .And (b :: rest) pos) tB') : PW X (.BoolOp .And (a :: b :: rest) pos) (tAnd tA tB') := by
  intro wh pins s σ H Q I h
  refine isTrue_and (thn (ha pins s σ H _ I h) fun c s1 ⟨H1, I1, q1⟩ => ?_)
  cases c with
  | true => exact hb wh pins s1 σ H1 Q I1 q1
  | false => exact ⟨H1, I1, q1⟩
theorem pw_or (ha : PT X a tA) (hb : PW X (.BoolOp .Or (b :: rest) pos) tB') : PW X (.BoolOp .Or (a :: b :: rest) pos) (tOr tA tB') := by
  intro wh pins s σ H Q I h
  refine isTrue_or (thn (ha pins s σ H _ I h) fun c s1 ⟨H1, I1, q1⟩ => ?_)
  cases c with
  | true => exact ⟨H1, I1, q1⟩
  | false => exact hb wh pins s1 σ H1 Q I1 q1
theorem pt_not (ha : PT X a tA) : PT X (.UnaryOp .Not a pos) (tNot tA) := by
  intro pins s σ H Q I h
  exact isTrue_not (ha pins s σ H (fun c H1 => Q (!c) H1) I h)
/-- .. as values (bools) -/
def tAndV (ta tb : TE) : TE := fun σ H Q => ta σ H fun x H1 => ∃ c, x = .bl c ∧ if c = true then tb σ H1 Q else Q (.bl false) H1
def tOrV (ta tb : TE) : TE := fun σ H Q => ta σ H fun x H1 => ∃ c, x = .bl c ∧ if c = true then Q (.bl true) H1 else tb σ H1 Q
def tNotV (ta : TE) : TE := fun σ H Q => ta σ H fun x H1 => ∃ c, x = .bl c ∧ Q (.bl (!c)) H1
theorem pe_one {op} {t : TE} (h : PE X a t) : PE X (.BoolOp op [a] pos) t := fun pins s σ H Q I hw => BoolOp_one (h pins s σ H Q I hw)
theorem pe_and (ha : PE X a ta) (hb : PE X (.BoolOp .And (b :: rest) pos) tb) : PE X (.BoolOp .And (a :: b :: rest) pos) (tAndV ta tb) := by
  intro pins s σ H Q I h
  refine BoolOp_and (thn (ha pins s σ H _ I h) fun v s1 ⟨x, H1, I1, r1, q1⟩ => ?_)
  obtain ⟨c, rfl, q1⟩ := q1
  cases r1
  refine wpAny_truthy_bool ?_
  cases c with
  | true => exact hb pins s1 σ H1 Q I1 q1
  | false => exact ⟨.bl false, H1, I1, rfl, q1⟩
theorem pe_or (ha : PE X a ta) (hb : PE X (.BoolOp .Or (b :: rest) pos) tb) : PE X (.BoolOp .Or (a :: b :: rest) pos) (tOrV ta tb) := by
  intro pins s σ H Q I h
  refine BoolOp_or (thn (ha pins s σ H _ I h) fun v s1 ⟨x, H1, I1, r1, q1⟩ => ?_)
  obtain ⟨c, rfl, q1⟩ := q1
  cases r1
  refine wpAny_truthy_bool ?_
  cases c with
  | false => exact hb pins s1 σ H1 Q I1 q1
  | true => exact ⟨.bl true, H1, I1, rfl, q1⟩
theorem pe_not (ha : PE X a ta) : PE X (.UnaryOp .Not a pos) (tNotV ta) := by
  intro pins s σ H Q I h
  refine UnaryOp_ (thn (ha pins s σ H _ I h) fun v s1 ⟨x, H1, I1, r1, q1⟩ => ?_)
  obtain ⟨c, rfl, q1⟩ := q1
  cases r1
  exact not_of (wpAny_truthy_bool ⟨.bl (!c), H1, I1, rfl, q1⟩)
/-- a if t else b -/
def tIf (t : TT) (ta tb : TE) : TE := fun σ H Q => t σ H fun c H1 => if c = true then ta σ H1 Q else tb σ H1 Q
theorem pe_ifExp {c : Expr} (hc : PT X c tA) (ha : PE X a ta) (hb : PE X b tb) : PE X (.IfExp c a b pos) (tIf tA ta tb) := by
  intro pins s σ H Q I h
  refine wpAny_IfExp (thn (hc pins s σ H _ I h) fun d s1 ⟨H1, I1, q1⟩ => ?_)
  cases d with
  | true => exact ha pins s1 σ H1 Q I1 q1
  | false => exact hb pins s1 σ H1 Q I1 q1
end
end L2

namespace L2
open PySem PySem.Spec PyProof.Rows

/-! ### a list, a tuple that is read: tracked, frozen, or an object of the module -/
def SqL (K : PySem.W.Frag) (H : Hp) (a : Addr) (xs : List V) : Prop :=
  Rd H a (.lst xs) ∨
    ∃ (o : Obj) (its : Array Value) (n : Nat), K.lookup a = some o ∧ o.cls = .type "list" ∧ o.dict = none ∧ o.data = .seq its n ∧ its.size ≤ sizeLine ∧ Vals xs its.toList
def SqT (K : PySem.W.Frag) (H : Hp) (a : Addr) (xs : List V) : Prop :=
  Rd H a (.tup xs) ∨
    ∃ (o : Obj) (its : Array Value) (n : Nat), K.lookup a = some o ∧ o.cls = .type "tuple" ∧ o.data = .seq its n ∧ its.size ≤ sizeLine ∧ Vals xs its.toList
def absV : Value → Option V
  | .none => some .non
  | .bool b => some (.bl b)
  | .int i _ => some (.int i)
  | .str x _ => some (.str x)
  | .bytes b _ => some (.byt b)
  | .float b _ => some (.flt b)
  | .ref a => some (.ref a)
  | .type n => some (.ty n)
  | _ => none
theorem RelV.abs {x : V} {u : Value} (r : RelV x u) : absV u = some x := by
  cases x with
  | non => cases r; rfl
  | bl _ => cases r; rfl
  | int _ => obtain ⟨t, rfl⟩ := r; rfl
  | str _ => obtain ⟨t, rfl⟩ := r; rfl
  | byt _ => obtain ⟨t, rfl⟩ := r; rfl
  | flt _ => obtain ⟨t, rfl⟩ := r; rfl
  | ref _ => cases r; rfl
  | ty _ => cases r; rfl
theorem RelV.inj {x y : V} {u : Value} (r : RelV x u) (q : RelV y u) : x = y := Option.some.inj (r.abs.symm.trans q.abs)
theorem Vals.inj : ∀ {xs ys : List V} {us : List Value}, Vals xs us → Vals ys us → xs = ys
  | _, _, _, .nil, .nil => rfl
  | _, _, _, .cons r t, .cons r' t' => by rw [r.inj r', Vals.inj t t']
section
variable {X : Cx} {pins : List (Addr × Obj)} {σ : St} {H : Hp} {s : Shared} {a : Addr} {xs ys : List V}
theorem SqL.of {K : PySem.W.Frag} (h : H a = some (.lst xs)) : SqL K H a xs := .inl (.inl h)
theorem SqT.of {K : PySem.W.Frag} (h : H a = some (.tup xs)) : SqT K H a xs := .inl (.inl h)
theorem Inv.list (I : Inv X pins σ H s) (h : SqL X.K H a xs) : ∃ its : List Value, Vals xs its ∧ PlainL s.heap a its.toArray ∧ xs.length ≤ sizeLine := by
  rcases h with h | ⟨o, its, n, hk, hc, hd, hs, hz, r⟩
  · obtain ⟨z, its, n, r, e⟩ := h.ok I.hok
    exact ⟨its, r, ⟨_, n, e, rfl, rfl, rfl⟩, z⟩
  · refine ⟨its.toList, r, ⟨o, n, I.kIn a o hk, hc, hd, by simpa using hs⟩, ?_⟩
    have e := r.length
    simp only [Array.length_toList] at e
    omega
theorem Inv.tuple (I : Inv X pins σ H s) (h : SqT X.K H a xs) : ∃ its : List Value, Vals xs its ∧ IsTup s.heap a its.toArray ∧ xs.length ≤ sizeLine := by
  rcases h with h | ⟨o, its, n, hk, hc, hs, hz, r⟩
  · obtain ⟨z, its, r, p⟩ := h.ok I.hok
    exact ⟨its, r, p, z⟩
  · refine ⟨its.toList, r, ⟨o, I.kIn a o hk, hc, n, by simpa using hs⟩, ?_⟩
    have e := r.length
    simp only [Array.length_toList] at e
    omega
theorem Inv.list_inj (I : Inv X pins σ H s) (h : SqL X.K H a xs) (h' : SqL X.K H a ys) : xs = ys := by
  obtain ⟨its, r, ⟨o, n, e, _, _, d⟩, _⟩ := I.list h
  obtain ⟨its', r', ⟨o', n', e', _, _, d'⟩, _⟩ := I.list h'
  rw [e] at e'; cases e'
  rw [d] at d'
  injection d' with d1 _
  have : its = its' := by simpa using congrArg Array.toList d1
  subst this
  exact r.inj r'
theorem Inv.tuple_inj (I : Inv X pins σ H s) (h : SqT X.K H a xs) (h' : SqT X.K H a ys) : xs = ys := by
  obtain ⟨its, r, ⟨o, e, _, n, d⟩, _⟩ := I.tuple h
  obtain ⟨its', r', ⟨o', e', _, n', d'⟩, _⟩ := I.tuple h'
  rw [e] at e'; cases e'
  rw [d] at d'
  injection d' with d1 _
  have : its = its' := by simpa using congrArg Array.toList d1
  subst this
  exact r.inj r'
end

/-! ### another wish about exceptions -/
abbrev Cx.wish (X : Cx) (E : Value → Shared → Prop) : Cx := { X with xe := E }
/-- no exception leaves -/
abbrev Cx.nox (X : Cx) : Cx := X.wish fun _ _ => False
theorem Cx.Ok.wish {X : Cx} (ok : X.Ok) (E : Value → Shared → Prop) : (X.wish E).Ok :=
  ⟨ok.mod, ok.kind, ok.glob, ok.blt, ok.above, ok.inj, ok.has, ok.cab, ok.hd, ok.frames, ok.stk, ok.exf, ok.bs, ok.bsz, ok.noex, ok.exfs, ok.funs, ok.frf⟩
theorem Cx.Ok.unwish {X : Cx} {E : Value → Shared → Prop} (ok : (X.wish E).Ok) : X.Ok :=
  ⟨ok.mod, ok.kind, ok.glob, ok.blt, ok.above, ok.inj, ok.has, ok.cab, ok.hd, ok.frames, ok.stk, ok.exf, ok.bs, ok.bsz, ok.noex, ok.exfs, ok.funs, ok.frf⟩
section
variable {X : Cx} {pins : List (Addr × Obj)} {σ : St} {H : Hp} {s : Shared} {E : Value → Shared → Prop}
theorem Inv.wish (I : Inv X pins σ H s) (E : Value → Shared → Prop) : Inv (X.wish E) pins σ H s := ⟨I.ok.wish E, I.os, I.bare, I.base, I.loc, I.cell, I.free, I.freeC, I.pin, I.hok, I.len⟩
theorem Inv.unwish (I : Inv (X.wish E) pins σ H s) : Inv X pins σ H s := ⟨I.ok.unwish, I.os, I.bare, I.base, I.loc, I.cell, I.free, I.freeC, I.pin, I.hok, I.len⟩
theorem SP.unwish {D : Ends} {f : Flow} {s' : Shared} (h : SP (X.wish E) pins D f s') : SP X pins D f s' := by
  cases f with
  | next => obtain ⟨σ', H', I, q⟩ := h; exact ⟨σ', H', I.unwish, q⟩
  | brk => obtain ⟨σ', H', I, q⟩ := h; exact ⟨σ', H', I.unwish, q⟩
  | cont => obtain ⟨σ', H', I, q⟩ := h; exact ⟨σ', H', I.unwish, q⟩
  | ret u => obtain ⟨v, σ', H', I, r, q⟩ := h; exact ⟨v, σ', H', I.unwish, r, q⟩
theorem PE.nox {e : Expr} {t : TE} (h : PE X.nox e t) : PE X e t := fun pins s σ H Q I hw =>
  wpAny_mono (h pins s σ H Q (I.wish _) hw) (fun _ _ ⟨v, H', I', r, q⟩ => ⟨v, H', I'.unwish, r, q⟩) fun _ _ z => False.elim z
theorem PT.nox {e : Expr} {t : TT} (h : PT X.nox e t) : PT X e t := fun pins s σ H Q I hw =>
  wpAny_mono (h pins s σ H Q (I.wish _) hw) (fun _ _ ⟨H', I', q⟩ => ⟨H', I'.unwish, q⟩) fun _ _ z => False.elim z
theorem PSs.nox {st : List Stmt} {t : TS} (h : PSs X.nox st t) : PSs X st t := fun pins s σ H D I hw =>
  wpAny_mono (h pins s σ H D (I.wish _) hw) (fun _ _ q => q.unwish) fun _ _ z => False.elim z
end

/-! ### blocks and small statements -/
section
variable {X : Cx} {st : Stmt} {rest : List Stmt} {t u : TS} {e : Expr} {te : TE} {pos : Pos}
def tNext : TS := fun D σ H => D.nx σ H
def tSeq (t u : TS) : TS := fun D σ H => t { D with nx := u D } σ H
theorem pss_nil : PSs X [] tNext := fun _ _ σ H _ I h => wpAny_execs_nil ⟨σ, H, I, h⟩
theorem pss_cons (h1 : PS X st t) (h2 : PSs X rest u) : PSs X (st :: rest) (tSeq t u) := by
  intro pins s σ H D I h
  refine wpAny_execs_cons (thn (h1 pins s σ H { D with nx := u D } I h) fun f s1 q => ?_)
  cases f with
  | next =>
    obtain ⟨σ', H', I', q⟩ := q
    exact h2 pins s1 σ' H' D I' q
  | ret v => exact q
  | brk => exact q
  | cont => exact q
theorem pss_one (h1 : PS X st t) : PSs X [st] t := by
  intro pins s σ H D I h
  refine wpAny_execs_cons (thn (h1 pins s σ H D I h) fun f s1 q => ?_)
  cases f with
  | next => exact wpAny_execs_nil q
  | ret v => exact q
  | brk => exact q
  | cont => exact q
def tBreak : TS := fun D σ H => D.bk σ H
def tCont : TS := fun D σ H => D.ct σ H
theorem ps_pass : PS X (.Pass pos) tNext := fun _ _ σ H _ I h => wpAny_Pass ⟨σ, H, I, h⟩
theorem ps_break : PS X (.Break pos) tBreak := fun _ _ σ H _ I h => wpAny_Break ⟨σ, H, I, h⟩
theorem ps_continue : PS X (.Continue pos) tCont := fun _ _ σ H _ I h => wpAny_Continue ⟨σ, H, I, h⟩
/-- in a def's body nothing is shown -/
theorem Inv.quiet {pins : List (Addr × Obj)} {σ : St} {H : Hp} {s : Shared} (I : Inv X pins σ H s) : interactive X.env = false := by simp [interactive, I.ok.kind]
/-- a docstring -/
theorem ps_doc {x j pos pos'} : PS X (.Expr (.Constant (.str x) j pos) pos') tNext := fun _ s σ H _ I h => wpAny_Expr (Calls.Constant_str (show SP X _ _ .next { s with toks := s.toks + 1 } from ⟨σ, H, I.tok _, h⟩)) I.quiet
/-- an expression whose value is dropped -/
def tDrop (te : TE) : TS := fun D σ H => te σ H fun _ H1 => D.nx σ H1
theorem ps_expr (he : PE X e te) (hs : swapsWith e none pos.line X.env = pure false := by rfl) : PS X (.Expr e pos) (tDrop te) := by
  intro pins s σ H D I h
  exact wpAny_Expr_any (thn (he pins s σ H _ I h) fun v s1 ⟨x, H1, I1, r1, q1⟩ => ⟨σ, H1, I1, q1⟩) I.quiet hs
def tRet (te : TE) : TS := fun D σ H => te σ H D.rt
theorem ps_ret (he : PE X e te) : PS X (.Return (some e) pos) (tRet te) := by
  intro pins s σ H D I h
  exact wpAny_Return_some (thn (he pins s σ H _ I h) fun v s1 ⟨x, H1, I1, r1, q1⟩ => ⟨x, σ, H1, I1, r1, q1⟩)
def tRetN : TS := fun D _ H => D.rt .non H
theorem ps_retN : PS X (.Return none pos) tRetN := fun _ _ σ H _ I h => wpAny_Return_none ⟨.non, σ, H, I, rfl, h⟩
def tIfS (c : TT) (t u : TS) : TS := fun D σ H => c σ H fun b H1 => if b = true then t D σ H1 else u D σ H1
theorem ps_if {c : Expr} {a b : List Stmt} {tc : TT} (hc : PT X c tc) (ha : PSs X a t) (hb : PSs X b u) : PS X (.If c a b pos) (tIfS tc t u) := by
  intro pins s σ H D I h
  refine wpAny_If (thn (hc pins s σ H _ I h) fun d s1 ⟨H1, I1, q1⟩ => ?_)
  cases d with
  | true => exact ha pins s1 σ H1 D I1 q1
  | false => exact hb pins s1 σ H1 D I1 q1
/-- code that the proof never comes to -/
def tNever : TS := fun _ _ _ => False
theorem ps_never : PS X st tNever := fun _ _ _ _ _ _ h => h.elim
theorem pss_never {sts : List Stmt} : PSs X sts tNever := fun _ _ _ _ _ _ h => h.elim
end

/-! ### targets -/
abbrev TG := V → St → Hp → (St → Hp → Prop) → Prop
abbrev TGs := List V → St → Hp → (St → Hp → Prop) → Prop
def PG (X : Cx) (target : Expr) (t : TG) : Prop :=
  ∀ (pins : List (Addr × Obj)) (s : Shared) (σ : St) (H : Hp) (v : V) (u : Value) (Q : St → Hp → Prop), Inv X pins σ H s → RelV v u → t v σ H Q →
    wpAny (model X.prog X.w) X.A (assign target X.env u) (fun _ s' => ∃ σ' H', Inv X pins σ' H' s' ∧ Q σ' H') X.xe s
/-- several targets, one after another -/
def PGs (X : Cx) (ts : List Expr) (t : TGs) : Prop :=
  ∀ (pins : List (Addr × Obj)) (s : Shared) (σ : St) (H : Hp) (vs : List V) (us : List Value) (Q : St → Hp → Prop), Inv X pins σ H s → Vals vs us → t vs σ H Q →
    wpAny (model X.prog X.w) X.A (assignInOrder ((assignEach ts X.env).map (·.2)) us) (fun _ s' => ∃ σ' H', Inv X pins σ' H' s' ∧ Q σ' H') X.xe s
/-- o[i] = v, by values -/
abbrev TSet := V → V → V → Hp → (Hp → Prop) → Prop
def PSet (X : Cx) (t : TSet) : Prop :=
  ∀ (pins : List (Addr × Obj)) (s : Shared) (σ : St) (H : Hp) (o i v : V) (ov iv u : Value) (Q : Hp → Prop), Inv X pins σ H s → RelV o ov → RelV i iv → RelV v u → t o i v H Q →
    wpAny (model X.prog X.w) X.A (setItem ov iv u) (fun _ s' => ∃ H', Inv X pins σ H' s' ∧ Q H') X.xe s
/-- a op= b, by values -/
abbrev TIp := V → V → Hp → VK → Prop
def PIp (X : Cx) (op : Operator) (t : TIp) : Prop :=
  ∀ (pins : List (Addr × Obj)) (s : Shared) (σ : St) (H : Hp) (x y : V) (v u : Value) (Q : VK), Inv X pins σ H s → RelV x v → RelV y u → t x y H Q →
    wpAny (model X.prog X.w) X.A (inplaceOp op v u) (EP X pins σ Q) X.xe s
section
variable {X : Cx} {pos : Pos}
def gName (i : Nat) : TG := fun v σ H Q => Q (σ.set i (some v)) H
theorem pg_name {i : Nat} {x : Str} (hN : X.N.Nodup) (hi : X.N[i]? = some x) (hx : Loc X.env.scope x) (hf : X.fn x = true ∨ X.env.scope.names.lookup x = some .local := by first | exact .inl rfl | exact .inr rfl | assumption) : PG X (.Name x pos) (gName i) := by
  intro pins s σ H v u Q I r h
  exact wpAny_assign_Name (store_ok I hN hi hx r (fun s' I' => ⟨_, H, I', h⟩) hf)
def gNil : TGs := fun vs σ H Q => vs = [] ∧ Q σ H
def gCons (t : TG) (u : TGs) : TGs := fun vs σ H Q => ∃ v r, vs = v :: r ∧ t v σ H fun σ' H' => u r σ' H' Q
theorem pgs_nil : PGs X [] gNil := by
  intro pins s σ H vs us Q I r h
  obtain ⟨e, h⟩ := h
  subst e
  cases r
  exact assignInOrder_nil ⟨σ, H, I, h⟩
theorem pgs_cons {e : Expr} {es : List Expr} {t : TG} {u : TGs} (h1 : PG X e t) (h2 : PGs X es u)
    (hs : (assignEach (e :: es) X.env).map (·.2) = assign e X.env :: (assignEach es X.env).map (·.2) := by rfl) : PGs X (e :: es) (gCons t u) := by
  intro pins s σ H vs us Q I r h
  obtain ⟨v, vr, e1, h⟩ := h
  subst e1
  cases r with
  | cons r rr =>
    rw [hs]
    refine assignInOrder_cons (thn (h1 pins s σ H _ _ _ I r h) fun _ s1 ⟨σ1, H1, I1, q1⟩ => ?_)
    exact h2 pins s1 σ1 H1 _ _ Q I1 rr q1
/-- (a, b, ..) = a tuple of that length -/
def gTup (K : PySem.W.Frag) (n : Nat) (t : TGs) : TG := fun v σ H Q => ∃ a xs, v = .ref a ∧ SqT K H a xs ∧ xs.length = n ∧ t xs σ H Q
theorem pg_tup {es : List Expr} {k : Nat} {t : TGs} {n : Nat} (hc : X.calm = true) (h : PGs X es t)
    (hn : (assignEach es X.env).length = n := by rfl) (hst : (assignEach es X.env).findIdx? (·.1) = none := by rfl) : PG X (.Tuple es k pos) (gTup X.K n t) := by
  intro pins s σ H v u Q I r hw
  obtain ⟨a, xs, e1, hq, hl, hw⟩ := hw
  subst e1
  cases r
  obtain ⟨its, rv, ht, hz⟩ := I.tuple hq
  refine assign_Tuple_tuple (I.ok.hd hc) ht (by simp [hn, ← hl, rv.length]) hst fun h' hx => ?_
  have I1 : Inv X pins σ H { s with heap := h' } := I.kept (t' := s.toks) fun b o e => hx b o (Nat.ne_of_lt (Heap.lt_size e)) e
  exact h pins _ σ H xs _ Q I1 (by simpa using rv) hw
/-- o[i] = .. -/
def gSub (to ti : TE) (t : TSet) : TG := fun v σ H Q => to σ H fun o H1 => ti σ H1 fun i H2 => t o i v H2 fun H3 => Q σ H3
theorem pg_sub {o i : Expr} {to ti : TE} {t : TSet} (ho : PE X o to) (hi : PE X i ti) (hs : PSet X t)
    (ha : ∀ v, assign (.Subscript o i pos) X.env v = (do
      let ov ← holding [v] (eval o X.env)
      let iv ← holding [v, ov] (eval i X.env)
      standAt pos
      holding [v, ov, iv] (setItem ov iv v)
      release [v, ov, iv] []) := by intro _; rfl) : PG X (.Subscript o i pos) (gSub to ti t) := by
  intro pins s σ H v u Q I r h
  rw [ha]
  refine wpAny_bind (wpAny_holding (thn (ho pins s σ H _ I h) fun ov s1 ⟨x, H1, I1, r1, q1⟩ => ?_))
  refine wpAny_bind (wpAny_holding (thn (hi pins s1 σ H1 _ I1 q1) fun iv s2 ⟨y, H2, I2, r2, q2⟩ => ?_))
  refine wpAny_bind (wpAny_standAt (wpAny_bind (wpAny_holding (thn (hs pins s2 σ H2 x y v ov iv u _ I2 r1 r2 r q2) fun _ s3 ⟨H3, I3, q3⟩ => ?_))))
  exact wpAny_release ⟨σ, H3, I3, q3⟩
/-- target = value -/
def tAsg (te : TE) (g : TG) : TS := fun D σ H => te σ H fun x H1 => g x σ H1 D.nx
theorem ps_asg {tg e : Expr} {te : TE} {g : TG} (he : PE X e te) (hg : PG X tg g) (hs : swapsWithSole [tg] e pos.line X.env = pure false := by rfl) (hw : swappedStores [tg] e X.env = pure none := by rfl)
    (h1 : (assignEach [tg] X.env).map (·.2) = [assign tg X.env] := by rfl) : PS X (.Assign [tg] e pos) (tAsg te g) := by
  intro pins s σ H D I h
  refine wpAny_Assign_stores (thn (he pins s σ H _ I h) fun v s1 ⟨x, H1, I1, r1, q1⟩ => ?_) hs hw
  rw [h1]
  exact thn (hg pins s1 σ H1 x v _ I1 r1 q1) fun _ s2 q => q
/-- name = value -/
theorem ps_set {i : Nat} {x : Str} {e : Expr} {te : TE} {pos' : Pos} (hN : X.N.Nodup) (hi : X.N[i]? = some x) (hx : Loc X.env.scope x) (he : PE X e te) (hs : swapsWith e (some (.Name x pos')) pos.line X.env = pure false := by rfl) (hf : X.fn x = true ∨ X.env.scope.names.lookup x = some .local := by first | exact .inl rfl | exact .inr rfl | assumption) :
    PS X (.Assign [.Name x pos'] e pos) (tAsg te (gName i)) := by
  intro pins s σ H D I h
  refine wpAny_Assign_Name (thn (he pins s σ H _ I h) fun v s1 ⟨y, H1, I1, r1, q1⟩ => ?_) hs
  exact store_ok I1 hN hi hx r1 (fun s2 I2 => ⟨_, H1, I2, q1⟩) hf
/-- a, b = x, y with plain local names: stored from the right; the pair itself is not tracked (the opening rows as in PyProof/Rows/TupAssign.lean:23) -/
def tPar (i j : Nat) (ta : TA) : TS := fun D σ H => ta σ H fun vs H1 => ∃ v w, vs = [v, w] ∧ D.nx ((σ.set i (some v)).set j (some w)) H1
theorem ps_par {i j : Nat} {x y : Str} {a b : Expr} {ta : TA} {px py pt : Pos} {kt k2 pt2} (hc : X.calm = true) (hN : X.N.Nodup) (hi : X.N[i]? = some x) (hj : X.N[j]? = some y) (hij : i ≠ j)
    (hx : X.env.scope.names.lookup x = some .local) (hy : X.env.scope.names.lookup y = some .local) (ha : PA X [a, b] ta)
    (hw : swappedStores [.Tuple [.Name x px, .Name y py] kt pt] (.Tuple [a, b] k2 pt2) X.env = pure (some [x, y]))
    (hs : swapsWithSole [.Tuple [.Name x px, .Name y py] kt pt] (.Tuple [a, b] k2 pt2) pos.line X.env = pure false := by rfl) :
    PS X (.Assign [.Tuple [.Name x px, .Name y py] kt pt] (.Tuple [a, b] k2 pt2) pos) (tPar i j ta) := by
  intro pins s σ H D I h
  rw [exec_Assign_arm]
  refine wpAny_bind (wpAny_standAt ?_)
  rw [hs]
  refine wpAny_bind (wpAny_pure ?_)
  rw [if_neg (by decide)]
  refine wpAny_bind (Tuple_ (thn (ha _ pins s σ H _ I h) fun us s1 ⟨vs, H1, I1, r1, q1⟩ => ?_))
  obtain ⟨v, w, e1, q1⟩ := q1
  subst e1
  obtain ⟨u1, u2, rfl, rv, rw'⟩ : ∃ u1 u2, us = [u1, u2] ∧ RelV v u1 ∧ RelV w u2 := by
    cases r1 with
    | cons p q =>
      cases q with
      | cons p' q' =>
        cases q'
        exact ⟨_, _, rfl, p, p'⟩
  refine wpAny_newObj_type ?_ (by show 2 ≤ sizeLine; decide)
  have I2 : Inv X pins σ H1 { s1 with heap := s1.heap.push { cls := .type "tuple", data := .seq [u1, u2].toArray } } := I1.kept (t' := s1.toks) fun b o e => Heap.get?_push_of_some _ e
  rw [hw]
  refine wpAny_bind (wpAny_pure ?_)
  show wpAny (model X.prog X.w) X.A (do rule "assign.swapped-stores"; let items ← unpackItems (.ref s1.heap.objs.size) 2 none; assignInOrder [fun v => bindName X.env y v, fun v => bindName X.env x v] items.reverse; pure Flow.next) _ _ _
  refine wpAny_bind (wpAny_rule (wpAny_bind (unpackItems_tuple (items := #[u1, u2]) (I.ok.hd hc) (IsTup.new s1.heap _) fun h' hx' => ?_)))
  have I3 := I2.kept (h' := h') (t' := s1.toks) fun b o e => hx' b o (Nat.ne_of_lt (Heap.lt_size e)) e
  show wpAny _ _ (assignInOrder [fun v => bindName X.env y v, fun v => bindName X.env x v] [u2, u1] >>= fun _ => pure Flow.next) _ _ _
  refine wpAny_bind (assignInOrder_cons (wpAny_bindName (store_ok I3 hN hj (.inl hy) rw' (fun s2 I4 => ?_) (.inr hy))))
  refine assignInOrder_cons (wpAny_bindName (store_ok I4 hN hi (.inl hx) rv (fun s3 I5 => assignInOrder_nil (wpAny_pure ?_)) (.inr hx)))
  rw [List.set_comm _ _ (Ne.symm hij)] at I5
  exact ⟨_, H1, I5, q1⟩
/-- name op= e -/
def tAug (i : Nat) (te : TE) (ti : TIp) : TS := fun D σ H => ∃ x, σ[i]? = some (some x) ∧ te σ H fun y H1 => ti x y H1 fun z H2 => D.nx (σ.set i (some z)) H2
theorem ps_aug {i : Nat} {x : Str} {e : Expr} {te : TE} {op : Operator} {ti : TIp} {pos' : Pos} (hN : X.N.Nodup) (hi : X.N[i]? = some x) (hx : Loc X.env.scope x) (he : PE X e te) (ho : PIp X op ti) (hf : X.fn x = true ∨ X.env.scope.names.lookup x = some .local := by first | exact .inl rfl | exact .inr rfl | assumption) :
    PS X (.AugAssign (.Name x pos') op e pos) (tAug i te ti) := by
  intro pins s σ H D I h
  obtain ⟨v, e1, h⟩ := h
  obtain ⟨m, hn, hl⟩ := I.loc
  have vis : Vis X.env.scope x := by rcases hx with k | k; exact .inl k; exact .inr (.inl k)
  obtain ⟨u, r, l⟩ := hl i x v hi e1 vis
  refine wpAny_AugAssign_Name ?_
  have go : wpAny (model X.prog X.w) X.A (eval e X.env) (fun w s₂ => wpAny (model X.prog X.w) X.A (inplaceOp op u w) (fun r s₃ => wpAny (model X.prog X.w) X.A (storeName X.env x r) (fun _ => SP X pins D .next) X.xe s₃) X.xe s₂) X.xe s := by
    refine thn (he pins s σ H _ I h) fun w s1 ⟨y, H1, I1, r1, q1⟩ => ?_
    refine thn (ho pins s1 σ H1 v y u w _ I1 r r1 q1) fun z s2 ⟨zv, H2, I2, r2, q2⟩ => ?_
    exact store_ok I2 hN hi hx r2 (fun s3 I3 => ⟨_, H2, I3, q2⟩) hf
  rcases l with ⟨hk, hm⟩ | ⟨hk, c, hc, hcell⟩
  · exact wpAny_loadName_local I.ok.kind hk hn hm go
  · rcases hk with hk | hk
    · exact wpAny_loadName_cell I.ok.kind hk hc hcell go
    · rcases hx with k | k
      · have : X.env.scope.names.lookup x = some .free := hk
        rw [k] at this; cases this
      · have : X.env.scope.names.lookup x = some .free := hk
        rw [k] at this; cases this
/-- o[i] op= e -/
def tAugS (to ti te : TE) (tget : V → V → Hp → VK → Prop) (tip : TIp) (tset : TSet) : TS := fun D σ H => to σ H fun o H1 => ti σ H1 fun i H2 => tget o i H2 fun x H3 => te σ H3 fun y H4 => tip x y H4 fun z H5 => tset o i z H5 fun H6 => D.nx σ H6
/-- o[i], by values -/
def PGet (X : Cx) (t : V → V → Hp → VK → Prop) : Prop :=
  ∀ (pins : List (Addr × Obj)) (s : Shared) (σ : St) (H : Hp) (o i : V) (ov iv : Value) (Q : VK), Inv X pins σ H s → RelV o ov → RelV i iv → t o i H Q →
    wpAny (model X.prog X.w) X.A (getItem ov iv) (EP X pins σ Q) X.xe s
theorem ps_augS {o i e : Expr} {to ti te : TE} {tget : V → V → Hp → VK → Prop} {tip : TIp} {tset : TSet} {op : Operator} {tpos : Pos} (ho : PE X o to) (hi : PE X i ti) (hg : PGet X tget) (he : PE X e te) (hp : PIp X op tip) (hs : PSet X tset)
    (ha : ∀ ov iv new, augStore i ov iv new = (do holding [new, ov, iv] (setItem ov iv new); release [new, ov, iv] []; pure .next) := by intros; rfl) : PS X (.AugAssign (.Subscript o i tpos) op e pos) (tAugS to ti te tget tip tset) := by
  intro pins s σ H D I h
  refine wpAny_AugAssign_SubscriptAny (thn (ho pins s σ H _ I h) fun ov s1 ⟨x1, H1, I1, r1, q1⟩ => ?_) ha
  refine thn (hi pins s1 σ H1 _ I1 q1) fun iv s2 ⟨x2, H2, I2, r2, q2⟩ => ?_
  refine thn (hg pins s2 σ H2 x1 x2 ov iv _ I2 r1 r2 q2) fun old s3 ⟨x3, H3, I3, r3, q3⟩ => ?_
  refine thn (he pins s3 σ H3 _ I3 q3) fun v s4 ⟨x4, H4, I4, r4, q4⟩ => ?_
  refine thn (hp pins s4 σ H4 x3 x4 old v _ I4 r3 r4 q4) fun new s5 ⟨x5, H5, I5, r5, q5⟩ => ?_
  exact thn (hs pins s5 σ H5 x1 x2 x5 ov iv new _ I5 r1 r2 r5 q5) fun _ s6 ⟨H6, I6, q6⟩ => ⟨σ, H6, I6, q6⟩
/-- ints -/
def ipI (f : Int → Int → Int) : TIp := fun x y H Q => ∃ i j, x = .int i ∧ y = .int j ∧ Q (.int (f i j)) H
theorem ip_add : PIp X .Add (ipI fun i j => i + j) := by
  intro pins s σ H x y v u Q I r1 r2 h
  obtain ⟨i, j, e1, e2, q⟩ := h
  subst e1; subst e2
  obtain ⟨t, rfl⟩ := r1
  obtain ⟨t', rfl⟩ := r2
  exact iadd_int ⟨.int _, H, I.tok _, ⟨_, rfl⟩, q⟩
theorem ip_sub : PIp X .Sub (ipI fun i j => i - j) := by
  intro pins s σ H x y v u Q I r1 r2 h
  obtain ⟨i, j, e1, e2, q⟩ := h
  subst e1; subst e2
  obtain ⟨t, rfl⟩ := r1
  obtain ⟨t', rfl⟩ := r2
  exact isub_int ⟨.int _, H, I.tok _, ⟨_, rfl⟩, q⟩
end

/-! ### while -/
section
variable {X : Cx} {pos : Pos}
/-- the invariant W with its measure -/
def tWhile (c : TT) (tb : TS) : TS := fun D σ H => ∃ W : Nat → St → Hp → Prop, (∃ m, W m σ H) ∧ ∀ m σ H, W m σ H →
  c σ H fun b H1 => if b = true then ∃ N : St → Hp → Prop, (∀ σ' H', N σ' H' → ∃ m', m' < m ∧ W m' σ' H') ∧ tb { D with nx := N, ct := N, bk := D.nx } σ H1 else D.nx σ H1
theorem ps_while {c : Expr} {body : List Stmt} {tc : TT} {tb : TS} (hp : PassesOwn (model X.prog X.w) X.A X.env X.xe) (hc : PT X c tc) (hb : PSs X body tb) : PS X (.While c body [] pos) (tWhile tc tb) := by
  intro pins s σ H D I h
  obtain ⟨W, ⟨m0, w0⟩, turn⟩ := h
  refine wpAny_While (codeAny_whileLoop (fun n s' => ∃ σ' H', Inv X pins σ' H' s' ∧ W n σ' H') ?_ m0 ⟨σ, H, I, w0⟩)
  rintro n s1 ⟨σ1, H1, I1, w1⟩
  refine wpAny_passesOwn hp (thn (hc pins s1 σ1 H1 _ I1 (turn n σ1 H1 w1)) fun b s2 ⟨H2, I2, q2⟩ => ?_)
  cases b with
  | true =>
    obtain ⟨N, hN, q2⟩ := q2
    rw [if_pos rfl]
    refine wpAny_passesOwn hp (thn (hb pins s2 σ1 H2 _ I2 q2) fun f s3 q3 => ?_)
    cases f with
    | next =>
      obtain ⟨σ3, H3, I3, n3⟩ := q3
      obtain ⟨m', hm, w3⟩ := hN σ3 H3 n3
      exact ⟨m', hm, σ3, H3, I3, w3⟩
    | cont =>
      obtain ⟨σ3, H3, I3, n3⟩ := q3
      obtain ⟨m', hm, w3⟩ := hN σ3 H3 n3
      exact ⟨m', hm, σ3, H3, I3, w3⟩
    | brk => exact q3
    | ret v => exact q3
  | false =>
    rw [if_neg Bool.false_ne_true]
    exact wpAny_execs_nil ⟨σ1, H2, I2, q2⟩
end

/-! ### what a loop or a comprehension walks -/
/-- at turn i: it yields x (the heap may grow), or it stops -/
structure It where
  go : Nat → Hp → Prop
  yld : Nat → Hp → V → Hp → Prop
  stop : Nat → Hp → Prop
/-- the iterator's own objects may turn: they are not the frame's, not pinned, younger than the entry (or a comprehension's own) -/
def FpOk (X : Cx) (pins : List (Addr × Obj)) (H : Hp) (b : Addr) : Prop :=
  H b = none ∧ b ≠ X.env.locals ∧ b ∉ X.fs ∧ (b ∈ X.ex ∨ X.s₀.heap.objs.size ≤ b) ∧ (∀ x c, X.env.cells.lookup x = some c → c ≠ b) ∧ ∀ p ∈ X.pn ++ pins, p.1 ≠ b
theorem Inv.fpOk {X : Cx} {pins : List (Addr × Obj)} {σ : St} {H H' : Hp} {s : Shared} {b : Addr} (I : Inv X pins σ H s) (hb : s.heap.objs.size ≤ b) (hn : H' b = none) : FpOk X pins H' b := by
  refine ⟨hn, Nat.ne_of_gt (Nat.lt_of_lt_of_le I.lt hb), I.nofs hb, .inr (Nat.le_trans I.sz hb), fun x c e z => ?_, fun p hp z => ?_⟩
  · obtain ⟨v, q⟩ := I.cell x c e
    exact absurd (Nat.lt_of_lt_of_le q.lt (by rw [z]; exact hb)) (Nat.lt_irrefl _)
  · exact absurd (Nat.lt_of_lt_of_le (Heap.lt_size (I.pin p hp).1) (by rw [z]; exact hb)) (Nat.lt_irrefl _)
structure Turn (P : Program) (w : World) (K : PySem.W.Frag) (tg : Expr) (J : It) (fp : List Addr) (it : Addr) (tn : Nat → Heap → Prop) : Prop where
  mem : it ∈ fp
  obj : ∀ i h, tn i h → ∀ b ∈ fp, ∃ o, h.get? b = some o ∧ ∀ v, o.data ≠ .cell v
  keep : ∀ i h h', tn i h → (∀ b ∈ fp, ∀ o, h.get? b = some o → h'.get? b = some o) → tn i h'
  item : ∀ (X : Cx), X.prog = P → X.w = w → X.K = K → X.calm = true → ∀ (i : Nat) (pins : List (Addr × Obj)) (s : Shared) (σ : St) (H : Hp) (E : Value → Shared → Prop), Inv X pins σ H s → (∀ b ∈ fp, FpOk X pins H b) → tn i s.heap → J.go i H →
    wpAny (model P w) X.A (pyNext (.ref it)) (fun r s1 => ∃ u, r = some u ∧
      wpAny (model P w) X.A (letOwnedTupleGo tg (.ref it) u) (fun _ s2 => ∃ x H', Inv X pins σ H' s2 ∧ RelV x u ∧ J.yld i H x H' ∧ tn (i + 1) s2.heap ∧ ∀ b ∈ fp, H' b = none) E s1) E s
  done : ∀ (X : Cx), X.prog = P → X.w = w → X.K = K → X.calm = true → ∀ (i : Nat) (pins : List (Addr × Obj)) (s : Shared) (σ : St) (H : Hp) (E : Value → Shared → Prop), Inv X pins σ H s → (∀ b ∈ fp, FpOk X pins H b) → tn i s.heap → J.stop i H →
    wpAny (model P w) X.A (pyNext (.ref it)) (fun r s1 => r = none ∧ Inv X pins σ H s1) E s
  self : ∀ (A : Around) (i : Nat) (s : Shared) (Q : Value → Shared → Prop) (E : Value → Shared → Prop), tn i s.heap → Q (.ref it) s → wpAny (model P w) A (pyIter (.ref it)) Q E s
abbrev TI := St → Hp → (It → Hp → Prop) → Prop
/-- an iterator has come -/
def PIE (X : Cx) (pins : List (Addr × Obj)) (σ : St) (tg : Expr) (R : It → Hp → Prop) (itv : Value) (s2 : Shared) : Prop :=
  ∃ (it : Addr) (fp : List Addr) (tn : Nat → Heap → Prop) (J : It) (H' : Hp), itv = .ref it ∧ Inv X pins σ H' s2 ∧ Turn X.prog X.w X.K tg J fp it tn ∧ tn 0 s2.heap ∧ (∀ b ∈ fp, FpOk X pins H' b) ∧ R J H'
def PI (X : Cx) (tg iter : Expr) (wi : TI) : Prop :=
  ∀ (pins : List (Addr × Obj)) (s : Shared) (σ : St) (H : Hp) (R : It → Hp → Prop), Inv X pins σ H s → wi σ H R →
    wpAny (model X.prog X.w) X.A (eval iter X.env) (fun v s1 => wpAny (model X.prog X.w) X.A (pyIter v) (PIE X pins σ tg R) X.xe s1) X.xe s

/-- the step ahead of the store is nothing for an iterator that keeps no tuple -/
theorem go_of {M : Model} {A : Around} {E : Value → Shared → Prop} {s : Shared} {tg : Expr} {it : Addr} {u : Value} {o : Obj} {n : String} {vs : Array Value} {Q : Unit → Shared → Prop} (ho : s.heap.get? it = some o) (hc : o.cls = .type n) (hd : o.data = .fields vs)
    (hn : ["enumerate", "zip", "dict_itemiterator", "dict_reverseitemiterator", "odict_iterator", "itertools.zip_longest", "itertools.pairwise"].contains n = false) (hQ : Q () s) : wpAny M A (letOwnedTupleGo tg (.ref it) u) Q E s := by
  unfold letOwnedTupleGo
  cases tg <;> first
    | exact wpAny_pure hQ
    | (cases u <;> first
        | exact wpAny_pure hQ
        | (refine wpAny_bind (wpAny_load ho ?_)
           rw [hc, hd]
           show wpAny M A (if (["enumerate", "zip", "dict_itemiterator", "dict_reverseitemiterator", "odict_iterator", "itertools.zip_longest", "itertools.pairwise"].contains n && vs[0]? == some (rawInt _)) = true then _ else _) Q E s
           rw [if_neg (by intro h; rw [hn, Bool.false_and] at h; cases h)]
           exact wpAny_pure hQ))

/-- the list at a, as it stands at each turn (a loop may append to it) -/
def Itl (K : PySem.W.Frag) (a : Addr) : It :=
  ⟨fun i H => ∃ xs x, SqL K H a xs ∧ xs[i]? = some x, fun i H x H' => H' = H ∧ ∀ xs, SqL K H a xs → xs[i]? = some x, fun i H => ∃ xs, SqL K H a xs ∧ xs.length ≤ i⟩
def Itt (K : PySem.W.Frag) (a : Addr) : It :=
  ⟨fun i H => ∃ xs x, SqT K H a xs ∧ xs[i]? = some x, fun i H x H' => H' = H ∧ ∀ xs, SqT K H a xs → xs[i]? = some x, fun i H => ∃ xs, SqT K H a xs ∧ xs.length ≤ i⟩
/-- lo, lo + 1, .. (n of them) -/
def Itr (lo : Int) (n : Nat) : It := ⟨fun i _ => i < n, fun i H x H' => H' = H ∧ x = .int (lo + i), fun i _ => n ≤ i⟩
theorem turn_list {P : Program} {w : World} {K : PySem.W.Frag} {tg : Expr} (a it : Addr) : Turn P w K tg (Itl K a) [it] it (fun i h => h.IsListIter it a i) where
  mem := by simp
  obj := fun i h st b hb => by
    have e : b = it := by simpa using hb
    subst e
    obtain ⟨o, e, c, d⟩ := st
    exact ⟨o, e, fun v z => by rw [d] at z; cases z⟩
  keep := fun i h h' st k => st.at fun o e => k it (by simp) o e
  item := by
    intro X hP hw hK hc i pins s σ H E I hf st hg
    subst hP hw hK
    obtain ⟨xs, x, hq, hx⟩ := hg
    obtain ⟨its, rv, p, hz⟩ := I.list hq
    obtain ⟨u, hu, ru⟩ := rv.get hx
    obtain ⟨f0, f1, f2, f3, f4, f5⟩ := hf it (by simp)
    refine wpAny_pyNext_list_item st p.isList (x := u) (by simpa using hu) fun h' st' sb => ?_
    have I1 : Inv X pins σ H { s with heap := h' } := I.turned (t' := s.toks) (fun b o hb e => (sb.2 b hb).trans e) f0 f1 f3 f4 f5
    obtain ⟨o, e, c, d⟩ := id st'
    exact ⟨u, rfl, go_of (s := { s with heap := h' }) e c d (by decide) ⟨x, H, I1, ru, ⟨rfl, fun ys hy => by rw [I.list_inj hy hq]; exact hx⟩, st', fun b hb => (hf b hb).1⟩⟩
  done := by
    intro X hP hw hK hc i pins s σ H E I hf st hg
    subst hP hw hK
    obtain ⟨xs, hq, hx⟩ := hg
    obtain ⟨its, rv, p, hz⟩ := I.list hq
    obtain ⟨f0, f1, f2, f3, f4, f5⟩ := hf it (by simp)
    have hl := rv.length
    exact wpAny_pyNext_list_end (I.ok.hd hc) st p.isList (by simp; omega) fun h' eb => ⟨rfl, I.turned (t' := s.toks) (fun b o hb e => eb b o hb e) f0 f1 f3 f4 f5⟩
  self := fun _ _ _ _ _ st h => wpAny_pyIter_listiter st h
theorem turn_tuple {P : Program} {w : World} {K : PySem.W.Frag} {tg : Expr} (a it : Addr) : Turn P w K tg (Itt K a) [it] it (fun i h => h.IsTupleIter it a i) where
  mem := by simp
  obj := fun i h st b hb => by
    have e : b = it := by simpa using hb
    subst e
    obtain ⟨o, e, c, d⟩ := st
    exact ⟨o, e, fun v z => by rw [d] at z; cases z⟩
  keep := fun i h h' st k => st.at fun o e => k it (by simp) o e
  item := by
    intro X hP hw hK hc i pins s σ H E I hf st hg
    subst hP hw hK
    obtain ⟨xs, x, hq, hx⟩ := hg
    obtain ⟨its, rv, p, hz⟩ := I.tuple hq
    obtain ⟨u, hu, ru⟩ := rv.get hx
    obtain ⟨f0, f1, f2, f3, f4, f5⟩ := hf it (by simp)
    refine wpAny_pyNext_tuple_item st (show s.heap.IsTuple a its.toArray from p) (x := u) (by simpa using hu) fun h' st' sb => ?_
    have I1 : Inv X pins σ H { s with heap := h' } := I.turned (t' := s.toks) (fun b o hb e => (sb.2 b hb).trans e) f0 f1 f3 f4 f5
    obtain ⟨o, e, c, d⟩ := id st'
    exact ⟨u, rfl, go_of (s := { s with heap := h' }) e c d (by decide) ⟨x, H, I1, ru, ⟨rfl, fun ys hy => by rw [I.tuple_inj hy hq]; exact hx⟩, st', fun b hb => (hf b hb).1⟩⟩
  done := by
    intro X hP hw hK hc i pins s σ H E I hf st hg
    subst hP hw hK
    obtain ⟨xs, hq, hx⟩ := hg
    obtain ⟨its, rv, p, hz⟩ := I.tuple hq
    obtain ⟨f0, f1, f2, f3, f4, f5⟩ := hf it (by simp)
    have hl := rv.length
    exact wpAny_pyNext_tuple_end (I.ok.hd hc) st (show s.heap.IsTuple a its.toArray from p) (by simp; omega) fun h' eb => ⟨rfl, I.turned (t' := s.toks) (fun b o hb e => eb b o hb e) f0 f1 f3 f4 f5⟩
  self := fun _ _ _ _ _ st h => wpAny_pyIter_tupleiter st h
theorem turn_range {P : Program} {w : World} {K : PySem.W.Frag} {tg : Expr} (it : Addr) (lo : Int) (n : Nat) : Turn P w K tg (Itr lo n) [it] it (fun i h => IsRangeIter h it (lo + (i : Nat) * 1) ((n : Int) - (i : Nat)) 1) where
  mem := by simp
  obj := fun i h st b hb => by
    have e : b = it := by simpa using hb
    subst e
    exact ⟨_, st, fun v z => by
      have z' : Data.fields _ = Data.cell v := z
      cases z'⟩
  keep := fun i h h' st k => k it (by simp) _ st
  item := by
    intro X hP hw hK hc i pins s σ H E I hf st hg
    subst hP hw hK
    obtain ⟨f0, f1, f2, f3, f4, f5⟩ := hf it (by simp)
    have W := Walks.range (prog := X.prog) (w := X.w) (I.ok.hd hc) it lo 1 n
    refine W.item i s _ _ hg st fun v h' tk hv st' kk => ?_
    obtain ⟨t, rfl⟩ := hv
    have I1 : Inv X pins σ H { s with heap := h', toks := tk } := I.turned (fun b o hb e => kk b o (by simpa using hb) e) f0 f1 f3 f4 f5
    refine ⟨_, rfl, go_of (s := { s with heap := h', toks := tk }) (n := "range_iterator") st' rfl rfl (by decide) ⟨.int (lo + i), H, I1, ⟨t, ?_⟩, ⟨rfl, rfl⟩, st', fun b hb => (hf b hb).1⟩⟩
    rw [Int.mul_one]
  done := by
    intro X hP hw hK hc i pins s σ H E I hf st hg
    subst hP hw hK
    obtain ⟨f0, f1, f2, f3, f4, f5⟩ := hf it (by simp)
    exact wpAny_pyNext_range_end (I.ok.hd hc) st (by have : n ≤ i := hg; omega) fun h' eb => ⟨rfl, I.turned (t' := s.toks) (fun b o hb e => eb b o hb e) f0 f1 f3 f4 f5⟩
  self := fun _ _ _ _ _ st h => wpAny_pyIter_rangeiter st h
end L2

namespace L2
open PySem PySem.Spec PyProof.Rows
section
variable {X : Cx} {tg : Expr}
def iList (K : PySem.W.Frag) (tl : TE) : TI := fun σ H R => tl σ H fun x H1 => ∃ a, x = .ref a ∧ (∃ xs, SqL K H1 a xs) ∧ R (Itl K a) H1
def iTup (K : PySem.W.Frag) (tl : TE) : TI := fun σ H R => tl σ H fun x H1 => ∃ a, x = .ref a ∧ (∃ xs, SqT K H1 a xs) ∧ R (Itt K a) H1
theorem pi_list {l : Expr} {tl : TE} (hl : PE X l tl) : PI X tg l (iList X.K tl) := by
  intro pins s σ H R I h
  refine thn (hl pins s σ H _ I h) fun v s1 ⟨x, H1, I1, r1, q1⟩ => ?_
  obtain ⟨a, e, ⟨xs, hq⟩, q⟩ := q1
  subst e
  cases r1
  obtain ⟨its, rv, p, hz⟩ := I1.list hq
  refine wpAny_pyIter_list p.isList ?_
  refine ⟨s1.heap.objs.size, [s1.heap.objs.size], _, _, H1, rfl, I1.kept (t' := s1.toks) fun b o e => Heap.get?_push_of_some _ e, turn_list a _, ⟨_, Heap.get?_push_size _ rfl, rfl, rfl⟩, fun b hb => ?_, q⟩
  have e : b = s1.heap.objs.size := by simpa using hb
  subst e
  exact I1.fpOk (Nat.le_refl _) (I1.hok.fresh (Nat.le_refl _))
theorem pi_tup {l : Expr} {tl : TE} (hl : PE X l tl) : PI X tg l (iTup X.K tl) := by
  intro pins s σ H R I h
  refine thn (hl pins s σ H _ I h) fun v s1 ⟨x, H1, I1, r1, q1⟩ => ?_
  obtain ⟨a, e, ⟨xs, hq⟩, q⟩ := q1
  subst e
  cases r1
  obtain ⟨its, rv, p, hz⟩ := I1.tuple hq
  refine wpAny_pyIter_tuple (show s1.heap.IsTuple a its.toArray from p) ?_
  refine ⟨s1.heap.objs.size, [s1.heap.objs.size], _, _, H1, rfl, I1.kept (t' := s1.toks) fun b o e => Heap.get?_push_of_some _ e, turn_tuple a _, ⟨_, Heap.get?_push_size _ rfl, rfl, rfl⟩, fun b hb => ?_, q⟩
  have e : b = s1.heap.objs.size := by simpa using hb
  subst e
  exact I1.fpOk (Nat.le_refl _) (I1.hok.fresh (Nat.le_refl _))
/-- a range object just made, walked -/
theorem range_it {pins : List (Addr × Obj)} {σ : St} {H : Hp} {s : Shared} {R : It → Hp → Prop} {E : Value → Shared → Prop} {lo hi : Int} {t u v : Tok} {tk : Nat} (I : Inv X pins σ H s) (h1 : -(2 ^ 62) ≤ lo) (h2 : lo < 2 ^ 62) (h3 : -(2 ^ 62) ≤ hi) (h4 : hi < 2 ^ 62)
    (q : R (Itr lo (hi - lo).toNat) H) : wpAny (model X.prog X.w) X.A (pyIter (.ref s.heap.objs.size)) (PIE X pins σ tg R) E { s with heap := s.heap.push { cls := .type "range", data := .fields #[.int lo t, .int hi u, .int 1 v] }, toks := tk } := by
  refine wpAny_pyIter_range (IsRange.new ..) (small_one h1 h2 h3 h4) ?_
  have I1 : Inv X pins σ H { s with heap := s.heap.push { cls := .type "range", data := .fields #[.int lo t, .int hi u, .int 1 v] }, toks := tk } := I.kept fun b o e => Heap.get?_push_of_some _ e
  refine ⟨(s.heap.push { cls := .type "range", data := .fields #[.int lo t, .int hi u, .int 1 v] }).objs.size, [(s.heap.push { cls := .type "range", data := .fields #[.int lo t, .int hi u, .int 1 v] }).objs.size], _, _, H, rfl,
    I1.kept (t' := tk) fun b o e => Heap.get?_push_of_some _ e, turn_range _ lo (hi - lo).toNat, ?_, fun b hb => ?_, q⟩
  · have e1 : lo + ((0 : Nat) : Int) * 1 = lo := by simp
    have e2 : (((hi - lo).toNat : Nat) : Int) - ((0 : Nat) : Int) = Builtin.Range.rangeSize lo hi 1 := by rw [rangeSize_one]; split <;> omega
    show IsRangeIter _ _ (lo + ((0 : Nat) : Int) * 1) ((((hi - lo).toNat : Nat) : Int) - ((0 : Nat) : Int)) 1
    rw [e1, e2]
    exact Heap.get?_push_size _ rfl
  · have e : b = (s.heap.push { cls := .type "range", data := .fields #[.int lo t, .int hi u, .int 1 v] }).objs.size := by simpa using hb
    subst e
    exact I1.fpOk (Nat.le_refl _) (I1.hok.fresh (Nat.le_refl _))
def iRng1 (ta : TA) : TI := fun σ H R => ta σ H fun vs H1 => ∃ j : Int, vs = [.int j] ∧ -(2 ^ 62) ≤ j ∧ j < 2 ^ 62 ∧ R (Itr 0 j.toNat) H1
def iRng2 (ta : TA) : TI := fun σ H R => ta σ H fun vs H1 => ∃ i j : Int, vs = [.int i, .int j] ∧ (-(2 ^ 62) ≤ i ∧ i < 2 ^ 62 ∧ -(2 ^ 62) ≤ j ∧ j < 2 ^ 62) ∧ R (Itr i (j - i).toNat) H1
theorem pi_range1 {a : Expr} {ta : TA} {p pos : Pos} (hg : Gl X "range") (hm : X.mg "range" = none) (ha : PA X [a] ta) (hs : starEach [a] X.env = [(false, eval a X.env)] := by rfl) : PI X tg (.Call (.Name "range" p) [a] [] pos) (iRng1 ta) := by
  intro pins s σ H R I h
  refine Call_ (ld_blt I hg hm boot_range (PyProof.Rows.callWith_type1 (thn (ha pos pins s σ H _ I h) fun us s1 ⟨vs, H1, I1, r1, q1⟩ => ?_) hs rfl))
  obtain ⟨j, e, q1, q2, q⟩ := q1
  subst e
  cases r1 with
  | cons r rr =>
    cases rr
    obtain ⟨t, rfl⟩ := r
    exact call_range_1 (range_it I1 (by omega) (by omega) q1 q2 (by simpa using q))
theorem pi_range2 {a b : Expr} {ta : TA} {p pos : Pos} (hg : Gl X "range") (hm : X.mg "range" = none) (ha : PA X [a, b] ta) (hs : starEach [a, b] X.env = [(false, eval a X.env), (false, eval b X.env)] := by rfl) (hs2 : starEach [b] X.env = [(false, eval b X.env)] := by rfl) :
    PI X tg (.Call (.Name "range" p) [a, b] [] pos) (iRng2 ta) := by
  intro pins s σ H R I h
  refine Call_ (ld_blt I hg hm boot_range (PyProof.Rows.callWith_type1 (thn (ha pos pins s σ H _ I h) fun us s1 ⟨vs, H1, I1, r1, q1⟩ => ?_) (by rw [hs, hs2]) (by rw [hs2]; rfl)))
  obtain ⟨i, j, e, ⟨q1, q2, q3, q4⟩, q⟩ := q1
  subst e
  cases r1 with
  | cons r rr =>
    cases rr with
    | cons r' rr =>
      cases rr
      obtain ⟨t, rfl⟩ := r
      obtain ⟨t', rfl⟩ := r'
      exact call_range_2 (range_it I1 q1 q2 q3 q4 q)

/-! ### for -/
/-- W: the invariant by the turn and a measure; N: what the body is to reach -/
def tFor (wi : TI) (g : TG) (tb : TS) : TS := fun D σ H => wi σ H fun J H1 => ∃ W : Nat → Nat → St → Hp → Prop, (∃ m, W 0 m σ H1) ∧ ∀ i m σ H, W i m σ H →
  (J.stop i H ∧ D.nx σ H) ∨ (J.go i H ∧ ∃ N : St → Hp → Prop, (∀ σ' H', N σ' H' → ∃ m', m' < m ∧ W (i + 1) m' σ' H') ∧ ∀ x H', J.yld i H x H' → g x σ H' fun σ2 H2 => tb { D with nx := N, ct := N, bk := D.nx } σ2 H2)
/-- the records at fp as they stand -/
def pinsAt (fp : List Addr) (h : Heap) : List (Addr × Obj) := fp.filterMap fun b => (h.get? b).map fun o => (b, o)
theorem mem_pinsAt {fp : List Addr} {h : Heap} {b : Addr} {o : Obj} (hb : b ∈ fp) (e : h.get? b = some o) : (b, o) ∈ pinsAt fp h := List.mem_filterMap.mpr ⟨b, hb, by rw [e]; rfl⟩
theorem of_pinsAt {fp : List Addr} {h : Heap} {p : Addr × Obj} (hp : p ∈ pinsAt fp h) : p.1 ∈ fp ∧ h.get? p.1 = some p.2 := by
  obtain ⟨b, hb, e⟩ := List.mem_filterMap.mp hp
  cases q : h.get? b with
  | none => rw [q] at e; cases e
  | some o =>
    rw [q] at e
    have e' : (b, o) = p := Option.some.inj e
    subst e'
    exact ⟨hb, q⟩
theorem Inv.pinned {pins : List (Addr × Obj)} {σ : St} {H : Hp} {s : Shared} {fp : List Addr} (I : Inv X pins σ H s) (hf : ∀ b ∈ fp, FpOk X pins H b) (ho : ∀ b ∈ fp, ∃ o, s.heap.get? b = some o ∧ ∀ v, o.data ≠ .cell v) : Inv X (pins ++ pinsAt fp s.heap) σ H s :=
  I.pins_of fun p hp => (List.mem_append.mp hp).elim (fun z => I.pin p (List.mem_append_right _ z)) fun z => by
    obtain ⟨hb, e⟩ := of_pinsAt z
    obtain ⟨f0, f1, f2, _⟩ := hf p.1 hb
    obtain ⟨o, e', d⟩ := ho p.1 hb
    rw [e] at e'; cases e'
    exact ⟨e, f0, f1, f2, d⟩
theorem Inv.unpinned {pins pl : List (Addr × Obj)} {σ : St} {H : Hp} {s : Shared} (I : Inv X (pins ++ pl) σ H s) : Inv X pins σ H s := I.pins_of fun p hp => I.pin p (List.mem_append_right _ (List.mem_append_left _ hp))
theorem ps_for {iter : Expr} {body : List Stmt} {wi : TI} {g : TG} {tb : TS} {pos : Pos} (hp : PassesOwn (model X.prog X.w) X.A X.env X.xe) (hc : X.calm = true) (hi : PI X tg iter wi) (hg : PG X tg g) (hb : PSs X body tb)
    (hs : ∀ x, foldedSetIterable iter X.env x = pure x := by intro _; rfl) : PS X (.For tg iter body [] pos) (tFor wi g tb) := by
  intro pins s σ H D I h
  refine wpAny_For (thn (hi pins s σ H _ I h) fun v s1 h1 => thn h1 fun itv s2 h2 => ?_) hs
  obtain ⟨it, fp, tn, J, H2, e, I2, T, st2, f2, W, ⟨m0, w0⟩, turn⟩ := h2
  subst e
  -- what stays true of the iterator's objects through the loop
  have stat : ∀ {H' : Hp}, (∀ b ∈ fp, H' b = none) → ∀ b ∈ fp, FpOk X pins H' b := fun hn b hb => ⟨hn b hb, (f2 b hb).2⟩
  refine codeAny_forLoop_any (fun n s' => ∃ i σ' H', Inv X pins σ' H' s' ∧ tn i s'.heap ∧ (∀ b ∈ fp, H' b = none) ∧ W i n σ' H') ?_ m0 ⟨0, σ, H2, I2, st2, fun b hb => (f2 b hb).1, w0⟩
  rintro n s3 ⟨i, σ3, H3, I3, st3, fr3, w3⟩
  rcases turn i n σ3 H3 w3 with ⟨stop, qn⟩ | ⟨go, N, hN, step⟩
  · refine wpAny_passesOwn hp (thn (T.done X rfl rfl rfl hc i pins s3 σ3 H3 X.xe I3 (stat fr3) st3 stop) fun r s4 ⟨hr, I4⟩ => ?_)
    subst hr
    exact wpAny_execs_nil ⟨σ3, H3, I4, qn⟩
  · refine wpAny_passesOwn hp (thn (T.item X rfl rfl rfl hc i pins s3 σ3 H3 X.xe I3 (stat fr3) st3 go) fun r s4 ⟨u, hr, h4⟩ => ?_)
    subst hr
    refine wpAny_passesOwn hp (thn h4 fun _ s5 ⟨x, H5, I5, r5, y5, st5, fr5⟩ => ?_)
    have I5' := I5.pinned (stat fr5) (T.obj _ _ st5)
    refine wpAny_passesOwn hp (thn (hg _ s5 σ3 H5 x u _ I5' r5 (step x H5 y5)) fun _ s6 ⟨σ6, H6, I6, q6⟩ => ?_)
    refine wpAny_passesOwn hp (thn (hb _ s6 σ6 H6 _ I6 q6) fun f s7 q7 => ?_)
    have again : ∀ {σ7 : St} {H7 : Hp}, Inv X (pins ++ pinsAt fp s5.heap) σ7 H7 s7 → N σ7 H7 → ∃ m, m < n ∧ ∃ i σ' H', Inv X pins σ' H' s7 ∧ tn i s7.heap ∧ (∀ b ∈ fp, H' b = none) ∧ W i m σ' H' := fun {σ7 H7} I7 n7 => by
      obtain ⟨m', hm, w7⟩ := hN σ7 H7 n7
      refine ⟨m', hm, i + 1, σ7, H7, I7.unpinned, T.keep _ _ _ st5 fun b hb o e => (I7.pin (b, o) (List.mem_append_right _ (List.mem_append_right _ (mem_pinsAt hb e)))).1, fun b hb => ?_, w7⟩
      obtain ⟨o, e, d⟩ := T.obj _ _ st5 b hb
      exact (I7.pin (b, o) (List.mem_append_right _ (List.mem_append_right _ (mem_pinsAt hb e)))).2.1
    cases f with
    | next => obtain ⟨σ7, H7, I7, n7⟩ := q7; exact again I7 n7
    | cont => obtain ⟨σ7, H7, I7, n7⟩ := q7; exact again I7 n7
    | brk => obtain ⟨σ7, H7, I7, q7⟩ := q7; exact ⟨σ7, H7, I7.unpinned, q7⟩
    | ret v => obtain ⟨x7, σ7, H7, I7, r7, q7⟩ := q7; exact ⟨x7, σ7, H7, I7.unpinned, r7, q7⟩
end

/-! ### the forms one uses -/
/-- over a list that the body leaves as it is -/
theorem for_list {K : PySem.W.Frag} {a : Addr} {xs : List V} {g : TG} {tb : TS} {D : Ends} {σ : St} {H : Hp} (Pv : Nat → St → Hp → Prop) (h0 : Pv 0 σ H) (hl : ∀ i σ H, i ≤ xs.length → Pv i σ H → SqL K H a xs)
    (hs : ∀ i x σ H, xs[i]? = some x → Pv i σ H → g x σ H fun σ2 H2 => tb { D with nx := Pv (i + 1), ct := Pv (i + 1), bk := D.nx } σ2 H2) (hd : ∀ σ H, Pv xs.length σ H → D.nx σ H) :
    ∃ W : Nat → Nat → St → Hp → Prop, (∃ m, W 0 m σ H) ∧ ∀ i m σ H, W i m σ H →
      ((Itl K a).stop i H ∧ D.nx σ H) ∨ ((Itl K a).go i H ∧ ∃ N : St → Hp → Prop, (∀ σ' H', N σ' H' → ∃ m', m' < m ∧ W (i + 1) m' σ' H') ∧ ∀ x H', (Itl K a).yld i H x H' → g x σ H' fun σ2 H2 => tb { D with nx := N, ct := N, bk := D.nx } σ2 H2) := by
  refine ⟨fun i m σ H => m = xs.length - i ∧ i ≤ xs.length ∧ Pv i σ H, ⟨xs.length, by simp, Nat.zero_le _, h0⟩, ?_⟩
  rintro i m σ H ⟨rfl, hi, p⟩
  have q := hl i σ H hi p
  by_cases hlt : i < xs.length
  · refine .inr ⟨⟨xs, xs[i], q, by simp [hlt]⟩, Pv (i + 1), fun σ' H' p' => ⟨xs.length - (i + 1), by omega, rfl, hlt, p'⟩, fun x H' y => ?_⟩
    obtain ⟨e, y⟩ := y
    subst e
    exact hs i x σ _ (y xs q) p
  · have e : i = xs.length := by omega
    subst e
    exact .inl ⟨⟨xs, q, Nat.le_refl _⟩, hd σ H p⟩
theorem for_tup {K : PySem.W.Frag} {a : Addr} {xs : List V} {g : TG} {tb : TS} {D : Ends} {σ : St} {H : Hp} (Pv : Nat → St → Hp → Prop) (h0 : Pv 0 σ H) (hl : ∀ i σ H, i ≤ xs.length → Pv i σ H → SqT K H a xs)
    (hs : ∀ i x σ H, xs[i]? = some x → Pv i σ H → g x σ H fun σ2 H2 => tb { D with nx := Pv (i + 1), ct := Pv (i + 1), bk := D.nx } σ2 H2) (hd : ∀ σ H, Pv xs.length σ H → D.nx σ H) :
    ∃ W : Nat → Nat → St → Hp → Prop, (∃ m, W 0 m σ H) ∧ ∀ i m σ H, W i m σ H →
      ((Itt K a).stop i H ∧ D.nx σ H) ∨ ((Itt K a).go i H ∧ ∃ N : St → Hp → Prop, (∀ σ' H', N σ' H' → ∃ m', m' < m ∧ W (i + 1) m' σ' H') ∧ ∀ x H', (Itt K a).yld i H x H' → g x σ H' fun σ2 H2 => tb { D with nx := N, ct := N, bk := D.nx } σ2 H2) := by
  refine ⟨fun i m σ H => m = xs.length - i ∧ i ≤ xs.length ∧ Pv i σ H, ⟨xs.length, by simp, Nat.zero_le _, h0⟩, ?_⟩
  rintro i m σ H ⟨rfl, hi, p⟩
  have q := hl i σ H hi p
  by_cases hlt : i < xs.length
  · refine .inr ⟨⟨xs, xs[i], q, by simp [hlt]⟩, Pv (i + 1), fun σ' H' p' => ⟨xs.length - (i + 1), by omega, rfl, hlt, p'⟩, fun x H' y => ?_⟩
    obtain ⟨e, y⟩ := y
    subst e
    exact hs i x σ _ (y xs q) p
  · have e : i = xs.length := by omega
    subst e
    exact .inl ⟨⟨xs, q, Nat.le_refl _⟩, hd σ H p⟩
theorem for_range {lo : Int} {n : Nat} {g : TG} {tb : TS} {D : Ends} {σ : St} {H : Hp} (Pv : Nat → St → Hp → Prop) (h0 : Pv 0 σ H)
    (hs : ∀ i σ H, i < n → Pv i σ H → g (.int (lo + i)) σ H fun σ2 H2 => tb { D with nx := Pv (i + 1), ct := Pv (i + 1), bk := D.nx } σ2 H2) (hd : ∀ σ H, Pv n σ H → D.nx σ H) :
    ∃ W : Nat → Nat → St → Hp → Prop, (∃ m, W 0 m σ H) ∧ ∀ i m σ H, W i m σ H →
      ((Itr lo n).stop i H ∧ D.nx σ H) ∨ ((Itr lo n).go i H ∧ ∃ N : St → Hp → Prop, (∀ σ' H', N σ' H' → ∃ m', m' < m ∧ W (i + 1) m' σ' H') ∧ ∀ x H', (Itr lo n).yld i H x H' → g x σ H' fun σ2 H2 => tb { D with nx := N, ct := N, bk := D.nx } σ2 H2) := by
  refine ⟨fun i m σ H => m = n - i ∧ i ≤ n ∧ Pv i σ H, ⟨n, by simp, Nat.zero_le _, h0⟩, ?_⟩
  rintro i m σ H ⟨rfl, hi, p⟩
  by_cases hlt : i < n
  · refine .inr ⟨hlt, Pv (i + 1), fun σ' H' p' => ⟨n - (i + 1), by omega, rfl, hlt, p'⟩, fun x H' y => ?_⟩
    obtain ⟨e, y⟩ := y
    subst e y
    exact hs i σ _ hlt p
  · have e : i = n := by omega
    subst e
    exact .inl ⟨Nat.le_refl _, hd σ H p⟩
/-- while, by a word and a measure of the state -/
theorem while_by {c : TT} {tb : TS} {D : Ends} {σ : St} {H : Hp} (Pv : St → Hp → Prop) (μ : St → Hp → Nat) (h0 : Pv σ H)
    (hs : ∀ σ H, Pv σ H → c σ H fun b H1 => if b = true then tb { D with nx := fun σ' H' => Pv σ' H' ∧ μ σ' H' < μ σ H, ct := fun σ' H' => Pv σ' H' ∧ μ σ' H' < μ σ H, bk := D.nx } σ H1 else D.nx σ H1)
    (mono : ∀ σ H Q Q', (∀ b H1, Q b H1 → Q' b H1) → c σ H Q → c σ H Q') : tWhile c tb D σ H := by
  refine ⟨fun m σ H => m = μ σ H ∧ Pv σ H, ⟨_, rfl, h0⟩, ?_⟩
  rintro m σ H ⟨rfl, p⟩
  refine mono σ H _ _ (fun b H1 q => ?_) (hs σ H p)
  cases b with
  | true => exact ⟨_, fun σ' H' ⟨p', l⟩ => ⟨_, l, rfl, p'⟩, q⟩
  | false => exact q
end L2

namespace L2
open PySem PySem.Spec PyProof.Rows

abbrev R2 := V → V → Hp → VK → Prop
/-- a two-place operation on values: f is binaryOp op, inplaceOp op or compareOp op -/
def OpR (X : Cx) (f : Value → Value → Sem Value) (r : R2) : Prop :=
  ∀ (pins : List (Addr × Obj)) (s : Shared) (σ : St) (H : Hp) (x y : V) (v u : Value) (Q : VK), Inv X pins σ H s → RelV x v → RelV y u → r x y H Q →
    wpAny (model X.prog X.w) X.A (f v u) (EP X pins σ Q) X.xe s
/-- a one-place operation -/
def UnR (X : Cx) (f : Value → Sem Value) (r : V → Hp → VK → Prop) : Prop :=
  ∀ (pins : List (Addr × Obj)) (s : Shared) (σ : St) (H : Hp) (x : V) (v : Value) (Q : VK), Inv X pins σ H s → RelV x v → r x H Q →
    wpAny (model X.prog X.w) X.A (f v) (EP X pins σ Q) X.xe s
/-- a call of a value that is known (a builtin, a type) with values -/
def CallR (X : Cx) (f : Value) (r : List V → Hp → VK → Prop) : Prop :=
  ∀ (pins : List (Addr × Obj)) (s : Shared) (σ : St) (H : Hp) (xs : List V) (us : List Value) (Q : VK), Inv X pins σ H s → Vals xs us → r xs H Q →
    wpAny (model X.prog X.w) X.A (call f us) (EP X pins σ Q) X.xe s
/-- a value's truth -/
def TruR (X : Cx) (r : V → Hp → (Bool → Hp → Prop) → Prop) : Prop :=
  ∀ (pins : List (Addr × Obj)) (s : Shared) (σ : St) (H : Hp) (x : V) (v : Value) (Q : Bool → Hp → Prop), Inv X pins σ H s → RelV x v → r x H Q →
    wpAny (model X.prog X.w) X.A (truthy v) (TP X pins σ Q) X.xe s

def tOp (r : R2) (ta tb : TE) : TE := fun σ H Q => ta σ H fun x H1 => tb σ H1 fun y H2 => r x y H2 Q
def tUn (r : V → Hp → VK → Prop) (ta : TE) : TE := fun σ H Q => ta σ H fun x H1 => r x H1 Q
/-- ints in, under C, and a value out -/
def rI (C : Int → Int → Prop) (g : Int → Int → V) : R2 := fun x y H Q => ∃ i j, x = .int i ∧ y = .int j ∧ C i j ∧ Q (g i j) H
def rI0 (g : Int → Int → V) : R2 := fun x y H Q => ∃ i j, x = .int i ∧ y = .int j ∧ Q (g i j) H
def rU (g : Int → V) : V → Hp → VK → Prop := fun x H Q => ∃ i, x = .int i ∧ Q (g i) H

section
variable {X : Cx} {a b c : Expr} {ta tb tc : TE} {pos : Pos}

theorem binT (ha : PE X a ta) (hb : PE X b tb) {pins : List (Addr × Obj)} {s : Shared} {σ : St} {H : Hp} {R : V → V → Hp → Prop} (I : Inv X pins σ H s)
    (h : ta σ H fun x H1 => tb σ H1 fun y H2 => R x y H2) {Q : Value → Shared → Prop} {f : Value → Value → Sem Value}
    (hf : ∀ v u s2 x y H2, Inv X pins σ H2 s2 → RelV x v → RelV y u → R x y H2 → wpAny (model X.prog X.w) X.A (f v u) Q X.xe s2) :
    wpAny (model X.prog X.w) X.A (eval a X.env) (fun v s₁ => wpAny (model X.prog X.w) X.A (eval b X.env) (fun u s₂ => wpAny (model X.prog X.w) X.A (f v u) Q X.xe s₂) X.xe s₁) X.xe s := by
  refine thn (ha pins s σ H _ I h) fun v s1 ⟨x, H1, I1, r1, q1⟩ => ?_
  refine thn (hb pins s1 σ H1 _ I1 q1) fun u s2 ⟨y, H2, I2, r2, q2⟩ => ?_
  exact hf v u s2 x y H2 I2 r1 r2 q2

theorem pe_op {op : Operator} {r : R2} (ho : OpR X (binaryOp op) r) (ha : PE X a ta) (hb : PE X b tb) : PE X (.BinOp a op b pos) (tOp r ta tb) := by
  intro pins s σ H Q I h
  exact wpAny_BinOp (binT ha hb I h fun v u s2 x y H2 I2 rx ry q => ho pins s2 σ H2 x y v u Q I2 rx ry q)
theorem pe_un {op : UnaryOp} {r : V → Hp → VK → Prop} (ho : UnR X (unaryOp op) r) (ha : PE X a ta) : PE X (.UnaryOp op a pos) (tUn r ta) := by
  intro pins s σ H Q I h
  exact UnaryOp_ (thn (ha pins s σ H _ I h) fun v s1 ⟨x, H1, I1, r1, q1⟩ => ho pins s1 σ H1 x v Q I1 r1 q1)
/-- a op= e at a name: the name's slot i -/
theorem augR {op : Operator} {r : R2} (ho : OpR X (inplaceOp op) r) {pins : List (Addr × Obj)} {s : Shared} {σ : St} {H : Hp} {x y : V} {v u : Value} {Q : VK} (I : Inv X pins σ H s)
    (rx : RelV x v) (ry : RelV y u) (q : r x y H Q) : wpAny (model X.prog X.w) X.A (inplaceOp op v u) (EP X pins σ Q) X.xe s := ho pins s σ H x y v u Q I rx ry q

/-! ### ints -/
theorem opI {f : Value → Value → Sem Value} {C : Int → Int → Prop} {g : Int → Int → Int}
    (rule : ∀ (i j : Int) (t u : Tok) (s : Shared) (Q : Value → Shared → Prop) (E : Value → Shared → Prop), C i j → Q (.int (g i j) s.toks) { s with toks := s.toks + 1 } → wpAny (model X.prog X.w) X.A (f (.int i t) (.int j u)) Q E s) :
    OpR X f (rI C fun i j => .int (g i j)) := by
  intro pins s σ H x y v u Q I rx ry h
  obtain ⟨i, j, rfl, rfl, hc, q⟩ := h
  obtain ⟨t, rfl⟩ := rx
  obtain ⟨t', rfl⟩ := ry
  exact rule i j t t' s _ _ hc ⟨.int (g i j), H, I.tok _, ⟨_, rfl⟩, q⟩
theorem opI0 {f : Value → Value → Sem Value} {g : Int → Int → Int}
    (rule : ∀ (i j : Int) (t u : Tok) (s : Shared) (Q : Value → Shared → Prop) (E : Value → Shared → Prop), Q (.int (g i j) s.toks) { s with toks := s.toks + 1 } → wpAny (model X.prog X.w) X.A (f (.int i t) (.int j u)) Q E s) :
    OpR X f (rI0 fun i j => .int (g i j)) := by
  intro pins s σ H x y v u Q I rx ry h
  obtain ⟨i, j, rfl, rfl, q⟩ := h
  obtain ⟨t, rfl⟩ := rx
  obtain ⟨t', rfl⟩ := ry
  exact rule i j t t' s _ _ ⟨.int (g i j), H, I.tok _, ⟨_, rfl⟩, q⟩
theorem opB0 {f : Value → Value → Sem Value} {g : Int → Int → Bool}
    (rule : ∀ (i j : Int) (t u : Tok) (s : Shared) (Q : Value → Shared → Prop) (E : Value → Shared → Prop), Q (.bool (g i j)) s → wpAny (model X.prog X.w) X.A (f (.int i t) (.int j u)) Q E s) :
    OpR X f (rI0 fun i j => .bl (g i j)) := by
  intro pins s σ H x y v u Q I rx ry h
  obtain ⟨i, j, rfl, rfl, q⟩ := h
  obtain ⟨t, rfl⟩ := rx
  obtain ⟨t', rfl⟩ := ry
  exact rule i j t t' s _ _ ⟨.bl (g i j), H, I, rfl, q⟩

def CDiv (i j : Int) : Prop := 0 < j ∧ j < 1073741824
def CDivN (i j : Int) : Prop := j ≠ 0 ∧ j.natAbs < 1073741824
def CPow (i j : Int) : Prop := 0 ≤ j ∧ j ≤ 1000000 ∧ i.natAbs < 2 ^ 64
def CMul (i j : Int) : Prop := (-(2 ^ 64) < i ∧ i < 2 ^ 64) ∨ (-(2 ^ 64) < j ∧ j < 2 ^ 64)
theorem CMul.ok {i j : Int} (h : CMul i j) : IntMulOk i j := by
  rcases h with ⟨h1, h2⟩ | ⟨h1, h2⟩
  · exact .of_left (intBits_le_64 h1 h2)
  · exact .of_right (intBits_le_64 h1 h2)
theorem two_pow_nn (k : Nat) : (0 : Int) ≤ 2 ^ k := by
  rw [two_pow_cast]
  exact Int.natCast_nonneg _

theorem op_add : OpR X (binaryOp .Add) (rI0 fun i j => .int (i + j)) := opI0 fun _ _ _ _ _ _ _ q => add_int q
theorem op_sub : OpR X (binaryOp .Sub) (rI0 fun i j => .int (i - j)) := opI0 fun _ _ _ _ _ _ _ q => sub_int q
theorem op_mul : OpR X (binaryOp .Mult) (rI CMul fun i j => .int (i * j)) := opI fun _ _ _ _ _ _ _ hc q => mul_int q hc.ok
/-- // by a positive divisor -/
theorem op_fdiv : OpR X (binaryOp .FloorDiv) (rI CDiv fun i j => .int (i / j)) := opI fun i j _ _ _ _ _ hc q => by
  have h1 : (0 : Int) < j := hc.1
  have h2 : j < 1073741824 := hc.2
  exact floordiv_int (by omega) (by rw [Int.fdiv_eq_ediv_of_nonneg i (by omega)]; exact q) (.inl (PyProof.noPylong_small (by omega)))
theorem op_fdivN : OpR X (binaryOp .FloorDiv) (rI CDivN fun i j => .int (i.fdiv j)) := opI fun _ _ _ _ _ _ _ hc q => floordiv_int hc.1 q (.inl (PyProof.noPylong_small hc.2))
/-- % by a positive divisor of any size -/
theorem op_mod : OpR X (binaryOp .Mod) (rI (fun _ j => 0 < j) fun i j => .int (i % j)) := opI fun i j _ _ _ _ _ hc q => by
  have h1 : (0 : Int) < j := hc
  exact mod_int' (by omega) (by rw [Int.fmod_eq_emod_of_nonneg i (by omega)]; exact q)
theorem op_modN : OpR X (binaryOp .Mod) (rI (fun _ j => j ≠ 0) fun i j => .int (i.fmod j)) := opI fun _ _ _ _ _ _ _ hc q => mod_int' hc q
theorem op_pow : OpR X (binaryOp .Pow) (rI CPow fun i j => .int (i ^ j.toNat)) := opI fun _ _ _ _ _ _ _ hc q => pow_int_small hc.1 hc.2.1 hc.2.2 q
theorem op_shl : OpR X (binaryOp .LShift) (rI CPow fun i j => .int (i * 2 ^ j.toNat)) := opI fun _ _ _ _ _ _ _ hc q => lshift_int_small hc.1 hc.2.1 hc.2.2 q
theorem op_shr : OpR X (binaryOp .RShift) (rI (fun _ j => 0 ≤ j) fun i j => .int (i / 2 ^ j.toNat)) := opI fun i j _ _ _ _ _ hc q =>
  rshift_int hc (by rw [Int.fdiv_eq_ediv_of_nonneg i (two_pow_nn _)]; exact q)
theorem op_and : OpR X (binaryOp .BitAnd) (rI0 fun i j => .int (Builtin.bitAnd i j)) := opI0 fun _ _ _ _ _ _ _ q => and_int q
theorem op_or : OpR X (binaryOp .BitOr) (rI0 fun i j => .int (Builtin.bitOr i j)) := opI0 fun _ _ _ _ _ _ _ q => or_int q
theorem op_xor : OpR X (binaryOp .BitXor) (rI0 fun i j => .int (Builtin.bitXor i j)) := opI0 fun _ _ _ _ _ _ _ q => xor_int q

theorem iop_add : OpR X (inplaceOp .Add) (rI0 fun i j => .int (i + j)) := opI0 fun _ _ _ _ _ _ _ q => iadd_int q
theorem iop_sub : OpR X (inplaceOp .Sub) (rI0 fun i j => .int (i - j)) := opI0 fun _ _ _ _ _ _ _ q => isub_int q
theorem iop_mul : OpR X (inplaceOp .Mult) (rI CMul fun i j => .int (i * j)) := opI fun _ _ _ _ _ _ _ hc q => imul_int q hc.ok
theorem iop_fdiv : OpR X (inplaceOp .FloorDiv) (rI CDiv fun i j => .int (i / j)) := opI fun i j _ _ _ _ _ hc q => by
  have h1 : (0 : Int) < j := hc.1
  have h2 : j < 1073741824 := hc.2
  exact ifloordiv_int (by omega) (by rw [Int.fdiv_eq_ediv_of_nonneg i (by omega)]; exact q) (.inl (PyProof.noPylong_small (by omega)))
theorem iop_mod : OpR X (inplaceOp .Mod) (rI (fun _ j => 0 < j) fun i j => .int (i % j)) := opI fun i j _ _ _ _ _ hc q => by
  have h1 : (0 : Int) < j := hc
  exact imod_int (by omega) (by rw [Int.fmod_eq_emod_of_nonneg i (by omega)]; exact q)
theorem iop_shl : OpR X (inplaceOp .LShift) (rI CPow fun i j => .int (i * 2 ^ j.toNat)) := opI fun _ _ _ _ _ _ _ hc q => ilshift_int_small hc.1 hc.2.1 hc.2.2 q
theorem iop_shr : OpR X (inplaceOp .RShift) (rI (fun _ j => 0 ≤ j) fun i j => .int (i / 2 ^ j.toNat)) := opI fun i j _ _ _ _ _ hc q =>
  irshift_int hc (by rw [Int.fdiv_eq_ediv_of_nonneg i (two_pow_nn _)]; exact q)
theorem iop_and : OpR X (inplaceOp .BitAnd) (rI0 fun i j => .int (Builtin.bitAnd i j)) := opI0 fun _ _ _ _ _ _ _ q => iand_int q
theorem iop_or : OpR X (inplaceOp .BitOr) (rI0 fun i j => .int (Builtin.bitOr i j)) := opI0 fun _ _ _ _ _ _ _ q => ior_int q
theorem iop_xor : OpR X (inplaceOp .BitXor) (rI0 fun i j => .int (Builtin.bitXor i j)) := opI0 fun _ _ _ _ _ _ _ q => ixor_int q

theorem unI {f : Value → Sem Value} {g : Int → Int}
    (rule : ∀ (i : Int) (t : Tok) (s : Shared) (Q : Value → Shared → Prop) (E : Value → Shared → Prop), Q (.int (g i) s.toks) { s with toks := s.toks + 1 } → wpAny (model X.prog X.w) X.A (f (.int i t)) Q E s) :
    UnR X f (rU fun i => .int (g i)) := by
  intro pins s σ H x v Q I rx h
  obtain ⟨i, rfl, q⟩ := h
  obtain ⟨t, rfl⟩ := rx
  exact rule i t s _ _ ⟨.int (g i), H, I.tok _, ⟨_, rfl⟩, q⟩
theorem un_neg : UnR X (unaryOp .USub) (rU fun i => .int (-i)) := unI fun _ _ _ _ _ q => neg_int q
theorem un_inv : UnR X (unaryOp .Invert) (rU fun i => .int (Builtin.bitNot i)) := unI fun _ _ _ _ _ q => invert_int q

/-! ### bools among ints: n += (a < b) -/
theorem op_add_ib : OpR X (binaryOp .Add) (fun x y H Q => ∃ i k, x = .int i ∧ y = .bl k ∧ Q (.int (i + b2i k)) H) := by
  intro pins s σ H x y v u Q I rx ry h
  obtain ⟨i, k, rfl, rfl, q⟩ := h
  obtain ⟨t, rfl⟩ := rx
  cases ry
  exact add_int_bool ⟨.int (i + b2i k), H, I.tok _, ⟨_, rfl⟩, q⟩
end

/-! ### comparisons -/
/-- the scalars that == tells apart as data does -/
def scal : V → V → Bool
  | .non, .non => true | .non, .int _ => true | .int _, .non => true | .non, .bl _ => true | .bl _, .non => true | .non, .str _ => true | .str _, .non => true
  | .int _, .int _ => true | .bl _, .bl _ => true | .str _, .str _ => true | .byt _, .byt _ => true
  | .int _, .str _ => true | .str _, .int _ => true | .bl _, .str _ => true | .str _, .bl _ => true
  | _, _ => false
def rEq : R2 := fun x y H Q => scal x y = true ∧ Q (.bl (decide (x = y))) H
def rNe : R2 := fun x y H Q => scal x y = true ∧ Q (.bl (!decide (x = y))) H

theorem dec_int {i j : Int} : decide (V.int i = V.int j) = (i == j) := by
  rw [Bool.eq_iff_iff]
  simp
theorem dec_bl {i j : Bool} : decide (V.bl i = V.bl j) = (i == j) := by
  rw [Bool.eq_iff_iff]
  simp
theorem dec_str {i j : Str} : decide (V.str i = V.str j) = (i == j) := by
  rw [Bool.eq_iff_iff]
  simp
theorem dec_byt {i j : Array UInt8} : decide (V.byt i = V.byt j) = (i.toList == j.toList) := by
  rw [Bool.eq_iff_iff]
  cases i
  cases j
  simp

section
variable {X : Cx} {a b c : Expr} {ta tb tc : TE} {pos : Pos}
theorem fin_bl {pins : List (Addr × Obj)} {σ : St} {H : Hp} {s : Shared} {Q : VK} {k k' : Bool} (I : Inv X pins σ H s) (q : Q (.bl k) H) (e : k = k') : EP X pins σ Q (.bool k') s := by
  subst e
  exact ⟨.bl k, H, I, rfl, q⟩
theorem op_eq : OpR X (compareOp .Eq) rEq := by
  intro pins s σ H x y v u Q I rx ry h
  obtain ⟨hs, q⟩ := h
  cases x with
  | non =>
    cases rx
    cases y with
    | non => cases ry; exact PySem.EqNone.eq_none_none (fin_bl I q (by simp))
    | bl j => cases ry; exact PySem.EqNone.eq_none_bool (fin_bl I q (by simp))
    | int j => obtain ⟨t', rfl⟩ := ry; exact PySem.EqNone.eq_none_int (fin_bl I q (by simp))
    | str j => obtain ⟨t', rfl⟩ := ry; exact PySem.EqNone.eq_none_str (fin_bl I q (by simp))
    | _ => exact absurd (show false = true from hs) Bool.false_ne_true
  | bl i =>
    cases rx
    cases y with
    | non => cases ry; exact PySem.EqNone.eq_bool_none (fin_bl I q (by simp))
    | bl j => cases ry; exact eq_bool (fin_bl I q dec_bl)
    | str j => obtain ⟨t', rfl⟩ := ry; exact PySem.EqMixed.eq_bool_str (fin_bl I q (by simp))
    | _ => exact absurd (show false = true from hs) Bool.false_ne_true
  | int i =>
    obtain ⟨t, rfl⟩ := rx
    cases y with
    | non => cases ry; exact PySem.EqNone.eq_int_none (fin_bl I q (by simp))
    | int j => obtain ⟨t', rfl⟩ := ry; exact eq_int (fin_bl I q dec_int)
    | str j => obtain ⟨t', rfl⟩ := ry; exact PySem.EqMixed.eq_int_str (fin_bl I q (by simp))
    | _ => exact absurd (show false = true from hs) Bool.false_ne_true
  | str i =>
    obtain ⟨t, rfl⟩ := rx
    cases y with
    | non => cases ry; exact PySem.EqNone.eq_str_none (fin_bl I q (by simp))
    | bl j => cases ry; exact PySem.EqMixed.eq_str_bool (fin_bl I q (by simp))
    | int j => obtain ⟨t', rfl⟩ := ry; exact PySem.EqMixed.eq_str_int (fin_bl I q (by simp))
    | str j => obtain ⟨t', rfl⟩ := ry; exact eq_str (fin_bl I q dec_str)
    | _ => exact absurd (show false = true from hs) Bool.false_ne_true
  | byt i =>
    obtain ⟨t, rfl⟩ := rx
    cases y with
    | byt j => obtain ⟨t', rfl⟩ := ry; exact PySem.W.eq_bytes (fin_bl I q dec_byt)
    | _ => exact absurd (show false = true from hs) Bool.false_ne_true
  | _ => cases y <;> exact absurd (show false = true from hs) Bool.false_ne_true
theorem op_ne : OpR X (compareOp .NotEq) rNe := by
  intro pins s σ H x y v u Q I rx ry h
  obtain ⟨hs, q⟩ := h
  cases x with
  | non =>
    cases rx
    cases y with
    | non => cases ry; exact PySem.EqNone.ne_none_none (fin_bl I q (by simp))
    | bl j => cases ry; exact PySem.EqNone.ne_none_bool (fin_bl I q (by simp))
    | int j => obtain ⟨t', rfl⟩ := ry; exact PySem.EqNone.ne_none_int (fin_bl I q (by simp))
    | str j => obtain ⟨t', rfl⟩ := ry; exact PySem.EqNone.ne_none_str (fin_bl I q (by simp))
    | _ => exact absurd (show false = true from hs) Bool.false_ne_true
  | bl i =>
    cases rx
    cases y with
    | non => cases ry; exact PySem.EqNone.ne_bool_none (fin_bl I q (by simp))
    | bl j => cases ry; exact ne_bool (fin_bl I q (congrArg not dec_bl))
    | str j => obtain ⟨t', rfl⟩ := ry; exact PySem.EqMixed.ne_bool_str (fin_bl I q (by simp))
    | _ => exact absurd (show false = true from hs) Bool.false_ne_true
  | int i =>
    obtain ⟨t, rfl⟩ := rx
    cases y with
    | non => cases ry; exact PySem.EqNone.ne_int_none (fin_bl I q (by simp))
    | int j => obtain ⟨t', rfl⟩ := ry; exact ne_int (fin_bl I q (congrArg not dec_int))
    | str j => obtain ⟨t', rfl⟩ := ry; exact PySem.EqMixed.ne_int_str (fin_bl I q (by simp))
    | _ => exact absurd (show false = true from hs) Bool.false_ne_true
  | str i =>
    obtain ⟨t, rfl⟩ := rx
    cases y with
    | non => cases ry; exact PySem.EqNone.ne_str_none (fin_bl I q (by simp))
    | bl j => cases ry; exact PySem.EqMixed.ne_str_bool (fin_bl I q (by simp))
    | int j => obtain ⟨t', rfl⟩ := ry; exact PySem.EqMixed.ne_str_int (fin_bl I q (by simp))
    | str j => obtain ⟨t', rfl⟩ := ry; exact ne_str (fin_bl I q (congrArg not dec_str))
    | _ => exact absurd (show false = true from hs) Bool.false_ne_true
  | byt i =>
    obtain ⟨t, rfl⟩ := rx
    cases y with
    | byt j => obtain ⟨t', rfl⟩ := ry; exact PySem.W.ne_bytes (fin_bl I q (congrArg not dec_byt))
    | _ => exact absurd (show false = true from hs) Bool.false_ne_true
  | _ => cases y <;> exact absurd (show false = true from hs) Bool.false_ne_true

theorem op_lt : OpR X (compareOp .Lt) (rI0 fun i j => .bl (decide (i < j))) := opB0 fun _ _ _ _ _ _ _ q => lt_int q
theorem op_le : OpR X (compareOp .LtE) (rI0 fun i j => .bl (decide (i ≤ j))) := opB0 fun _ _ _ _ _ _ _ q => le_int q
theorem op_gt : OpR X (compareOp .Gt) (rI0 fun i j => .bl (decide (j < i))) := opB0 fun _ _ _ _ _ _ _ q => gt_int q
theorem op_ge : OpR X (compareOp .GtE) (rI0 fun i j => .bl (decide (j ≤ i))) := opB0 fun _ _ _ _ _ _ _ q => ge_int q
theorem op_lt_str : OpR X (compareOp .Lt) (fun x y H Q => ∃ i j, x = .str i ∧ y = .str j ∧ Q (.bl (decide (i.cps.toList < j.cps.toList))) H) := by
  intro pins s σ H x y v u Q I rx ry h
  obtain ⟨i, j, rfl, rfl, q⟩ := h
  obtain ⟨t, rfl⟩ := rx
  obtain ⟨t', rfl⟩ := ry
  exact lt_str (fin_bl I q rfl)
/-- the one string within the other -/
theorem op_in_str : OpR X (compareOp .In) (fun x y H Q => ∃ i j, x = .str i ∧ y = .str j ∧ Q (.bl (!(Builtin.Str.occurrences j i 0 j.length 1).isEmpty)) H) := by
  intro pins s σ H x y v u Q I rx ry h
  obtain ⟨i, j, rfl, rfl, q⟩ := h
  obtain ⟨t, rfl⟩ := rx
  obtain ⟨t', rfl⟩ := ry
  exact in_str (fin_bl I q rfl)

/-- is None, is not None: the right side a value none -/
theorem op_isN : OpR X (compareOp .Is) (fun x y H Q => y = .non ∧ Q (.bl (decide (x = .non))) H) := by
  intro pins s σ H x y v u Q I rx ry h
  obtain ⟨rfl, q⟩ := h
  cases ry
  refine is_none_gen (fin_bl I q ?_)
  cases x <;> first
    | (cases rx; rfl)
    | (obtain ⟨t, rfl⟩ := rx; rfl)
theorem op_notN : OpR X (compareOp .IsNot) (fun x y H Q => y = .non ∧ Q (.bl (!decide (x = .non))) H) := by
  intro pins s σ H x y v u Q I rx ry h
  obtain ⟨rfl, q⟩ := h
  cases ry
  refine isnot_none_gen (fin_bl I q ?_)
  cases x <;> first
    | (cases rx; rfl)
    | (obtain ⟨t, rfl⟩ := rx; rfl)

theorem op_notin_str : OpR X (compareOp .NotIn) (fun x y H Q => ∃ i j, x = .str i ∧ y = .str j ∧ Q (.bl (!(!(Builtin.Str.occurrences j i 0 j.length 1).isEmpty))) H) := by
  intro pins s σ H x y v u Q I rx ry h
  obtain ⟨i, j, rfl, rfl, q⟩ := h
  obtain ⟨t, rfl⟩ := rx
  obtain ⟨t', rfl⟩ := ry
  exact notIn_str (fin_bl I q rfl)
/-- is, is not of two objects that are tracked lists or instances -/
def isObj : HO → Bool
  | .lst _ => true
  | .ins _ _ _ => true
  | _ => false
theorem obj_there {pins : List (Addr × Obj)} {s : Shared} {σ : St} {H : Hp} {a : Addr} {o : HO} (I : Inv X pins σ H s) (h : H a = some o) (p : isObj o = true) : ∃ ob, s.heap.get? a = some ob ∧ ob.cls ≠ .type "tuple" := by
  cases o with
  | lst xs =>
    obtain ⟨_, its, n, _, e⟩ : xs.length ≤ sizeLine ∧ ∃ (its : List Value) (n : Nat), Vals xs its ∧ s.heap.get? a = some { cls := .type "list", data := .seq its.toArray n } := I.hok a _ h
    exact ⟨_, e, (by show Value.type "list" ≠ .type "tuple"; decide +kernel)⟩
  | ins C dx fs =>
    have x := I.hok a _ h
    obtain ⟨_, _, _, e, _⟩ := x
    exact ⟨_, e, (by show Value.ref C ≠ .type "tuple"; exact fun z => by cases z)⟩
  | _ => exact absurd (show false = true from p) Bool.false_ne_true
theorem op_is_ref : OpR X (compareOp .Is) (fun x y H Q => ∃ a b oa ob, x = .ref a ∧ y = .ref b ∧ H a = some oa ∧ isObj oa = true ∧ H b = some ob ∧ isObj ob = true ∧ Q (.bl (decide (a = b))) H) := by
  intro pins s σ H x y v u Q I rx ry h
  obtain ⟨a, b, oa, ob, rfl, rfl, ha, pa, hb, pb, q⟩ := h
  cases rx
  cases ry
  obtain ⟨o1, e1, n1⟩ := obj_there I ha pa
  obtain ⟨o2, e2, _⟩ := obj_there I hb pb
  by_cases z : a = b
  · subst z
    exact wpAny_is_ref_self (fin_bl I q (by simp))
  · exact wpAny_is_ref_other z e1 e2 n1 (fin_bl I q (by simp [z]))
theorem op_isnot_ref : OpR X (compareOp .IsNot) (fun x y H Q => ∃ a b oa ob, x = .ref a ∧ y = .ref b ∧ H a = some oa ∧ isObj oa = true ∧ H b = some ob ∧ isObj ob = true ∧ Q (.bl (!decide (a = b))) H) := by
  intro pins s σ H x y v u Q I rx ry h
  obtain ⟨a, b, oa, ob, rfl, rfl, ha, pa, hb, pb, q⟩ := h
  cases rx
  cases ry
  obtain ⟨o1, e1, n1⟩ := obj_there I ha pa
  obtain ⟨o2, e2, _⟩ := obj_there I hb pb
  by_cases z : a = b
  · subst z
    exact wpAny_isNot_ref_self (fin_bl I q (by simp))
  · exact wpAny_isNot_ref_other z e1 e2 n1 (fin_bl I q (by simp [z]))

/-- two rules for one operation: by cases -/
theorem OpR.or {f : Value → Value → Sem Value} {r r' : R2} (h : OpR X f r) (h' : OpR X f r') : OpR X f (fun x y H Q => r x y H Q ∨ r' x y H Q) := by
  intro pins s σ H x y v u Q I rx ry q
  rcases q with q | q
  · exact h pins s σ H x y v u Q I rx ry q
  · exact h' pins s σ H x y v u Q I rx ry q

theorem nomark (b : Expr) {op : CmpOp} (h : op ≠ .In := by decide) (h2 : op ≠ .NotIn := by decide) : behindInMarks op b = false := by
  have e1 : (op == CmpOp.In) = false := by cases op <;> first | rfl | exact absurd rfl h
  have e2 : (op == CmpOp.NotIn) = false := by cases op <;> first | rfl | exact absurd rfl h2
  cases b <;> simp [behindInMarks, e1, e2]
/-- a comparison as a value; hm: nomark b, or (for in, not in) by with_unfolding_all rfl -/
theorem pe_cmpR {op : CmpOp} {r : R2} (ho : OpR X (compareOp op) r) (ha : PE X a ta) (hb : PE X b tb) (hm : behindInMarks op b = false) : PE X (.Compare a [op] [b] pos) (tOp r ta tb) := by
  intro pins s σ H Q I h
  exact wpAny_Compare1 (binT ha hb I h fun v u s2 x y H2 I2 rx ry q => ho pins s2 σ H2 x y v u Q I2 rx ry q) hm
/-- a reading of a value as a test -/
def tTest (t : TE) : TT := fun σ H Q => t σ H fun x H' => ∃ k, x = .bl k ∧ Q k H'
theorem pt_cmpR {op : CmpOp} {r : R2} (ho : OpR X (compareOp op) r) (ha : PE X a ta) (hb : PE X b tb) (hm : behindInMarks op b = false) : PT X (.Compare a [op] [b] pos) (tTest (tOp r ta tb)) := by
  intro pins s σ H Q I h
  refine wpAny_isTrue_Compare1 (thn (ha pins s σ H _ I h) fun v s1 ⟨x, H1, I1, r1, q1⟩ => thn (hb pins s1 σ H1 _ I1 q1) fun u s2 ⟨y, H2, I2, r2, q2⟩ =>
    thn (ho pins s2 σ H2 x y v u _ I2 r1 r2 q2) fun c s3 ⟨z, H3, I3, r3, k, e, q3⟩ => ?_) hm
  subst e
  cases r3
  exact wpAny_truthy_bool ⟨H3, I3, q3⟩
/-- a op1 b op2 c -/
def tChain (r r' : R2) (ta tb tc : TE) : TE := fun σ H Q => ta σ H fun x H1 => tb σ H1 fun y H2 => r x y H2 fun z H3 => ∃ k, z = .bl k ∧
  (if k = true then tc σ H3 fun w' H4 => r' y w' H4 Q else Q (.bl false) H3)
theorem pe_chain {op op' : CmpOp} {r r' : R2} (ho : OpR X (compareOp op) r) (ho' : OpR X (compareOp op') r') (ha : PE X a ta) (hb : PE X b tb) (hc : PE X c tc)
    (hm : lastMarks [op, op'] [b, c] = false := by with_unfolding_all rfl) : PE X (.Compare a [op, op'] [b, c] pos) (tChain r r' ta tb tc) := by
  intro pins s σ H Q I h
  refine Compare_chain (thn (ha pins s σ H _ I h) fun v s1 ⟨x, H1, I1, r1, q1⟩ => chain_link (thn (hb pins s1 σ H1 _ I1 q1) fun u s2 ⟨y, H2, I2, r2, q2⟩ =>
    thn (ho pins s2 σ H2 x y v u _ I2 r1 r2 q2) fun d s3 ⟨z, H3, I3, r3, k, e, q3⟩ => ?_)) hm
  subst e
  cases r3
  refine wpAny_truthy_bool ?_
  cases k with
  | false => exact ite_ff ⟨.bl false, H3, I3, rfl, q3⟩
  | true => exact ite_tt (chain_last (thn (hc pins s3 σ H3 _ I3 q3) fun w' s4 ⟨z', H4, I4, r4, q4⟩ => ho' pins s4 σ H4 y z' u w' Q I4 r2 r4 q4))
theorem pt_chain {op op' : CmpOp} {r r' : R2} (ho : OpR X (compareOp op) r) (ho' : OpR X (compareOp op') r') (ha : PE X a ta) (hb : PE X b tb) (hc : PE X c tc)
    (hm : lastMarks [op, op'] [b, c] = false := by with_unfolding_all rfl) : PT X (.Compare a [op, op'] [b, c] pos) (tTest (tChain r r' ta tb tc)) := by
  intro pins s σ H Q I h
  refine isTrue_chain (thn (ha pins s σ H _ I h) fun v s1 ⟨x, H1, I1, r1, q1⟩ => test_link (thn (hb pins s1 σ H1 _ I1 q1) fun u s2 ⟨y, H2, I2, r2, q2⟩ =>
    thn (ho pins s2 σ H2 x y v u _ I2 r1 r2 q2) fun d s3 ⟨z, H3, I3, r3, k, e, q3⟩ => ?_)) hm
  subst e
  cases r3
  refine wpAny_truthy_bool ?_
  cases k with
  | false =>
    obtain ⟨k', e', q'⟩ := q3
    cases e'
    exact ite_ff ⟨H3, I3, q'⟩
  | true =>
    refine ite_tt (test_last (thn (hc pins s3 σ H3 _ I3 q3) fun w' s4 ⟨z', H4, I4, r4, q4⟩ => thn (ho' pins s4 σ H4 y z' u w' _ I4 r2 r4 q4) fun d' s5 ⟨z2, H5, I5, r5, k2, e2, q5⟩ => ?_))
    subst e2
    cases r5
    exact wpAny_truthy_bool ⟨H5, I5, q5⟩

/-! ### truth -/
/-- a value's truth by the abstract heap -/
def TruV (K : PySem.W.Frag) (x : V) (H : Hp) (k : Bool) : Prop :=
  match x with
  | .non => k = false
  | .bl b => k = b
  | .int i => k = (i != 0)
  | .str y => y.length ≤ sizeLine ∧ k = ((y.length : Int) != 0)
  | .byt y => y.size ≤ sizeLine ∧ k = ((y.size : Int) != 0)
  | .ref p => (∃ xs, SqL K H p xs ∧ k = !xs.isEmpty) ∨ (∃ xs, SqT K H p xs ∧ k = !xs.isEmpty) ∨ ∃ kvs, H p = some (.dK kvs) ∧ k = !kvs.isEmpty
  | _ => False
theorem isEmpty_kv {κ : Type} {kvs : List (κ × V)} {vs : List (κ × Value)} (r : KV kvs vs) : (!vs.isEmpty) = !kvs.isEmpty := by
  cases r <;> rfl
theorem isEmpty_of {xs : List V} {its : List Value} (r : Vals xs its) : (!its.toArray.isEmpty) = !xs.isEmpty := by
  cases r <;> simp
theorem line63 : (sizeLine : Nat) < 2 ^ 63 := by rw [sizeLine_eq]; decide
theorem tru_ok : TruR X (fun x H Q => ∃ k, TruV X.K x H k ∧ Q k H) := by
  intro pins s σ H x v Q I rx h
  obtain ⟨k, e, q⟩ := h
  have hl := line63
  have hs : sizeLine = 16777216 := sizeLine_eq
  cases x with
  | non =>
    cases rx
    have e' : k = false := e
    subst e'
    exact truthy_none ⟨H, I, q⟩
  | bl b =>
    cases rx
    have e' : k = b := e
    subst e'
    exact wpAny_truthy_bool ⟨H, I, q⟩
  | int i =>
    obtain ⟨t, rfl⟩ := rx
    have e' : k = (i != 0) := e
    subst e'
    exact PySem.P.truthy_int ⟨H, I, q⟩
  | str y =>
    obtain ⟨t, rfl⟩ := rx
    obtain ⟨hy, e'⟩ : y.length ≤ sizeLine ∧ k = ((y.length : Int) != 0) := e
    subst e'
    exact PySem.P.truthy_str (by omega) ⟨H, I.tok _, q⟩
  | byt y =>
    obtain ⟨t, rfl⟩ := rx
    obtain ⟨hy, e'⟩ : y.size ≤ sizeLine ∧ k = ((y.size : Int) != 0) := e
    subst e'
    exact PySem.W.truthy_bytes (by omega) ⟨H, I.tok _, q⟩
  | ref p =>
    cases rx
    have e' : (∃ xs, SqL X.K H p xs ∧ k = !xs.isEmpty) ∨ (∃ xs, SqT X.K H p xs ∧ k = !xs.isEmpty) ∨ ∃ kvs, H p = some (.dK kvs) ∧ k = !kvs.isEmpty := e
    rcases e' with ⟨xs, hx, e'⟩ | ⟨xs, hx, e'⟩ | ⟨kvs, hx, e'⟩
    · subst e'
      obtain ⟨its, r, pl, hz⟩ := I.list hx
      have hlen := r.length
      exact wpAny_truthy_list pl.isList (by simp only [List.size_toArray]; omega) ⟨H, I.tok _, by rw [isEmpty_of r]; exact q⟩
    · subst e'
      obtain ⟨its, r, pl, hz⟩ := I.tuple hx
      have hlen := r.length
      exact truthy_tuple pl (by simp only [List.size_toArray]; omega) ⟨H, I.tok _, by rw [isEmpty_of r]; exact q⟩
    · subst e'
      obtain ⟨hz, hS, vs, r, m⟩ : kvs.length ≤ sizeLine ∧ (p == sysModules) = false ∧ ∃ vs, KV kvs vs ∧ s.heap.DictOf (mixKind X.prog X.w) p vs := I.hok p _ hx
      have hlen : kvs.length = vs.length := Paired.length r
      exact wpAny_truthy_dict hS m (by omega) ⟨H, I.tok _, by rw [isEmpty_kv r]; exact q⟩
  | _ => exact (show False from e).elim
/-- any expression whose test is its value's truth (a name, a call, a subscript, a field ..: he by fun _ => rfl) -/
theorem pt_truth (ha : PE X a ta) (he : ∀ whole, isTrue a X.env whole = (do let v ← whole; standAt a.pos; holding [v] (truthy v))) :
    PT X a (fun σ H Q => ta σ H fun x H' => ∃ k, TruV X.K x H' k ∧ Q k H') := by
  intro pins s σ H Q I h
  exact isTrue_plain (thn (ha pins s σ H _ I h) fun v s1 ⟨x, H1, I1, r1, q1⟩ => tru_ok pins s1 σ H1 x v Q I1 r1 q1) (he _)

/-! ### strs and bytes -/
theorem pe_byt {x : List UInt8} {k : Nat} : PE X (.Constant (.bytes x) k pos) (fun _ H Q => Q (.byt x.toArray) H) := fun _ _ _ H _ I h => PySem.W.Constant_bytes ⟨.byt x.toArray, H, I.tok _, ⟨_, rfl⟩, h⟩
theorem op_add_str : OpR X (binaryOp .Add) (fun x y H Q => ∃ i j, x = .str i ∧ y = .str j ∧ i.length + j.length ≤ sizeLine ∧ Q (.str (i ++ j)) H) := by
  intro pins s σ H x y v u Q I rx ry h
  obtain ⟨i, j, rfl, rfl, hz, q⟩ := h
  obtain ⟨t, rfl⟩ := rx
  obtain ⟨t', rfl⟩ := ry
  exact add_str (fun t' tk => ⟨.str (i ++ j), H, I.tok _, ⟨_, rfl⟩, q⟩) hz
theorem iop_add_str : OpR X (inplaceOp .Add) (fun x y H Q => ∃ i j, x = .str i ∧ y = .str j ∧ i.length + j.length ≤ sizeLine ∧ Q (.str (i ++ j)) H) := by
  intro pins s σ H x y v u Q I rx ry h
  obtain ⟨i, j, rfl, rfl, hz, q⟩ := h
  obtain ⟨t, rfl⟩ := rx
  obtain ⟨t', rfl⟩ := ry
  exact iadd_str (fun t' tk => ⟨.str (i ++ j), H, I.tok _, ⟨_, rfl⟩, q⟩) hz
theorem op_add_byt : OpR X (binaryOp .Add) (fun x y H Q => ∃ i j, x = .byt i ∧ y = .byt j ∧ i.size + j.size ≤ 16777216 ∧ Q (.byt (i ++ j)) H) := by
  intro pins s σ H x y v u Q I rx ry h
  obtain ⟨i, j, rfl, rfl, hz, q⟩ := h
  obtain ⟨t, rfl⟩ := rx
  obtain ⟨t', rfl⟩ := ry
  exact PySem.W.KBy.add_bytes hz (fun t' tk => ⟨.byt (i ++ j), H, I.tok _, ⟨_, rfl⟩, q⟩)

def PlainIxT (b : Expr) : Prop := ∀ o i, subscripted b false o i = operate [o, i] (getItem o i)
/-- s[i], 0 ≤ i < len -/
theorem pe_item_str (ha : PE X a ta) (hb : PE X b tb) (hs : PlainIxT b) :
    PE X (.Subscript a b pos) (tOp (fun x y H Q => ∃ z i c, x = .str z ∧ y = .int i ∧ 0 ≤ i ∧ i < 2 ^ 63 ∧ i < z.length ∧ z.cps[i.toNat]? = some c ∧ Q (.str ⟨#[c]⟩) H) ta tb) := by
  intro pins s σ H Q I h
  refine Subscript_ (binT ha hb I h fun v u s2 x y H2 I2 rx ry q => ?_)
  obtain ⟨z, i, c, rfl, rfl, h0, h63, h1, hc, q⟩ := q
  obtain ⟨t, rfl⟩ := rx
  obtain ⟨t', rfl⟩ := ry
  have e : seqIndex? i z.length = some i.toNat := PySem.StrLaws.seqIndex_nonneg h0 h1
  exact tail_any (typeIs_str s2 z t) slot_str_getitem.lookup (getItem_str (c := c) (by
    have e1 : decide (i < -(2 ^ 63 : Int)) = false := decide_eq_false (by omega)
    have e2 : decide (i ≥ 2 ^ 63) = false := decide_eq_false (by omega)
    rw [e1, e2] <;> rfl) (by rw [e]; exact hc) ⟨.str ⟨#[c]⟩, H2, I2.tok _, ⟨_, rfl⟩, q⟩) (hs _ _)
/-- b[i], 0 ≤ i < len -/
theorem pe_item_byt (ha : PE X a ta) (hb : PE X b tb) (hs : PlainIxT b) :
    PE X (.Subscript a b pos) (tOp (fun x y H Q => ∃ (z : List UInt8) (i : Int), x = .byt z.toArray ∧ y = .int i ∧ z.length ≤ sizeLine ∧ 0 ≤ i ∧ i < z.length ∧ Q (.int ((z.getD i.toNat 0).toNat : Nat)) H) ta tb) := by
  intro pins s σ H Q I h
  refine Subscript_ (binT ha hb I h fun v u s2 x y H2 I2 rx ry q => ?_)
  obtain ⟨z, i, rfl, rfl, hz, h0, h1, q⟩ := q
  obtain ⟨t, rfl⟩ := rx
  obtain ⟨t', rfl⟩ := ry
  have hl : sizeLine = 16777216 := sizeLine_eq
  exact tail_any (PySem.W.typeIs_bytes s2 z.toArray t) PySem.W.FB.slot_bytes_getitem.lookup (PySem.W.getItem_bytes (by omega) h0 h1 ⟨.int ((z.getD i.toNat 0).toNat : Nat), H2, I2.tok _, ⟨_, rfl⟩, q⟩) (hs _ _)

/-! ### scalar builtins, by CallR -/
theorem vals1 {x : V} {us : List Value} (r : Vals [x] us) : ∃ u, us = [u] ∧ RelV x u := by
  cases r with
  | cons r1 r2 => cases r2; exact ⟨_, rfl, r1⟩
theorem vals2 {x y : V} {us : List Value} (r : Vals [x, y] us) : ∃ u w', us = [u, w'] ∧ RelV x u ∧ RelV y w' := by
  cases r with
  | cons r1 r2 =>
    cases r2 with
    | cons r3 r4 => cases r4; exact ⟨_, _, rfl, r1, r3⟩
theorem call_abs : CallR X (.builtin "abs") (fun xs H Q => ∃ i, xs = [.int i] ∧ Q (.int (if i < 0 then -i else i)) H) := by
  intro pins s σ H xs us Q I r h
  obtain ⟨i, rfl, q⟩ := h
  obtain ⟨u, rfl, t, rfl⟩ := vals1 r
  exact call_abs_int fun u tk => ⟨.int (if i < 0 then -i else i), H, I.tok _, ⟨_, rfl⟩, q⟩
theorem call_max2 (hc : X.calm = true) : CallR X (.builtin "max") (fun xs H Q => ∃ i j, xs = [.int i, .int j] ∧ Q (.int (if j > i then j else i)) H) := by
  intro pins s σ H xs us Q I r h
  obtain ⟨i, j, rfl, q⟩ := h
  obtain ⟨u, w', rfl, ⟨t, rfl⟩, ⟨t', rfl⟩⟩ := vals2 r
  refine max_two_ints (I.ok.hd hc) fun h' tk k => ⟨_, H, I.kept k, ?_, q⟩
  by_cases hj : j > i
  · rw [if_pos hj, if_pos hj]; exact ⟨_, rfl⟩
  · rw [if_neg hj, if_neg hj]; exact ⟨_, rfl⟩
theorem call_min2 (hc : X.calm = true) : CallR X (.builtin "min") (fun xs H Q => ∃ i j, xs = [.int i, .int j] ∧ Q (.int (if j < i then j else i)) H) := by
  intro pins s σ H xs us Q I r h
  obtain ⟨i, j, rfl, q⟩ := h
  obtain ⟨u, w', rfl, ⟨t, rfl⟩, ⟨t', rfl⟩⟩ := vals2 r
  refine min_two_ints (I.ok.hd hc) fun h' tk k => ⟨_, H, I.kept k, ?_, q⟩
  by_cases hj : j < i
  · rw [if_pos hj, if_pos hj]; exact ⟨_, rfl⟩
  · rw [if_neg hj, if_neg hj]; exact ⟨_, rfl⟩
theorem call_int1 : CallR X (.type "int") (fun xs H Q => (∃ i, xs = [.int i] ∧ Q (.int i) H) ∨ ∃ k, xs = [.bl k] ∧ Q (.int (if k then 1 else 0)) H) := by
  intro pins s σ H xs us Q I r h
  rcases h with ⟨i, rfl, q⟩ | ⟨k, rfl, q⟩
  · obtain ⟨u, rfl, t, rfl⟩ := vals1 r
    exact call_int_int ⟨.int i, H, I, ⟨_, rfl⟩, q⟩
  · obtain ⟨u, rfl, r1⟩ := vals1 r
    cases r1
    exact call_int_bool ⟨.int (if k then 1 else 0), H, I.tok _, ⟨_, rfl⟩, q⟩
theorem call_bool1 : CallR X (.type "bool") (fun xs H Q => (∃ i, xs = [.int i] ∧ Q (.bl (i != 0)) H) ∨ ∃ k, xs = [.bl k] ∧ Q (.bl k) H) := by
  intro pins s σ H xs us Q I r h
  rcases h with ⟨i, rfl, q⟩ | ⟨k, rfl, q⟩
  · obtain ⟨u, rfl, t, rfl⟩ := vals1 r
    exact call_bool_int ⟨.bl (i != 0), H, I, rfl, q⟩
  · obtain ⟨u, rfl, r1⟩ := vals1 r
    cases r1
    exact call_bool_bool ⟨.bl k, H, I, rfl, q⟩
theorem call_str_int : CallR X (.type "str") (fun xs H Q => ∃ i, xs = [.int i] ∧ i.natAbs.log2 < 1920 ∧ Q (.str (toString i)) H) := by
  intro pins s σ H xs us Q I r h
  obtain ⟨i, rfl, hz, q⟩ := h
  obtain ⟨u, rfl, t, rfl⟩ := vals1 r
  exact PySem.P.str_of_int hz ⟨.str _, H, I.tok _, ⟨_, rfl⟩, q⟩
theorem call_ord : CallR X (.builtin "ord") (fun xs H Q => ∃ x, xs = [.str x] ∧ x.length = 1 ∧ Q (.int (x.cps.getD 0 0 : Nat)) H) := by
  intro pins s σ H xs us Q I r h
  obtain ⟨x, rfl, hz, q⟩ := h
  obtain ⟨u, rfl, t, rfl⟩ := vals1 r
  exact ord_of_one hz ⟨.int _, H, I.tok _, ⟨_, rfl⟩, q⟩
theorem call_chr : CallR X (.builtin "chr") (fun xs H Q => ∃ i, xs = [.int i] ∧ 0 ≤ i ∧ i ≤ 1114111 ∧ Q (.str ⟨#[i.toNat]⟩) H) := by
  intro pins s σ H xs us Q I r h
  obtain ⟨i, rfl, h0, h1, q⟩ := h
  obtain ⟨u, rfl, t, rfl⟩ := vals1 r
  exact chr_of_range h0 h1 ⟨.str _, H, I.tok _, ⟨_, rfl⟩, q⟩
/-- len of a str, a bytes, a list, a tuple -/
def LenV (K : PySem.W.Frag) (x : V) (H : Hp) (n : Nat) : Prop :=
  match x with
  | .str y => y.length ≤ sizeLine ∧ n = y.length
  | .byt y => y.size ≤ sizeLine ∧ n = y.size
  | .ref p => (∃ xs, SqL K H p xs ∧ n = xs.length) ∨ ∃ xs, SqT K H p xs ∧ n = xs.length
  | _ => False
theorem call_len : CallR X (.builtin "len") (fun xs H Q => ∃ x n, xs = [x] ∧ LenV X.K x H n ∧ Q (.int n) H) := by
  intro pins s σ H xs us Q I r h
  obtain ⟨x, n, rfl, e, q⟩ := h
  obtain ⟨u, rfl, rx⟩ := vals1 r
  have hl := line63
  have hs : sizeLine = 16777216 := sizeLine_eq
  cases x with
  | str y =>
    obtain ⟨t, rfl⟩ := rx
    obtain ⟨hy, e'⟩ : y.length ≤ sizeLine ∧ n = y.length := e
    subst e'
    exact len_str (by omega) ⟨.int _, H, I.tok _, ⟨_, rfl⟩, q⟩
  | byt y =>
    obtain ⟨t, rfl⟩ := rx
    obtain ⟨hy, e'⟩ : y.size ≤ sizeLine ∧ n = y.size := e
    subst e'
    exact PySem.W.len_bytes (by omega) ⟨.int _, H, I.tok _, ⟨_, rfl⟩, q⟩
  | ref p =>
    cases rx
    have e' : (∃ xs, SqL X.K H p xs ∧ n = xs.length) ∨ ∃ xs, SqT X.K H p xs ∧ n = xs.length := e
    rcases e' with ⟨xs, hx, e'⟩ | ⟨xs, hx, e'⟩
    · subst e'
      obtain ⟨its, r', pl, hz⟩ := I.list hx
      have hlen := r'.length
      exact Calls.call_len_list pl.isList (by simp only [List.size_toArray]; omega) ⟨.int xs.length, H, I.tok _, ⟨_, by simp only [List.size_toArray]; rw [hlen]⟩, q⟩
    · subst e'
      obtain ⟨its, r', pl, hz⟩ := I.tuple hx
      have hlen := r'.length
      exact len_tuple pl (by simp only [List.size_toArray]; omega) ⟨.int xs.length, H, I.tok _, ⟨_, by simp only [List.size_toArray]; rw [hlen]⟩, q⟩
  | _ => exact (show False from e).elim
/-- divmod: a new tuple -/
theorem call_divmod : CallR X (.builtin "divmod") (fun xs H Q => ∃ i j, xs = [.int i, .int j] ∧ CDiv i j ∧ ∀ p, H p = none → Q (.ref p) (upd H p (.tup [.int (i / j), .int (i % j)]))) := by
  intro pins s σ H xs us Q I r h
  obtain ⟨i, j, rfl, ⟨h1, h2⟩, q⟩ := h
  obtain ⟨u, w', rfl, ⟨t, rfl⟩, ⟨t', rfl⟩⟩ := vals2 r
  refine divmod_int (by omega) ?_ (.inl (PyProof.noPylong_small (by omega)))
  rw [Int.fdiv_eq_ediv_of_nonneg i (by omega), Int.fmod_eq_emod_of_nonneg i (by omega)]
  have hn : H s.heap.objs.size = none := I.hok.fresh (Nat.le_refl _)
  refine ⟨.ref s.heap.objs.size, _, ?_, rfl, q _ hn⟩
  refine I.laid (fun b o e => Heap.get?_push_of_some _ e) (Nat.le_refl _) ⟨by simp only [List.length_cons, List.length_nil]; rw [sizeLine_eq]; decide, [.int (i / j) s.toks, .int (i % j) (s.toks + 1)], .cons ⟨_, rfl⟩ (.cons ⟨_, rfl⟩ .nil), ?_⟩
  exact ⟨_, Heap.get?_push_size s.heap rfl, rfl, 0, rfl⟩
end
end L2

namespace L2
open PySem PySem.Spec PyProof.Rows

/-! ### an instance, its attributes a map -/
structure ObjM (h : Heap) (x dx C : Addr) (mA : Str → Option Value) : Prop where
  obj : h.get? x = some (PySem.W.instObj C dx)
  ns : h.Ns1 dx mA
  ne : dx ≠ x

theorem lookIn_ns {h : Heap} {dx : Addr} {mA : Str → Option Value} (n : h.Ns1 dx mA) : ∃ od, h.get? dx = some od ∧ ∀ name, PySem.W.lookIn name od = some (mA name) := by
  obtain ⟨o, es, ep, ho, hd, hk, _, hm⟩ := n
  refine ⟨o, ho, fun name => ?_⟩
  have e := hm name
  unfold nsFind findBy at e
  rw [← Array.find?_toList] at e
  unfold PySem.W.lookIn
  rw [hd]
  dsimp only
  split
  · rename_i y q
    rw [q] at e
    exact congrArg some e
  · rename_i q
    rw [q] at e
    have a : es.toList.any (·.refKey) = false := by
      rw [List.any_eq_false]
      intro y hy
      obtain ⟨z, t, hkey⟩ := hk y (Array.mem_toList_iff.mp hy)
      simp [DictEntry.refKey, hkey]
    have a' : ¬ es.toList.any (·.refKey) = true := by rw [a]; exact Bool.false_ne_true
    rw [if_neg a']
    exact congrArg some e

theorem ObjM.look {h : Heap} {x dx C : Addr} {mA : Str → Option Value} (I : ObjM h x dx C mA) : ∃ od, PySem.W.InstAt h x (PySem.W.instObj C dx) C (some od) ∧ ∀ name, PySem.W.lookIn name od = some (mA name) :=
  let ⟨od, ho, hl⟩ := lookIn_ns I.ns
  ⟨od, ⟨I.obj, rfl, rfl, ho⟩, hl⟩

section
variable {prog : Program} {w : World} {A : Around} {E : Value → Shared → Prop} {s : Shared} {K : PySem.W.Frag} {x dx C f : Addr} {mA : Str → Option Value} {name : Str} {v : Value}

theorem get_map {expr : Bool} {Q : Value → Shared → Prop} (X : K.In s.heap) (I : ObjM s.heap x dx C mA) (hg : PySem.W.plainGet K C name = true) (hh : PySem.W.hasDictIn K C = true)
    (ha : PySem.W.findIn K (.ref C) name = some none) (hv : mA name = some v) (hv' : PySem.W.handedIn v = true) (h : Q v { s with toks := s.toks + 1 }) :
    wpAny (model prog w) A (getAttr (.ref x) name expr) Q E s := by
  obtain ⟨od, J, hl⟩ := I.look
  exact PySem.W.get_value X J (PySem.W.plainGet_of hg).1 (PySem.W.findObj_own hh ha rfl (by rw [hl, hv])) hv' h

theorem get_const {expr : Bool} {a : Value} {Q : Value → Shared → Prop} (X : K.In s.heap) (I : ObjM s.heap x dx C mA) (hg : PySem.W.plainGet K C name = true) (hh : PySem.W.hasDictIn K C = true)
    (ha : PySem.W.findIn K (.ref C) name = some (some a)) (hn : PySem.W.specialIn K a "__get__" = some none) (hc : PySem.W.copiedNames.contains name = false) (hv : mA name = none) (hv' : PySem.W.handedIn a = true)
    (h : Q a { s with toks := s.toks + 1 }) : wpAny (model prog w) A (getAttr (.ref x) name expr) Q E s := by
  obtain ⟨od, J, hl⟩ := I.look
  exact PySem.W.get_value X J (PySem.W.plainGet_of hg).1 (PySem.W.findObj_cls hh ha hn hv' hc (by rw [hl, hv])) hv' h

theorem get_meth {pl : Sem Bool} {Q : Value × List Value → Shared → Prop} (X : K.In s.heap) (I : ObjM s.heap x dx C mA) (hg : PySem.W.plainGet K C name = true)
    (hf : PySem.W.findIn K (.ref C) name = some (some (.ref f))) (ht : PySem.W.isFn K (.ref f) = true) (hv : mA name = none) (h : Q (.ref f, [.ref x]) s) :
    wpAny (model prog w) A (getMethod (.ref x) name pl) Q E s := by
  obtain ⟨od, J, hl⟩ := I.look
  exact PySem.W.method_fn X J (PySem.W.plainGet_of hg).1 (PySem.W.plainGet_of hg).2 hf (beq_iff_eq.mp ht) (by show (PySem.W.lookIn name od).map (·.isSome) = some false; rw [hl, hv]; rfl) h

theorem set_map {ns : List Str} {Q : Unit → Shared → Prop} (X : K.In s.heap) (I : ObjM s.heap x dx C mA)
    (hs : PySem.W.findIn K (.ref C) "__setattr__" = some (some (.builtin "object.__setattr__"))) (hp : PySem.W.plainOver K C = true) (ht : PySem.W.takerIn K C name = some none) (hh : PySem.W.hasDictIn K C = true)
    (hw : PySem.Within mA ns) (hsz : ns.length ≤ sizeLine)
    (h : ∀ h', ObjM h' x dx C (fun y => if y = name then some v else mA y) → Heap.SameBut dx s.heap h' → Q () { s with heap := h', toks := s.toks + 2 }) :
    wpAny (model prog w) A (setAttr (.ref x) name v) Q E s := by
  obtain ⟨od, J, hl⟩ := I.look
  refine PySem.W.set_plain X J hs (PySem.W.osa_open (s := { s with toks := s.toks + 1 }) (r := none) X J hp ht fun b => ?_)
  obtain ⟨cd, hc, hd'⟩ := PySem.W.any_some hh
  have hx : s.heap.get? x = some ⟨.ref C, some dx, .plain, #[]⟩ := I.obj
  refine wpAny_bind (wpAny_pure (wpAny_bind (wpAny_bind (wpAny_loadPart hx (wpAny_bind (PySem.W.Looks.here (s := { s with toks := s.toks + 1 }) (PySem.W.looks_clsIn X hc) ?_))))))
  rw [hd']
  refine wpAny_pure (a := some dx) (wpAny_bind (wpAny_pure (wpAny_bind ?_)))
  refine wpAny_nsSet1 (s := { s with toks := s.toks + 1 }) I.ns fun h' hn2 hs2 => ?_
  obtain ⟨oD, esD, epD, hoD, hdD, hcD⟩ := hn2.count (PySem.Within.cons name v hw)
  refine wpAny_bind (wpAny_lookBehind hoD (by rw [hdD]; exact pastItsLine_dict (Nat.le_trans hcD (by rw [List.length_cons]; omega))) ?_)
  exact wpAny_pure (h _ ⟨(hs2.2 _ (Ne.symm I.ne)).trans I.obj, hn2, I.ne⟩ hs2)

/-- C(..): the dict at the heap's end, the instance behind it; then its __init__ -/
theorem make_map {R : Result → Shared → Prop} {vs : List Value} {kw : List (Str × Value)} (X : K.In s.heap) (hm : PySem.W.makesIn K C = true)
    (hi : PySem.W.findIn K (.ref C) "__init__" = some (some (.ref f))) (hf : PySem.W.typeIn K (.ref f) = some (.type "function"))
    (h : codeAny (model prog w) (A.under (.builtin "type.__call__" ⟨.ref C :: vs, kw⟩)) (.call (.ref f) ⟨.ref (s.heap.objs.size + 1) :: vs, kw⟩) (PySem.W.InitBack (s.heap.objs.size + 1) R)
      { s with heap := (s.heap.push PySem.W.emptyDict).push (PySem.W.instObj C s.heap.objs.size) }) :
    codeAny (model prog w) A (.call (.ref C) ⟨vs, kw⟩) R s := by
  obtain ⟨hh, g, d, t, os⟩ := s
  exact PySem.W.make_core (PySem.W.makes_of X hm) (PySem.W.looks_findIn X hi) (fun self => PySem.W.bind_fn X self hf) (.inl rfl) h
/-- C() where there is no __init__ but object's -/
theorem make_map0 {R : Result → Shared → Prop} (X : K.In s.heap) (hm : PySem.W.makesIn K C = true)
    (hi : PySem.W.findIn K (.ref C) "__init__" = some (some (.builtin "object.__init__")))
    (hb : ∀ self, PySem.W.Looks (model prog w) s.heap (bindSpecial (.builtin "object.__init__") self) (.builtin "object.__init__", [self]))
    (h : codeAny (model prog w) (A.under (.builtin "type.__call__" ⟨[.ref C], []⟩)) (.call (.builtin "object.__init__") ⟨[.ref (s.heap.objs.size + 1)], []⟩) (PySem.W.InitBack (s.heap.objs.size + 1) R)
      { s with heap := (s.heap.push PySem.W.emptyDict).push (PySem.W.instObj C s.heap.objs.size) }) :
    codeAny (model prog w) A (.call (.ref C) ⟨[], []⟩) R s := by
  obtain ⟨hh, g, d, t, os⟩ := s
  exact PySem.W.make_core (PySem.W.makes_of X hm) (PySem.W.looks_findIn X hi) hb (.inr ⟨rfl, rfl⟩) h
end

/-! ### the attributes as a list of pairs -/
def putF (f : Str) (v : V) : List (Str × V) → List (Str × V)
  | [] => [(f, v)]
  | (g, x) :: r => if g = f then (g, v) :: r else (g, x) :: putF f v r
theorem lookup_putF (f g : Str) (v : V) : ∀ fs : List (Str × V), (putF f v fs).lookup g = if g = f then some v else fs.lookup g
  | [] => by
    show List.lookup g [(f, v)] = _
    by_cases h : g = f
    · have hb : (g == f) = true := beq_iff_eq.mpr h
      simp only [List.lookup, hb, if_pos h]
    · have hb : (g == f) = false := beq_eq_false_iff_ne.mpr h
      simp only [List.lookup, hb, if_neg h]
  | (k, x) :: r => by
    have ih := lookup_putF f g v r
    rw [show putF f v ((k, x) :: r) = (if k = f then (k, v) :: r else (k, x) :: putF f v r) from rfl]
    by_cases hk : k = f
    · rw [if_pos hk]
      by_cases h : g = k
      · have hb : (g == k) = true := beq_iff_eq.mpr h
        simp only [List.lookup, hb, if_pos (h.trans hk)]
      · have hb : (g == k) = false := beq_eq_false_iff_ne.mpr h
        simp only [List.lookup, hb, if_neg (fun e : g = f => h (e.trans hk.symm))]
    · rw [if_neg hk]
      by_cases h : g = k
      · have hb : (g == k) = true := beq_iff_eq.mpr h
        simp only [List.lookup, hb, if_neg (fun e : g = f => hk (h.symm.trans e))]
      · have hb : (g == k) = false := beq_eq_false_iff_ne.mpr h
        simp only [List.lookup, hb]
        exact ih
theorem keys_putF (f : Str) (v : V) : ∀ fs : List (Str × V), f ∈ (putF f v fs).map (·.1) ∧ ∀ g, g ∈ fs.map (·.1) → g ∈ (putF f v fs).map (·.1)
  | [] => ⟨by simp [putF], fun g h => by simp at h⟩
  | (k, x) :: r => by
    obtain ⟨i1, i2⟩ := keys_putF f v r
    rw [show putF f v ((k, x) :: r) = (if k = f then (k, v) :: r else (k, x) :: putF f v r) from rfl]
    by_cases hk : k = f
    · rw [if_pos hk]
      subst hk
      exact ⟨by simp, fun g h => by simpa using h⟩
    · rw [if_neg hk]
      refine ⟨?_, fun g h => ?_⟩
      · rw [List.map_cons]
        exact List.mem_cons_of_mem _ i1
      · rw [List.map_cons] at h ⊢
        rcases List.mem_cons.mp h with e | e
        · exact List.mem_cons.mpr (.inl e)
        · exact List.mem_cons_of_mem _ (i2 g e)
theorem length_putF (f : Str) (v : V) : ∀ fs : List (Str × V), (putF f v fs).length ≤ fs.length + 1
  | [] => by simp [putF]
  | (k, x) :: r => by
    have ih := length_putF f v r
    rw [show putF f v ((k, x) :: r) = (if k = f then (k, v) :: r else (k, x) :: putF f v r) from rfl]
    by_cases hk : k = f
    · rw [if_pos hk, List.length_cons, List.length_cons]; omega
    · rw [if_neg hk, List.length_cons, List.length_cons]; omega

theorem RelO.some_of {v : V} {o : Option Value} (r : RelO (some v) o) : ∃ u, o = some u ∧ RelV v u := by
  cases o with
  | none => exact (show False from r).elim
  | some u => exact ⟨u, rfl, r⟩
theorem RelO.none_of {o : Option Value} (r : RelO none o) : o = none := by
  cases o with
  | none => rfl
  | some u => exact (show False from r).elim
theorem handed_of {v : V} {u : Value} (r : RelV v u) : PySem.W.handedIn u = true := by
  cases v with
  | non => cases (show u = Value.none from r); rfl
  | bl b => cases (show u = Value.bool b from r); rfl
  | int i => obtain ⟨t, e⟩ := (show ∃ t, u = Value.int i t from r); cases e; rfl
  | str x => obtain ⟨t, e⟩ := (show ∃ t, u = Value.str x t from r); cases e; rfl
  | byt b => obtain ⟨t, e⟩ := (show ∃ t, u = Value.bytes b t from r); cases e; rfl
  | flt b => obtain ⟨t, e⟩ := (show ∃ t, u = Value.float b t from r); cases e; rfl
  | ref a => cases (show u = Value.ref a from r); rfl
  | ty n => cases (show u = Value.type n from r); rfl

section
variable {P : Program} {w : World} {H H' : Hp} {h h' : Heap} {a C dx : Addr} {fs fs' : List (Str × V)}
theorem ins_get (hok : HOk P w H h) (e : H a = some (.ins C dx fs)) : ∃ mA, ObjM h a dx C mA ∧ (∀ f, RelO (fs.lookup f) (mA f)) ∧ PySem.Within mA (fs.map (·.1)) ∧ fs.length ≤ 1000 ∧ H dx = some (.own a) := by
  obtain ⟨d, z, ne, ob, mA, n, r, q⟩ := (show ObjOk P w H h a (.ins C dx fs) from hok a _ e)
  exact ⟨mA, ⟨ob, n, ne⟩, r, q, z, d⟩
end

/-! ### what of the text a class must have -/
structure Cls (K : PySem.W.Frag) (C : Addr) : Prop where
  pg : PySem.W.plainGet K C Str.empty = true
  hd : PySem.W.hasDictIn K C = true
  po : PySem.W.plainOver K C = true
  sa : PySem.W.findIn K (.ref C) "__setattr__" = some (some (.builtin "object.__setattr__"))
theorem Cls.get {K : PySem.W.Frag} {C : Addr} (c : Cls K C) (f : Str) : PySem.W.plainGet K C f = true := c.pg
/-- no class of it has the name -/
def NoAttr (K : PySem.W.Frag) (C : Addr) (f : Str) : Prop := PySem.W.findIn K (.ref C) f = some none
theorem NoAttr.taker {K : PySem.W.Frag} {C : Addr} {f : Str} (n : NoAttr K C f) : PySem.W.takerIn K C f = some none := by
  unfold PySem.W.takerIn
  rw [show PySem.W.findIn K (.ref C) f = some none from n]
  rfl
/-- a constant of the class -/
structure Con (K : PySem.W.Frag) (C : Addr) (f : Str) (v : V) (u : Value) : Prop where
  at_ : PySem.W.findIn K (.ref C) f = some (some u)
  rel : RelV v u
  get : PySem.W.specialIn K u "__get__" = some none
  cp : PySem.W.copiedNames.contains f = false
/-- a method: a plain def of the class or of one above it -/
structure Meth (K : PySem.W.Frag) (C : Addr) (m : Str) (f : Addr) : Prop where
  at_ : PySem.W.findIn K (.ref C) m = some (some (.ref f))
  fn : PySem.W.isFn K (.ref f) = true
  kp : PySem.W.keepIn K (.ref f) = true

section
variable {X : Cx} {pins : List (Addr × Obj)} {σ : St} {H : Hp} {s : Shared} {a C dx : Addr} {fs : List (Str × V)} {f : Str} {v : V} {A : Around} {E : Value → Shared → Prop}

theorem getattr_ok {b : Bool} {Q : Value → Shared → Prop} (I : Inv X pins σ H s) (e : H a = some (.ins C dx fs)) (c : Cls X.K C) (n : NoAttr X.K C f) (l : fs.lookup f = some v)
    (h : ∀ u s', Inv X pins σ H s' → RelV v u → Q u s') : wpAny (model X.prog X.w) A (getAttr (.ref a) f b) Q E s := by
  obtain ⟨mA, O, r, _, _, _⟩ := ins_get I.hok e
  obtain ⟨u, hu, ru⟩ := RelO.some_of (v := v) (o := mA f) (by rw [← l]; exact r f)
  exact get_map I.kIn O (c.get f) c.hd n hu (handed_of ru) (h u _ (I.tok _) ru)

theorem getcon_ok {b : Bool} {u : Value} {Q : Value → Shared → Prop} (I : Inv X pins σ H s) (e : H a = some (.ins C dx fs)) (c : Cls X.K C) (k : Con X.K C f v u) (l : fs.lookup f = none)
    (h : ∀ s', Inv X pins σ H s' → Q u s') : wpAny (model X.prog X.w) A (getAttr (.ref a) f b) Q E s := by
  obtain ⟨mA, O, r, _, _, _⟩ := ins_get I.hok e
  have hn : mA f = none := RelO.none_of (by rw [← l]; exact r f)
  exact get_const I.kIn O (c.get f) c.hd k.at_ k.get k.cp hn (handed_of k.rel) (h _ (I.tok _))

theorem getmeth_ok {m : Str} {g : Addr} {pl : Sem Bool} {Q : Value × List Value → Shared → Prop} (I : Inv X pins σ H s) (e : H a = some (.ins C dx fs)) (c : Cls X.K C) (k : Meth X.K C m g) (l : fs.lookup m = none)
    (h : Q (.ref g, [.ref a]) s) : wpAny (model X.prog X.w) A (getMethod (.ref a) m pl) Q E s := by
  obtain ⟨mA, O, r, _, _, _⟩ := ins_get I.hok e
  have hn : mA m = none := RelO.none_of (by rw [← l]; exact r m)
  exact get_meth I.kIn O (c.get m) k.at_ k.fn hn h

theorem setattr_ok {y : V} {u : Value} {Q : Unit → Shared → Prop} (I : Inv X pins σ H s) (e : H a = some (.ins C dx fs)) (c : Cls X.K C) (n : NoAttr X.K C f) (hl : fs.length < 1000) (ry : RelV y u)
    (h : ∀ s', Inv X pins σ (upd H a (.ins C dx (putF f y fs))) s' → Q () s') : wpAny (model X.prog X.w) A (setAttr (.ref a) f u) Q E s := by
  obtain ⟨mA, O, r, wi, _, ho⟩ := ins_get I.hok e
  have hz : (fs.map (·.1)).length ≤ sizeLine := by rw [List.length_map, sizeLine_eq]; omega
  refine set_map I.kIn O c.sa c.po n.taker c.hd wi hz fun h' O' sb => h _ ?_
  have hd : ∃ o, h'.get? dx = some o := let ⟨o, _, _, e', _⟩ := O'.ns; ⟨o, e'⟩
  refine I.write (x := a) (e := dx) (by rw [e]; exact True.intro) (.inr ho) (fun b q hb z => (sb.2 b hb).trans z) hd ?_
  refine ⟨by rw [upd_ne O.ne]; exact ho, ?_, O.ne, O'.obj, _, O'.ns, fun g => ?_, fun g hg => ?_⟩
  · have := length_putF f y fs; omega
  · show RelO ((putF f y fs).lookup g) (if g = f then some u else mA g)
    rw [lookup_putF]
    by_cases q : g = f
    · rw [if_pos q, if_pos q]; exact ry
    · rw [if_neg q, if_neg q]; exact r g
  · by_cases q : g = f
    · rw [q]; exact (keys_putF f y fs).1
    · refine (keys_putF f y fs).2 g (wi g fun z => hg ?_)
      show (if g = f then some u else mA g) = none
      rw [if_neg q]; exact z

/-- a new instance, tracked, without attributes -/
theorem Inv.made (I : Inv X pins σ H s) : Inv X pins σ (upd (upd H s.heap.objs.size (.own (s.heap.objs.size + 1))) (s.heap.objs.size + 1) (.ins C s.heap.objs.size []))
    { s with heap := (s.heap.push PySem.W.emptyDict).push (PySem.W.instObj C s.heap.objs.size) } := by
  have e1 : (s.heap.push PySem.W.emptyDict).get? s.heap.objs.size = some PySem.W.emptyDict := Heap.get?_push_size s.heap rfl
  have e2 : ((s.heap.push PySem.W.emptyDict).push (PySem.W.instObj C s.heap.objs.size)).get? (s.heap.objs.size + 1) = some (PySem.W.instObj C s.heap.objs.size) := by
    have := Heap.get?_push_size (s.heap.push PySem.W.emptyDict) (o := PySem.W.instObj C s.heap.objs.size) rfl
    rwa [Heap.size_push] at this
  have e3 : (s.heap.push PySem.W.emptyDict).Ns s.heap.objs.size (fun _ => none) := ⟨PySem.W.emptyDict, #[], _, e1, rfl, (fun e he => absurd he (by simp)), fun _ => rfl⟩
  have I1 := I.laid (a := s.heap.objs.size) (o := .own (s.heap.objs.size + 1)) (h' := s.heap.push PySem.W.emptyDict) (t' := s.toks) (fun b u q => Heap.get?_push_of_some _ q) (Nat.le_refl _) ⟨_, e1⟩
  refine I1.laid (a := s.heap.objs.size + 1) (o := .ins C s.heap.objs.size []) (t' := s.toks) (fun b u q => Heap.get?_push_of_some _ q) (Nat.le_of_eq (Heap.size_push _ _)) ?_
  have ne : s.heap.objs.size ≠ s.heap.objs.size + 1 := Nat.ne_of_lt (Nat.lt_succ_self _)
  refine ⟨by rw [upd_ne ne, upd_same], Nat.zero_le _, ne, e2, fun _ => none, (Heap.Ns1.of_empty e3).at fun o q => Heap.get?_push_of_some _ q, fun _ => True.intro, fun y hy => absurd rfl hy⟩

/-- e.f where nothing but the object is asked: through attributeBase (super) and the last hold -/
theorem attr_of {prog : Program} {w : World} {env : Env} {e : Expr} {f : Str} {pos : Pos} {s : Shared} {Q : Value → Shared → Prop} (hb : attributeBase e f env (eval e env) = eval e env)
    (h : wpAny (model prog w) A (eval e env) (fun o s₁ => wpAny (model prog w) A (getAttr o f true) Q E s₁) E s) : wpAny (model prog w) A (eval (.Attribute e f pos) env) Q E s :=
  Attribute_any_ h (by rw [arm_eval_Attribute, hb])
end

/-! ### readings and rules -/
/-- e.f, an attribute of the instance -/
def tFld (K : PySem.W.Frag) (ta : TE) (f : Str) : TE := fun σ H Q => ta σ H fun x H1 => ∃ a C dx fs v, x = .ref a ∧ H1 a = some (.ins C dx fs) ∧ Cls K C ∧ NoAttr K C f ∧ fs.lookup f = some v ∧ Q v H1
/-- e.f, a constant of the class -/
def tCon (K : PySem.W.Frag) (ta : TE) (f : Str) : TE := fun σ H Q => ta σ H fun x H1 => ∃ a C dx fs v u, x = .ref a ∧ H1 a = some (.ins C dx fs) ∧ Cls K C ∧ Con K C f v u ∧ fs.lookup f = none ∧ Q v H1
/-- e.f = value -/
def sFld (K : PySem.W.Frag) (ta tv : TE) (f : Str) : TS := fun D σ H => tv σ H fun y H1 => ta σ H1 fun x H2 => ∃ a C dx fs, x = .ref a ∧ H2 a = some (.ins C dx fs) ∧ Cls K C ∧ NoAttr K C f ∧ fs.length < 1000 ∧
  D.nx σ (upd H2 a (.ins C dx (putF f y fs)))
/-- an augmented operator on two values -/
def InOp (X : Cx) (op : Operator) (rd : V → V → Hp → VK → Prop) : Prop :=
  ∀ (pins : List (Addr × Obj)) (s : Shared) (σ : St) (H : Hp) (x y : V) (u v : Value) (Q : VK), Inv X pins σ H s → RelV x u → RelV y v → rd x y H Q → wpAny (model X.prog X.w) X.A (inplaceOp op u v) (EP X pins σ Q) X.xe s
/-- e.f op= value -/
def sFldAug (K : PySem.W.Frag) (ta tv : TE) (rd : V → V → Hp → VK → Prop) (f : Str) : TS := fun D σ H => ta σ H fun x H1 => ∃ a C dx fs v, x = .ref a ∧ H1 a = some (.ins C dx fs) ∧ Cls K C ∧ NoAttr K C f ∧ fs.lookup f = some v ∧
  tv σ H1 fun y H2 => rd v y H2 fun z H3 => ∃ dx' fs', H3 a = some (.ins C dx' fs') ∧ fs'.length < 1000 ∧ D.nx σ (upd H3 a (.ins C dx' (putF f z fs')))

section
variable {X : Cx} {o e value : Expr} {f : Str} {pos pos' tpos : Pos} {ta tv : TE}
theorem pe_fld (he : PE X e ta) (hb : attributeBase e f X.env (eval e X.env) = eval e X.env) : PE X (.Attribute e f pos) (tFld X.K ta f) := by
  intro pins s σ H Q I h
  refine attr_of hb (thn (he pins s σ H _ I h) fun u s1 ⟨x, H1, I1, rx, a, C, dx, fs, v, ex, ea, c, n, l, q⟩ => ?_)
  subst ex
  obtain rfl : u = Value.ref a := rx
  exact getattr_ok I1 ea c n l fun u' s2 I2 ru => ⟨v, H1, I2, ru, q⟩
theorem pe_con (he : PE X e ta) (hb : attributeBase e f X.env (eval e X.env) = eval e X.env) : PE X (.Attribute e f pos) (tCon X.K ta f) := by
  intro pins s σ H Q I h
  refine attr_of hb (thn (he pins s σ H _ I h) fun u s1 ⟨x, H1, I1, rx, a, C, dx, fs, v, u0, ex, ea, c, k, l, q⟩ => ?_)
  subst ex
  obtain rfl : u = Value.ref a := rx
  exact getcon_ok I1 ea c k l fun s2 I2 => ⟨v, H1, I2, k.rel, q⟩
theorem ps_fld (ha : PE X o ta) (hv : PE X value tv) (hs : swapsWith value (some (.Attribute o f pos')) pos.line X.env = pure false) : PS X (.Assign [.Attribute o f pos'] value pos) (sFld X.K ta tv f) := by
  intro pins s σ H D I h
  refine plainObj_wpAny_Assign_Attribute (thn (hv pins s σ H _ I h) fun u s1 ⟨y, H1, I1, ry, q⟩ => thn (ha pins s1 σ H1 _ I1 q) fun ov s2 ⟨x, H2, I2, rx, a, C, dx, fs, ex, ea, c, n, l, q2⟩ => ?_) hs
  subst ex
  obtain rfl : ov = Value.ref a := rx
  exact setattr_ok I2 ea c n l ry fun s3 I3 => ⟨σ, _, I3, q2⟩
theorem ps_fldaug {op : Operator} {rd : V → V → Hp → VK → Prop} (ha : PE X o ta) (hv : PE X value tv) (hop : InOp X op rd) : PS X (.AugAssign (.Attribute o f tpos) op value pos) (sFldAug X.K ta tv rd f) := by
  intro pins s σ H D I h
  refine wpAny_AugAssign_AttributeAny (thn (ha pins s σ H _ I h) fun ov s1 ⟨x, H1, I1, rx, a, C, dx, fs, v, ex, ea, c, n, l, q⟩ => ?_)
  subst ex
  obtain rfl : ov = Value.ref a := rx
  refine getattr_ok I1 ea c n l fun u s2 I2 ru => thn (hv pins s2 σ H1 _ I2 q) fun w3 s3 ⟨y, H2, I3, ry, q3⟩ => thn (hop pins s3 σ H2 v y u w3 _ I3 ru ry q3) fun w4 s4 ⟨z, H3, I4, rz, dx', fs', ea', l', q4⟩ => ?_
  exact setattr_ok I4 ea' c n l' rz fun s5 I5 => ⟨σ, _, I5, q4⟩
def rAdd : V → V → Hp → VK → Prop := fun x y H Q => ∃ i j, x = .int i ∧ y = .int j ∧ Q (.int (i + j)) H
def rSub : V → V → Hp → VK → Prop := fun x y H Q => ∃ i j, x = .int i ∧ y = .int j ∧ Q (.int (i - j)) H
theorem in_add : InOp X .Add rAdd := by
  rintro pins s σ H x y u v Q I rx ry ⟨i, j, rfl, rfl, q⟩
  obtain ⟨t, rfl⟩ := (show ∃ t, u = Value.int i t from rx)
  obtain ⟨t', rfl⟩ := (show ∃ t', v = Value.int j t' from ry)
  exact PyProof.Rows.iadd_int ⟨.int (i + j), H, I.tok _, ⟨_, rfl⟩, q⟩
theorem in_sub : InOp X .Sub rSub := by
  rintro pins s σ H x y u v Q I rx ry ⟨i, j, rfl, rfl, q⟩
  obtain ⟨t, rfl⟩ := (show ∃ t, u = Value.int i t from rx)
  obtain ⟨t', rfl⟩ := (show ∃ t', v = Value.int j t' from ry)
  exact PyProof.Rows.isub_int ⟨.int (i - j), H, I.tok _, ⟨_, rfl⟩, q⟩

/-- what is between an instance and its method: the tree of a method call -/
theorem methcall_of {pl : Sem Bool} {m : Str} {apos : Pos} {args : List Expr} {pins : List (Addr × Obj)} {s : Shared} {σ : St} {H : Hp} {Q : Value → Shared → Prop} {te : TE} (he : PE X e te) (I : Inv X pins σ H s)
    (h : te σ H fun x H1 => ∃ a C dx fs g, x = .ref a ∧ H1 a = some (.ins C dx fs) ∧ Cls X.K C ∧ Meth X.K C m g ∧ fs.lookup m = none ∧
      ∀ s1, Inv X pins σ H1 s1 → wpAny (model X.prog X.w) X.A (callWith pos (.ref g) [.ref a] (backTo pos (starEach args X.env)) (backToKw pos (keywordEach [] X.env))) Q X.xe s1)
    (ht : eval (.Call (.Attribute e m apos) args [] pos) X.env = (do
      let ov ← eval e X.env
      standAt apos.atName
      let (f, first) ← holding [ov] (getMethod ov m pl)
      callWith pos f first (backTo pos (starEach args X.env)) (backToKw pos (keywordEach [] X.env)))) :
    wpAny (model X.prog X.w) X.A (eval (.Call (.Attribute e m apos) args [] pos) X.env) Q X.xe s := by
  refine PySem.W.methodCall_KW (pl := pl) (thn (he pins s σ H _ I h) fun u s1 ⟨x, H1, I1, rx, a, C, dx, fs, g, ex, ea, c, k, l, q⟩ => ?_) ht
  subst ex
  obtain rfl : u = Value.ref a := rx
  exact getmeth_ok I1 ea c k l (q s1 I1)
end

/-! ### isinstance -/
section
variable {X : Cx} {pins : List (Addr × Obj)} {σ : St} {H : Hp} {s : Shared} {A : Around} {E : Value → Shared → Prop} {Q : Value → Shared → Prop} {c : Value} {b : Bool}
/-- the type of a value, as the fragment's deciders take it; for an instance its class -/
inductive TyOf (K : PySem.W.Frag) (H : Hp) : V → Value → Prop where
  | non : TyOf K H .non (.type "NoneType")
  | bl (x : Bool) : TyOf K H (.bl x) (.type "bool")
  | int (i : Int) : TyOf K H (.int i) (.type "int")
  | str (x : Str) : TyOf K H (.str x) (.type "str")
  | flt (x : UInt64) : TyOf K H (.flt x) (.type "float")
  | lst {a : Addr} {xs : List V} (e : H a = some (.lst xs)) : TyOf K H (.ref a) (.type "list")
  | frz {a : Addr} {o : Obj} {xs : List V} (e : H a = some (.frz o (.lst xs))) : TyOf K H (.ref a) (.type "list")
  | tup {a : Addr} {xs : List V} (e : H a = some (.tup xs)) : TyOf K H (.ref a) (.type "tuple")
  | dK {a : Addr} {kvs : List (Key × V)} (e : H a = some (.dK kvs)) : TyOf K H (.ref a) (.type "dict")
  | dT {a : Addr} {kvs : List (List Key × V)} (e : H a = some (.dT kvs)) : TyOf K H (.ref a) (.type "dict")
  | ins {a C dx : Addr} {fs : List (Str × V)} (e : H a = some (.ins C dx fs)) (cl : Cls K C) (ha : PySem.W.findIn K (.ref C) "__class__" = some (some (.builtin "object.__class__")))
      (hn : PySem.W.specialIn K (.builtin "object.__class__") "__get__" = some (some (.builtin "getset_descriptor.__get__"))) (htk : PySem.W.takesIn K (.builtin "object.__class__") = some true)
      (hm : PySem.W.mroIn K C (.type "object") = some true) : TyOf K H (.ref a) (.ref C)
/-- isinstance(x, c) for one class c, a built-in or an own one: kitOne's answer -/
theorem isinst_ok {x : V} {u t : Value} (I : Inv X pins σ H s) (rx : RelV x u) (ty : TyOf X.K H x t) (e : PySem.W.kitOne X.K t c = some b) (h : ∀ tk, Q (.bool b) { s with toks := tk }) :
    wpAny (model X.prog X.w) A (call (.builtin "isinstance") [u, c]) Q E s := by
  cases ty with
  | non => cases (show u = Value.none from rx); exact PySem.W.kia_one PySem.W.kitx_none I.kIn True.intro e (fun z => nomatch z) h
  | bl y => cases (show u = Value.bool y from rx); exact PySem.W.kia_one PySem.W.kitx_bool I.kIn True.intro e (fun z => nomatch z) h
  | int i => obtain ⟨t, q⟩ := (show ∃ t, u = Value.int i t from rx); cases q; exact PySem.W.kia_one PySem.W.kitx_int I.kIn True.intro e (fun z => nomatch z) h
  | str y => obtain ⟨t, q⟩ := (show ∃ t, u = Value.str y t from rx); cases q; exact PySem.W.kia_one PySem.W.kitx_str I.kIn True.intro e (fun z => nomatch z) h
  | flt y => obtain ⟨t, q⟩ := (show ∃ t, u = Value.float y t from rx); cases q; exact PySem.W.kia_one PySem.W.kitx_float I.kIn True.intro e (fun z => nomatch z) h
  | @lst a xs ea =>
    cases (show u = Value.ref a from rx)
    obtain ⟨_, _, n, _, h1⟩ := (show ObjOk X.prog X.w H s.heap a (.lst xs) from I.hok a _ ea)
    exact PySem.W.kia_one PySem.W.kitx_list I.kIn ⟨_, h1, rfl⟩ e (fun z => nomatch z) h
  | @frz a ob xs ea =>
    cases (show u = Value.ref a from rx)
    obtain ⟨_, _, _, n, _, h1⟩ := (show ObjOk X.prog X.w H s.heap a (.frz ob (.lst xs)) from I.hok a _ ea)
    exact PySem.W.kia_one PySem.W.kitx_list I.kIn ⟨_, h1, rfl⟩ e (fun z => nomatch z) h
  | @tup a xs ea =>
    cases (show u = Value.ref a from rx)
    obtain ⟨_, _, _, p⟩ := (show ObjOk X.prog X.w H s.heap a (.tup xs) from I.hok a _ ea)
    obtain ⟨o, h1, h2, _⟩ := p
    exact PySem.W.kia_one PySem.W.kitx_tuple I.kIn ⟨o, h1, h2⟩ e (fun z => nomatch z) h
  | @dK a kvs ea =>
    cases (show u = Value.ref a from rx)
    obtain ⟨_, _, vs, _, p⟩ := (show ObjOk X.prog X.w H s.heap a (.dK kvs) from I.hok a _ ea)
    obtain ⟨o, es, ep, h1, h2, _⟩ := p
    exact PySem.W.kia_one PySem.W.kitx_dict I.kIn ⟨o, h1, h2.1⟩ e (fun z => nomatch z) h
  | @dT a kvs ea =>
    cases (show u = Value.ref a from rx)
    obtain ⟨_, _, xs, _, o, es, ep, h1, h2, _⟩ := (show ObjOk X.prog X.w H s.heap a (.dT kvs) from I.hok a _ ea)
    exact PySem.W.kia_one PySem.W.kitx_dict I.kIn ⟨o, h1, h2.1⟩ e (fun z => nomatch z) h
  | @ins a C dx fs ea cl ha hn htk hm =>
    cases (show u = Value.ref a from rx)
    obtain ⟨mA, O, _⟩ := ins_get I.hok ea
    obtain ⟨od, J, _⟩ := O.look
    exact PySem.W.kia_one (PySem.W.kitx_own (cl.get _) cl.hd ha hn htk hm) I.kIn J e (fun z => nomatch z) h
end
end L2

namespace L2
open PySem PySem.Spec PyProof.Rows

/-! ### room -/
structure Room (k : Nat) (A : Around) : Prop where
  hd : A.handled = none
  dp : A.depth + 3 * k + 5 < recursionLimit
  un : A.units + 16 * k + 200 < cLine
theorem Room.mono {j k : Nat} {A : Around} (r : Room k A) (h : j ≤ k) : Room j A := ⟨r.hd, by have := r.dp; omega, by have := r.un; omega⟩
theorem Room.deeper {k : Nat} {A : Around} (r : Room (k + 1) A) (env : Env) : Room k (A.deeper env) :=
  ⟨r.hd, by have := r.dp; show A.depth + 1 + 3 * k + 5 < _; omega, by have := r.un; show A.units + 3 + 16 * k + 200 < _; omega⟩
theorem Room.in1 {k : Nat} {A : Around} (r : Room (k + 1) A) : Room k A.in1 :=
  ⟨r.hd, by have := r.dp; show A.depth + 3 * k + 5 < _; omega, by have := r.un; show A.units + 1 + 16 * k + 200 < _; omega⟩
theorem make_depth {A : Around} {C : Addr} {us : List Value} {kw : List (Str × Value)} : (A.under (.builtin "type.__call__" ⟨.ref C :: us, kw⟩)).depth = A.depth + 1 := by
  first | rfl | simp [Around.under, Code.weight, Code.isCreation, Code.isGuard, Code.isCaller, Code.frames, Code.isFrame, guardIds]
theorem make_units {A : Around} {C : Addr} {us : List Value} {kw : List (Str × Value)} : (A.under (.builtin "type.__call__" ⟨.ref C :: us, kw⟩)).units = A.units + 1 := by
  first | rfl | simp [Around.under, Code.cUnits, Code.frames, Code.isFrame]
theorem Room.make {k : Nat} {A : Around} (r : Room (k + 1) A) (C : Addr) (us : List Value) (kw : List (Str × Value)) : Room k (A.under (.builtin "type.__call__" ⟨.ref C :: us, kw⟩)) :=
  ⟨r.hd, by have := r.dp; rw [make_depth]; omega, by have := r.un; rw [make_units]; omega⟩
theorem Room.depth {k : Nat} {A : Around} (r : Room k A) : A.depth < recursionLimit := by have := r.dp; omega
theorem Room.units {k : Nat} {A : Around} (r : Room k A) : A.units + 64 < cLine := by have := r.un; omega
theorem Room.units0 {k : Nat} {A : Around} (r : Room k A) : A.units < cLine := by have := r.un; omega

/-! ### argument lists and displays -/
def tNil : TA := fun _ H Q => Q [] H
def tCons (ta : TE) (tr : TA) : TA := fun σ H Q => ta σ H fun x H1 => tr σ H1 fun xs H2 => Q (x :: xs) H2
section
variable {X : Cx} {e : Expr} {es : List Expr} {te : TE} {t : TA} {pos : Pos}
theorem pa_nil : PA X [] tNil := fun _ _ _ _ H Q I h => Calls.spliced_nil ⟨[], H, I, .nil, h⟩
theorem pa_cons (ha : PE X e te) (hr : PA X es t) (hs : starEach (e :: es) X.env = (false, eval e X.env) :: starEach es X.env := by rfl) : PA X (e :: es) (tCons te t) := by
  intro pos pins s σ H Q I h
  rw [hs]
  show wpAny _ _ (spliced ((false, eval e X.env) :: backTo pos (starEach es X.env))) _ _ s
  refine Calls.spliced_cons (thn (ha pins s σ H _ I h) fun u s1 ⟨x, H1, I1, r1, q1⟩ => ?_)
  exact thn (hr pos pins s1 σ H1 _ I1 q1) fun us s2 ⟨xs, H2, I2, r2, q2⟩ => ⟨x :: xs, H2, I2, .cons r1 r2, q2⟩

/-- a tuple, a list of written items -/
def tTup (t : TA) : TE := fun σ H Q => t σ H fun xs H1 => xs.length ≤ sizeLine ∧ ∀ p, H1 p = none → Q (.ref p) (upd H1 p (.tup xs))
def tLst (t : TA) : TE := fun σ H Q => t σ H fun xs H1 => xs.length ≤ sizeLine ∧ ∀ p, H1 p = none → Q (.ref p) (upd H1 p (.lst xs))
theorem pe_tup {x1} (h : PA X es t) : PE X (.Tuple es x1 pos) (tTup t) := by
  intro pins s σ H Q I hq
  refine wpAny_Tuple_spliced (thn (h pos pins s σ H _ I hq) fun us s1 ⟨xs, H1, I1, r, z, q⟩ => ⟨by rw [← r.length]; exact z, ?_⟩)
  have hf : H1 s1.heap.objs.size = none := I1.hok.fresh (Nat.le_refl _)
  refine ⟨.ref s1.heap.objs.size, upd H1 s1.heap.objs.size (.tup xs), I1.laid (t' := s1.toks) (fun b u e => Heap.get?_push_of_some _ e) (Nat.le_refl _) ?_, rfl, q _ hf⟩
  exact ⟨z, us, r, ⟨_, Heap.get?_push_size _ rfl, rfl, _, rfl⟩⟩
theorem pe_lst (h : PA X es t) : PE X (.List es pos) (tLst t) := by
  intro pins s σ H Q I hq
  refine wpAny_List_spliced (thn (h pos pins s σ H _ I hq) fun us s1 ⟨xs, H1, I1, r, z, q⟩ => ⟨by rw [← r.length]; exact z, ?_⟩)
  have hf : H1 s1.heap.objs.size = none := I1.hok.fresh (Nat.le_refl _)
  refine ⟨.ref s1.heap.objs.size, upd H1 s1.heap.objs.size (.lst xs), I1.laid (t' := s1.toks) (fun b u e => Heap.get?_push_of_some _ e) (Nat.le_refl _) ?_, rfl, q _ hf⟩
  exact ⟨z, us, 0, r, Heap.get?_push_size _ rfl⟩
end

/-! ### what a def promises -/
/-- a def's promise: the bound arguments in the parameters' order, the heap, the wanted end, the wanted exception -/
abbrev Sp := List V → Hp → VK → XK → Prop
/-- how an exception lies behind a call (file 08 gives it): the callers' frames, abstract heap and state ahead of the call, the wish, the exception, the state -/
abbrev CXT := List Env → Hp → Shared → XK → Value → Shared → Prop

/-- the state at a call -/
structure Env0 (P : Program) (w : World) (K : PySem.W.Frag) (mg : Str → Option Value) (base : Heap) (A : Around) (outer : List Env) (s : Shared) (H : Hp) : Prop where
  frames : A.frames = some outer
  mod : Mod K mg base
  bs : ∀ b o, base.get? b = some o → s.heap.get? b = some o ∧ H b = none
  bsz : base.objs.size ≤ s.heap.objs.size
  funs : s.heap.FunFrames base outer
  frf : ∀ b ∈ frs outer, H b = none
  hok : HOk P w H s.heap
  bare : AllBare s.gens
/-- a call's end -/
def CE (outer : List Env) (P : Program) (w : World) (H : Hp) (s : Shared) (Q : VK) (u : Value) (s' : Shared) : Prop :=
  ∃ v H', s'.os = s.os ∧ AllBare s'.gens ∧ Un (frs outer) [] H H' s.heap s'.heap ∧ HOk P w H' s'.heap ∧ RelV v u ∧ Q v H'
def CR (CX : CXT) (outer : List Env) (P : Program) (w : World) (H : Hp) (s : Shared) (Q : VK) (E : XK) (r : Result) (s' : Shared) : Prop :=
  match r with
  | .ok (.ret u) => CE outer P w H s Q u s'
  | .ok _ => False
  | .error e => CX outer H s E e s'
structure FnOk (P : Program) (w : World) (K : PySem.W.Frag) (mg : Str → Option Value) (base : Heap) (CX : CXT) (k : Nat) (f : Addr) (fd : FuncData) (ps : List Str) (sp : Sp) : Prop where
  len : ∀ vs H Q E, sp vs H Q E → vs.length = ps.length
  run : ∀ (A : Around) (outer : List Env) (s : Shared) (H : Hp) (args : Args) (us : List Value) (vs : List V) (Q : VK) (E : XK), Room k A → Env0 P w K mg base A outer s H → BindsTo s fd args (ps.zip us) → Vals vs us → sp vs H Q E →
    codeAny (model P w) A (.call (.ref f) args) (CR CX outer P w H s Q E) s
theorem FnOk.mono {P : Program} {w : World} {K : PySem.W.Frag} {mg : Str → Option Value} {base : Heap} {CX : CXT} {j k : Nat} {f : Addr} {fd : FuncData} {ps : List Str} {sp : Sp} (F : FnOk P w K mg base CX j f fd ps sp) (h : j ≤ k) :
    FnOk P w K mg base CX k f fd ps sp := ⟨F.len, fun A outer s H args us vs Q E hr => F.run A outer s H args us vs Q E (hr.mono h)⟩
/-- a weaker promise -/
theorem FnOk.imp {P : Program} {w : World} {K : PySem.W.Frag} {mg : Str → Option Value} {base : Heap} {CX : CXT} {k : Nat} {f : Addr} {fd : FuncData} {ps : List Str} {sp sp' : Sp} (F : FnOk P w K mg base CX k f fd ps sp)
    (h : ∀ vs H Q E, sp' vs H Q E → sp vs H Q E) : FnOk P w K mg base CX k f fd ps sp' :=
  ⟨fun vs H Q E q => F.len vs H Q E (h _ _ _ _ q), fun A outer s H args us vs Q E hr he hb hv hs => F.run A outer s H args us vs Q E hr he hb hv (h _ _ _ _ hs)⟩

theorem Env0.make {P : Program} {w : World} {K : PySem.W.Frag} {mg : Str → Option Value} {base : Heap} {A : Around} {outer : List Env} {s : Shared} {H : Hp} (e : Env0 P w K mg base A outer s H) (C : Addr) (us : List Value) (kw : List (Str × Value)) :
    Env0 P w K mg base (A.under (.builtin "type.__call__" ⟨.ref C :: us, kw⟩)) outer s H := ⟨by first | exact e.frames | (simpa [Around.under, Code.envs, Code.isFrame, pushEnvs] using e.frames), e.mod, e.bs, e.bsz, e.funs, e.frf, e.hok, e.bare⟩
theorem Env0.in1 {P : Program} {w : World} {K : PySem.W.Frag} {mg : Str → Option Value} {base : Heap} {A : Around} {outer : List Env} {s : Shared} {H : Hp} (e : Env0 P w K mg base A outer s H) :
    Env0 P w K mg base A.in1 outer s H := ⟨e.frames, e.mod, e.bs, e.bsz, e.funs, e.frf, e.hok, e.bare⟩

section
variable {X : Cx} {pins : List (Addr × Obj)} {σ : St} {H : Hp} {s s' : Shared}
/-- from a body: what a callee wants -/
theorem Inv.env0 (I : Inv X pins σ H s) : Env0 X.prog X.w X.K X.mg X.base X.A X.stack s H :=
  ⟨I.ok.frames, I.ok.mod, I.bs, Nat.le_trans I.ok.bsz I.sz, I.stack, I.stkFree, I.hok, I.bare⟩
/-- behind a call -/
theorem Inv.after {Q : VK} {u : Value} (I : Inv X pins σ H s) (h : CE X.stack X.prog X.w H s Q u s') : EP X pins σ Q u s' := by
  obtain ⟨v, H', os, bare, un, hok, r, q⟩ := h
  obtain ⟨hh, g, d, t, os'⟩ := s'
  obtain rfl : os' = s.os := os
  exact ⟨v, H', I.call (h' := hh) (g' := g) (d' := d) (t' := t) (ch := []) un hok bare (fun b z => absurd z (by simp)), r, q⟩
end

/-! ### calls -/
/-- f(..): the written arguments, then the defaults dvs; E: what is wanted of an exception -/
def tCall (sp : Sp) (dvs : List V) (E : XK) (t : TA) : TE := fun σ H Q => t σ H fun vs H1 => sp (vs ++ dvs) H1 Q E
/-- o.m(..) of an instance of the class at C -/
def tMeth (C : Addr) (m : Str) (sp : Sp) (dvs : List V) (E : XK) (ta : TE) (t : TA) : TE := fun σ H Q => ta σ H fun x H1 => ∃ a dx fs, x = .ref a ∧ H1 a = some (.ins C dx fs) ∧ fs.lookup m = none ∧
  t σ H1 fun vs H2 => sp (x :: (vs ++ dvs)) H2 Q E
/-- C(..): a new instance and its dict, then __init__ -/
def tMake (C : Addr) (sp : Sp) (dvs : List V) (E : XK) (t : TA) : TE := fun σ H Q => t σ H fun vs H1 => ∀ x dx, H1 x = none → H1 dx = none → dx ≠ x →
  sp (.ref x :: (vs ++ dvs)) (upd (upd H1 dx (.own x)) x (.ins C dx [])) (fun v H2 => v = .non ∧ Q (.ref x) H2) E

/-- how the parameters are bound: us the positional arguments, kw the keywords' values by name, ds the defaults that fill up -/
def Binds (K : PySem.W.Frag) (fd : FuncData) (ps : List Str) (ds : List Value) : Prop :=
  ∀ (s : Shared) (us : List Value), K.In s.heap → (us ++ ds).length = ps.length → BindsTo s fd ⟨us, []⟩ (ps.zip (us ++ ds))
/-- every parameter is given -/
theorem Binds.all {K : PySem.W.Frag} {fd : FuncData} {ps : List Str} (h : ∀ us : List Value, us.length = ps.length → bindArgs fd ⟨us, []⟩ = pure (ps.zip us)) : Binds K fd ps [] := fun s us _ hl => by
  rw [List.append_nil] at hl ⊢
  exact .of_eq (h us hl)

/-- an exception of a callee reaches what this body wants of exceptions -/
def Passes (CX : CXT) (X : Cx) (E : XK) : Prop := ∀ (pins : List (Addr × Obj)) (σ : St) (H : Hp) (s : Shared) (e : Value) (s' : Shared), Inv X pins σ H s → CX X.stack H s E e s' → X.xe e s'

section
variable {X : Cx} {CX : CXT} {k : Nat} {f C : Addr} {fd : FuncData} {ps : List Str} {sp : Sp} {dvs : List V} {ds : List Value} {E : XK} {x m : Str} {p pos apos : Pos} {e o : Expr} {es : List Expr} {ta : TE} {t : TA}

/-- the callee runs -/
theorem run_fn {pins : List (Addr × Obj)} {σ : St} {H : Hp} {s : Shared} {Q : VK} {us : List Value} {vs : List V} (F : FnOk X.prog X.w X.K X.mg X.base CX k f fd ps sp) (hr : Room k X.A) (hb : Binds X.K fd ps ds) (hd : Vals dvs ds) (hx : Passes CX X E)
    (I : Inv X pins σ H s) (r : Vals vs us) (h : sp (vs ++ dvs) H Q E) : wpAny (model X.prog X.w) X.A (call (.ref f) us) (EP X pins σ Q) X.xe s := by
  have r2 : Vals (vs ++ dvs) (us ++ ds) := r.append hd
  have hl : (us ++ ds).length = ps.length := by rw [← r2.length]; exact F.len _ _ _ _ h
  refine wpAny_call (codeAny_mono (F.run X.A X.stack s H ⟨us, []⟩ (us ++ ds) (vs ++ dvs) Q E hr I.env0 (hb s us I.kIn hl) r2 h) fun r s' hq => ?_)
  cases r with
  | error e => exact hx pins σ H s e s' I hq
  | ok fl =>
    cases fl with
    | ret u => exact I.after hq
    | next => exact False.elim hq
    | brk => exact False.elim hq
    | cont => exact False.elim hq

theorem pe_call (F : FnOk X.prog X.w X.K X.mg X.base CX k f fd ps sp) (hr : Room k X.A) (hg : Gl X x) (hm : X.mg x = some (.ref f)) (hk : PySem.W.keepIn X.K (.ref f) = true) (hb : Binds X.K fd ps ds) (hd : Vals dvs ds) (hx : Passes CX X E)
    (ha : PA X (e :: es) t) (hdb : (x == ("__debug__" : Str)) = false := by decide) (he : starEach (e :: es) X.env = (false, eval e X.env) :: starEach es X.env := by rfl) (hpl : (backTo pos (starEach es X.env)).any (·.1) = false := by rfl) :
    PE X (.Call (.Name x p) (e :: es) [] pos) (tCall sp dvs E t) := by
  intro pins s σ H Q I h
  refine wpAny_Call_Name_kw (ld_glob I hg hm ?_ hdb)
  refine PySem.W.callWith_K (h₀ := X.base) I.ok.mod.kin hk (thn (ha pos pins s σ H _ I h) fun us s1 ⟨vs, H1, I1, r, q⟩ => ⟨I1.kIn, ?_⟩) he hpl
  exact run_fn F hr hb hd hx I1 r q
theorem pe_call0 (F : FnOk X.prog X.w X.K X.mg X.base CX k f fd ps sp) (hr : Room k X.A) (hg : Gl X x) (hm : X.mg x = some (.ref f)) (hk : PySem.W.keepIn X.K (.ref f) = true) (hb : Binds X.K fd ps ds) (hd : Vals dvs ds) (hx : Passes CX X E)
    (hdb : (x == ("__debug__" : Str)) = false := by decide) : PE X (.Call (.Name x p) [] [] pos) (tCall sp dvs E tNil) := by
  intro pins s σ H Q I h
  refine wpAny_Call_Name_kw (ld_glob I hg hm ?_ hdb)
  exact PySem.W.callWith_K0 I.kIn hk (run_fn (us := []) F hr hb hd hx I .nil h)

/-- o.m(e, ..) -/
theorem pe_meth {pl : Sem Bool} (he : PE X o ta) (c : Cls X.K C) (hm : Meth X.K C m f) (F : FnOk X.prog X.w X.K X.mg X.base CX k f fd ps sp) (hr : Room k X.A) (hb : Binds X.K fd ps ds) (hd : Vals dvs ds) (hx : Passes CX X E) (ha : PA X (e :: es) t)
    (hst : starEach (e :: es) X.env = (false, eval e X.env) :: starEach es X.env := by rfl) (hpl : (backTo pos (starEach es X.env)).any (·.1) = false := by rfl)
    (ht : eval (.Call (.Attribute o m apos) (e :: es) [] pos) X.env = (do
      let ov ← eval o X.env
      standAt apos.atName
      let (f, first) ← holding [ov] (getMethod ov m pl)
      callWith pos f first (backTo pos (starEach (e :: es) X.env)) (backToKw pos (keywordEach [] X.env))) := by rfl) :
    PE X (.Call (.Attribute o m apos) (e :: es) [] pos) (tMeth C m sp dvs E ta t) := by
  intro pins s σ H Q I h
  refine PySem.W.methodCall_KW (pl := pl) (thn (he pins s σ H _ I h) fun u s1 ⟨x, H1, I1, rx, a, dx, fs, ex, ea, l, q⟩ => ?_) ht
  subst ex
  obtain rfl : u = Value.ref a := rx
  refine getmeth_ok I1 ea c hm l ?_
  refine PySem.W.callWith_K (first := [.ref a]) (h₀ := X.base) I.ok.mod.kin hm.kp (thn (ha pos pins s1 σ H1 _ I1 q) fun us s2 ⟨vs, H2, I2, r, q2⟩ => ⟨I2.kIn, ?_⟩) hst hpl
  exact run_fn (us := .ref a :: us) (vs := .ref a :: vs) F hr hb hd hx I2 (.cons rfl r) q2
/-- o.m() -/
theorem pe_meth0 {pl : Sem Bool} (he : PE X o ta) (c : Cls X.K C) (hm : Meth X.K C m f) (F : FnOk X.prog X.w X.K X.mg X.base CX k f fd ps sp) (hr : Room k X.A) (hb : Binds X.K fd ps ds) (hd : Vals dvs ds) (hx : Passes CX X E)
    (ht : eval (.Call (.Attribute o m apos) [] [] pos) X.env = (do
      let ov ← eval o X.env
      standAt apos.atName
      let (f, first) ← holding [ov] (getMethod ov m pl)
      callWith pos f first (backTo pos (starEach [] X.env)) (backToKw pos (keywordEach [] X.env))) := by rfl) :
    PE X (.Call (.Attribute o m apos) [] [] pos) (tMeth C m sp dvs E ta tNil) := by
  intro pins s σ H Q I h
  refine PySem.W.methodCall_KW (pl := pl) (thn (he pins s σ H _ I h) fun u s1 ⟨x, H1, I1, rx, a, dx, fs, ex, ea, l, q⟩ => ?_) ht
  subst ex
  obtain rfl : u = Value.ref a := rx
  refine getmeth_ok I1 ea c hm l ?_
  exact PySem.W.callWith_K0 (first := [.ref a]) I1.kIn hm.kp (run_fn (us := [.ref a]) (vs := [.ref a]) F hr hb hd hx I1 (.cons rfl .nil) q)

/-- what a class must have to be made -/
structure Mk (K : PySem.W.Frag) (C f : Addr) : Prop where
  makes : PySem.W.makesIn K C = true
  init : PySem.W.findIn K (.ref C) "__init__" = some (some (.ref f))
  fn : PySem.W.isFn K (.ref f) = true
  kp : PySem.W.keepIn K (.ref C) = true

theorem run_make {pins : List (Addr × Obj)} {σ : St} {H : Hp} {s : Shared} {Q : VK} {us : List Value} {vs : List V} (M : Mk X.K C f) (F : FnOk X.prog X.w X.K X.mg X.base CX k f fd ps sp) (hr : Room (k + 1) X.A) (hb : Binds X.K fd ps ds) (hd : Vals dvs ds)
    (hx : Passes CX X E) (I : Inv X pins σ H s) (r : Vals vs us)
    (h : ∀ x dx, H x = none → H dx = none → dx ≠ x → sp (.ref x :: (vs ++ dvs)) (upd (upd H dx (.own x)) x (.ins C dx [])) (fun v H2 => v = .non ∧ Q (.ref x) H2) E) :
    wpAny (model X.prog X.w) X.A (call (.ref C) us) (EP X pins σ Q) X.xe s := by
  have hq := h (s.heap.objs.size + 1) s.heap.objs.size (I.hok.fresh (Nat.le_succ _)) (I.hok.fresh (Nat.le_refl _)) (Nat.ne_of_lt (Nat.lt_succ_self _))
  have I2 := Inv.made (C := C) I
  have r2 : Vals (V.ref (s.heap.objs.size + 1) :: (vs ++ dvs)) (Value.ref (s.heap.objs.size + 1) :: (us ++ ds)) := .cons rfl (r.append hd)
  have hl : (Value.ref (s.heap.objs.size + 1) :: us ++ ds).length = ps.length := by
    have e := r2.length
    rw [F.len _ _ _ _ hq] at e
    exact e.symm
  refine wpAny_call (make_map (f := f) I.kIn M.makes M.init (beq_iff_eq.mp M.fn) (codeAny_mono (F.run _ X.stack _ _ ⟨Value.ref (s.heap.objs.size + 1) :: us, []⟩ (Value.ref (s.heap.objs.size + 1) :: (us ++ ds)) _ _ E (hr.make C us [])
    (I2.env0.make C us []) (hb _ (Value.ref (s.heap.objs.size + 1) :: us) I2.kIn hl) r2 hq) fun r s' hq' => ?_))
  cases r with
  | error e => exact hx pins σ _ _ e s' I2 hq'
  | ok fl =>
    cases fl with
    | ret u =>
      obtain ⟨v, H', I3, rv, ev, q3⟩ := I2.after hq'
      subst ev
      exact ⟨rv, ⟨V.ref (s.heap.objs.size + 1), H', I3, rfl, q3⟩⟩
    | next => exact False.elim hq'
    | brk => exact False.elim hq'
    | cont => exact False.elim hq'
theorem pe_make (M : Mk X.K C f) (F : FnOk X.prog X.w X.K X.mg X.base CX k f fd ps sp) (hr : Room (k + 1) X.A) (hg : Gl X x) (hm : X.mg x = some (.ref C)) (hb : Binds X.K fd ps ds) (hd : Vals dvs ds) (hx : Passes CX X E)
    (ha : PA X (e :: es) t) (hdb : (x == ("__debug__" : Str)) = false := by decide) (he : starEach (e :: es) X.env = (false, eval e X.env) :: starEach es X.env := by rfl) (hpl : (backTo pos (starEach es X.env)).any (·.1) = false := by rfl) :
    PE X (.Call (.Name x p) (e :: es) [] pos) (tMake C sp dvs E t) := by
  intro pins s σ H Q I h
  refine wpAny_Call_Name_kw (ld_glob I hg hm ?_ hdb)
  refine PySem.W.callWith_K (h₀ := X.base) I.ok.mod.kin M.kp (thn (ha pos pins s σ H _ I h) fun us s1 ⟨vs, H1, I1, r, q⟩ => ⟨I1.kIn, ?_⟩) he hpl
  exact run_make M F hr hb hd hx I1 r q
theorem pe_make0 (M : Mk X.K C f) (F : FnOk X.prog X.w X.K X.mg X.base CX k f fd ps sp) (hr : Room (k + 1) X.A) (hg : Gl X x) (hm : X.mg x = some (.ref C)) (hb : Binds X.K fd ps ds) (hd : Vals dvs ds) (hx : Passes CX X E)
    (hdb : (x == ("__debug__" : Str)) = false := by decide) : PE X (.Call (.Name x p) [] [] pos) (tMake C sp dvs E tNil) := by
  intro pins s σ H Q I h
  refine wpAny_Call_Name_kw (ld_glob I hg hm ?_ hdb)
  exact PySem.W.callWith_K0 I.kIn M.kp (run_make (us := []) M F hr hb hd hx I .nil h)
end

/-! ### keywords -/
/-- the values of the keywords, from the left -/
def PK (X : Cx) (kws : List Keyword) (t : TA) : Prop :=
  ∀ (pos : Pos) (pins : List (Addr × Obj)) (s : Shared) (σ : St) (H : Hp) (Q : List V → Hp → Prop), Inv X pins σ H s → t σ H Q → wpAny (model X.prog X.w) X.A (evalAll ((backToKw pos (keywordEach kws X.env)).map (·.2))) (AP X pins σ Q) X.xe s
section
variable {X : Cx} {CX : CXT} {k : Nat} {f C : Addr} {fd : FuncData} {ps ks : List Str} {sp : Sp} {E : XK} {x m : Str} {p pos apos kpos : Pos} {e o : Expr} {es : List Expr} {kws : List Keyword} {te ta : TE} {t tk : TA} {nm : Option Str}
theorem pk_nil : PK X [] tNil := fun _ _ _ _ H Q I h => wpAny_evalAll_nil ⟨[], H, I, .nil, h⟩
theorem pk_cons (ha : PE X e te) (hr : PK X kws t) : PK X (⟨nm, e, kpos⟩ :: kws) (tCons te t) := by
  intro pos pins s σ H Q I h
  show wpAny _ _ (evalAll ((do let v ← eval e X.env; standAt pos; pure v) :: (backToKw pos (keywordEach kws X.env)).map (·.2))) _ _ s
  refine wpAny_evalAll_cons (wpAny_bind (thn (ha pins s σ H _ I h) fun u s1 ⟨x, H1, I1, r1, q1⟩ => wpAny_bind (wpAny_standAt (wpAny_pure ?_))))
  exact thn (hr pos pins s1 σ H1 _ I1 q1) fun us s2 ⟨xs, H2, I2, r2, q2⟩ => ⟨x :: xs, H2, I2, .cons r1 r2, q2⟩

/-- how a call with keywords binds: g puts the positional values us and the keywords' values ws (names ks) in the parameters' order, defaults among them -/
structure KBinds (K : PySem.W.Frag) (fd : FuncData) (ps ks : List Str) (g : List Value → List Value → List Value) (gV : List V → List V → List V) : Prop where
  to : ∀ (s : Shared) (us ws : List Value), K.In s.heap → (g us ws).length = ps.length → BindsTo s fd ⟨us, ks.zip ws⟩ (ps.zip (g us ws))
  rel : ∀ {vs : List V} {us : List Value} {zs : List V} {ws : List Value}, Vals vs us → Vals zs ws → Vals (gV vs zs) (g us ws)
def tCallK (sp : Sp) (gV : List V → List V → List V) (E : XK) (t tk : TA) : TE := fun σ H Q => t σ H fun vs H1 => tk σ H1 fun zs H2 => sp (gV vs zs) H2 Q E
variable {g : List Value → List Value → List Value} {gV : List V → List V → List V}
theorem run_fnk {pins : List (Addr × Obj)} {σ : St} {H : Hp} {s : Shared} {Q : VK} {us ws : List Value} {vs zs : List V} (F : FnOk X.prog X.w X.K X.mg X.base CX k f fd ps sp) (hr : Room k X.A) (hb : KBinds X.K fd ps ks g gV) (hx : Passes CX X E)
    (I : Inv X pins σ H s) (r : Vals vs us) (rz : Vals zs ws) (h : sp (gV vs zs) H Q E) : wpAny (model X.prog X.w) X.A (call (.ref f) us (ks.zip ws)) (EP X pins σ Q) X.xe s := by
  have r2 := hb.rel r rz
  have hl : (g us ws).length = ps.length := by rw [← r2.length]; exact F.len _ _ _ _ h
  refine wpAny_call (codeAny_mono (F.run X.A X.stack s H ⟨us, ks.zip ws⟩ (g us ws) (gV vs zs) Q E hr I.env0 (hb.to s us ws I.kIn hl) r2 h) fun r s' hq => ?_)
  cases r with
  | error e => exact hx pins σ H s e s' I hq
  | ok fl =>
    cases fl with
    | ret u => exact I.after hq
    | next => exact False.elim hq
    | brk => exact False.elim hq
    | cont => exact False.elim hq
/-- f(e, .., k = v, ..) -/
theorem pe_callK (F : FnOk X.prog X.w X.K X.mg X.base CX k f fd ps sp) (hr : Room k X.A) (hg : Gl X x) (hm : X.mg x = some (.ref f)) (hk : PySem.W.keepIn X.K (.ref f) = true) (hb : KBinds X.K fd ps ks g gV) (hx : Passes CX X E)
    (ha : PA X (e :: es) t) (hkw : PK X kws tk) (hall : (backToKw pos (keywordEach kws X.env)).all (·.1.isSome) = true := by rfl) (hks : (backToKw pos (keywordEach kws X.env)).filterMap (·.1) = ks := by rfl)
    (hdb : (x == ("__debug__" : Str)) = false := by decide) (he : starEach (e :: es) X.env = (false, eval e X.env) :: starEach es X.env := by rfl)
    (hpl : ((backTo pos (starEach (e :: es) X.env)).any (·.1) || (backToKw pos (keywordEach kws X.env)).any (·.1.isNone)) = false := by rfl) :
    PE X (.Call (.Name x p) (e :: es) kws pos) (tCallK sp gV E t tk) := by
  intro pins s σ H Q I h
  refine wpAny_Call_Name_kw (ld_glob I hg hm ?_ hdb)
  refine PySem.W.callWith_KW (h₀ := X.base) I.ok.mod.kin hk hall (thn (ha pos pins s σ H _ I h) fun us s1 ⟨vs, H1, I1, r, q⟩ => ?_) hpl he
  refine thn (hkw pos pins s1 σ H1 _ I1 q) fun ws s2 ⟨zs, H2, I2, rz, q2⟩ => ⟨I2.kIn, ?_⟩
  rw [hks]
  exact run_fnk F hr hb hx I2 r rz q2
end

/-! ### a def's body keeps its promise -/
/-- names: the parameters first -/
structure FnScope (N P : List Str) (sc : Scope) : Prop where
  kind : sc.kind = .function
  co : sc.isCoroutine = false
  gen : sc.isGenerator = false
  nd : N.Nodup
  pre : N.take P.length = P
  par : ∀ x ∈ P, sc.names.lookup x = some .local ∨ sc.names.lookup x = some .cell
  nofree : ∀ y ∈ sc.names, y.2 ≠ .free

theorem bindL_out {kindOf : Str → Option NameKind} {x : Str} : ∀ {binds : List (Str × Value)} {m : Str → Option Value}, (∀ v, (x, v) ∉ binds) → bindL kindOf binds m x = m x
  | [], _, _ => rfl
  | (n, v) :: r, m, h => by
    unfold bindL
    rw [bindL_out fun w hw => h w (List.mem_cons_of_mem _ hw)]
    split
    · have : x ≠ n := by rintro rfl; exact h v List.mem_cons_self
      simp [this]
    · rfl
theorem bindC_out {kindOf : Str → Option NameKind} {x : Str} : ∀ {binds : List (Str × Value)} {m : Str → Option Value}, (∀ v, (x, v) ∉ binds) → bindC kindOf binds m x = m x
  | [], _, _ => rfl
  | (n, v) :: r, m, h => by
    unfold bindC
    rw [bindC_out fun w hw => h w (List.mem_cons_of_mem _ hw)]
    split
    · rfl
    · have : x ≠ n := by rintro rfl; exact h v List.mem_cons_self
      simp [this]
theorem bindL_get {kindOf : Str → Option NameKind} {x : Str} {v : Value} : ∀ {P : List Str} {vs : List Value} {i : Nat} {m : Str → Option Value}, P.Nodup → P[i]? = some x → vs[i]? = some v → kindOf x = some .local →
    bindL kindOf (P.zip vs) m x = some v
  | [], _, _, _, _, h, _, _ => by simp at h
  | _ :: _, [], _, _, _, _, h, _ => by simp at h
  | p :: P, w :: vs, 0, m, nd, h1, h2, hk => by
    simp at h1 h2; subst h1; subst h2
    show bindL kindOf ((p, w) :: P.zip vs) m p = _
    unfold bindL
    rw [bindL_out fun v hv => (List.nodup_cons.mp nd).1 (List.of_mem_zip hv).1, if_pos hk]
    simp
  | p :: P, w :: vs, i + 1, m, nd, h1, h2, hk => by
    show bindL kindOf ((p, w) :: P.zip vs) m x = _
    unfold bindL
    exact bindL_get (i := i) (List.nodup_cons.mp nd).2 (by simpa using h1) (by simpa using h2) hk
theorem bindC_get {kindOf : Str → Option NameKind} {x : Str} {v : Value} : ∀ {P : List Str} {vs : List Value} {i : Nat} {m : Str → Option Value}, P.Nodup → P[i]? = some x → vs[i]? = some v → kindOf x ≠ some .local →
    bindC kindOf (P.zip vs) m x = some v
  | [], _, _, _, _, h, _, _ => by simp at h
  | _ :: _, [], _, _, _, _, h, _ => by simp at h
  | p :: P, w :: vs, 0, m, nd, h1, h2, hk => by
    simp at h1 h2; subst h1; subst h2
    show bindC kindOf ((p, w) :: P.zip vs) m p = _
    unfold bindC
    rw [bindC_out fun v hv => (List.nodup_cons.mp nd).1 (List.of_mem_zip hv).1, if_neg hk]
    simp
  | p :: P, w :: vs, i + 1, m, nd, h1, h2, hk => by
    show bindC kindOf ((p, w) :: P.zip vs) m x = _
    unfold bindC
    exact bindC_get (i := i) (List.nodup_cons.mp nd).2 (by simpa using h1) (by simpa using h2) hk

/-- the names' values at the entry -/
def start (N : List Str) (vs : List V) : St := vs.map some ++ List.replicate (N.length - vs.length) none

/-- the context of a def's body, at its entry; an exception leaves the frame, then lies as CX says -/
def cxOf (CX : CXT) (P : Program) (w : World) (K : PySem.W.Frag) (mg : Str → Option Value) (base : Heap) (N : List Str) (qual : Str) (scope : Scope) (f : Addr) (cd : Value) (A : Around) (outer : List Env) (s : Shared) (H : Hp) (E : XK) : Cx where
  prog := P
  w := w
  K := K
  mg := mg
  base := base
  A := A.deeper (envOfC qual scope s.heap.objs.size f cd)
  N := N
  s₀ := s
  H₀ := H
  env := envOfC qual scope s.heap.objs.size f cd
  outer := outer
  stack := envOfC qual scope s.heap.objs.size f cd :: outer
  ex := []
  calm := true
  fn := fun _ => true
  pn := []
  xe := fun e s' => wpAny (model P w) (A.deeper (envOfC qual scope s.heap.objs.size f cd)) (leaving (envOfC qual scope s.heap.objs.size f cd) e) (fun _ s'' => CX outer H s E e s'') (fun e' s'' => CX outer H s E e' s'') s'

theorem cell_has {sc : Scope} {n : Nat} {x : Str} (h : sc.names.lookup x = some .cell) : ∃ c, (cellsFrom n sc.names []).lookup x = some c := by
  have q := PySem.W.cellsFrom_some sc.names n [] (.inl h)
  exact Option.isSome_iff_exists.mp q

theorem inv_start {CX : CXT} {P : Program} {w : World} {K : PySem.W.Frag} {mg : Str → Option Value} {base : Heap} {N ps : List Str} {qual : Str} {scope : Scope} {f : Addr} {cd : Value} {A : Around} {outer : List Env} {s s1 : Shared} {H : Hp} {E : XK} {us : List Value} {vs : List V}
    (S : FnScope N ps scope) (hd : A.handled = none) (e0 : Env0 P w K mg base A outer s H) (hl : vs.length = ps.length) (r : Vals vs us)
    (x : InCallC s s.heap.objs.size (bindL (envOfC qual scope s.heap.objs.size f cd).kindOf (ps.zip us) fun _ => none) (cellsFrom (s.heap.objs.size + 1) scope.names []) (bindC (envOfC qual scope s.heap.objs.size f cd).kindOf (ps.zip us) fun _ => none) s1) :
    Inv (cxOf CX P w K mg base N qual scope f cd A outer s H E) [] (start N vs) H s1 := by
  have hpl : ps.length ≤ N.length := by have := congrArg List.length S.pre; rw [List.length_take] at this; omega
  obtain ⟨h1, tk, rfl, hk⟩ := x.done
  have noA : ∀ b : Addr, b ∉ (cxOf CX P w K mg base N qual scope f cd A outer s H E).ex := fun b z => absurd (show b ∈ ([] : List Addr) from z) (by simp)
  refine ⟨⟨e0.mod, S.kind, rfl, rfl, Nat.le_refl _, fun y z c h1 h2 => ?_, fun y hy => ?_, fun y c _ h => ?_, fun _ => hd, Around.frames_deeper e0.frames, .inr ⟨rfl, rfl⟩, fun b z => absurd z (noA b), e0.bs, e0.bsz, fun b _ _ => noA b, fun b z => absurd z (noA b), e0.funs, e0.frf⟩,
    rfl, e0.bare, Un.kept hk, ⟨_, x.toInCall.ns, fun i y v h1 h2 h3 => ?_⟩, fun y c h => ⟨_, x.cell y c h⟩, e0.hok.fresh (Nat.le_refl _), fun y c h => ?_, fun p hp => absurd (show p ∈ ([] : List (Addr × Obj)) from hp) (by simp), e0.hok.kept hk, ?_⟩
  · exact name_of_addr x.apart (PySem.mem_of_lookup h1) (PySem.mem_of_lookup h2)
  · have hy : scope.names.lookup y = some .cell ∨ scope.names.lookup y = some .free := hy
    rcases hy with hy | hy
    · exact cell_has hy
    · exact absurd rfl (S.nofree _ (PySem.mem_of_lookup hy))
  · exact Nat.le_of_lt (x.above y c (PySem.mem_of_lookup h))
  · have hi : i < vs.length := by
      unfold start at h2
      by_cases hi : i < vs.length
      · exact hi
      · rw [List.getElem?_append_right (by simpa using hi)] at h2
        rw [List.getElem?_replicate] at h2
        split at h2 <;> cases h2
    have ha : vs[i]? = some v := by
      unfold start at h2
      rw [List.getElem?_append_left (by simpa using hi), List.getElem?_map] at h2
      cases e : vs[i]? with
      | none => rw [e] at h2; cases h2
      | some a => rw [e] at h2; cases h2; rfl
    obtain ⟨u, hu, rv⟩ := r.get ha
    have hp : ps[i]? = some y := by
      rw [← S.pre, List.getElem?_take_of_lt (by omega)]; exact h1
    have ndP : ps.Nodup := by rw [← S.pre]; exact S.nd.sublist (List.take_sublist _ _)
    refine ⟨u, rv, ?_⟩
    rcases S.par y (List.mem_of_getElem? hp) with k | k
    · exact .inl ⟨k, bindL_get ndP hp hu k⟩
    · obtain ⟨c, e⟩ := cell_has (n := s.heap.objs.size + 1) k
      refine .inr ⟨.inl k, c, e, ?_⟩
      have q := x.cell y c e
      rw [bindC_get ndP hp hu (by show scope.names.lookup y ≠ _; rw [k]; decide)] at q
      exact q
  · exact e0.hok.fresh (Nat.le_of_lt (x.above y c (PySem.mem_of_lookup h)))
  · unfold start
    show _ = N.length
    rw [List.length_append, List.length_map, List.length_replicate]
    omega

/-- THE RULE: a def (or a method) of the text, by its body. The body's reading t is chosen for each entry; it is run at the parameters' values -/
theorem fn_of {CX : CXT} {P : Program} {w : World} {K : PySem.W.Frag} {mg : Str → Option Value} {base : Heap} {k : Nat} {f : Addr} {name qual : Str} {params : Arguments} {body : List Stmt} {scope : Scope} {dV kV doc pm cdv ct oc : Value} {an od : Option Addr}
    {osl : Array (Option Value)} {N ps : List Str} {sp : Sp} (lk : K.lookup f = some ⟨oc, od, .func (PySem.W.fnOf name qual params body scope dV kV doc pm an cdv ct), osl⟩) (hcd : PySem.W.codeIn K cdv qual = true) (S : FnScope N ps scope)
    (len : ∀ vs H Q E, sp vs H Q E → vs.length = ps.length)
    (hbody : ∀ (A : Around) (outer : List Env) (s : Shared) (H : Hp) (vs : List V) (Q : VK) (E : XK), Room k (A.deeper (envOfC qual scope s.heap.objs.size f cdv)) → sp vs H Q E →
      ∃ t, PSs (cxOf CX P w K mg base N qual scope f cdv A outer s H E) body t ∧ t { nx := fun _ H' => Q .non H', rt := Q } (start N vs) H) :
    FnOk P w K mg base CX (k + 1) f (PySem.W.fnOf name qual params body scope dV kV doc pm an cdv ct) ps sp := by
  refine ⟨len, fun A outer s H args us vs Q E hr e0 hb r hsp => ?_⟩
  have hl := len _ _ _ _ hsp
  have KX : K.In s.heap := e0.mod.kin.keeps fun b o e => (e0.bs b o e).1
  have lim : s.heap.NoLimit := e0.mod.nolimit.keeps fun b o e => (e0.bs b o e).1
  have hkind : ∀ y ∈ ps.zip us, scope.names.lookup y.1 = some .local ∨ (scope.names.lookup y.1 = some .cell ∧ ((cellsFrom (s.heap.objs.size + 1) scope.names []).lookup y.1).isSome = true) := fun ⟨n, v⟩ hy => by
    rcases S.par n (List.of_mem_zip hy).1 with q | q
    · exact .inl q
    · exact .inr ⟨q, PySem.W.cellsFrom_some _ _ _ (.inl q)⟩
  refine codeAny_call_function hr.depth (KX _ _ lk) rfl S.co S.gen rfl (PySem.W.codeRec_of KX hcd) (hb _ _ _ _ ?_)
  refine wpAny_newFunctionEnv_cells S.kind hkind fun env he s1 x => ?_
  subst he
  refine ⟨lim.keeps x.toInCall.keep, codeAny_func ?_⟩
  obtain ⟨t, ht, hq⟩ := hbody A outer s H vs Q E (hr.deeper _) hsp
  have I : Inv (cxOf CX P w K mg base N qual scope f cdv A outer s H E) [] (start N vs) H s1 := inv_start S hr.hd e0 hl r x
  refine wpAny_mono (ht [] s1 (start N vs) H _ I hq) (fun fl s' hs => ?_) fun e s' hs => hs
  have fin : ∀ {σ' : St} {H' : Hp} {v : V} {u : Value}, Inv (cxOf CX P w K mg base N qual scope f cdv A outer s H E) [] σ' H' s' → RelV v u → Q v H' → CE outer P w H s Q u s' :=
    fun {σ' H' v u} J rv q => ⟨v, H', J.os, J.bare, J.base, J.hok, rv, q⟩
  cases fl with
  | ret u =>
    obtain ⟨v, σ', H', J, rv, q⟩ := hs
    exact fin J rv q
  | next =>
    obtain ⟨σ', H', J, q⟩ := hs
    exact fin (v := V.non) (u := Value.none) J rfl q
  | brk =>
    obtain ⟨_, _, _, q⟩ := hs
    exact False.elim q
  | cont =>
    obtain ⟨_, _, _, q⟩ := hs
    exact False.elim q
end L2

namespace L2
open PySem PySem.Spec PyProof.Rows
section
variable {X : Cx} {x : Str} {p pos : Pos} {e : Expr} {es : List Expr} {t : TA} {id T : String} {r : List V → Hp → VK → Prop}

def tCB (r : List V → Hp → VK → Prop) (t : TA) : TE := fun σ H Q => t σ H fun vs H1 => r vs H1 Q
/-- f(e, ..), f a built-in function -/
theorem pe_callB (hc : CallR X (.builtin id) r) (hg : Gl X x) (hm : X.mg x = none) (hv : bootBuiltins x = some (.builtin id)) (ha : PA X (e :: es) t) (hn : x ≠ "__name__" := by decide) (hdb : (x == ("__debug__" : Str)) = false := by decide)
    (he : starEach (e :: es) X.env = (false, eval e X.env) :: starEach es X.env := by rfl) (hpl : (backTo pos (starEach es X.env)).any (·.1) = false := by rfl) : PE X (.Call (.Name x p) (e :: es) [] pos) (tCB r t) := by
  intro pins s σ H Q I h
  refine wpAny_Call_Name_kw (ld_blt I hg hm hv ?_ hn hdb)
  exact PyProof.Rows.callWith_builtin1 (thn (ha pos pins s σ H _ I h) fun us s1 ⟨vs, H1, I1, r1, q1⟩ => hc pins s1 σ H1 vs us Q I1 r1 q1) he hpl
/-- T(e, ..), T a built-in type -/
theorem pe_callTy (hc : CallR X (.type T) r) (hg : Gl X x) (hm : X.mg x = none) (hv : bootBuiltins x = some (.type T)) (ha : PA X (e :: es) t) (hn : x ≠ "__name__" := by decide) (hdb : (x == ("__debug__" : Str)) = false := by decide)
    (he : starEach (e :: es) X.env = (false, eval e X.env) :: starEach es X.env := by rfl) (hpl : (backTo pos (starEach es X.env)).any (·.1) = false := by rfl) : PE X (.Call (.Name x p) (e :: es) [] pos) (tCB r t) := by
  intro pins s σ H Q I h
  refine wpAny_Call_Name_kw (ld_blt I hg hm hv ?_ hn hdb)
  exact PyProof.Rows.callWith_type1 (thn (ha pos pins s σ H _ I h) fun us s1 ⟨vs, H1, I1, r1, q1⟩ => hc pins s1 σ H1 vs us Q I1 r1 q1) he hpl
/-- T() -/
theorem pe_callTy0 (hc : CallR X (.type T) r) (hg : Gl X x) (hm : X.mg x = none) (hv : bootBuiltins x = some (.type T)) (hn : x ≠ "__name__" := by decide) (hdb : (x == ("__debug__" : Str)) = false := by decide) :
    PE X (.Call (.Name x p) [] [] pos) (tCB r tNil) := by
  intro pins s σ H Q I h
  refine wpAny_Call_Name_kw (ld_blt I hg hm hv ?_ hn hdb)
  exact PyProof.Rows.callWith_type0 (hc pins s σ H [] [] Q I .nil h)
end
end L2

namespace HT
open PySem PyProof.Rows

/-- t < u of tuples of ints -/
def lexLt : List Int → List Int → Bool
  | [], [] => false
  | [], _ :: _ => true
  | _ :: _, [] => false
  | x :: xs, y :: ys => if x = y then lexLt xs ys else decide (x < y)
theorem lexLt_cons (x y : Int) (xs ys : List Int) : lexLt (x :: xs) (y :: ys) = if x = y then lexLt xs ys else decide (x < y) := rfl
theorem lexLt_nil_nil : lexLt [] [] = false := rfl
theorem lexLt_nil_cons (y : Int) (ys : List Int) : lexLt [] (y :: ys) = true := rfl
theorem lexLt_cons_nil (x : Int) (xs : List Int) : lexLt (x :: xs) [] = false := rfl

theorem eqAt_int (A : Around) (s : Shared) (a : Int) (t : Tok) (c : Int) (u : Tok) : ∃ e, SeqAt.EqAt A s (.int a t) (.int c u) e ∧ (e = true ↔ a = c) :=
  ⟨(a == c), SeqAt.EqAt.int_int a t c u, by simp⟩
theorem rcLt_int (A : Around) (s : Shared) (a : Int) (t : Tok) (c : Int) (u : Tok) (prog : Program) (w : World) (E : Value → Shared → Prop) (Q : Value → Shared → Prop) (h : Q (.bool (decide (a < c))) s) :
    wpAny (model prog w) A (richCompare .Lt (.int a t) (.int c u)) Q E s :=
  (PyProof.Rows.lt_int h : wpAny (model prog w) A (compareOp .Lt (.int a t) (.int c u)) Q E s)

section
open PySem.SeqAt
open PySem.AutoSeq1 (wpAny_loadPart')
open PySem.MeetsSeq PySem.MeetsSeq2 PySem.MeetsSeq3

theorem tuple_lt_ints (l b : Addr) (items items2 : Array Value) (n n2 : Nat) (dd dd2 : Option Addr) (sl sl2 : Array (Option Value)) (ns ms : List Int) (hi : IntsAre items.toList ns) (hj : IntsAre items2.toList ms) :
    Meets (Builtin.«tuple.__lt__» ⟨[.ref l, .ref b], []⟩)
      (fun _ R s => s.heap.get? l = some { cls := .type "tuple", dict := dd, data := .seq items n, slots := sl } ∧ s.heap.get? b = some { cls := .type "tuple", dict := dd2, data := .seq items2 n2, slots := sl2 } ∧
        R (.ok (.ret (.bool (lexLt ns ms)))) s) :=
  .of_wp fun prog w A R s h => by
    obtain ⟨hp, g, d, tk, os⟩ := s; obtain ⟨hl, hb, h⟩ := h
    have f2 := AutoSeq1.sub_tuple_tuple
    have z1 : items.size = ns.length := by rw [← hi.length]; simp
    have z2 : items2.size = ms.length := by rw [← hj.length]; simp
    wp_walk using wpAny_loadPart' hl, wpAny_loadPart' hb, wpAny_forIn_list _ (fun rest b s' => b.1 = none ∧ s' = ⟨hp, g, d, tk, os⟩ ∧ ∃ (vs ws : List Value) (ns' ms' : List Int), rest = vs.zip ws ∧
      IntsAre vs ns' ∧ IntsAre ws ms' ∧ ns'.length + items2.size = ms'.length + items.size ∧ R (.ok (.ret (.bool (lexLt ns' ms')))) ⟨hp, g, d, tk, os⟩) _
    case turn =>
      rintro ⟨y, x⟩ rest b s' ⟨hb', rfl, vs, ws, ns', ms', hz, hvi, hwi, hlen, hR⟩
      cases hvi with
      | nil => rw [List.zip_nil_left] at hz; cases hz
      | cons a t hvi' =>
        cases hwi with
        | nil => rw [List.zip_nil_right] at hz; cases hz
        | cons c u hwi' =>
          rw [List.zip_cons_cons] at hz
          injection hz with hyx hrest
          injection hyx with hy hx
          subst hy hx
          rw [lexLt_cons] at hR
          simp only [List.length_cons] at hlen
          obtain ⟨e, he, hiff⟩ := eqAt_int A.in1 ⟨hp, g, d, tk, os⟩ a t c u
          refine wpAny_bind (he prog w _ _ ?_)
          cases e with
          | true =>
            rw [if_pos (hiff.mp rfl)] at hR
            wp_walk
            exact ⟨rfl, rfl, _, _, _, _, hrest, hvi', hwi', by omega, hR⟩
          | false =>
            rw [if_neg (fun q => absurd (hiff.mpr q) Bool.false_ne_true)] at hR
            have hri := rcLt_int A.in1 ⟨hp, g, d, tk, os⟩ a t c u prog w
            wp_walk using hri
            exact ⟨_, rfl, by simpa using hR⟩
    case fin =>
      rintro ⟨b1, b2⟩ s' ⟨hb', rfl, vs, ws, ns', ms', hz, hvi, hwi, hlen, hR⟩
      simp only at hb'
      subst hb'
      have hv : lexLt ns' ms' = decide (items.size < items2.size) := by
        cases hvi with
        | nil =>
          cases hwi with
          | nil =>
            simp only [List.length_nil] at hlen
            rw [lexLt_nil_nil]
            exact (decide_eq_false (by omega)).symm
          | cons c u hw =>
            simp only [List.length_nil, List.length_cons] at hlen
            rw [lexLt_nil_cons]
            exact (decide_eq_true (by omega)).symm
        | cons a t hv =>
          cases hwi with
          | nil =>
            simp only [List.length_nil, List.length_cons] at hlen
            rw [lexLt_cons_nil]
            exact (decide_eq_false (by omega)).symm
          | cons c u hw =>
            rw [List.zip_cons_cons] at hz
            cases hz
      rw [hv] at hR
      wp_walk
      exact ⟨_, rfl, by simpa [Builtin.Tuple.tupleCompareSizes] using hR⟩
    case h =>
      exact ⟨rfl, rfl, items.toList, items2.toList, ns, ms, rfl, hi, hj, by omega, h⟩
end

section
variable {prog : Program} {w : World} {A : Around} {E : Value → Shared → Prop} {s : Shared}

theorem lt_tupInts {l b : Addr} {items items2 : Array Value} {ns ms : List Int} {Q : Value → Shared → Prop} (hl : IsTup s.heap l items) (hb : IsTup s.heap b items2) (hi : IntsAre items.toList ns) (hj : IntsAre items2.toList ms)
    (hu : A.units < cLine) (h : Q (.bool (lexLt ns ms)) s) : wpAny (model prog w) A (compareOp .Lt (.ref l) (.ref b)) Q E s := by
  obtain ⟨⟨cls, dd, data, sl⟩, ho, hc, n, hd⟩ := id hl
  obtain ⟨⟨cls2, dd2, data2, sl2⟩, ho2, hc2, n2, hd2⟩ := id hb
  simp only at hc hd hc2 hd2
  subst hc hd hc2 hd2
  exact richCompare_meets_room (op := .Lt) ⟨_, ho, rfl⟩ ⟨_, ho2, rfl⟩ PySem.F.slot_tuple_lt PySem.F.entry_tuple_lt (PySem.F.args_tuple_lt_2 _ _) (tuple_lt_ints l b items items2 n n2 dd dd2 sl sl2 ns ms hi hj)
    ⟨ho, ho2, show Value.bool (lexLt ns ms) ≠ Value.notImplemented ∧ Q (.bool (lexLt ns ms)) s from ⟨(fun x => nomatch x), h⟩⟩ hu

/-- t + u, t not empty -/
theorem cat_tup {t b : Addr} {vs ws : List Value} {Q : Value → Shared → Prop} (ht : IsTup s.heap t vs.toArray) (hb : IsTup s.heap b ws.toArray) (hv : vs ≠ [])
    (h1 : ws = [] → Q (.ref t) s) (h2 : ws ≠ [] → Q (.ref s.heap.objs.size) { s with heap := s.heap.push { cls := .type "tuple", data := .seq (vs ++ ws).toArray } })
    (hsz : vs.length + ws.length ≤ sizeLine) : wpAny (model prog w) A (binaryOp .Add (.ref t) (.ref b)) Q E s := by
  obtain ⟨⟨cls, dd, data, sl⟩, ho, hc, n, hd⟩ := id ht
  obtain ⟨⟨cls2, dd2, data2, sl2⟩, ho2, hc2, n2, hd2⟩ := id hb
  simp only at hc hd hc2 hd2
  subst hc hd hc2 hd2
  have e : vs.toArray ++ ws.toArray = (vs ++ ws).toArray := by simp
  by_cases hw : ws = []
  · exact concat_meets ⟨_, ho, rfl⟩ ⟨_, ho2, rfl⟩ noFill_tuple_add seq_tuple_add PySem.F.slot_tuple_add PySem.F.entry_tuple_add (PySem.F.args_tuple_add_2 _ _)
      (tuple_addW1 t b vs.toArray ws.toArray n n2 dd dd2 sl sl2 (by simpa using hv) (by simp [hw])) ⟨ho, ho2, h1 hw⟩
  · refine concat_meets ⟨_, ho, rfl⟩ ⟨_, ho2, rfl⟩ noFill_tuple_add seq_tuple_add PySem.F.slot_tuple_add PySem.F.entry_tuple_add (PySem.F.args_tuple_add_2 _ _)
      (tuple_addW2 t b vs.toArray ws.toArray n n2 dd dd2 sl sl2 (by simpa using hv) (by simpa using hw) (by rw [List.size_toArray, List.size_toArray]; exact hsz)) ⟨ho, ho2, ?_⟩
    rw [e]
    exact h2 hw

/-! ### t[a:b], not the whole -/
/-- a slice's bound as a place among n (d where it is left out) -/
def sIx (n d : Nat) : Option Int → Nat
  | none => d
  | some v => if v < 0 then (v + (n : Int)).toNat else min v.toNat n
theorem sIx_none (n d : Nat) : sIx n d none = d := rfl
theorem sIx_nat (n d k : Nat) : sIx n d (some (k : Int)) = min k n := by
  show (if (k : Int) < 0 then ((k : Int) + (n : Int)).toNat else min (k : Int).toNat n) = min k n
  rw [if_neg (by omega), Int.toNat_natCast]
theorem sIx_le (n d : Nat) (hd : d ≤ n) (o : Option Int) : sIx n d o ≤ n := by
  cases o with
  | none => exact hd
  | some v =>
    show (if v < 0 then (v + (n : Int)).toNat else min v.toNat n) ≤ n
    by_cases hv : v < 0
    · rw [if_pos hv]; omega
    · rw [if_neg hv]; exact Nat.min_le_right _ _
theorem clip_eq (v : Int) (n d : Nat) : (if v < 0 then max (v + (n : Int)) 0 else min v (n : Int)) = ((sIx n d (some v) : Nat) : Int) := by
  show (if v < 0 then max (v + (n : Int)) 0 else min v (n : Int)) = (((if v < 0 then (v + (n : Int)).toNat else min v.toNat n) : Nat) : Int)
  by_cases hv : v < 0
  · simp only [if_pos hv]; omega
  · simp only [if_neg hv]; omega
theorem adjust_gen (lo hi : Option Int) (n : Nat) : Builtin.Slice.sliceAdjust lo hi 1 (n : Int) = (((sIx n 0 lo : Nat) : Int), ((sIx n n hi : Nat) : Int)) := by
  have h1 : ¬ ((1 : Int) < 0) := by omega
  unfold Builtin.Slice.sliceAdjust
  simp only [h1, if_false]
  refine Prod.ext ?_ ?_
  · cases lo with
    | none => rfl
    | some v => exact clip_eq v n 0
  · cases hi with
    | none => rfl
    | some v => exact clip_eq v n n
theorem places_gen (i j : Nat) : Builtin.Slice.slicePlaces (i : Int) (j : Int) 1 = j - i := by
  unfold Builtin.Slice.slicePlaces
  have h1 : (1 : Int) > 0 := by omega
  simp only [h1, if_true, Int.ediv_one]
  split <;> omega
theorem slicePart_ {v : Value} {o : Option Int} {Q : Option Int → Shared → Prop} (p : IsPart v o) (h : Q o s) : wpAny (model prog w) A (Builtin.Slice.slicePartIndex v) Q E s := by
  cases p with
  | none => exact slicePart_none h
  | int i t => exact slicePart_int h
theorem sliceApplied_gen {sl : Addr} {vl vu : Value} {lo hi : Option Int} {n : Nat} {Q : Int × Int × Nat → Shared → Prop} (hs : s.heap.IsSliceOf sl vl vu .none) (pl : IsPart vl lo) (pu : IsPart vu hi)
    (h : Q (((sIx n 0 lo : Nat) : Int), 1, sIx n n hi - sIx n 0 lo) s) : wpAny (model prog w) A (Builtin.Slice.sliceApplied (.ref sl) (pure (n : Int))) Q E s := by
  obtain ⟨os, hos, hcs, hds⟩ := id hs
  unfold Builtin.Slice.sliceApplied Builtin.Slice.sliceFields
  refine wpAny_bind (wpAny_bind (wpAny_field hos hds (x := vl) rfl (wpAny_bind (wpAny_field hos hds (x := vu) rfl (wpAny_bind (wpAny_field hos hds (x := .none) rfl (wpAny_pure ?_)))))))
  refine wpAny_bind (slicePart_none ?_)
  show wpAny _ _ (if ((1 : Int) == 0) = true then _ else _) _ _ s
  rw [if_neg (by decide)]
  refine wpAny_bind (slicePart_ pl (wpAny_bind (slicePart_ pu (wpAny_bind (wpAny_pure ?_)))))
  show wpAny _ _ (match Builtin.Slice.sliceAdjust lo hi 1 (n : Int) with | (lo, hi) => pure (lo, (1 : Int), Builtin.Slice.slicePlaces lo hi 1)) _ _ s
  rw [adjust_gen lo hi n]
  show wpAny _ _ (pure (((sIx n 0 lo : Nat) : Int), (1 : Int), Builtin.Slice.slicePlaces ((sIx n 0 lo : Nat) : Int) ((sIx n n hi : Nat) : Int) 1)) _ _ s
  rw [places_gen]
  exact wpAny_pure h
theorem pick_gen (xs : Array Value) (i k : Nat) : ((List.range k).filterMap fun (m : Nat) => xs[((i : Int) + (m : Int) * 1).toNat]?).toArray = ((xs.toList.drop i).take k).toArray := by
  have e : (fun (m : Nat) => xs[((i : Int) + (m : Int) * 1).toNat]?) = fun m => xs[i + m]? := by
    funext m
    have : ((i : Int) + (m : Int) * 1).toNat = i + m := by omega
    rw [this]
  rw [e]
  have := pick_run xs i k
  rw [List.filterMap_map] at this
  have e2 : ((fun x => xs[x]?) ∘ fun x => i + x) = fun m => xs[i + m]? := rfl
  rw [e2] at this
  rw [this]

theorem getItem_tuple_cut {t sl : Addr} {items : Array Value} {vl vu : Value} {lo hi : Option Int} {Q : Value → Shared → Prop} (ht : IsTup s.heap t items) (hs : s.heap.IsSliceOf sl vl vu .none) (pl : IsPart vl lo) (pu : IsPart vu hi)
    (hw : ¬ (sIx items.size 0 lo = 0 ∧ sIx items.size items.size hi = items.size))
    (h : Q (.ref s.heap.objs.size) { s with heap := s.heap.push { cls := .type "tuple", data := .seq ((items.toList.drop (sIx items.size 0 lo)).take (sIx items.size items.size hi - sIx items.size 0 lo)).toArray } })
    (hsz : items.size ≤ sizeLine) : wpAny (model prog w) A (getItem (.ref t) (.ref sl)) Q E s := by
  have htake : sizeOk (.seq ((items.toList.drop (sIx items.size 0 lo)).take (sIx items.size items.size hi - sIx items.size 0 lo)).toArray) := by
    show ((items.toList.drop (sIx items.size 0 lo)).take (sIx items.size items.size hi - sIx items.size 0 lo)).toArray.size ≤ sizeLine
    rw [List.size_toArray, List.length_take, List.length_drop, Array.length_toList]
    omega
  have hj : sIx items.size items.size hi ≤ items.size := sIx_le _ _ (Nat.le_refl _) hi
  obtain ⟨os, hos, hcs, hds⟩ := id hs
  have hTs : s.TypeIs (.ref sl) "slice" := ⟨os, hos, hcs⟩
  unfold getItem
  try with_reducible refine wpAny_holding ?_
  first | refine wpAny_bind (wpAny_pure ?_) | skip
  refine wpAny_bind (wpAny_sequenceKey ht.typeIs (by decide) ?_)
  refine wpAny_bind (wpAny_callSpecial?_slot (name := Str.ofString "__getitem__") ht.typeIs PyProof.Rows.slot_tuple_getitem
    (wpAny_call_entry PyProof.Rows.slot_tuple_getitem ht.typeIs entry_tuple_getitem ?_ (args_tuple_getitem _ _)))
  show wpAny _ _ (Builtin.Tuple.tupleItemsOf (.ref t) >>= _) _ _ s
  refine wpAny_bind (tupleItemsOf_ ht ?_)
  refine wpAny_bind (wpAny_typeOf hTs ?_)
  rw [if_pos (by decide)]
  refine wpAny_bind (sliceApplied_gen hs pl pu ?_)
  have hno : ¬ ((((sIx items.size 0 lo : Nat) : Int) == 0 && (1 : Int) == 1 && (sIx items.size items.size hi - sIx items.size 0 lo) == items.size) = true) := by
    intro q
    rw [Bool.and_eq_true, Bool.and_eq_true] at q
    have q1 : ((sIx items.size 0 lo : Nat) : Int) = 0 := eq_of_beq q.1.1
    have q2 : sIx items.size items.size hi - sIx items.size 0 lo = items.size := eq_of_beq q.2
    exact hw ⟨by omega, by omega⟩
  show wpAny _ _ (if (((sIx items.size 0 lo : Nat) : Int) == 0 && (1 : Int) == 1 && (sIx items.size items.size hi - sIx items.size 0 lo) == items.size) = true then _ else _) _ _ s
  rw [if_neg hno, pick_gen]
  first
    | exact wpAny_bind (m := Builtin.Tuple.tupleExact _) (wpAny_newObj_type (wpAny_pure ⟨_, rfl, wpAny_pure h⟩) htake)
    | exact wpAny_bind (m := Builtin.Tuple.tupleExact _) (wpAny_newObj_type (wpAny_bind (wpAny_pure (wpAny_pure ⟨_, rfl, wpAny_pure h⟩))) htake)
    | exact wpAny_bind (wpAny_bind (m := Builtin.Tuple.tupleExact _) (wpAny_newObj_type (wpAny_pure (wpAny_pure ⟨_, rfl, wpAny_pure h⟩)) htake))
    | exact wpAny_bind (wpAny_bind (m := Builtin.Tuple.tupleExact _) (wpAny_newObj_type (wpAny_pure ⟨_, rfl, wpAny_pure h⟩) htake))
end
end HT

namespace L2
open PySem PySem.Spec PyProof.Rows

/-! ### the parts of a slice -/
abbrev TO := St → Hp → (Option Int → Hp → Prop) → Prop
/-- a slice's part (left out, or an int) -/
def PO (X : Cx) (e : Option Expr) (t : TO) : Prop :=
  ∀ (pins : List (Addr × Obj)) (s : Shared) (σ : St) (H : Hp) (Q : Option Int → Hp → Prop), Inv X pins σ H s → t σ H Q →
    wpAny (model X.prog X.w) X.A (evalPart e X.env) (fun u s' => ∃ o H', Inv X pins σ H' s' ∧ IsPart u o ∧ Q o H') X.xe s
def tNoPart : TO := fun _ H Q => Q none H
def tPart (t : TE) : TO := fun σ H Q => t σ H fun x H1 => ∃ i, x = .int i ∧ Q (some i) H1

theorem intsAre_of {ns : List Int} : ∀ {us : List Value}, Vals (ns.map V.int) us → IntsAre us ns := by
  induction ns with
  | nil => intro us r; rw [List.map_nil] at r; cases r; exact .nil
  | cons n ns ih =>
    intro us r
    rw [List.map_cons] at r
    cases r with
    | cons r1 r2 =>
      obtain ⟨t, e⟩ := r1
      subst e
      exact .cons n t (ih r2)

section
variable {X : Cx} {e : Expr} {te : TE} {lo hi : Option Expr} {tl th : TO} {pos p2 : Pos}

theorem po_none : PO X none tNoPart := by
  intro pins s σ H Q I h
  rw [evalPart_none]
  exact wpAny_pure ⟨none, H, I, .none, h⟩
theorem po_some (h : PE X e te) : PO X (some e) (tPart te) := by
  intro pins s σ H Q I hw
  rw [evalPart_some]
  refine thn (h pins s σ H _ I hw) fun u s1 ⟨x, H1, I1, r1, q1⟩ => ?_
  obtain ⟨i, rfl, q⟩ := q1
  obtain ⟨t, rfl⟩ := r1
  exact ⟨some i, H1, I1, .int i t, q⟩

/-- what a slice of a value is, by values: the slice object stands at sl -/
def SlR (X : Cx) (r : V → Option Int → Option Int → Hp → VK → Prop) : Prop :=
  ∀ (pins : List (Addr × Obj)) (s : Shared) (σ : St) (H : Hp) (x : V) (v vl vu : Value) (lo hi : Option Int) (sl : Addr) (Q : VK), Inv X pins σ H s → RelV x v → s.heap.IsSliceOf sl vl vu .none → IsPart vl lo → IsPart vu hi → r x lo hi H Q →
    ∃ T id, typeLookup (.type T) "__getitem__" = pure (some (.builtin id)) ∧ s.TypeIs v T ∧ wpAny (model X.prog X.w) X.A (getItem v (.ref sl)) (EP X pins σ Q) X.xe s
theorem SlR.or {r r' : V → Option Int → Option Int → Hp → VK → Prop} (h : SlR X r) (h' : SlR X r') : SlR X (fun x lo hi H Q => r x lo hi H Q ∨ r' x lo hi H Q) := by
  intro pins s σ H x v vl vu lo hi sl Q I rx hs pl pu q
  rcases q with q | q
  · exact h pins s σ H x v vl vu lo hi sl Q I rx hs pl pu q
  · exact h' pins s σ H x v vl vu lo hi sl Q I rx hs pl pu q
def tSl (r : V → Option Int → Option Int → Hp → VK → Prop) (te : TE) (tl th : TO) : TE := fun σ H Q => te σ H fun x H1 => tl σ H1 fun l H2 => th σ H2 fun u H3 => r x l u H3 Q
/-- a[lo:hi], any a -/
theorem pe_slice {r : V → Option Int → Option Int → Hp → VK → Prop} (hr : SlR X r) (he : PE X e te) (hl : PO X lo tl) (hu : PO X hi th) : PE X (.Subscript e (.Slice lo hi none p2) pos) (tSl r te tl th) := by
  intro pins s σ H Q I h
  refine Subscript_ (thn (he pins s σ H _ I h) fun v s1 ⟨x, H1, I1, r1, q1⟩ => ?_)
  refine wpAny_Slice (thn (hl pins s1 σ H1 _ I1 q1) fun vl s2 ⟨l, H2, I2, pl, q2⟩ => thn (hu pins s2 σ H2 _ I2 q2) fun vu s3 ⟨u, H3, I3, pu, q3⟩ => ?_)
  rw [evalPart_none]
  refine wpAny_pure ?_
  have I4 : Inv X pins σ H3 { s3 with heap := s3.heap.push { cls := .type "slice", data := .fields #[vl, vu, .none] } } := I3.kept (t' := s3.toks) fun b ob q => Heap.get?_push_of_some _ q
  obtain ⟨T, id, hT, ht, hg⟩ := hr pins { s3 with heap := s3.heap.push { cls := .type "slice", data := .fields #[vl, vu, .none] } } σ H3 x v vl vu l u s3.heap.objs.size Q I4 r1 (Heap.IsSliceOf.new ..) pl pu q3
  show wpAny (model X.prog X.w) X.A (subscriptTail e (.Slice lo hi none p2) v (.ref s3.heap.objs.size)) (EP X pins σ Q) X.xe { s3 with heap := s3.heap.push { cls := .type "slice", data := .fields #[vl, vu, .none] } }
  exact tail_any (ops := [.ref s3.heap.objs.size, v]) ht hT hg (by with_unfolding_all rfl)

/-- the items of xs[lo:hi] -/
def cutV (xs : List V) (lo hi : Option Int) : List V := (xs.drop (HT.sIx xs.length 0 lo)).take (HT.sIx xs.length xs.length hi - HT.sIx xs.length 0 lo)
theorem cutV_length (xs : List V) (lo hi : Option Int) : (cutV xs lo hi).length ≤ xs.length := by
  unfold cutV
  rw [List.length_take, List.length_drop]
  omega
/-- t[lo:hi], not the whole of it (the whole would be t itself) -/
def rSlT (K : PySem.W.Frag) : V → Option Int → Option Int → Hp → VK → Prop := fun x lo hi H Q => ∃ a xs, x = .ref a ∧ SqT K H a xs ∧
  ¬ (HT.sIx xs.length 0 lo = 0 ∧ HT.sIx xs.length xs.length hi = xs.length) ∧ ∀ p, H p = none → Q (.ref p) (upd H p (.tup (cutV xs lo hi)))
theorem sl_tup : SlR X (rSlT X.K) := by
  intro pins s σ H x v vl vu lo hi sl Q I rx hs pl pu h
  obtain ⟨a, xs, rfl, hx, hw, q⟩ := h
  cases rx
  obtain ⟨its, r, ht, hz⟩ := I.tuple hx
  have hlen : its.toArray.size = xs.length := by rw [List.size_toArray]; exact r.length.symm
  refine ⟨"tuple", _, PyProof.Rows.slot_tuple_getitem.lookup, ht.typeIs, ?_⟩
  refine HT.getItem_tuple_cut ht hs pl pu (by rw [hlen]; exact hw) ?_ (by rw [hlen]; exact hz)
  rw [hlen]
  refine ⟨.ref s.heap.objs.size, _, I.laid (t' := s.toks) (o := .tup (cutV xs lo hi)) (fun b ob q => Heap.get?_push_of_some _ q) (Nat.le_refl _) ?_, rfl, q _ (I.hok.fresh (Nat.le_refl _))⟩
  exact ⟨Nat.le_trans (cutV_length xs lo hi) hz, _, (r.drop (HT.sIx xs.length 0 lo)).take (HT.sIx xs.length xs.length hi - HT.sIx xs.length 0 lo), IsTup.new _ _⟩

/-! ### t < u, t + u -/
def rLtT (K : PySem.W.Frag) : R2 := fun x y H Q => ∃ a b ns ms, x = .ref a ∧ y = .ref b ∧ SqT K H a (ns.map V.int) ∧ SqT K H b (ms.map V.int) ∧ Q (.bl (HT.lexLt ns ms)) H
theorem op_ltT (hu : X.A.units < cLine) : OpR X (compareOp .Lt) (rLtT X.K) := by
  intro pins s σ H x y v u Q I rx ry h
  obtain ⟨a, b, ns, ms, rfl, rfl, ha, hb, q⟩ := h
  cases rx
  cases ry
  obtain ⟨its, r1, p1, _⟩ := I.tuple ha
  obtain ⟨its2, r2, p2, _⟩ := I.tuple hb
  have i1 : IntsAre its.toArray.toList ns := intsAre_of r1
  have i2 : IntsAre its2.toArray.toList ms := intsAre_of r2
  exact HT.lt_tupInts p1 p2 i1 i2 hu ⟨.bl (HT.lexLt ns ms), H, I, rfl, q⟩
/-- t + u, t not empty: u empty gives t itself -/
def rCatT (K : PySem.W.Frag) : R2 := fun x y H Q => ∃ a b xs ys, x = .ref a ∧ y = .ref b ∧ SqT K H a xs ∧ SqT K H b ys ∧ xs ≠ [] ∧ xs.length + ys.length ≤ sizeLine ∧
  (ys = [] → Q (.ref a) H) ∧ (ys ≠ [] → ∀ p, H p = none → Q (.ref p) (upd H p (.tup (xs ++ ys))))
theorem Vals.nil_iff {xs : List V} {us : List Value} (r : Vals xs us) : us = [] ↔ xs = [] := by
  cases r with
  | nil => simp
  | cons _ _ => simp
theorem op_catT : OpR X (binaryOp .Add) (rCatT X.K) := by
  intro pins s σ H x y v u Q I rx ry h
  obtain ⟨a, b, xs, ys, rfl, rfl, ha, hb, hx, hz, q1, q2⟩ := h
  cases rx
  cases ry
  obtain ⟨its, r1, p1, _⟩ := I.tuple ha
  obtain ⟨its2, r2, p2, _⟩ := I.tuple hb
  refine HT.cat_tup p1 p2 (fun z => hx (r1.nil_iff.mp z)) (fun z => ⟨.ref a, H, I, rfl, q1 (r2.nil_iff.mp z)⟩) (fun z => ?_) (by rw [← r1.length, ← r2.length]; exact hz)
  refine ⟨.ref s.heap.objs.size, _, I.laid (t' := s.toks) (o := .tup (xs ++ ys)) (fun b ob q => Heap.get?_push_of_some _ q) (Nat.le_refl _) ?_, rfl, q2 (fun w => z (r2.nil_iff.mpr w)) _ (I.hok.fresh (Nat.le_refl _))⟩
  exact ⟨by rw [List.length_append]; exact hz, _, r1.append r2, IsTup.new _ _⟩
/-- tuple(t) -/
theorem call_tupleT : CallR X (.type "tuple") (fun xs H Q => ∃ a ys, xs = [.ref a] ∧ SqT X.K H a ys ∧ Q (.ref a) H) := by
  intro pins s σ H xs us Q I r h
  obtain ⟨a, ys, rfl, ha, q⟩ := h
  obtain ⟨u, rfl, ru⟩ := vals1 r
  cases ru
  obtain ⟨its, _, p1, _⟩ := I.tuple ha
  exact call_tuple_same (items := its.toArray) p1 ⟨.ref a, H, I, rfl, q⟩
end
end L2

namespace L2
open PySem PySem.Spec PyProof.Rows

/-! ### places -/
/-- the place that an index of any sign means -/
def ixN (n : Nat) (i : Int) : Option Nat := if 0 ≤ i then (if i < n then some i.toNat else none) else if -(n : Int) ≤ i then some (i + n).toNat else none
def atI {α : Type} (xs : List α) (i : Int) : Option α := (ixN xs.length i).bind fun j => xs[j]?
theorem ixN_seq {n : Nat} {i : Int} {j : Nat} (h : ixN n i = some j) : seqIndex? i n = some j ∧ j < n ∧ -(n : Int) ≤ i ∧ i < n := by
  unfold ixN at h
  by_cases h0 : 0 ≤ i
  · rw [if_pos h0] at h
    by_cases h1 : i < n
    · rw [if_pos h1] at h
      have e : i.toNat = j := Option.some.inj h
      exact ⟨by rw [seqIndex_of h0 h1, e], by omega, by omega, h1⟩
    · rw [if_neg h1] at h; cases h
  · rw [if_neg h0] at h
    by_cases h1 : -(n : Int) ≤ i
    · rw [if_pos h1] at h
      have e : (i + n).toNat = j := Option.some.inj h
      exact ⟨by rw [seqIndex_neg (by omega) h1, e], by omega, h1, by omega⟩
    · rw [if_neg h1] at h; cases h
theorem atI_get {α : Type} {xs : List α} {i : Int} {v : α} (h : atI xs i = some v) : ∃ j, seqIndex? i xs.length = some j ∧ xs[j]? = some v ∧ j < xs.length ∧ -(xs.length : Int) ≤ i ∧ i < xs.length := by
  unfold atI at h
  cases e : ixN xs.length i with
  | none => rw [e] at h; cases h
  | some j =>
    rw [e] at h
    obtain ⟨h1, h2, h3, h4⟩ := ixN_seq e
    exact ⟨j, h1, h, h2, h3, h4⟩
theorem atI_nat {α : Type} {xs : List α} {j : Nat} {v : α} (h : xs[j]? = some v) : atI xs (j : Int) = some v := by
  have hj : j < xs.length := (List.getElem?_eq_some_iff.mp h).1
  have e : ixN xs.length (j : Int) = some j := by
    unfold ixN
    rw [if_pos (by omega), if_pos (by omega)]; simp
  unfold atI; rw [e]; exact h
theorem atI_last {α : Type} (xs : List α) (v : α) : atI (xs ++ [v]) (-1) = some v := by
  have hl : (xs ++ [v]).length = xs.length + 1 := by simp
  have e : ixN (xs ++ [v]).length (-1) = some xs.length := by
    unfold ixN
    rw [hl, if_neg (by decide), if_pos (by omega)]
    congr 1
    omega
  unfold atI
  rw [e]
  show (xs ++ [v])[xs.length]? = some v
  simp

/-! ### what may be subscripted -/
/-- what stands as an index of a plain subscript -/
def PlainIx (b : Expr) : Prop := ∀ o i, subscripted b false o i = operate [o, i] (getItem o i)
/-- a subscript by values -/
def IxR (X : Cx) (r : R2) : Prop :=
  ∀ (value slice : Expr) (pins : List (Addr × Obj)) (s : Shared) (σ : St) (H : Hp) (x y : V) (v u : Value) (Q : VK), Inv X pins σ H s → RelV x v → RelV y u → r x y H Q →
    subscripted slice false v u = operate [v, u] (getItem v u) → wpAny (model X.prog X.w) X.A (subscriptTail value slice v u) (EP X pins σ Q) X.xe s
/-- a call of a builtin's method by values: the receiver, the arguments -/
def MtR (X : Cx) (id : String) (r : V → List V → Hp → VK → Prop) : Prop :=
  ∀ (pins : List (Addr × Obj)) (s : Shared) (σ : St) (H : Hp) (x : V) (xs : List V) (v : Value) (us : List Value) (Q : VK), Inv X pins σ H s → RelV x v → Vals xs us → r x xs H Q →
    wpAny (model X.prog X.w) X.A (call (.builtin id) (v :: us)) (EP X pins σ Q) X.xe s
section
variable {X : Cx} {a b : Expr} {ta tb : TE} {pos : Pos}
theorem IxR.or {r r' : R2} (h : IxR X r) (h' : IxR X r') : IxR X (fun x y H Q => r x y H Q ∨ r' x y H Q) := by
  intro value slice pins s σ H x y v u Q I rx ry q hs
  rcases q with q | q
  · exact h value slice pins s σ H x y v u Q I rx ry q hs
  · exact h' value slice pins s σ H x y v u Q I rx ry q hs
theorem MtR.or {id : String} {r r' : V → List V → Hp → VK → Prop} (h : MtR X id r) (h' : MtR X id r') : MtR X id (fun x xs H Q => r x xs H Q ∨ r' x xs H Q) := by
  intro pins s σ H x xs v us Q I rx rs q
  rcases q with q | q
  · exact h pins s σ H x xs v us Q I rx rs q
  · exact h' pins s σ H x xs v us Q I rx rs q
/-- a[b] -/
theorem pe_ix {r : R2} (hr : IxR X r) (ha : PE X a ta) (hb : PE X b tb) (hs : PlainIx b) : PE X (.Subscript a b pos) (tOp r ta tb) := by
  intro pins s σ H Q I h
  exact Subscript_ (binT ha hb I h fun v u s2 x y H2 I2 rx ry q => hr a b pins s2 σ H2 x y v u Q I2 rx ry q (hs _ _))

def rIxL (K : PySem.W.Frag) : R2 := fun x y H Q => ∃ p xs i v, x = .ref p ∧ y = .int i ∧ SqL K H p xs ∧ atI xs i = some v ∧ Q v H
def rIxT (K : PySem.W.Frag) : R2 := fun x y H Q => ∃ p xs i v, x = .ref p ∧ y = .int i ∧ SqT K H p xs ∧ atI xs i = some v ∧ Q v H
def rIxS : R2 := fun x y H Q => ∃ z i c, x = .str z ∧ y = .int i ∧ z.length ≤ sizeLine ∧ atI z.cps.toList i = some c ∧ Q (.str ⟨#[c]⟩) H
theorem ix_list : IxR X (rIxL X.K) := by
  intro value slice pins s σ H x y v u Q I rx ry h hs
  obtain ⟨p, xs, i, z, rfl, rfl, hq, he, q⟩ := h
  cases rx
  obtain ⟨t, rfl⟩ := ry
  obtain ⟨its, r, pl, hz⟩ := I.list hq
  obtain ⟨j, h1, h2, h3, h4, h5⟩ := atI_get he
  obtain ⟨w, ew, rw'⟩ := r.get h2
  have hl := r.length
  have hn := line63
  have fin : EP X pins σ Q w s := ⟨z, H, I, rw', q⟩
  by_cases h0 : 0 ≤ i
  · have hj : i.toNat = j := by
      rw [seqIndex_of h0 h5] at h1
      exact Option.some.inj h1
    exact item_listR pl.isList h0 (by omega) (by rw [hj]; simpa using ew) fin hs
  · have hj : (i + (its.toArray.size : Int)).toNat = j := by
      rw [seqIndex_neg (by omega) h4] at h1
      rw [List.size_toArray, ← hl]
      exact Option.some.inj h1
    exact subscriptTail_builtinR (x := w) pl.isList.typeIs slot_list_getitem.lookup
      (wpAny_getItem_list_neg (Q := fun r s' => r = w ∧ EP X pins σ Q r s') pl.isList (by omega) (by rw [List.size_toArray] <;> omega) (by omega) (by rw [hj]; simpa using ew) ⟨rfl, fin⟩) hs
theorem ix_tup : IxR X (rIxT X.K) := by
  intro value slice pins s σ H x y v u Q I rx ry h hs
  obtain ⟨p, xs, i, z, rfl, rfl, hq, he, q⟩ := h
  cases rx
  obtain ⟨t, rfl⟩ := ry
  obtain ⟨its, r, pl, hz⟩ := I.tuple hq
  obtain ⟨j, h1, h2, h3, h4, h5⟩ := atI_get he
  obtain ⟨w, ew, rw'⟩ := r.get h2
  have hl := r.length
  have hn := line63
  have fin : EP X pins σ Q w s := ⟨z, H, I, rw', q⟩
  exact subscriptTail_builtinR (x := w) pl.typeIs slot_tuple_getitem.lookup
    (getItem_tuple (j := j) (Q := fun r s' => r = w ∧ EP X pins σ Q r s') pl (by omega) (by omega) (by rw [List.size_toArray, ← hl]; exact h1) (by simpa using ew) ⟨rfl, fin⟩) hs
theorem ix_str : IxR X rIxS := by
  intro value slice pins s σ H x y v u Q I rx ry h hs
  obtain ⟨z, i, c, rfl, rfl, hz, he, q⟩ := h
  obtain ⟨t, rfl⟩ := rx
  obtain ⟨t', rfl⟩ := ry
  obtain ⟨j, h1, h2, h3, h4, h5⟩ := atI_get he
  have hl : z.cps.toList.length = z.length := by simp [Str.length]
  rw [hl] at h1 h4 h5
  have hn := line63
  exact tail_any (typeIs_str s z t) slot_str_getitem.lookup (getItem_str (c := c) (by
    have e1 : decide (i < -(2 ^ 63 : Int)) = false := decide_eq_false (by omega)
    have e2 : decide (i ≥ 2 ^ 63) = false := decide_eq_false (by omega)
    rw [e1, e2, Bool.or_false]) (by rw [h1]; simpa using h2) ⟨.str ⟨#[c]⟩, H, I.tok _, ⟨_, rfl⟩, q⟩) hs
/-- list, tuple or str -/
def rIx (K : PySem.W.Frag) : R2 := fun x y H Q => rIxL K x y H Q ∨ rIxT K x y H Q ∨ rIxS x y H Q
theorem ix_seq : IxR X (rIx X.K) := ix_list.or (ix_tup.or ix_str)

/-! ### xs[i] = v, any sign -/
/-- the list's object behind a store -/
theorem mapSeq_set (its : List Value) (n j : Nat) (u : Value) : Obj.mapSeq (·.setIfInBounds j u) { cls := .type "list", data := .seq its.toArray n } = { cls := .type "list", data := .seq (its.set j u).toArray n } := by
  simp [Obj.mapSeq]
theorem Inv.lst {pins : List (Addr × Obj)} {σ : St} {H : Hp} {s : Shared} {p : Addr} {xs : List V} (I : Inv X pins σ H s) (h : H p = some (.lst xs)) :
    ∃ (its : List Value) (n : Nat), Vals xs its ∧ s.heap.get? p = some { cls := .type "list", data := .seq its.toArray n } ∧ xs.length ≤ sizeLine := by
  obtain ⟨z, its, n, r, e⟩ := I.hok p _ h
  exact ⟨its, n, r, e, z⟩
/-- the list at p is written by an update of its object -/
theorem Inv.lstUpd {pins : List (Addr × Obj)} {σ : St} {H : Hp} {s : Shared} {p : Addr} {xs ys : List V} {its its' : List Value} {n n' : Nat} {f : Obj → Obj} (I : Inv X pins σ H s) (h : H p = some (.lst xs))
    (ho : s.heap.get? p = some { cls := .type "list", data := .seq its.toArray n }) (hf : f { cls := .type "list", data := .seq its.toArray n } = { cls := .type "list", data := .seq its'.toArray n' }) (r : Vals ys its') (hz : ys.length ≤ sizeLine) (t : Nat) :
    Inv X pins σ (upd H p (.lst ys)) { s with heap := s.heap.update p f, toks := t } := by
  have e : (s.heap.update p f).get? p = some { cls := .type "list", data := .seq its'.toArray n' } := by
    rw [Heap.get?_update_self f ho (by rw [hf] <;> rfl), hf]
  refine I.write (x := p) (e := p) (by rw [h]; trivial) (.inl rfl) (fun b u hb q => (Heap.get?_update_other _ _ (Ne.symm hb)).trans q) ⟨_, e⟩ ?_
  exact ⟨hz, its', n', r, e⟩
def rSetL : V → V → V → Hp → (Hp → Prop) → Prop := fun o i v H Q => ∃ p xs k j, o = .ref p ∧ i = .int k ∧ H p = some (.lst xs) ∧ ixN xs.length k = some j ∧ Q (upd H p (.lst (xs.set j v)))
theorem set_list : PSet X rSetL := by
  intro pins s σ H o i v ov iv u Q I ro ri rv h
  obtain ⟨p, xs, k, j, rfl, rfl, hp, hj, q⟩ := h
  cases ro
  obtain ⟨t, rfl⟩ := ri
  obtain ⟨its, n, r, ho, hz⟩ := I.lst hp
  obtain ⟨h1, h2, h3, h4⟩ := ixN_seq hj
  have hl := r.length
  have hn := line63
  have I' : Inv X pins σ (upd H p (.lst (xs.set j v))) { s with heap := s.heap.update p (Obj.mapSeq (·.setIfInBounds j u)) } :=
    I.lstUpd hp ho (mapSeq_set its n j u) (r.set rv j) (by rw [List.length_set]; exact hz) s.toks
  by_cases h0 : 0 ≤ k
  · have hk : k.toNat = j := by
      rw [seqIndex_of h0 h4] at h1
      exact Option.some.inj h1
    exact PySem.W.ki_setAt ho h0 (by omega) (by rw [List.size_toArray, ← hl]; exact h4) (by rw [hk]; exact ⟨_, I', q⟩)
  · have hk : (k + (its.toArray.size : Int)).toNat = j := by
      rw [seqIndex_neg (by omega) h3] at h1
      rw [List.size_toArray, ← hl]
      exact Option.some.inj h1
    exact PySem.W.ki_setBack ho (by omega) (by rw [List.size_toArray, ← hl]; exact h3) (by omega) (by rw [hk]; exact ⟨_, I', q⟩)

/-! ### slices -/
theorem slice_bounds (lo hi : Option Int) (n : Nat) : (sliceBounds lo hi none n).1 = ((HT.sIx n 0 lo : Nat) : Int) ∧ (sliceBounds lo hi none n).2.1 = ((HT.sIx n n hi : Nat) : Int) ∧ (sliceBounds lo hi none n).2.2 = 1 := by
  refine ⟨?_, ?_, rfl⟩
  · cases lo with
    | none => simp [sliceBounds, HT.sIx]
    | some i =>
      simp only [sliceBounds, HT.sIx, Option.getD_none, show (1 : Int) > 0 by decide, if_true]
      by_cases h : i < 0
      · simp only [h, if_true] <;> omega
      · simp only [h, if_false] <;> omega
  · cases hi with
    | none => simp [sliceBounds, HT.sIx]
    | some i =>
      simp only [sliceBounds, HT.sIx, Option.getD_none, show (1 : Int) > 0 by decide, if_true]
      by_cases h : i < 0
      · simp only [h, if_true] <;> omega
      · simp only [h, if_false] <;> omega
theorem slicePick_cut (its : List Value) (lo hi : Option Int) : slicePick its.toArray lo hi none = ((its.drop (HT.sIx its.length 0 lo)).take (HT.sIx its.length its.length hi - HT.sIx its.length 0 lo)).toArray := by
  obtain ⟨h1, h2, h3⟩ := slice_bounds lo hi its.toArray.size
  unfold slicePick
  rw [h1, h2, h3]
  simp only [sliceRange_one, pick_run, List.size_toArray] <;> rfl
/-- xs[lo:hi] of a list: a new list -/
def rSlL (K : PySem.W.Frag) : V → Option Int → Option Int → Hp → VK → Prop := fun x lo hi H Q => ∃ a xs, x = .ref a ∧ SqL K H a xs ∧ ∀ p, H p = none → Q (.ref p) (upd H p (.lst (cutV xs lo hi)))
theorem sl_list : SlR X (rSlL X.K) := by
  intro pins s σ H x v vl vu lo hi sl Q I rx hs pl pu h
  obtain ⟨a, xs, rfl, hx, q⟩ := h
  cases rx
  obtain ⟨its, r, ht, hz⟩ := I.list hx
  have hlen := r.length
  refine ⟨"list", _, slot_list_getitem.lookup, ht.isList.typeIs, ?_⟩
  refine wpAny_getItem_list_slice ht.isList hs pl pu .none (by simp) ?_ (by rw [List.size_toArray] <;> omega)
  rw [slicePick_cut, ← hlen]
  refine ⟨.ref s.heap.objs.size, _, I.laid (t' := s.toks) (o := .lst (cutV xs lo hi)) (fun b ob q => Heap.get?_push_of_some _ q) (Nat.le_refl _) ?_, rfl, q _ (I.hok.fresh (Nat.le_refl _))⟩
  exact ⟨Nat.le_trans (cutV_length xs lo hi) hz, _, 0, (r.drop (HT.sIx xs.length 0 lo)).take (HT.sIx xs.length xs.length hi - HT.sIx xs.length 0 lo), Heap.get?_push_size _ rfl⟩

/-! ### in, not in: flat items -/
def flatV : V → Bool
  | .non => true
  | .bl _ => true
  | .int _ => true
  | .str _ => true
  | _ => false
/-- == of flat values -/
def eqV : V → V → Bool
  | .non, .non => true
  | .bl a, .bl b => a == b
  | .bl a, .int b => (if a then 1 else 0) == b
  | .int a, .bl b => a == (if b then 1 else 0)
  | .int a, .int b => a == b
  | .str a, .str b => a == b
  | _, _ => false
theorem eqAt_V {A : Around} {s : Shared} {y x : V} {u v : Value} (ry : RelV y u) (rx : RelV x v) (fy : flatV y = true) (fx : flatV x = true) : SeqAt.EqAt A s u v (eqV y x) := by
  cases y with
  | non =>
    cases ry
    cases x with
    | non => cases rx; exact SeqAt.EqAt.same _
    | bl b => cases rx; exact SeqAt.EqAt.none_bool b
    | int b => obtain ⟨t, rfl⟩ := rx; exact SeqAt.EqAt.none_int b t
    | str b => obtain ⟨t, rfl⟩ := rx; exact SeqAt.EqAt.none_str b t
    | _ => exact absurd (show false = true from fx) Bool.false_ne_true
  | bl a =>
    cases ry
    cases x with
    | non => cases rx; exact SeqAt.EqAt.bool_none a
    | bl b => cases rx; exact SeqAt.EqAt.bool_bool a b
    | int b => obtain ⟨t, rfl⟩ := rx; exact SeqAt.EqAt.bool_int a b t
    | str b => obtain ⟨t, rfl⟩ := rx; exact SeqAt.EqAt.bool_str a b t
    | _ => exact absurd (show false = true from fx) Bool.false_ne_true
  | int a =>
    obtain ⟨t', rfl⟩ := ry
    cases x with
    | non => cases rx; exact SeqAt.EqAt.int_none a t'
    | bl b => cases rx; exact SeqAt.EqAt.int_bool a t' b
    | int b => obtain ⟨t, rfl⟩ := rx; exact SeqAt.EqAt.int_int a t' b t
    | str b => obtain ⟨t, rfl⟩ := rx; exact SeqAt.EqAt.int_str a t' b t
    | _ => exact absurd (show false = true from fx) Bool.false_ne_true
  | str a =>
    obtain ⟨t', rfl⟩ := ry
    cases x with
    | non => cases rx; exact SeqAt.EqAt.str_none a t'
    | bl b => cases rx; exact SeqAt.EqAt.str_bool a t' b
    | int b => obtain ⟨t, rfl⟩ := rx; exact SeqAt.EqAt.str_int a t' b t
    | str b => obtain ⟨t, rfl⟩ := rx; exact SeqAt.EqAt.str_str a t' b t
    | _ => exact absurd (show false = true from fx) Bool.false_ne_true
  | _ => exact absurd (show false = true from fy) Bool.false_ne_true
/-- the items' answers, read off the values (a value's own answer does not lean on its token) -/
def eqU (x : V) (u : Value) : Bool := match u with
  | .none => eqV .non x
  | .bool b => eqV (.bl b) x
  | .int i _ => eqV (.int i) x
  | .str z _ => eqV (.str z) x
  | _ => false
theorem eqU_of {x y : V} {u : Value} (r : RelV y u) (f : flatV y = true) : eqU x u = eqV y x := by
  cases y with
  | non => cases r; rfl
  | bl b => cases r; rfl
  | int i => obtain ⟨t, rfl⟩ := r; rfl
  | str z => obtain ⟨t, rfl⟩ := r; rfl
  | _ => exact absurd (show false = true from f) Bool.false_ne_true
theorem any_eqU {x : V} : ∀ {xs : List V} {us : List Value}, Vals xs us → xs.all flatV = true → us.any (eqU x) = xs.any fun y => eqV y x
  | _, _, .nil, _ => rfl
  | y :: xs, u :: us, .cons r t, f => by
    rw [List.all_cons, Bool.and_eq_true] at f
    rw [List.any_cons, List.any_cons, eqU_of r f.1, any_eqU t f.2]
theorem mem_eqAt {A : Around} {s : Shared} {x : V} {v : Value} (rx : RelV x v) (fx : flatV x = true) : ∀ {xs : List V} {us : List Value}, Vals xs us → xs.all flatV = true → ∀ u ∈ us, SeqAt.EqAt A s u v (eqU x u)
  | _, _, .nil, _ => fun u hu => by cases hu
  | y :: xs, u :: us, .cons r t, f => fun u' hu => by
    rw [List.all_cons, Bool.and_eq_true] at f
    rcases List.mem_cons.mp hu with rfl | hu
    · rw [eqU_of r f.1]; exact eqAt_V r rx f.1 fx
    · exact mem_eqAt rx fx t f.2 u' hu
def inV (x : V) (xs : List V) : Bool := xs.any fun y => eqV y x
/-- x in a list or tuple of flat items -/
def rIn (K : PySem.W.Frag) (neg : Bool) : R2 := fun x y H Q => ∃ p xs, y = .ref p ∧ (SqL K H p xs ∨ SqT K H p xs) ∧ flatV x = true ∧ xs.all flatV = true ∧ Q (.bl (if neg then !inV x xs else inV x xs)) H
theorem op_in_seq : OpR X (compareOp .In) (rIn X.K false) := by
  intro pins s σ H x y v u Q I rx ry h
  obtain ⟨p, xs, rfl, hq, fx, fs, q⟩ := h
  cases ry
  rcases hq with hq | hq
  · obtain ⟨its, r, pl, hz⟩ := I.list hq
    refine SeqAt.in_listAt (eqU x) pl.isList (fun w hw => mem_eqAt rx fx r fs w (by simpa using hw)) ⟨.bl _, H, I, rfl, ?_⟩
    rw [show its.toArray.any (eqU x) = its.any (eqU x) by simp, any_eqU r fs]
    exact q
  · obtain ⟨its, r, pl, hz⟩ := I.tuple hq
    refine SeqAt.in_tupleAt (eqU x) pl (fun w hw => mem_eqAt rx fx r fs w (by simpa using hw)) ⟨.bl _, H, I, rfl, ?_⟩
    rw [show its.toArray.any (eqU x) = its.any (eqU x) by simp, any_eqU r fs]
    exact q
theorem op_notIn_seq : OpR X (compareOp .NotIn) (rIn X.K true) := by
  intro pins s σ H x y v u Q I rx ry h
  obtain ⟨p, xs, rfl, hq, fx, fs, q⟩ := h
  cases ry
  rcases hq with hq | hq
  · obtain ⟨its, r, pl, hz⟩ := I.list hq
    refine SeqAt.notIn_listAt (eqU x) pl.isList (fun w hw => mem_eqAt rx fx r fs w (by simpa using hw)) ⟨.bl _, H, I, rfl, ?_⟩
    rw [show its.toArray.any (eqU x) = its.any (eqU x) by simp, any_eqU r fs]
    exact q
  · obtain ⟨its, r, pl, hz⟩ := I.tuple hq
    refine SeqAt.notIn_tupleAt (eqU x) pl (fun w hw => mem_eqAt rx fx r fs w (by simpa using hw)) ⟨.bl _, H, I, rfl, ?_⟩
    rw [show its.toArray.any (eqU x) = its.any (eqU x) by simp, any_eqU r fs]
    exact q
theorem op_notIn_str : OpR X (compareOp .NotIn) (fun x y H Q => ∃ i j, x = .str i ∧ y = .str j ∧ Q (.bl (!(!(Builtin.Str.occurrences j i 0 j.length 1).isEmpty))) H) := by
  intro pins s σ H x y v u Q I rx ry h
  obtain ⟨i, j, rfl, rfl, q⟩ := h
  obtain ⟨t, rfl⟩ := rx
  obtain ⟨t', rfl⟩ := ry
  exact notIn_str ⟨.bl _, H, I, rfl, q⟩

/-! ### len, list(x), tuple(x) of any list or tuple that is read -/
theorem call_len_seq : CallR X (.builtin "len") (fun xs H Q => ∃ p ys, xs = [.ref p] ∧ (SqL X.K H p ys ∨ SqT X.K H p ys) ∧ Q (.int ys.length) H) := by
  intro pins s σ H xs us Q I r h
  obtain ⟨p, ys, rfl, hq, q⟩ := h
  obtain ⟨u, rfl, rx⟩ := vals1 r
  cases rx
  have hn := line63
  rcases hq with hq | hq
  · obtain ⟨its, r', pl, hz⟩ := I.list hq
    have hlen := r'.length
    exact Calls.call_len_list pl.isList (by simp only [List.size_toArray] <;> omega) ⟨.int ys.length, H, I.tok _, ⟨s.toks + 1, by rw [List.size_toArray, hlen]⟩, q⟩
  · obtain ⟨its, r', pl, hz⟩ := I.tuple hq
    have hlen := r'.length
    exact len_tuple pl (by simp only [List.size_toArray] <;> omega) ⟨.int ys.length, H, I.tok _, ⟨s.toks + 1, by rw [List.size_toArray, hlen]⟩, q⟩
theorem call_len_str : CallR X (.builtin "len") (fun xs H Q => ∃ z, xs = [.str z] ∧ z.length ≤ sizeLine ∧ Q (.int z.length) H) := by
  intro pins s σ H xs us Q I r h
  obtain ⟨z, rfl, hz, q⟩ := h
  obtain ⟨u, rfl, t, rfl⟩ := vals1 r
  have hn := line63
  exact len_str (by omega) ⟨.int z.length, H, I.tok _, ⟨_, rfl⟩, q⟩
theorem CallR.or {f : Value} {r r' : List V → Hp → VK → Prop} (h : CallR X f r) (h' : CallR X f r') : CallR X f (fun xs H Q => r xs H Q ∨ r' xs H Q) := by
  intro pins s σ H xs us Q I rs q
  rcases q with q | q
  · exact h pins s σ H xs us Q I rs q
  · exact h' pins s σ H xs us Q I rs q
theorem call_list_of : CallR X (.type "list") (fun xs H Q => ∃ p ys, xs = [.ref p] ∧ (SqL X.K H p ys ∨ SqT X.K H p ys) ∧ ∀ l, H l = none → Q (.ref l) (upd H l (.lst ys))) := by
  intro pins s σ H xs us Q I r h
  obtain ⟨p, ys, rfl, hq, q⟩ := h
  obtain ⟨u, rfl, rx⟩ := vals1 r
  cases rx
  have fin : ∀ (its : List Value), Vals ys its → ys.length ≤ sizeLine → ∀ (h' : Heap) (c' : Nat), (∀ b o', s.heap.get? b = some o' → h'.get? b = some o') →
      h'.get? s.heap.objs.size = some { cls := .type "list", dict := none, data := .seq its.toArray c', slots := #[] } → EP X pins σ Q (.ref s.heap.objs.size) { s with heap := h' } := fun its r' hz h' c' kp e =>
    ⟨.ref s.heap.objs.size, _, I.laid (t' := s.toks) kp (Nat.le_refl _) (show ObjOk X.prog X.w _ h' _ (.lst ys) from ⟨hz, its, c', r', e⟩), rfl, q _ (I.hok.fresh (Nat.le_refl _))⟩
  rcases hq with hq | hq
  · obtain ⟨its, r', pl, hz⟩ := I.list hq
    have hlen := r'.length
    obtain ⟨o, ho, hc, n, hd⟩ := pl.isList
    exact call_list_seq p (.inl rfl) ho hc hd (fun h' c' kp e => fin its r' hz h' c' kp e) (by simp only [List.size_toArray] <;> omega)
  · obtain ⟨its, r', pl, hz⟩ := I.tuple hq
    have hlen := r'.length
    obtain ⟨o, ho, hc, n, hd⟩ := pl
    exact call_list_seq p (.inr rfl) ho hc hd (fun h' c' kp e => fin its r' hz h' c' kp e) (by simp only [List.size_toArray] <;> omega)
theorem call_tuple_of : CallR X (.type "tuple") (fun xs H Q => ∃ p ys, xs = [.ref p] ∧ ((SqL X.K H p ys ∧ ∀ l, H l = none → Q (.ref l) (upd H l (.tup ys))) ∨ (SqT X.K H p ys ∧ Q (.ref p) H))) := by
  intro pins s σ H xs us Q I r h
  obtain ⟨p, ys, rfl, h⟩ := h
  obtain ⟨u, rfl, rx⟩ := vals1 r
  cases rx
  rcases h with ⟨hq, q⟩ | ⟨hq, q⟩
  · obtain ⟨its, r', pl, hz⟩ := I.list hq
    have hlen := r'.length
    refine call_tuple_list pl.isList (fun h' kp => ?_) (by simp only [List.size_toArray] <;> omega)
    have I1 : Inv X pins σ H { s with heap := h' } := I.kept (t' := s.toks) kp
    have I2 : Inv X pins σ (upd H h'.objs.size (.tup ys)) { s with heap := h'.push { cls := .type "tuple", data := .seq its.toArray } } :=
      I1.laid (t' := s.toks) (fun b o e => Heap.get?_push_of_some _ e) (Nat.le_refl _) (show ObjOk X.prog X.w _ _ _ (.tup ys) from ⟨hz, its, r', IsTup.new _ _⟩)
    exact ⟨.ref h'.objs.size, _, I2, rfl, q _ (I1.hok.fresh (Nat.le_refl _))⟩
  · obtain ⟨its, r', pl, hz⟩ := I.tuple hq
    exact call_tuple_same pl ⟨.ref p, H, I, rfl, q⟩

/-! ### the call of a builtin's method: o.m(..) -/
/-- the value is of that builtin type -/
def tyV (K : PySem.W.Frag) (T : String) (x : V) (H : Hp) : Prop := match x with
  | .str _ => T = "str"
  | .int _ => T = "int"
  | .ref p => (T = "list" ∧ ∃ xs, SqL K H p xs) ∨ (T = "tuple" ∧ ∃ o, K.lookup p = some o ∧ o.cls = .type "tuple" ∧ o.dict = none) ∨
      (T = "dict" ∧ ((∃ kvs, H p = some (.dK kvs)) ∨ ∃ kvs, H p = some (.dT kvs))) ∨ (T = "set" ∧ ∃ S n, H p = some (.set S n))
  | _ => False
theorem tyV_is {pins : List (Addr × Obj)} {σ : St} {H : Hp} {s : Shared} {T : String} {x : V} {v : Value} (I : Inv X pins σ H s) (r : RelV x v) (ty : tyV X.K T x H) :
    s.TypeIs v T ∧ ∀ a, v = .ref a → ∃ ob, s.heap.get? a = some ob ∧ ob.dict = none := by
  cases x with
  | str z =>
    obtain ⟨t, rfl⟩ := r
    cases (show T = "str" from ty)
    exact ⟨typeIs_str s z t, fun _ e => nomatch e⟩
  | int i =>
    obtain ⟨t, rfl⟩ := r
    cases (show T = "int" from ty)
    exact ⟨typeIs_int s i t, fun _ e => nomatch e⟩
  | ref p =>
    cases r
    rcases ty with ⟨rfl, xs, hq⟩ | ⟨rfl, o, hk, hc, hd⟩ | ⟨rfl, hk⟩ | ⟨rfl, S, n, hk⟩
    · obtain ⟨its, _, pl, _⟩ := I.list hq
      refine ⟨pl.isList.typeIs, fun a e => ?_⟩
      cases e
      obtain ⟨o, n, e, c, hd, _⟩ := pl
      exact ⟨o, e, hd⟩
    · refine ⟨⟨o, I.kIn p o hk, hc⟩, fun a e => ?_⟩
      cases e
      exact ⟨o, I.kIn _ o hk, hd⟩
    · have z : ∃ o, s.heap.get? p = some o ∧ o.ExactDict := by
        rcases hk with ⟨kvs, hk⟩ | ⟨kvs, hk⟩
        · obtain ⟨_, _, _, _, o, _, _, e, ex, _⟩ := I.hok p _ hk
          exact ⟨o, e, ex⟩
        · obtain ⟨_, _, _, _, o, _, _, e, ex, _⟩ := I.hok p _ hk
          exact ⟨o, e, ex⟩
      obtain ⟨o, e, ex⟩ := z
      refine ⟨⟨o, e, ex.1⟩, fun a e2 => ?_⟩
      cases e2
      exact ⟨o, e, ex.2.1⟩
    · obtain ⟨o, _, _, _, e, ex, _⟩ := I.hok p _ hk
      refine ⟨⟨o, e, ex.1⟩, fun a e2 => ?_⟩
      cases e2
      exact ⟨o, e, ex.2.1⟩
  | _ => exact False.elim ty
def tBM0 (K : PySem.W.Frag) (T : String) (r : V → List V → Hp → VK → Prop) (to : TE) : TE := fun σ H Q => to σ H fun x H1 => tyV K T x H1 ∧ r x [] H1 Q
def tBM (K : PySem.W.Frag) (T : String) (r : V → List V → Hp → VK → Prop) (to : TE) (t : TA) : TE := fun σ H Q => to σ H fun x H1 => tyV K T x H1 ∧ t σ H1 fun xs H2 => r x xs H2 Q
variable {o e : Expr} {es : List Expr} {to : TE} {t : TA} {name : Str} {apos cpos : Pos} {T id : String} {r : V → List V → Hp → VK → Prop}
theorem pe_bm0 (pa : PlainAttrs T) (slot : Slot T name id) (hty : typeOf (.builtin id) = pure (.type "method_descriptor")) (hm : MtR X id r) (ho : PE X o to)
    (hbase : attributeBase o name X.env (eval o X.env) = eval o X.env := by rfl) (hline : (apos.endLine == cpos.line) = true := by rfl) : PE X (.Call (.Attribute o name apos) [] [] cpos) (tBM0 X.K T r to) := by
  intro pins s σ H Q I h
  refine wpAny_Call_method0_late hbase hline (thn (ho pins s σ H _ I h) fun v s1 ⟨x, H1, I1, r1, ty, q1⟩ => ?_)
  obtain ⟨h1, h2⟩ := tyV_is I1 r1 ty
  exact ⟨T, id, pa, slot, hty, h1, h2, Calls.callWith_builtin rfl (PySem.evalArgs_none (hm pins s1 σ H1 x [] v [] Q I1 r1 .nil q1))⟩
theorem pe_bm (pa : PlainAttrs T) (slot : Slot T name id) (hty : typeOf (.builtin id) = pure (.type "method_descriptor")) (hm : MtR X id r) (ho : PE X o to) (ha : PA X (e :: es) t)
    (hbase : attributeBase o name X.env (eval o X.env) = eval o X.env := by rfl)
    (hfew : ((backTo cpos (starEach (e :: es) X.env)).all (fun x => !x.1) && (backToKw cpos (keywordEach [] X.env)).all (fun x => x.1.isSome)
      && decide ((e :: es).length + ([] : List Keyword).length + (if ([] : List Keyword).isEmpty then 0 else 1) < 30)) = true := by rfl)
    (hline : (apos.endLine == cpos.line) = true := by rfl) (hs : starEach (e :: es) X.env = (false, eval e X.env) :: starEach es X.env := by rfl) (hplain : (backTo cpos (starEach es X.env)).any (·.1) = false := by rfl) :
    PE X (.Call (.Attribute o name apos) (e :: es) [] cpos) (tBM X.K T r to t) := by
  intro pins s σ H Q I h
  refine wpAny_Call_method_late hbase hfew hline rfl (thn (ho pins s σ H _ I h) fun v s1 ⟨x, H1, I1, r1, ty, q1⟩ => ?_)
  obtain ⟨h1, h2⟩ := tyV_is I1 r1 ty
  refine ⟨T, id, pa, slot, hty, h1, h2, ?_⟩
  have hA := ha cpos pins s1 σ H1 _ I1 q1
  rw [hs] at hA ⊢
  refine Calls.callWith_builtin (by show (false || (backTo cpos (starEach es X.env)).any (·.1)) = false; rw [hplain] <;> rfl) (Calls.evalArgs_plain ?_)
  exact thn hA fun us s2 ⟨vs, H2, I2, r2, q2⟩ => hm pins s2 σ H2 x vs v us Q I2 r1 r2 q2
/- xs.append(e), list.index on a module's tuple .. are MtR facts of 06m -/
end
end L2

namespace L2
open PySem PySem.Spec PyProof.Rows

def MtM (X : Cx) (id : String) (r : V → List V → Hp → VK → Prop) : Prop :=
  ∀ (pins : List (Addr × Obj)) (s : Shared) (σ : St) (H : Hp) (x : V) (xs : List V) (v : Value) (us : List Value) (Q : VK), Inv X pins σ H s → RelV x v → Vals xs us → r x xs H Q →
    wpAny (model X.prog X.w) X.A (call (.builtin id) (v :: us)) (EP X pins σ Q) X.xe s

/-! ### lists of values -/
theorem Vals.one : ∀ {x : V} {us : List Value}, Vals [x] us → ∃ u, us = [u] ∧ RelV x u
  | _, _, .cons r .nil => ⟨_, rfl, r⟩
theorem Vals.two : ∀ {x y : V} {us : List Value}, Vals [x, y] us → ∃ u v, us = [u, v] ∧ RelV x u ∧ RelV y v
  | _, _, _, .cons r (.cons q .nil) => ⟨_, _, rfl, r, q⟩
theorem Vals.zero : ∀ {us : List Value}, Vals [] us → us = []
  | _, .nil => rfl
theorem Vals.dropLast {xs : List V} {us : List Value} (h : Vals xs us) : Vals xs.dropLast us.dropLast := by
  induction h with
  | nil => exact .nil
  | cons r t ih =>
    cases t with
    | nil => exact .nil
    | cons q t' => exact .cons r ih
theorem Vals.eraseIdx : ∀ {xs : List V} {us : List Value} (i : Nat), Vals xs us → Vals (xs.eraseIdx i) (us.eraseIdx i)
  | _, _, _, .nil => .nil
  | _, _, 0, .cons _ t => t
  | _, _, i + 1, .cons r t => .cons r (Vals.eraseIdx i t)
theorem Vals.reverse {xs : List V} {us : List Value} (h : Vals xs us) : Vals xs.reverse us.reverse := by
  induction h with
  | nil => exact .nil
  | cons r t ih => rw [List.reverse_cons, List.reverse_cons]; exact Vals.append ih (.cons r .nil)
theorem Vals.rep {xs : List V} {us : List Value} (h : Vals xs us) : ∀ k : Nat, Vals (List.replicate k xs).flatten (List.replicate k us).flatten
  | 0 => .nil
  | k + 1 => by
    rw [List.replicate_succ, List.replicate_succ, List.flatten_cons, List.flatten_cons]
    exact Vals.append h (Vals.rep h k)
theorem erase_last {α : Type} (l : List α) : l.eraseIdx (l.length - 1) = l.dropLast := by
  induction l with
  | nil => rfl
  | cons a r ih =>
    cases r with
    | nil => rfl
    | cons b r =>
      have e : (a :: b :: r).length - 1 = ((b :: r).length - 1) + 1 := by
        have h1 : (a :: b :: r).length = r.length + 2 := rfl
        have h2 : (b :: r).length = r.length + 1 := rfl
        omega
      rw [e, List.eraseIdx_cons_succ, ih]
      all_goals rfl
theorem len_erase {α : Type} : ∀ (l : List α) (i : Nat), (l.eraseIdx i).length ≤ l.length
  | [], _ => Nat.le_refl _
  | _ :: _, 0 => Nat.le_succ _
  | _ :: r, i + 1 => Nat.succ_le_succ (len_erase r i)
theorem foldl_rep (its : List Value) : ∀ (k : Nat) (acc : List Value),
    List.foldl (fun x1 x2 => x1 ++ x2) acc.toArray (List.replicate k its.toArray) = (acc ++ (List.replicate k its).flatten).toArray
  | 0, acc => by simp
  | k + 1, acc => by
    have e : acc.toArray ++ its.toArray = (acc ++ its).toArray := by simp
    have e2 : (acc ++ its) ++ (List.replicate k its).flatten = acc ++ (List.replicate (k + 1) its).flatten := by
      rw [List.replicate_succ, List.flatten_cons, List.append_assoc]
    rw [← e2, ← foldl_rep its k (acc ++ its), ← e, List.replicate_succ, List.foldl_cons]

section
variable {X : Cx} {pins : List (Addr × Obj)} {σ : St} {H : Hp} {s : Shared} {l b : Addr} {xs ys zs : List V}

/-! ### the two steps: a tracked list is rewritten, a new list is laid -/
theorem Inv.lset {its its' : List Value} {n : Nat} {f : Array Value → Array Value} {t' : Nat} (I : Inv X pins σ H s) (hH : H l = some (.lst xs))
    (e : s.heap.get? l = some { cls := .type "list", data := .seq its.toArray n }) (hf : f its.toArray = its'.toArray) (hv : Vals ys its') (hz : ys.length ≤ sizeLine) :
    Inv X pins σ (upd H l (.lst ys)) { s with heap := s.heap.update l (Obj.mapSeq f), toks := t' } := by
  have q := PySem.IsL.update e f
  rw [hf] at q
  refine I.write (x := l) (e := l) (by rw [hH]; exact trivial) (.inl rfl) (fun b' u hb hu => (Heap.get?_update_other s.heap (Obj.mapSeq f) (Ne.symm hb)).trans hu) ⟨_, q⟩ ?_
  exact ⟨hz, its', _, hv, q⟩
theorem Inv.lnew {its : List Value} {t' : Nat} (I : Inv X pins σ H s) (hv : Vals ys its) (hz : ys.length ≤ sizeLine) :
    Inv X pins σ (upd H s.heap.objs.size (.lst ys)) { s with heap := s.heap.push { cls := .type "list", data := .seq its.toArray }, toks := t' } :=
  I.laid (fun _ _ q => Heap.get?_push_of_some _ q) (Nat.le_refl _) ⟨hz, its, 0, hv, Heap.get?_push_size _ rfl⟩
theorem Inv.fresh (I : Inv X pins σ H s) : H s.heap.objs.size = none := I.hok.fresh (Nat.le_refl _)
theorem Inv.lstM (I : Inv X pins σ H s) (hH : H l = some (.lst xs)) : xs.length ≤ sizeLine ∧ ∃ (its : List Value) (n : Nat), Vals xs its ∧ xs.length = its.length ∧ s.heap.get? l = some { cls := .type "list", data := .seq its.toArray n } := by
  obtain ⟨z, its, n, r, e⟩ := I.hok l _ hH
  exact ⟨z, its, n, r, r.length, e⟩

theorem notLongL {n : Nat} (h : n ≤ sizeLine) : Builtin.List.listTooLong n = false := by
  unfold Builtin.List.listTooLong
  exact decide_eq_false (by omega)
end

section
variable {X : Cx}

/-! ### methods -/
def rAppend : V → List V → Hp → VK → Prop := fun x vs H Q => ∃ l xs y, x = .ref l ∧ vs = [y] ∧ H l = some (.lst xs) ∧ xs.length < sizeLine ∧ Q .non (upd H l (.lst (xs ++ [y])))
theorem mt_append : MtM X "list.append" rAppend := by
  intro pins s σ H x vs v us Q I rx rv h
  obtain ⟨l, xs, y, rfl, rfl, hH, hz, q⟩ := h
  cases rx
  obtain ⟨u, rfl, ru⟩ := rv.one
  obtain ⟨z, its, n, r, hl, e⟩ := I.lstM hH
  refine call_meets F.slot_list_append ⟨_, e, rfl⟩ F.entry_list_append (F.args_list_append_2 _ _) (PySem.list_append l its.toArray n u (by rw [List.size_toArray]; omega)) ⟨e, ?_⟩
  refine ⟨.non, _, I.lset (its' := its ++ [u]) hH e (by simp) (r.append (.cons ru .nil)) ?_, rfl, q⟩
  rw [List.length_append, List.length_singleton]
  omega

def rExtend : V → List V → Hp → VK → Prop := fun x vs H Q => ∃ l b xs zs, x = .ref l ∧ vs = [.ref b] ∧ H l = some (.lst xs) ∧ H b = some (.lst zs) ∧ xs.length + zs.length ≤ sizeLine ∧ Q .non (upd H l (.lst (xs ++ zs)))
theorem mt_extend : MtM X "list.extend" rExtend := by
  intro pins s σ H x vs v us Q I rx rv h
  obtain ⟨l, b, xs, zs, rfl, rfl, hH, hB, hz, q⟩ := h
  cases rx
  obtain ⟨u, rfl, ru⟩ := rv.one
  cases ru
  obtain ⟨z, its, n, r, hl, e⟩ := I.lstM hH
  obtain ⟨z2, its2, n2, r2, hl2, e2⟩ := I.lstM hB
  have hsz : its.toArray.size + its2.toArray.size ≤ sizeLine := by rw [List.size_toArray, List.size_toArray]; omega
  have hlong : ¬ (!its.toArray.isEmpty && Builtin.List.listTooLong (its.toArray.size + its2.toArray.size)) = true := by
    rw [notLongL hsz, Bool.and_false]
    exact Bool.false_ne_true
  refine call_meets F.slot_list_extend ⟨_, e, rfl⟩ F.entry_list_extend (F.args_list_extend_2 _ _)
    (AutoSeq1.list_extend_list_list_0 l its.toArray n b its2.toArray n2 hlong (by rw [List.size_toArray]; omega) (by omega)) ⟨e, e2, ?_⟩
  refine ⟨.non, _, I.lset (its' := its ++ its2) hH e (by simp) (r.append r2) ?_, rfl, q⟩
  rw [List.length_append]
  omega

def rPop : V → List V → Hp → VK → Prop := fun x vs H Q => ∃ l xs y, x = .ref l ∧ vs = [] ∧ H l = some (.lst xs) ∧ xs[xs.length - 1]? = some y ∧ Q y (upd H l (.lst xs.dropLast))
theorem mt_pop : MtM X "list.pop" rPop := by
  intro pins s σ H x vs v us Q I rx rv h
  obtain ⟨l, xs, y, rfl, rfl, hH, hy, q⟩ := h
  cases rx
  have hus := rv.zero
  subst hus
  obtain ⟨z, its, n, r, hl, e⟩ := I.lstM hH
  obtain ⟨u, hu, ru⟩ := r.get hy
  have hy' : its.toArray[its.toArray.size - 1]? = some u := by
    show its.toArray[its.length - 1]? = some u
    rw [← Array.getElem?_toList, ← hl]
    exact hu
  refine call_meets F.slot_list_pop ⟨_, e, rfl⟩ F.entry_list_pop (F.args_list_pop_1 _) (MeetsSeq.list_pop_last l its.toArray n u hy' (by rw [List.size_toArray]; omega)) ⟨e, ?_⟩
  refine ⟨y, _, I.lset (its' := its.dropLast) hH e ?_ r.dropLast ?_, ru, q⟩
  · show its.toArray.eraseIdxIfInBounds (its.toArray.size - 1) = its.dropLast.toArray
    rw [List.size_toArray, List.eraseIdxIfInBounds_toArray, erase_last]
  · rw [List.length_dropLast]
    omega

def rPopAt : V → List V → Hp → VK → Prop := fun x vs H Q => ∃ l xs i k y, x = .ref l ∧ vs = [.int i] ∧ H l = some (.lst xs) ∧ -(2 ^ 63) ≤ i ∧ i < 2 ^ 63 ∧ seqIndex? i xs.length = some k ∧ xs[k]? = some y ∧ Q y (upd H l (.lst (xs.eraseIdx k)))
theorem mt_popAt : MtM X "list.pop" rPopAt := by
  intro pins s σ H x vs v us Q I rx rv h
  obtain ⟨l, xs, i, k, y, rfl, rfl, hH, h1, h2, hk, hy, q⟩ := h
  cases rx
  obtain ⟨u, rfl, ru⟩ := rv.one
  obtain ⟨t, rfl⟩ := ru
  obtain ⟨z, its, n, r, hl, e⟩ := I.lstM hH
  obtain ⟨w, hw, rw'⟩ := r.get hy
  refine call_meets F.slot_list_pop ⟨_, e, rfl⟩ F.entry_list_pop (F.args_list_pop_2 _ _)
    (MeetsSeq.list_pop_at l its.toArray n i t k w (fitsIndex_both h1 h2) (by rw [List.size_toArray, ← hl]; exact hk) (by rw [← Array.getElem?_toList]; exact hw) (by rw [List.size_toArray]; omega)) ⟨e, ?_⟩
  refine ⟨y, _, I.lset (its' := its.eraseIdx k) hH e ?_ (r.eraseIdx k) ?_, rw', q⟩
  · show its.toArray.eraseIdxIfInBounds k = (its.eraseIdx k).toArray
    rw [List.eraseIdxIfInBounds_toArray]
  · have := len_erase xs k
    omega

def rReverse : V → List V → Hp → VK → Prop := fun x vs H Q => ∃ l xs, x = .ref l ∧ vs = [] ∧ H l = some (.lst xs) ∧ Q .non (upd H l (.lst xs.reverse))
theorem mt_reverse : MtM X "list.reverse" rReverse := by
  intro pins s σ H x vs v us Q I rx rv h
  obtain ⟨l, xs, rfl, rfl, hH, q⟩ := h
  cases rx
  have hus := rv.zero
  subst hus
  obtain ⟨z, its, n, r, hl, e⟩ := I.lstM hH
  refine call_meets F.slot_list_reverse ⟨_, e, rfl⟩ F.entry_list_reverse (F.args_list_reverse_1 _) (AutoSeq1.list_reverse_list_0 l its.toArray n (by rw [List.size_toArray]; omega)) ⟨e, ?_⟩
  refine ⟨.non, _, I.lset (its' := its.reverse) hH e (by simp) r.reverse ?_, rfl, q⟩
  rw [List.length_reverse]
  omega

def rClear : V → List V → Hp → VK → Prop := fun x vs H Q => ∃ l xs, x = .ref l ∧ vs = [] ∧ H l = some (.lst xs) ∧ Q .non (upd H l (.lst []))
theorem mt_clear : MtM X "list.clear" rClear := by
  intro pins s σ H x vs v us Q I rx rv h
  obtain ⟨l, xs, rfl, rfl, hH, q⟩ := h
  cases rx
  have hus := rv.zero
  subst hus
  obtain ⟨z, its, n, r, hl, e⟩ := I.lstM hH
  refine call_meets F.slot_list_clear ⟨_, e, rfl⟩ F.entry_list_clear (F.args_list_clear_1 _) (AutoSeq1.list_clear_list_0 l its.toArray n (by rw [List.size_toArray]; omega)) ⟨e, ?_⟩
  exact ⟨.non, _, I.lset (its' := []) (ys := []) hH e rfl .nil (Nat.zero_le _), rfl, q⟩

/-! ### list + list, list += list, list * int -/
def rCat : R2 := fun x y H Q => ∃ l b xs zs, x = .ref l ∧ y = .ref b ∧ H l = some (.lst xs) ∧ H b = some (.lst zs) ∧ xs.length + zs.length ≤ sizeLine ∧ ∀ p, H p = none → Q (.ref p) (upd H p (.lst (xs ++ zs)))
theorem op_cat : OpR X (binaryOp .Add) rCat := by
  intro pins s σ H x y v u Q I rx ry h
  obtain ⟨l, b, xs, zs, rfl, rfl, hH, hB, hz, q⟩ := h
  cases rx
  cases ry
  obtain ⟨z, its, n, r, hl, e⟩ := I.lstM hH
  obtain ⟨z2, its2, n2, r2, hl2, e2⟩ := I.lstM hB
  refine PySem.P.add_list e e2 ?_ (by rw [List.size_toArray, List.size_toArray]; omega)
  have ea : its.toArray ++ its2.toArray = (its ++ its2).toArray := by simp
  rw [ea]
  exact ⟨.ref _, _, I.lnew (t' := s.toks) (r.append r2) (by rw [List.length_append]; omega), rfl, q _ I.fresh⟩
/-- a list times an int (a negative one is nothing) -/
def rRep : R2 := fun x y H Q => ∃ l k xs, x = .ref l ∧ y = .int k ∧ H l = some (.lst xs) ∧ -(2 ^ 63) ≤ k ∧ k < 2 ^ 63 ∧ xs.length * k.toNat ≤ sizeLine ∧
  ∀ p, H p = none → Q (.ref p) (upd H p (.lst (List.replicate k.toNat xs).flatten))
theorem len_rep {α : Type} (xs : List α) (k : Nat) : (List.replicate k xs).flatten.length = k * xs.length := by
  induction k with
  | zero => simp
  | succ k ih => rw [List.replicate_succ, List.flatten_cons, List.length_append, ih, Nat.succ_mul, Nat.add_comm]
theorem op_rep : OpR X (binaryOp .Mult) rRep := by
  intro pins s σ H x y v u Q I rx ry h
  obtain ⟨l, k, xs, rfl, rfl, hH, h1, h2, hz, q⟩ := h
  cases rx
  obtain ⟨t, rfl⟩ := ry
  obtain ⟨z, its, n, r, hl, e⟩ := I.lstM hH
  have hlen : its.toArray.size * k.toNat ≤ sizeLine := by rw [List.size_toArray, ← hl]; exact hz
  have hcap : ¬ its.toArray.size * k.toNat > (2 ^ 63 - 1) / 8 := by
    have : (sizeLine : Nat) ≤ (2 ^ 63 - 1) / 8 := by decide
    omega
  have hfit : ¬ (!Builtin.List.listFitsIndex k) = true := by
    rw [fitsIndex_both h1 h2]
    exact Bool.false_ne_true
  have hlong : ¬ Builtin.List.listTooLong (its.toArray.size * k.toNat) = true := by
    rw [notLongL hlen]
    exact Bool.false_ne_true
  have hnew : List.foldl (fun x1 x2 => x1 ++ x2) #[] (List.replicate (if its.toArray.isEmpty = true then 0 else k.toNat) its.toArray) = (List.replicate k.toNat its).flatten.toArray := by
    have f0 : ∀ m : Nat, List.foldl (fun x1 x2 => x1 ++ x2) #[] (List.replicate m its.toArray) = (List.replicate m its).flatten.toArray := fun m => by
      have := foldl_rep its m []
      rw [List.nil_append] at this
      exact this
    rw [f0]
    cases its with
    | nil => simp
    | cons a r' => rw [if_neg (by simp)]
  refine wpAny_binaryOp_repeat_ref (T := "list") (U := "int") (by decide) ⟨_, e, rfl⟩ (fun s' => typeIs_int s' k t) noFill_list_mul F.fills_int_mul F.slot_int_rmul repeat_list F.slot_int_index.lookup
    (call_meets F.slot_int_rmul (typeIs_int s k t) F.entry_int_rmul (F.args_int_rmul_2 _ _) (int___rmul___int_list k t l its.toArray n)
      ⟨e, rfl, ⟨_, e, rfl⟩, call_meets F.slot_list_mul ⟨_, e, rfl⟩ F.entry_list_mul (F.args_list_mul_2 _ _) (AutoListH.list___mul___list_int_3 l its.toArray n k t hfit hcap hlong) ⟨e, ?_⟩⟩)
  rw [hnew]
  exact ⟨.ref _, _, I.lnew (t' := s.toks) (r.rep k.toNat) (by rw [len_rep, Nat.mul_comm]; exact hz), rfl, q _ I.fresh⟩

/-! ### del xs[i] -/
theorem del_list {pins : List (Addr × Obj)} {s : Shared} {σ : St} {H : Hp} {l : Addr} {xs : List V} {i : Int} {t : Tok} {k : Nat} {Q : Unit → Shared → Prop} (I : Inv X pins σ H s) (hH : H l = some (.lst xs))
    (h1 : -(2 ^ 63) ≤ i) (h2 : i < 2 ^ 63) (hk : seqIndex? i xs.length = some k) (h : ∀ s', Inv X pins σ (upd H l (.lst (xs.eraseIdx k))) s' → Q () s') :
    wpAny (model X.prog X.w) X.A (delItem (.ref l) (.int i t)) Q X.xe s := by
  obtain ⟨z, its, n, r, hl, e⟩ := I.lstM hH
  refine PySem.P.delItem_list (k := k) e (fitsIndex_both h1 h2) (by rw [List.size_toArray, ← hl]; exact hk) (h _ ?_) (by rw [List.size_toArray]; omega)
  refine I.lset (its' := its.eraseIdx k) (t' := s.toks) hH e ?_ (r.eraseIdx k) ?_
  · show its.toArray.eraseIdxIfInBounds k = (its.eraseIdx k).toArray
    rw [List.eraseIdxIfInBounds_toArray]
  · have := len_erase xs k
    omega
end

/-! ### xs[a:b] = ys -/
section
variable {prog : Program} {w : World} {A : Around} {E : Value → Shared → Prop} {s : Shared}
theorem splice_eq (its its2 : List Value) (a c : Nat) : its.toArray.extract 0 a ++ its2.toArray ++ its.toArray.extract c its.toArray.size = (its.take a ++ its2 ++ its.drop c).toArray := by
  apply Array.toList_inj.mp
  first
    | (simp
       exact List.take_of_length_le (by simp))
    | simp [List.take_of_length_le]
    | simp
theorem bounds_run {a c n : Nat} (hac : a ≤ c) (hc : c ≤ n) : sliceBounds (some (a : Int)) (some (c : Int)) none n = ((a : Int), (c : Int), 1) := by
  simp only [sliceBounds, Option.getD_none]
  have h1 : ¬ ((a : Int) < 0) := by omega
  have h2 : ¬ ((c : Int) < 0) := by omega
  simp only [h1, h2, if_false, show (1 : Int) > 0 by decide, if_true]
  congr 1
  · omega
  · congr 1; omega
set_option maxRecDepth 100000 in
/-- list.__setitem__ with a slice of step one and another list -/
theorem setItem_slice {l b sl : Addr} {items new : Array Value} {n n2 : Nat} {vl vu : Value} {a c : Nat} {Q : Unit → Shared → Prop}
    (e : s.heap.get? l = some { cls := .type "list", data := .seq items n }) (e2 : s.heap.get? b = some { cls := .type "list", data := .seq new n2 }) (hne : l ≠ b)
    (hs : s.heap.IsSliceOf sl vl vu .none) (pl : IsPart vl (some (a : Int))) (pu : IsPart vu (some (c : Int))) (hac : a ≤ c) (hc : c ≤ items.size)
    (hsz : items.size + new.size ≤ sizeLine) (h : Q () { s with heap := s.heap.update l (Obj.mapSeq fun xs => xs.extract 0 a ++ new ++ xs.extract c xs.size) }) :
    wpAny (model prog w) A (setItem (.ref l) (.ref sl) (.ref b)) Q E s := by
  have hl : s.heap.IsList l items := PySem.IsL.isList e
  have hb : s.heap.IsList b new := PySem.IsL.isList e2
  obtain ⟨os, hos, hcs, hds⟩ := id hs
  have hTs : s.TypeIs (.ref sl) "slice" := ⟨os, hos, hcs⟩
  have hstep : ¬ ((rawPart none == rawInt 0) = true) := Bool.false_ne_true
  have hsame : Builtin.List.listSameRef (.ref l) (.ref b) = false := by
    unfold Builtin.List.listSameRef
    exact beq_eq_false_iff_ne.mpr hne
  have hmax : (max (a : Int) (c : Int)).toNat = c := by omega
  have hz' : ((fun xs : Array Value => xs.extract 0 a ++ new ++ xs.extract c xs.size) items).size ≤ sizeLine + 1 := by
    simp only [Array.size_append, Array.size_extract]
    omega
  unfold setItem
  try with_reducible refine wpAny_holding ?_
  first | refine wpAny_bind (wpAny_pure ?_) | skip
  refine wpAny_bind (wpAny_sequenceKey hl.typeIs (by decide) ?_)
  refine wpAny_bind (wpAny_callSpecial?_slot (name := Str.ofString "__setitem__") hl.typeIs slot_list_setitem
    (wpAny_call_entry slot_list_setitem hl.typeIs entry_list_setitem ?_ (args_list_setitem _ _ _)))
  show wpAny _ _ (Builtin.List.listSubscript? (.ref sl) >>= _) _ _ s
  refine wpAny_bind ?_
  unfold Builtin.List.listSubscript?
  refine wpAny_bind (wpAny_specialOf hTs slice_no_index ?_)
  simp only [Option.isNone_none, if_true]
  refine wpAny_pure ?_
  show wpAny _ _ (typeOf (.ref sl) >>= _) _ _ s
  refine wpAny_bind (wpAny_typeOf hTs ?_)
  first
    | rw [if_neg (by decide)]
    | refine PySem.W.KFB.if_not (by decide) ?_
  rw [listSliceParts_eq]
  refine wpAny_bind (wpAny_bind (wpAny_field hos hds (x := .none) rfl (wpAny_bind (wpAny_listPart .none ?_))))
  rw [if_neg hstep]
  refine wpAny_bind (wpAny_field hos hds (x := vl) rfl (wpAny_bind (wpAny_listPart pl ?_)))
  refine wpAny_bind (wpAny_field hos hds (x := vu) rfl (wpAny_bind (wpAny_listPart pu (wpAny_pure ?_))))
  first
    | simp only [hsame, Bool.false_eq_true, if_false]
    | refine PySem.W.KFB.if_not hsame ?_
    | (dsimp only
       rw [if_neg (by rw [hsame]; exact Bool.false_ne_true)])
  refine wpAny_bind (m := Builtin.List.listAllItems (.ref b) "must assign iterable to extended slice") ?_
  unfold Builtin.List.listAllItems
  refine wpAny_bind (wpAny_typeOf hb.typeIs ?_)
  first
    | refine PySem.W.KFB.if_so (by decide) ?_
    | rw [if_pos (by decide)]
    | simp only [beq_self_eq_true, Bool.true_or, if_true]
  unfold Builtin.List.listItems
  refine wpAny_bind (wpAny_seqItems e2 rfl (wpAny_pure ?_))
  refine wpAny_bind (wpAny_bind (wpAny_seqItems e rfl (wpAny_pure ?_)))
  refine wpAny_bind (wpAny_of_eq ((sliceIndices_raw (some (a : Int)) (some (c : Int)) none items.size (by simp)).trans (congrArg (pure : Int × Int × Int → Sem (Int × Int × Int)) (bounds_run hac hc))) ?_)
  show wpAny _ _ (if ((1 : Int) == 1) = true then _ else _) _ _ s
  rw [if_pos (by decide)]
  refine wpAny_bind (wpAny_rule ?_)
  first
    | simp only [notLongL hsz, Bool.false_eq_true, if_false]
    | refine PySem.W.KFB.if_not (notLongL hsz) ?_
  first | refine wpAny_bind (wpAny_pure ?_) | skip
  show wpAny _ _ (updateSeq l (fun xs => xs.extract 0 ((a : Int)).toNat ++ new ++ xs.extract (max (a : Int) (c : Int)).toNat xs.size) >>= _) _ _ s
  rw [hmax, Int.toNat_natCast]
  refine wpAny_bind (wpAny_updateSeq (hz := Nat.le_trans (Nat.le_add_right _ _) hsz) (_hz' := hz') e rfl ?_)
  refine wpAny_bind (wpAny_letGo ?_)
  first
    | exact wpAny_bind (wpAny_pure (wpAny_pure ⟨.none, rfl, wpAny_pure h⟩))
    | exact wpAny_pure ⟨.none, rfl, wpAny_pure h⟩
end

section
variable {X : Cx}
/-- xs[a:c] = ys of another list, at the value level: sl is the slice object that was just made -/
theorem set_slice {pins : List (Addr × Obj)} {s : Shared} {σ : St} {H : Hp} {l b sl : Addr} {xs ys : List V} {a c : Int} {vl vu : Value} {Q : Unit → Shared → Prop} (I : Inv X pins σ H s)
    (hH : H l = some (.lst xs)) (hB : H b = some (.lst ys)) (hne : l ≠ b) (hs : s.heap.IsSliceOf sl vl vu .none) (ra : RelV (.int a) vl) (rc : RelV (.int c) vu) (h0 : 0 ≤ a) (hac : a ≤ c) (hc : c ≤ xs.length)
    (hz : xs.length + ys.length ≤ sizeLine) (h : ∀ s', Inv X pins σ (upd H l (.lst (xs.take a.toNat ++ ys ++ xs.drop c.toNat))) s' → Q () s') :
    wpAny (model X.prog X.w) X.A (setItem (.ref l) (.ref sl) (.ref b)) Q X.xe s := by
  obtain ⟨ta, rfl⟩ := ra
  obtain ⟨tc, rfl⟩ := rc
  obtain ⟨z, its, n, r, hl, e⟩ := I.lstM hH
  obtain ⟨z2, its2, n2, r2, hl2, e2⟩ := I.lstM hB
  obtain ⟨a', rfl⟩ := Int.eq_ofNat_of_zero_le h0
  obtain ⟨c', rfl⟩ := Int.eq_ofNat_of_zero_le (Int.le_trans h0 hac)
  simp only [Int.toNat_natCast] at h
  refine setItem_slice (a := a') (c := c') e e2 hne hs (.int _ _) (.int _ _) (by omega) (by rw [List.size_toArray]; omega) (by rw [List.size_toArray, List.size_toArray]; omega) (h _ ?_)
  refine I.lset (its' := its.take a' ++ its2 ++ its.drop c') (t' := s.toks) hH e ?_ (Vals.append (Vals.append (r.take _) r2) (r.drop _)) ?_
  · exact splice_eq its its2 a' c'
  · rw [List.length_append, List.length_append, List.length_take, List.length_drop]
    omega
end
end L2

namespace Att
open PySem PySem.W PySem.Calls PyProof.Rows

/-! ### the script -/
theorem ints_of_wellAll {P : Params} {h : Heap} : ∀ (ns : List Int) (vs : List Value), WellAll P h vs (ns.map WData.int) → IntsAre vs ns := by
  intro ns
  induction ns with
  | nil =>
    intro vs w
    rw [List.map_nil] at w
    cases w
    exact .nil
  | cons n ns ih =>
    intro vs w
    rw [List.map_cons] at w
    cases w with
    | cons a b =>
      cases a
      exact .cons _ _ (ih _ b)

theorem script_of {l : OpenLaw} {n : Nat} (hn : l.most = some n) {P : Params} {h : Heap} {args : List WData} {vals : List Value}
    (hpre : l.row.toRowW.claim.pre args = true) (hwl : WellAll P h vals args) :
    ∃ a vs ns, vals = [Value.ref a] ∧ args = [WData.list (ns.map WData.int)] ∧ h.get? a = some { cls := .type "list", data := .seq vs.toArray } ∧ IntsAre vs ns ∧ ns.length ≤ n := by
  have hsh : WShape.hasAll [] args [.list .int] = true := (pre_splitW hpre).1
  have hc : l.pre.holds [] { args := args } = true := (pre_splitW hpre).2
  obtain ⟨d, r, rfl, h1, h2⟩ := hasAllW_cons hsh
  obtain rfl := hasAllW_nil h2
  obtain ⟨xs, rfl, h3⟩ := hasW_list h1
  obtain ⟨ns, rfl⟩ := items_int h3
  have hlen : ns.length ≤ n := by
    unfold OpenLaw.pre at hc
    have h4 : (WTm.not (.lt (.lit (.int (n : Int))) (.len (.arg 0)))).holds [] { args := [.list (ns.map .int)] } = true := by
      have h4 := (holds_andW hc).1
      rw [hn] at h4
      exact h4
    have h5 := condW_of h4 (w_not (w_lt w_lit (w_len_list (w_arg rfl))))
    rw [List.length_map] at h5
    refine Nat.le_of_not_lt fun q => ?_
    have q' : (n : Int) < ((ns.length : Nat) : Int) := by omega
    first
      | (rw [decide_eq_true q'] at h5; exact absurd h5 (by decide))
      | (simp at h5; omega)
  cases hwl with
  | cons w1 w2 =>
    cases w2
    cases w1 with
    | list ho hall => exact ⟨_, _, ns, rfl, rfl, ho, ints_of_wellAll ns _ hall, hlen⟩

theorem post_true (l : OpenLaw) (args : List WData) : l.row.toRowW.claim.post args (.bool true) args = true :=
  postW_of (r := l.row.toRowW) (X := (true == true))
    (show WShape.has [] (.bool true) .bool = true by first | rfl | decide | simp [WShape.has, WShape.arms, WShape.armsAll])
    (show (WTm.eq .res (.lit (.bool true))).value [] { args := args, res := some (.bool true), after := args } = some (.bool (true == true)) from w_eq_bool (w_res rfl) w_lit) rfl

/-! ### the attachment: holds_open's last premise (the goal 'hc' behind k_head) from a wpAny of the law's body -/
theorem attach {l : OpenLaw} {n : Nat} {q : Program} {loose : List Str} {XP : (Str → Option Value) → Heap → Prop} {YP : World → Heap → Prop} {d : DefRec} {x : Str}
    (hn : l.most = some n) (hdf : d.params.defaults = [])
    (hbind : ∀ pm cd doc v : Value, bindArgs (docDef d.name d.params d.body d.scope pm cd doc) ⟨[v], []⟩ = pure [(x, v)])
    (hx : d.scope.names.lookup x = some .local ∨ d.scope.names.lookup x = some .cell)
    (hk : d.scope.kind = .function) (hco : d.scope.isCoroutine = false) (hgen : d.scope.isGenerator = false)
    (body : ∀ (w : World) (s₀ s₁ s : Shared) (mg mb : Str → Option Value) (fa : Addr) (o : Obj) (pm cd doc : Value) (a : Addr) (vs : List Value) (ns : List Int),
      Ground q loose [] XP w s₀ mg mb s₁.heap → YP w s₁.heap →
      s₁.heap.get? fa = some o → o.data = .func (docDef d.name d.params d.body d.scope pm cd doc) → s₁.heap.CodeRec cd d.name → mg d.name = some (.ref fa) →
      s₁.heap.get? a = some { cls := .type "list", data := .seq vs.toArray } → IntsAre vs ns → ns.length ≤ n →
      s.gens = #[] → s.os = s₁.os →
      Fr s₁.heap s₁.heap.objs.size s.heap (bindL (envOfC d.name d.scope s₁.heap.objs.size fa cd).kindOf [(x, .ref a)] fun _ => none) →
      Cl s₁.heap.objs.size (cellsFrom (s₁.heap.objs.size + 1) d.scope.names []) s.heap (bindC (envOfC d.name d.scope s₁.heap.objs.size fa cd).kindOf [(x, .ref a)] fun _ => none) →
      wpAny (model l.prog w) (callerA.deeper (envOfC d.name d.scope s₁.heap.objs.size fa cd)) (execs d.body (envOfC d.name d.scope s₁.heap.objs.size fa cd))
        (fun f s' => f = .ret (.bool true) ∧ OldK s₁.heap s'.heap ∧ s'.os = s₁.os ∧ AllBare s'.gens) (fun _ _ => False) s) :
    WalkO q loose XP YP l.row.toRowW d [] (fun f vs => PySem.call f vs) := by
  intro w s₀ s₁ mg mb G Y fa o pm cd doc dV kV ho hd hcd hD hmg hg args vals as hpre hlay hrd hwl hlo
  obtain rfl : dV = .none := Dflts.none hD hdf
  obtain rfl : kV = .none := Dflts.noKw hD
  obtain ⟨a, vs, ns, rfl, rfl, hobj, hints, hlen⟩ := script_of hn hpre hwl
  refine enter_call ?_
  refine call_cells_ret (o := o) (by rw [depth_caller]; decide) ho (fd_plain hd) G.T.nolimit hcd (hbind pm cd doc (.ref a)) (fun y hy => ?_) (fun h₁ tk F X => ?_) hco hgen hk
  · obtain rfl : y = (x, Value.ref a) := List.mem_singleton.mp hy
    rcases hx with e | e
    · exact .inl e
    · exact .inr ⟨e, cellsFrom_some _ _ _ (.inl e)⟩
  · refine wpAny_mono (body w s₀ s₁ { s₁ with heap := h₁, toks := tk } mg mb fa o pm cd doc a vs ns G Y ho (fd_plain hd) hcd hmg hobj hints hlen hg rfl F X) (fun f s' hq => ?_) (fun _ _ hq => hq)
    obtain ⟨rfl, h2, h3, h4⟩ := hq
    exact ⟨.inl ⟨.bool true, .bool true, [], rfl, fun _ => rfl, .bool true, post_true l _, fun _ => ⟨List.Pairwise.nil, fun _ hm => (nomatch hm)⟩⟩, h2, h3, h4⟩

/-- the same from a codeAny of the CALL (for a layer whose function contracts speak of calls) -/
theorem attach_call {l : OpenLaw} {n : Nat} {q : Program} {loose : List Str} {XP : (Str → Option Value) → Heap → Prop} {YP : World → Heap → Prop} {d : DefRec}
    (hn : l.most = some n) (hdf : d.params.defaults = [])
    (call : ∀ (w : World) (s₀ s₁ : Shared) (mg mb : Str → Option Value) (fa : Addr) (o : Obj) (pm cd doc : Value) (a : Addr) (vs : List Value) (ns : List Int),
      Ground q loose [] XP w s₀ mg mb s₁.heap → YP w s₁.heap →
      s₁.heap.get? fa = some o → o.data = .func (docDef d.name d.params d.body d.scope pm cd doc) → s₁.heap.CodeRec cd d.name → mg d.name = some (.ref fa) →
      s₁.heap.get? a = some { cls := .type "list", data := .seq vs.toArray } → IntsAre vs ns → ns.length ≤ n → s₁.gens = #[] →
      codeAny (model l.prog w) callerA (.call (.ref fa) ⟨[.ref a], []⟩) (fun r s' => r = .ok (.ret (.bool true)) ∧ OldK s₁.heap s'.heap ∧ s'.os = s₁.os ∧ AllBare s'.gens) s₁) :
    WalkO q loose XP YP l.row.toRowW d [] (fun f vs => PySem.call f vs) := by
  intro w s₀ s₁ mg mb G Y fa o pm cd doc dV kV ho hd hcd hD hmg hg args vals as hpre hlay hrd hwl hlo
  obtain rfl : dV = .none := Dflts.none hD hdf
  obtain rfl : kV = .none := Dflts.noKw hD
  obtain ⟨a, vs, ns, rfl, rfl, hobj, hints, hlen⟩ := script_of hn hpre hwl
  refine enter_call (codeAny_mono (call w s₀ s₁ mg mb fa o pm cd doc a vs ns G Y ho (fd_plain hd) hcd hmg hobj hints hlen hg) fun r s' hq => ?_)
  obtain ⟨rfl, h2, h3, h4⟩ := hq
  exact ⟨.inl ⟨.bool true, .bool true, [], rfl, fun _ => rfl, .bool true, post_true l _, fun _ => ⟨List.Pairwise.nil, fun _ hm => (nomatch hm)⟩⟩, h2, h3, h4⟩

/-- the same where the top left finished generators (o_head chose holds_openN): nothing may have changed at all and no generator may be left -/
theorem attachN {l : OpenLaw} {n : Nat} {q : Program} {loose : List Str} {XP : (Str → Option Value) → Heap → Prop} {YP : World → Heap → Prop} {d : DefRec} {x : Str}
    (hn : l.most = some n) (hdf : d.params.defaults = [])
    (hbind : ∀ pm cd doc v : Value, bindArgs (docDef d.name d.params d.body d.scope pm cd doc) ⟨[v], []⟩ = pure [(x, v)])
    (hx : d.scope.names.lookup x = some .local ∨ d.scope.names.lookup x = some .cell)
    (hk : d.scope.kind = .function) (hco : d.scope.isCoroutine = false) (hgen : d.scope.isGenerator = false)
    (body : ∀ (w : World) (s₀ s₁ s : Shared) (mg mb : Str → Option Value) (fa : Addr) (o : Obj) (pm cd doc : Value) (a : Addr) (vs : List Value) (ns : List Int),
      Ground q loose [] XP w s₀ mg mb s₁.heap → YP w s₁.heap →
      s₁.heap.get? fa = some o → o.data = .func (docDef d.name d.params d.body d.scope pm cd doc) → s₁.heap.CodeRec cd d.name → mg d.name = some (.ref fa) →
      s₁.heap.get? a = some { cls := .type "list", data := .seq vs.toArray } → IntsAre vs ns → ns.length ≤ n →
      s.gens = #[] → s.os = s₁.os →
      Fr s₁.heap s₁.heap.objs.size s.heap (bindL (envOfC d.name d.scope s₁.heap.objs.size fa cd).kindOf [(x, .ref a)] fun _ => none) →
      Cl s₁.heap.objs.size (cellsFrom (s₁.heap.objs.size + 1) d.scope.names []) s.heap (bindC (envOfC d.name d.scope s₁.heap.objs.size fa cd).kindOf [(x, .ref a)] fun _ => none) →
      wpAny (model l.prog w) (callerA.deeper (envOfC d.name d.scope s₁.heap.objs.size fa cd)) (execs d.body (envOfC d.name d.scope s₁.heap.objs.size fa cd))
        (fun f s' => f = .ret (.bool true) ∧ (∀ b o, s₁.heap.get? b = some o → s'.heap.get? b = some o) ∧ s'.os = s₁.os ∧ s'.gens = #[]) (fun _ _ => False) s) :
    WalkN q loose XP YP l.row.toRowW d [] (fun f vs => PySem.call f vs) := by
  intro w s₀ s₁ mg mb G Y fa o pm cd doc dV kV ho hd hcd hD hmg hg args vals as hpre hlay hrd hwl hlo
  obtain rfl : dV = .none := Dflts.none hD hdf
  obtain rfl : kV = .none := Dflts.noKw hD
  obtain ⟨a, vs, ns, rfl, rfl, hobj, hints, hlen⟩ := script_of hn hpre hwl
  refine enter_callW ?_
  refine call_cells_ret (o := o) (by rw [depth_caller]; decide) ho (fd_plain hd) G.T.nolimit hcd (hbind pm cd doc (.ref a)) (fun y hy => ?_) (fun h₁ tk F X => ?_) hco hgen hk
  · obtain rfl : y = (x, Value.ref a) := List.mem_singleton.mp hy
    rcases hx with e | e
    · exact .inl e
    · exact .inr ⟨e, cellsFrom_some _ _ _ (.inl e)⟩
  · refine wpAny_mono (body w s₀ s₁ { s₁ with heap := h₁, toks := tk } mg mb fa o pm cd doc a vs ns G Y ho (fd_plain hd) hcd hmg hobj hints hlen hg rfl F X) (fun f s' hq => ?_) (fun _ _ hq => hq)
    obtain ⟨rfl, h2, h3, h4⟩ := hq
    exact ⟨.inl ⟨.bool true, .bool true, [], rfl, fun _ => rfl, .bool true, post_true l _, fun _ => ⟨List.Pairwise.nil, fun _ hm => (nomatch hm)⟩⟩, h2, h3, h4⟩

/-! ### rules over ANY heap (no ledger) from facts about the written part K: the library's own take a ledger (News) for what they write -/
section
variable {prog : Program} {w : World} {A : Around} {E : Value → Shared → Prop} {s : Shared} {K : Frag}

/-- a def of the module, or a method (qual 'C.m'), entered: the frame is the next address; cells behind it -/
theorem call_fn {R : Result → Shared → Prop} {name qual : Str} {params : Arguments} {body : List Stmt} {scope : Scope} {dV kV doc pm cdv ct oc : Value} {an od : Option Addr} {osl : Array (Option Value)} {f : Addr} {args : Args} {binds : List (Str × Value)}
    (X : K.In s.heap) (hlim : s.heap.NoLimit) (ho : K.lookup f = some ⟨oc, od, .func (fnOf name qual params body scope dV kV doc pm an cdv ct), osl⟩) (hcd : codeIn K cdv qual = true) (hroom : A.depth < recursionLimit)
    (hbind : BindsTo s (fnOf name qual params body scope dV kV doc pm an cdv ct) args binds)
    (hkind : (binds.all fun y => scope.names.lookup y.1 == some .local || scope.names.lookup y.1 == some .cell) = true)
    (h : ∀ s₁, InCallC s s.heap.objs.size (bindL (envOfC qual scope s.heap.objs.size f cdv).kindOf binds fun _ => none) (cellsFrom (s.heap.objs.size + 1) scope.names [])
        (bindC (envOfC qual scope s.heap.objs.size f cdv).kindOf binds fun _ => none) s₁ →
      wpAny (model prog w) (A.deeper (envOfC qual scope s.heap.objs.size f cdv)) (execs body (envOfC qual scope s.heap.objs.size f cdv))
        (fun fl s' => R (.ok (.ret (match fl with | .ret v => v | _ => .none))) s')
        (fun e s' => wpAny (model prog w) (A.deeper (envOfC qual scope s.heap.objs.size f cdv)) (leaving (envOfC qual scope s.heap.objs.size f cdv) e) (fun _ s'' => R (.error e) s'') (fun e' s'' => R (.error e') s'') s') s₁)
    (hco : scope.isCoroutine = false) (hgen : scope.isGenerator = false) (hk : scope.kind = .function) : codeAny (model prog w) A (.call (.ref f) args) R s := by
  refine codeAny_call_function hroom (X _ _ ho) rfl hco hgen rfl (codeRec_of X hcd) (hbind _ _ _ _ ?_)
  refine wpAny_newFunctionEnv_cells hk (kindsX hkind _) fun env he s₁ x => ?_
  subst he
  exact ⟨hlim.keeps x.toInCall.keep, codeAny_func (h s₁ x)⟩

/-- C(..): dict at size, instance at size + 1, then __init__ -/
theorem make_obj {R : Result → Shared → Prop} {C fI : Addr} {rest : List Value} {kw : List (Str × Value)}
    (X : K.In s.heap) (hm : makesIn K C = true) (hi : findIn K (.ref C) "__init__" = some (some (.ref fI))) (hf : isFn K (.ref fI) = true)
    (h : codeAny (model prog w) (A.under (.builtin "type.__call__" ⟨.ref C :: rest, kw⟩)) (.call (.ref fI) ⟨.ref (s.heap.objs.size + 1) :: rest, kw⟩) (InitBack (s.heap.objs.size + 1) R)
      { s with heap := (s.heap.push emptyDict).push (instObj C s.heap.objs.size) }) : codeAny (model prog w) A (.call (.ref C) ⟨rest, kw⟩) R s := by
  obtain ⟨hh, g, d, t, os⟩ := s
  exact make_core (makes_of X hm) (looks_findIn X hi) (fun self => bind_fn X self (beq_iff_eq.mp hf)) (.inl rfl) h

/-- x.name where the instance's dict holds the name and the class does not -/
theorem get_field {x C : Addr} {ox : Obj} {es : List DictEntry} {n : Nat} {name : Str} {expr : Bool} {v : Value} {Q : Value → Shared → Prop}
    (X : K.In s.heap) (I : PySem.W.InstAt s.heap x ox C (some (dictOf es n))) (hg : plainGet K C name = true) (hh : hasDictIn K C = true) (ha : findIn K (.ref C) name = some none)
    (hl : getL name es = some (some v)) (hv : handedIn v = true) (h : Q v { s with toks := s.toks + 1 }) : wpAny (model prog w) A (getAttr (.ref x) name expr) Q E s :=
  get_value X I (plainGet_of hg).1 (findObj_own hh ha rfl hl) hv h

/-- x.m(..): the method found in the class -/
theorem get_method {x C f : Addr} {ox : Obj} {es : List DictEntry} {n : Nat} {name : Str} {pl : Sem Bool} {Q : Value × List Value → Shared → Prop}
    (X : K.In s.heap) (I : PySem.W.InstAt s.heap x ox C (some (dictOf es n))) (hg : plainGet K C name = true) (hf : findIn K (.ref C) name = some (some (.ref f))) (ht : isFn K (.ref f) = true)
    (hl : getL name es = some none) (h : Q (.ref f, [.ref x]) s) : wpAny (model prog w) A (getMethod (.ref x) name pl) Q E s :=
  method_fn X I (plainGet_of hg).1 (plainGet_of hg).2 hf (beq_iff_eq.mp ht) (by show (lookIn name (dictOf es n)).map _ = _; rw [lookIn_dict, hl]; rfl) h

/-! the whole heap as the ledger: makes every rule that writes through a ledger a rule over any heap -/
def noObjs (h : Heap) : Heap := { h with objs := #[] }
theorem noObjs_get (h : Heap) (b : Addr) : (noObjs h).get? b = none := by
  cases e : (noObjs h).get? b with
  | none => rfl
  | some o => exact absurd (Heap.lt_size e) (Nat.not_lt_zero _)
def ledger (h : Heap) (L d : Addr) : List (Addr × Obj) := (List.range h.objs.size).filterMap fun a => if a = L ∨ a = d then none else (h.get? a).map fun o => (a, o)
theorem mem_ledger {h : Heap} {L d a : Addr} {o : Obj} : (a, o) ∈ ledger h L d ↔ a ≠ L ∧ a ≠ d ∧ h.get? a = some o := by
  unfold ledger
  rw [List.mem_filterMap]
  constructor
  · rintro ⟨b, _, e⟩
    split at e
    · cases e
    · rename_i hb
      obtain ⟨o', ho, e'⟩ := Option.map_eq_some_iff.mp e
      cases e'
      exact ⟨fun q => hb (.inl q), fun q => hb (.inr q), ho⟩
  · rintro ⟨n1, n2, ho⟩
    refine ⟨a, List.mem_range.mpr (Heap.lt_size ho), ?_⟩
    rw [if_neg (show ¬ (a = L ∨ a = d) from fun q => q.elim n1 n2), ho] <;> rfl
theorem news_ledger {h : Heap} {L d : Addr} {od : Obj} (hne : d ≠ L) (ho : h.get? d = some od) : News (noObjs h) L h ([] ++ (d, od) :: ledger h L d) := by
  rintro ⟨a, o⟩ hp
  rcases List.mem_cons.mp hp with e | hp
  · cases e
    exact ⟨ho, hne, noObjs_get _ _⟩
  · obtain ⟨n1, n2, e⟩ := mem_ledger.mp hp
    exact ⟨e, n1, noObjs_get _ _⟩
theorem fr_all {h : Heap} {L : Addr} {m : Str → Option Value} (n : h.Ns L m) : Fr (noObjs h) L h m :=
  ⟨n, fun b o e => (by rw [noObjs_get] at e; cases e), Nat.zero_le _⟩
/-- Upd of the head entry (for append_K, setItem_K ..) -/
theorem upd_ledger {h : Heap} {L d : Addr} {o o' : Obj} : Upd d o o' ((d, o) :: ledger h L d) ((d, o') :: ledger h L d) :=
  .head fun ⟨_, _⟩ hp => (mem_ledger.mp hp).2.1

/-- x.name = v over any heap: L is any namespace of the heap (the frame's, say): its map stays, its object is not told; all else but the dict stays -/
theorem set_field {x C dx L : Addr} {ox : Obj} {m : Str → Option Value} {es es' : List DictEntry} {n n' : Nat} {name : Str} {v : Value} {Q : Unit → Shared → Prop}
    (X : K.In s.heap) (I : PySem.W.InstAt s.heap x ox C (some (dictOf es n))) (hd : ox.dict = some dx) (hL : s.heap.Ns L m) (hne : dx ≠ L)
    (hs : findIn K (.ref C) "__setattr__" = some (some (.builtin "object.__setattr__"))) (hp : plainOver K C = true) (ht : takerIn K C name = some none) (hh : hasDictIn K C = true) (hl : (getL name es).isSome = true)
    (e : (putL name (PyData.keyHash w.params name) (.str name (s.toks + 1)) v es, putN name es n) = (es', n')) (hz : es'.length ≤ 1000)
    (h : ∀ h' : Heap, h'.Ns L m → h'.get? dx = some (dictOf es' n') → (∀ b o, b ≠ dx → b ≠ L → s.heap.get? b = some o → h'.get? b = some o) → Q () { s with heap := h', toks := s.toks + 2 }) :
    wpAny (model prog w) A (setAttr (.ref x) name v) Q E s := by
  obtain ⟨e1, e2⟩ := Prod.mk.inj e
  have hdx : s.heap.get? dx = some (dictOf es n) := by
    have := I.dict
    rw [hd] at this
    exact this
  refine set_plain X I hs (osa_dict (s := { s with toks := s.toks + 1 }) (h₀ := noObjs s.heap) (L := L) (m := m) (od := dictOf es n) (od' := dictOf es' n') (es := es') (n := n') (pre := []) (post := ledger s.heap L dx)
    (fr_all hL) (news_ledger hne hdx) X I hd hp ht hh hl (fun _ q => nomatch q) (fun ⟨_, _⟩ q => (mem_ledger.mp q).2.1) (by rw [putName_dict, e1, e2]) rfl hz fun h' F' N' => ?_)
  exact h h' F'.ns (N'.get (List.Mem.head _)) fun b o n1 n2 ho => N'.get (List.Mem.tail _ (mem_ledger.mpr ⟨n2, n1, ho⟩))
end
end Att

namespace L2
open PySem PySem.Spec PyProof.Rows

theorem vals_ints : ∀ {vs : List Value} {ns : List Int}, IntsAre vs ns → Vals (ns.map V.int) vs
  | _, _, .nil => .nil
  | _, _, .cons n t h => .cons ⟨t, rfl⟩ (vals_ints h)

/-- nothing is tracked but the script, known to the object (or it is an object of the module) -/
def Only (H : Hp) : Prop := ∀ b, H b = none ∨ ∃ o xs, H b = some (.frz o (.lst xs))

/-- THE HEAD: the law's promise, at the heap behind the top. F, the promise of the law's def, may use that base is part of the heap (so K.In base, base.Ns mainGlobals mg stand in Mod) -/
theorem law_call {P : Program} {w : World} {K : PySem.W.Frag} {mg mb : Str → Option Value} {CX : CXT} {k : Nat} {fa a : Addr} {fd : FuncData} {x : Str} {sp : Sp} {s₁ : Shared} {vs : List Value} {ns : List Int}
    (KX : K.In s₁.heap) (hns : s₁.heap.Ns mainGlobals mg) (hb : s₁.heap.Ns builtinsNs mb) (hbb : ∀ x : Str, x ≠ "__name__" → mb x = bootBuiltins x) (hlim : s₁.heap.NoLimit) (hg : s₁.gens = #[])
    (ha : s₁.heap.get? a = some { cls := .type "list", data := .seq vs.toArray }) (hi : IntsAre vs ns) (hl : ns.length ≤ sizeLine) (hr : Room k callerA)
    (F : ∀ base : Heap, K.In base → base.Ns mainGlobals mg → FnOk P w K mg base CX k fa fd [x] sp) (hbind : ∀ (s : Shared) (u : Value), BindsTo s fd ⟨[u], []⟩ [(x, u)])
    (hsp : ∀ H : Hp, Only H → SqL K H a (ns.map V.int) → sp [.ref a] H (fun v _ => v = .bl true) fun _ _ _ => False)
    (hCX : ∀ H e s', CX [] H s₁ (fun _ _ _ => False) e s' → False) :
    codeAny (model P w) callerA (.call (.ref fa) ⟨[.ref a], []⟩) (fun r s' => r = .ok (.ret (.bool true)) ∧ OldK s₁.heap s'.heap ∧ s'.os = s₁.os ∧ AllBare s'.gens) s₁ := by
  have rv := vals_ints hi
  have lenV := hi.length
  -- from an abstract heap in which nothing but the script may be tracked
  have core : ∀ H : Hp, Only H → SqL K H a (ns.map V.int) → HOk P w H s₁.heap → (∀ b, H b ≠ none → b = a) → (H a ≠ none → K.lookup a = none) →
      codeAny (model P w) callerA (.call (.ref fa) ⟨[.ref a], []⟩) (fun r s' => r = .ok (.ret (.bool true)) ∧ OldK s₁.heap s'.heap ∧ s'.os = s₁.os ∧ AllBare s'.gens) s₁ := by
    intro H hO hS hok hA hK
    have base_of : ∀ {b : Addr} {o : Obj}, s₁.heap.get? b = some o → H b = none → (hidT s₁.heap H).get? b = some o := fun e n => hidT_get e n
    have noA : ∀ {b : Addr} {o : Obj} {es : Array DictEntry} {ep : Nat}, s₁.heap.get? b = some o → o.data = .dict es ep → H b = none := fun {b o es ep} e d => by
      cases q : H b with
      | none => rfl
      | some u =>
        have e' : b = a := hA b (by rw [q]; simp)
        subst e'
        rw [ha] at e; cases e
        have d' : Data.seq vs.toArray _ = Data.dict es ep := d
        cases d'
    have nsK : ∀ {b : Addr} {m : Str → Option Value}, s₁.heap.Ns b m → (hidT s₁.heap H).Ns b m := fun {b m} ⟨o, es, ep, e, d, r⟩ => ⟨o, es, ep, base_of e (noA e d), d, r⟩
    have hKb : K.In (hidT s₁.heap H) := fun b o e => base_of (KX b o e) (by
      cases q : H b with
      | none => rfl
      | some u =>
        have e' : b = a := hA b (by rw [q]; simp)
        subst e'
        rw [hK (by rw [q]; simp)] at e; cases e)
    have hM : Mod K mg (hidT s₁.heap H) := ⟨hKb, nsK hns, ⟨mb, nsK hb, hbb⟩, let ⟨mc, h1, h2⟩ := hlim; ⟨mc, nsK h1, h2⟩⟩
    have e0 : Env0 P w K mg (hidT s₁.heap H) callerA [] s₁ H := ⟨rfl, hM, fun b o e => of_hidT e, Nat.le_of_eq (hidT_size _ _), trivial, fun b hb => absurd (show b ∈ ([] : List Addr) from hb) (by simp), hok, .of_eq hg⟩
    refine codeAny_mono ((F _ hKb (nsK hns)).run callerA [] s₁ H ⟨[.ref a], []⟩ [.ref a] [.ref a] _ _ hr e0 (hbind s₁ (.ref a)) (.cons rfl .nil) (hsp H hO hS)) fun r s' h => ?_
    cases r with
    | error e => exact (hCX H e s' h).elim
    | ok fl =>
      cases fl with
      | next => exact False.elim h
      | brk => exact False.elim h
      | cont => exact False.elim h
      | ret u =>
        obtain ⟨v, H', os, bare, un, hok', r', q⟩ := h
        have q' : v = .bl true := q
        subst q'
        obtain rfl : u = Value.bool true := r'
        refine ⟨rfl, OldK.of_keep fun b o e => ?_, os, bare⟩
        cases q : H b with
        | none => exact un.keep b o e q (by intro z; exact absurd (show b ∈ ([] : List Addr) from z) (by simp)) (by simp)
        | some u =>
          rcases hO b with z | ⟨ob, xs, z⟩
          · rw [q] at z; cases z
          · have z2 := un.frzs b ob _ z
            obtain ⟨e1, _⟩ := hok b _ z
            obtain ⟨e2, _⟩ := hok' b _ z2
            rw [e] at e1; cases e1
            exact e2
  cases hk : K.lookup a with
  | some o =>
    -- the script is one of the module's own objects
    have e := KX a o hk
    rw [ha] at e
    cases e
    refine core (fun _ => none) (fun _ => .inl rfl) (.inr ⟨_, vs.toArray, _, hk, rfl, rfl, rfl, by rw [List.size_toArray, lenV]; exact hl, by simpa using rv⟩) (fun b u z => by have z' : (none : Option HO) = some u := z; cases z') (fun b z => absurd rfl z) fun z => absurd rfl z
  | none =>
    refine core (fun b => if b = a then some (.frz { cls := .type "list", data := .seq vs.toArray } (.lst (ns.map V.int))) else none) (fun b => ?_) (.inl (.inr ⟨{ cls := .type "list", data := .seq vs.toArray }, if_pos rfl⟩)) (fun b u z => ?_) (fun b z => ?_) fun _ => hk
    · by_cases hb : b = a
      · exact .inr ⟨_, _, if_pos hb⟩
      · exact .inl (if_neg hb)
    · by_cases hb : b = a
      · have z' := (if_pos hb).symm.trans z
        cases z'
        subst hb
        exact ⟨ha, by rw [List.length_map]; exact hl, vs, _, rv, ha⟩
      · have z' := (if_neg hb).symm.trans z
        cases z'
    · by_cases hb : b = a
      · exact hb
      · exact absurd (if_neg hb) z
end L2

namespace L2
open PySem PySem.Spec PyProof.Rows

abbrev KOf {K : PySem.W.Frag} {h : Heap} (_ : K.In h) : PySem.W.Frag := K

/-- the goal that k_head leaves (case hc), from the law's promise. F gives the function object fd (K's own) once, then the promise over every base -/
theorem walk_of {l : PySem.W.OpenLaw} {n k : Nat} {q : Program} {loose : List Str} {XP : (Str → Option Value) → Heap → Prop} {YP : World → Heap → Prop} {d : DefRec} {K : Params → PySem.W.Frag} {CX : World → CXT} {sp : World → Sp} {x : Str}
    (hn : l.most = some n) (hn2 : n ≤ sizeLine) (hdf : d.params.defaults = []) (hr : Room k callerA)
    (hY : ∀ (w : World) (h : Heap), YP w h → (K w.params).In h)
    (F : ∀ (w : World) (mg : Str → Option Value) (fa : Addr) (h : Heap), (K w.params).In h → h.Ns mainGlobals mg → mg d.name = some (.ref fa) →
      ∃ fd : FuncData, (∀ (s : Shared) (u : Value), BindsTo s fd ⟨[u], []⟩ [(x, u)]) ∧
        ∀ base : Heap, (K w.params).In base → base.Ns mainGlobals mg → FnOk l.prog w (K w.params) mg base (CX w) k fa fd [x] (sp w))
    (hsp : ∀ (w : World) (H : Hp) (a : Addr) (ns : List Int), ns.length ≤ n → Only H → SqL (K w.params) H a (ns.map V.int) → sp w [.ref a] H (fun v _ => v = .bl true) fun _ _ _ => False)
    (hCX : ∀ (w : World) (H : Hp) (s : Shared) (e : Value) (s' : Shared), CX w [] H s (fun _ _ _ => False) e s' → False) :
    PySem.W.WalkO q loose XP YP l.row.toRowW d [] (fun f vs => PySem.call f vs) := by
  refine Att.attach_call hn hdf fun w s₀ s₁ mg mb fa o pm cd doc a vs ns G Y ho hd hcd hmg hobj hints hlen hg => ?_
  have KX := hY w _ Y
  obtain ⟨fd, hb, hF⟩ := F w mg fa _ KX G.T.g hmg
  exact law_call KX G.T.g G.T.b G.T.builtins G.T.nolimit hg hobj hints (Nat.le_trans hlen hn2) hr hF hb (fun H hO hS => hsp w H a ns hlen hO hS) fun H e s' => hCX w H s₁ e s'
/-- the same where the promise hangs on the written part alone: (sp := My.sp_law), no hole under a binder -/
theorem walk_ofK {l : PySem.W.OpenLaw} {n k : Nat} {q : Program} {loose : List Str} {XP : (Str → Option Value) → Heap → Prop} {YP : World → Heap → Prop} {d : DefRec} {K : Params → PySem.W.Frag} {CX : CXT} {sp : PySem.W.Frag → Sp} {x : Str}
    (hn : l.most = some n) (hn2 : n ≤ sizeLine) (hdf : d.params.defaults = []) (hr : Room k callerA)
    (hY : ∀ (w : World) (h : Heap), YP w h → (K w.params).In h)
    (F : ∀ (w : World) (mg : Str → Option Value) (fa : Addr) (h : Heap), (K w.params).In h → h.Ns mainGlobals mg → mg d.name = some (.ref fa) →
      ∃ fd : FuncData, (∀ (s : Shared) (u : Value), BindsTo s fd ⟨[u], []⟩ [(x, u)]) ∧
        ∀ base : Heap, (K w.params).In base → base.Ns mainGlobals mg → FnOk l.prog w (K w.params) mg base CX k fa fd [x] (sp (K w.params)))
    (hsp : ∀ (K : PySem.W.Frag) (H : Hp) (a : Addr) (ns : List Int), ns.length ≤ n → Only H → SqL K H a (ns.map V.int) → sp K [.ref a] H (fun v _ => v = .bl true) fun _ _ _ => False)
    (hCX : ∀ (H : Hp) (s : Shared) (e : Value) (s' : Shared), CX [] H s (fun _ _ _ => False) e s' → False) :
    PySem.W.WalkO q loose XP YP l.row.toRowW d [] (fun f vs => PySem.call f vs) :=
  walk_of (K := K) (CX := fun _ => CX) (sp := fun w => sp (K w.params)) hn hn2 hdf hr hY F (fun w H a ns h1 h2 h3 => hsp (K w.params) H a ns h1 h2 h3) fun _ H s e s' => hCX H s e s'
end L2

/- THE LAST THEOREM (shape; LID, My.* are yours):
   My.Adr: a structure of the addresses that your layer names (classes, functions); My.Txt K t: a structure (Prop) of the equations over K;
   My.txt_mk : {K} {implicit addresses ..} (e1 : nsIn K mainGlobals "law" = some (some (.ref f))) (e2 : K.lookup f = some ⟨oc, od, .func (fnOf "law" "law" params body scope dV kV doc pm an cdv ct), sl⟩) (e3 : codeIn K cdv "law" = true) .. : ∃ t, My.Txt K t

set_option maxRecDepth 100000 in
set_option maxHeartbeats 0 in
theorem PySem.Challenge.cw_LID_holds : PySem.Challenge.rw_LID.Holds := by
  w_on; o_law; k_head; (case hw => w_witness2)
  k_fill
  refine L2.walk_of (l := PySem.Challenge.rw_LID) (n := 63) (k := 40) (x := "script") (CX := fun w => ..) (sp := fun _ => My.sp_law) rfl (by decide) rfl ⟨rfl, by decide, by decide⟩ (fun w h Y => PySem.W.kIn_of Y) ?F ?S ?C
  case F =>
    intro w mg fa h KX G hmg
    have T : ∃ t, My.Txt (L2.KOf KX) t := by
      dsimp only [L2.KOf]                          -- K must stand as «<heap const> w.params» for k_is
      refine' My.txt_mk ?e1 ?e2 ?e3 ..
      (case e1 => PySem.W.k_is)                    -- in the order: a name -> its address -> its object -> its parts
      (case e2 => PySem.W.k_is)
      ..
    obtain ⟨t, T⟩ := T
    have e0 := hmg.symm.trans (PySem.W.mg_of KX G T.law)
    cases e0                                       -- fa is the law's own address
    exact ⟨_, fun s u => .of_eq rfl, fun base kb nb => My.law_fn T kb nb⟩     -- if «.of_eq rfl» comes too early: refine' ⟨_, ?b, fun base kb nb => My.law_fn T kb nb⟩; exact fun s u => .of_eq rfl
  case S => exact fun w H a ns hl hO hS => ..
  case C => exact ..
(the tactic k_is has no namespace: write k_is) -/

/-! SHORT WORDS over the layer: a def of the text, its body, what a loop and a test want. -/
namespace L2
open PySem PySem.Spec PyProof.Rows

/-! ### the text by places -/
/-- the j-th statement of a class's body -/
def inClass (s : Stmt) (j : Nat) : Stmt := match s with
  | .ClassDef _ _ _ body _ _ _ _ _ _ _ => body.getD j (.Pass ⟨0, 0, 0, 0⟩)
  | _ => .Pass ⟨0, 0, 0, 0⟩
def defArgs (s : Stmt) : Arguments := match s with
  | .FunctionDef _ a _ _ _ _ _ _ _ _ => a
  | _ => { posonlyargs := [], args := [], vararg := none, kwonlyargs := [], kw_defaults := [], kwarg := none, defaults := [] }
def defBody (s : Stmt) : List Stmt := match s with
  | .FunctionDef _ _ b _ _ _ _ _ _ _ => b
  | _ => []
def defScope (s : Stmt) : Scope := match s with
  | .FunctionDef _ _ _ _ _ _ sc _ _ _ => sc
  | _ => { kind := .function, names := [], isGenerator := false, isCoroutine := false }

/-! ### no exception leaves a def -/
abbrev CX0 : CXT := fun _ _ _ _ _ _ => False
abbrev E0 : XK := fun _ _ _ => False
theorem pass0 {X : Cx} : Passes CX0 X E0 := fun _ _ _ _ _ _ _ h => h.elim

/-! ### a def (or method) of the text as it stands behind the top -/
structure Fun (K : PySem.W.Frag) (x qual : Str) (st : Stmt) (f : Addr) (fd : FuncData) : Prop where
  ex : ∃ (oc : Value) (od : Option Addr) (kV doc pm : Value) (an : Option Addr) (cdv ct : Value) (osl : Array (Option Value)),
    fd = PySem.W.fnOf x qual (defArgs st) (defBody st) (defScope st) .none kV doc pm an cdv ct ∧ K.lookup f = some ⟨oc, od, .func fd, osl⟩ ∧ PySem.W.codeIn K cdv qual = true
  kp : PySem.W.keepIn K (.ref f) = true
section
variable {P : Program} {w : World} {K : PySem.W.Frag} {mg : Str → Option Value} {base : Heap}
/-- THE RULE for a def: its body as a term of rules, and the reading of that term -/
theorem Fun.ok {x qual : Str} {st : Stmt} {f : Addr} {fd : FuncData} {N ps : List Str} {k : Nat} {sp : Sp} (F : Fun K x qual st f fd) (S : FnScope N ps (defScope st)) (len : ∀ vs H Q E, sp vs H Q E → vs.length = ps.length)
    (hbody : ∀ (cdv : Value) (A : Around) (outer : List Env) (s : Shared) (H : Hp) (vs : List V) (Q : VK) (E : XK), Room k (A.deeper (envOfC qual (defScope st) s.heap.objs.size f cdv)) → sp vs H Q E →
      ∃ t, PSs (cxOf CX0 P w K mg base N qual (defScope st) f cdv A outer s H E).nox (defBody st) t ∧ t { nx := fun _ H' => Q .non H', rt := Q } (start N vs) H) : FnOk P w K mg base CX0 (k + 1) f fd ps sp := by
  obtain ⟨oc, od, kV, doc, pm, an, cdv, ct, osl, rfl, lk, hcd⟩ := F.ex
  refine fn_of lk hcd S len fun A outer s H vs Q E hr hsp => ?_
  obtain ⟨t, h, q⟩ := hbody cdv A outer s H vs Q E hr hsp
  exact ⟨t, h.nox, q⟩
/-- how its arguments bind (no defaults): h is «fun _ _ _ _ _ _ us hl => match us, hl with | [_, _], _ => rfl», one _ a parameter -/
theorem Fun.binds {x qual : Str} {st : Stmt} {f : Addr} {fd : FuncData} {ps : List Str} (F : Fun K x qual st f fd)
    (h : ∀ (kV doc pm : Value) (an : Option Addr) (cdv ct : Value) (us : List Value), us.length = ps.length → bindArgs (PySem.W.fnOf x qual (defArgs st) (defBody st) (defScope st) .none kV doc pm an cdv ct) ⟨us, []⟩ = pure (ps.zip us)) : Binds K fd ps [] := by
  obtain ⟨oc, od, kV, doc, pm, an, cdv, ct, osl, rfl, lk, hcd⟩ := F.ex
  exact .all (h kV doc pm an cdv ct)
theorem fun_mk {x qual : Str} {st : Stmt} {f : Addr} {oc : Value} {od an : Option Addr} {osl : Array (Option Value)} {kV doc pm cdv ct : Value} (l : K.lookup f = some ⟨oc, od, .func (PySem.W.fnOf x qual (defArgs st) (defBody st) (defScope st) .none kV doc pm an cdv ct), osl⟩)
    (c : PySem.W.codeIn K cdv qual = true) (k : PySem.W.keepIn K (.ref f) = true) : Fun K x qual st f (PySem.W.fnOf x qual (defArgs st) (defBody st) (defScope st) .none kV doc pm an cdv ct) := ⟨⟨oc, od, kV, doc, pm, an, cdv, ct, osl, rfl, l, c⟩, k⟩
end
theorem hu_of {A : Around} {k : Nat} (hr : Room k A) : A.units + 1 < cLine := Nat.lt_of_le_of_lt (Nat.add_le_add_left (by decide : 1 ≤ 64) _) hr.units
theorem small1000 {n : Nat} (h : n ≤ 1000) : n < sizeLine := Nat.lt_of_le_of_lt h (by decide)

/-! ### expressions in short: the name that stands in the i-th slot -/
section
variable {X : Cx}
theorem pv (i : Nat) {x : Str} {pos : Pos} (hN : X.N[i]? = some x := by rfl) (hv : Vis X.env.scope x := by first | exact Or.inl rfl | exact Or.inr (Or.inl rfl) | exact Or.inr (Or.inr rfl)) (hd : (x == ("__debug__" : Str)) = false := by decide)
    (hcd : (x == ("__classdict__" : Str)) = false := by decide) : PE X (.Name x pos) (tVar i) := pe_var hN hv hd hcd
end

/-! ### tests -/
theorem iteF {A B : Prop} (h : B) : if false = true then A else B := by
  rw [if_neg Bool.false_ne_true]
  exact h
theorem iteT {A B : Prop} (h : A) : if true = true then A else B := by
  rw [if_pos rfl]
  exact h
theorem ite2 {c A B : Prop} [Decidable c] (h1 : c → A) (h2 : ¬ c → B) : if c then A else B := by
  by_cases h : c
  · rw [if_pos h]
    exact h1 h
  · rw [if_neg h]
    exact h2 h
theorem iteNS {c A B : Prop} [Decidable c] (hc : c) (h : B) : if (!decide c) = true then A else B := by
  rw [decide_eq_true hc]
  exact iteF h

/-! ### heaps -/
/-- all that was tracked is as it was -/
def Same (H H' : Hp) : Prop := ∀ b o, H b = some o → H' b = some o
theorem Same.refl (H : Hp) : Same H H := fun _ _ h => h
theorem Same.trans {H H1 H2 : Hp} (a : Same H H1) (b : Same H1 H2) : Same H H2 := fun c o h => b c o (a c o h)
theorem Same.free {H H' : Hp} (e : Same H H') {l : Addr} (h : H' l = Option.none) : H l = Option.none := by
  cases q : H l with
  | none => rfl
  | some o =>
    rw [e l o q] at h
    cases h
theorem Same.seq {K : PySem.W.Frag} {H H' : Hp} {a : Addr} {xs : List V} (e : Same H H') (h : SqL K H a xs) : SqL K H' a xs := by
  rcases h with (h | ⟨o, h⟩) | h
  · exact .inl (.inl (e _ _ h))
  · exact .inl (.inr ⟨o, e _ _ h⟩)
  · exact .inr h

end L2

set_option linter.all false
namespace Rm
/-! ### the rooms as numbers: each one's holder -/
def hold (hs : List Int) (i : Nat) : Int := hs.getD i (-1)
structure Tree (hs : List Int) : Prop where
  pos : 0 < hs.length
  root : hold hs 0 = -1
  up : ∀ i : Nat, 0 < i → i < hs.length → 0 ≤ hold hs i ∧ hold hs i < (i : Int)
def kids (hs : List Int) (k : Int) : List Int := ((List.range hs.length).filter fun j => decide (hold hs j = k)).map fun (j : Nat) => (j : Int)
def chain (hs : List Int) (i : Nat) : List Nat :=
  if h : 0 ≤ hold hs i ∧ hold hs i < (i : Int) then i :: chain hs (hold hs i).toNat else [i]
termination_by i
decreasing_by omega
theorem chain_up {hs : List Int} {i : Nat} (h : 0 ≤ hold hs i ∧ hold hs i < (i : Int)) : chain hs i = i :: chain hs (hold hs i).toNat := by
  rw [chain, dif_pos h]
theorem chain_top {hs : List Int} {i : Nat} (h : ¬ 0 ≤ hold hs i) : chain hs i = [i] := by
  rw [chain, dif_neg fun z => h z.1]
theorem chain_self (hs : List Int) (i : Nat) : i ∈ chain hs i := by
  rw [chain]; split <;> exact List.mem_cons_self
theorem chain_le {hs : List Int} {j : Nat} : ∀ i : Nat, j ∈ chain hs i → j ≤ i := by
  intro i
  induction i using Nat.strongRecOn with
  | ind i ih =>
    intro h
    by_cases z : 0 ≤ hold hs i ∧ hold hs i < (i : Int)
    · rw [chain_up z] at h
      rcases List.mem_cons.mp h with h | h
      · omega
      · have := ih (hold hs i).toNat (by omega) h
        omega
    · rw [chain, dif_neg z] at h
      have := List.mem_singleton.mp h
      omega
def wi (hs : List Int) (i j : Nat) : Bool := decide (j ∈ chain hs i)
theorem wi_step {hs : List Int} {p j : Nat} (h : 0 ≤ hold hs p ∧ hold hs p < (p : Int)) (hj : j < p) : wi hs p j = wi hs (hold hs p).toNat j := by
  unfold wi
  rw [chain_up h]
  refine decide_eq_decide.mpr ⟨fun z => ?_, fun z => List.mem_cons_of_mem _ z⟩
  rcases List.mem_cons.mp z with z | z
  · omega
  · exact z
theorem wi_end {hs : List Int} {p j : Nat} (hj : p ≤ j) : wi hs p j = decide (p = j) := by
  unfold wi
  refine decide_eq_decide.mpr ⟨fun z => ?_, fun z => z ▸ chain_self hs p⟩
  have := chain_le p z
  omega
theorem wi_self (hs : List Int) (i : Nat) : wi hs i i = true := decide_eq_true (chain_self hs i)
theorem hold_lt {hs : List Int} (T : Tree hs) {i : Nat} (hi : i < hs.length) : hold hs i < (i : Int) := by
  by_cases h : i = 0
  · subst h; rw [T.root]; decide
  · exact (T.up i (by omega) hi).2
theorem hold_pos {hs : List Int} (T : Tree hs) {i : Nat} (hi : i < hs.length) : 0 ≤ hold hs i ↔ 0 < i := by
  by_cases h : i = 0
  · subst h; rw [T.root]; decide
  · exact ⟨fun _ => by omega, fun _ => (T.up i (by omega) hi).1⟩
theorem hold_get {hs : List Int} {i : Nat} (hi : i < hs.length) : hs[i]? = some (hold hs i) := by
  unfold hold
  rw [List.getD_eq_getElem?_getD, List.getElem?_eq_getElem hi]; rfl
theorem kids_nil {hs : List Int} {k : Int} : kids hs k = [] ↔ ∀ j : Nat, j < hs.length → hold hs j ≠ k := by
  unfold kids
  rw [List.map_eq_nil_iff, List.filter_eq_nil_iff]
  refine ⟨fun h j hj e => h j (List.mem_range.mpr hj) (decide_eq_true e), fun h j hj e => h j (List.mem_range.mp hj) (of_decide_eq_true e)⟩
theorem range_filter_succ (p : Nat → Bool) (i : Nat) : (List.range (i + 1)).filter p = (List.range i).filter p ++ (if p i = true then [i] else []) := by
  rw [List.range_succ, List.filter_append]
  cases h : p i <;> simp [h]
/-! ### the law's own drawing -/
def cell (ns : List Int) (k : Nat) : Int := ns.getD k 0
def lh (ns : List Int) (k : Nat) : Int := if k = 0 then -1 else cell ns k % (k : Int)
def holders (ns : List Int) (m : Nat) : List Int := (List.range m).map (lh ns)
theorem holders_len (ns : List Int) (m : Nat) : (holders ns m).length = m := by simp [holders]
theorem holders_hold {ns : List Int} {m i : Nat} (hi : i < m) : hold (holders ns m) i = lh ns i := by
  unfold hold holders
  rw [List.getD_eq_getElem?_getD, List.getElem?_map, List.getElem?_range hi]; rfl
theorem holders_tree (ns : List Int) {m : Nat} (hm : 0 < m) : Tree (holders ns m) := by
  refine ⟨by rw [holders_len]; exact hm, ?_, fun i h0 hi => ?_⟩
  · rw [holders_hold hm]; rfl
  · rw [holders_len] at hi
    rw [holders_hold hi]
    unfold lh
    rw [if_neg (by omega)]
    exact ⟨Int.emod_nonneg _ (by omega), Int.emod_lt_of_pos _ (by omega)⟩
theorem holders_succ (ns : List Int) (m : Nat) : holders ns (m + 1) = holders ns m ++ [lh ns m] := by
  unfold holders
  rw [List.range_succ, List.map_append]; rfl
theorem mem_holders {ns : List Int} {m : Nat} {k : Int} : k ∈ holders ns m ↔ kids (holders ns m) k ≠ [] := by
  rw [Ne, kids_nil]
  constructor
  · intro h z
    obtain ⟨j, hj, e⟩ := List.mem_map.mp h
    have hj := List.mem_range.mp hj
    exact z j (by rw [holders_len]; exact hj) (by rw [holders_hold hj]; exact e)
  · intro h
    refine Classical.byContradiction fun z => h fun j hj e => z ?_
    rw [holders_len] at hj
    rw [holders_hold hj] at e
    exact List.mem_map.mpr ⟨j, List.mem_range.mpr hj, e⟩
def many (ns : List Int) : Nat := if cell ns 0 / 7 % 8 = 1 then 16 else (1 + cell ns 0 % 7).toNat
theorem many_le (ns : List Int) : 0 < many ns ∧ many ns ≤ 16 := by
  unfold many
  have h1 := Int.emod_nonneg (cell ns 0) (show (7 : Int) ≠ 0 by decide)
  have h2 := Int.emod_lt_of_pos (cell ns 0) (show (0 : Int) < 7 by decide)
  split <;> omega
end Rm
namespace Rm
theorem tail_lt {hs : List Int} {i j : Nat} (h : j ∈ (chain hs i).tail) : j < i := by
  by_cases z : 0 ≤ hold hs i ∧ hold hs i < (i : Int)
  · rw [chain_up z] at h
    have := chain_le _ h
    omega
  · rw [chain, dif_neg z] at h
    simp at h
/-- i lies in j -/
def li (hs : List Int) (i j : Nat) : Bool := decide (j ∈ (chain hs i).tail)
theorem li_eq (hs : List Int) (i j : Nat) : li hs i j = (!decide (i = j) && wi hs i j) := by
  have hc : chain hs i = i :: (chain hs i).tail := by rw [chain]; split <;> rfl
  unfold li wi
  by_cases e : i = j
  · subst e
    have : ¬ i ∈ (chain hs i).tail := fun z => absurd (tail_lt z) (Nat.lt_irrefl _)
    simp [this]
  · have : j ∈ chain hs i ↔ j ∈ (chain hs i).tail := by
      rw [hc]
      refine ⟨fun z => ?_, fun z => List.mem_cons_of_mem _ z⟩
      rcases List.mem_cons.mp z with z | z
      · exact absurd z.symm e
      · exact z
    simp [e, this]
/-- the rooms around, from the holder on -/
def upper (hs : List Int) (h : Int) : List Nat := if 0 ≤ h then chain hs h.toNat else []
theorem upper_neg (hs : List Int) : upper hs (-1) = [] := rfl
theorem tail_upper {hs : List Int} (T : Tree hs) {i : Nat} (hi : i < hs.length) : (chain hs i).tail = upper hs (hold hs i) := by
  unfold upper
  by_cases z : 0 ≤ hold hs i
  · rw [if_pos z, chain_up ⟨z, hold_lt T hi⟩]; rfl
  · rw [if_neg z, chain_top z]; rfl
theorem upper_step {hs : List Int} (T : Tree hs) {i : Nat} (hi : i < hs.length) : upper hs (i : Int) = i :: upper hs (hold hs i) := by
  rw [← tail_upper T hi]
  unfold upper
  rw [if_pos (by omega), Int.toNat_natCast]
  rw [chain]; split <;> rfl
end Rm
namespace Rm
def kidsN (hs : List Int) (k : Nat) : List Nat := (List.range hs.length).filter fun j => decide (hold hs j = (k : Int))
theorem kids_kidsN (hs : List Int) (k : Nat) : kids hs (k : Int) = (kidsN hs k).map fun (j : Nat) => (j : Int) := rfl
theorem mem_kidsN {hs : List Int} {j k : Nat} : j ∈ kidsN hs k ↔ j < hs.length ∧ hold hs j = (k : Int) := by
  unfold kidsN
  rw [List.mem_filter, List.mem_range, decide_eq_true_eq]
theorem kidsN_nodup (hs : List Int) (k : Nat) : (kidsN hs k).Nodup := List.Pairwise.filter _ List.nodup_range
theorem kid_gt {hs : List Int} (T : Tree hs) {j k : Nat} (h : j ∈ kidsN hs k) : k < j := by
  obtain ⟨h1, h2⟩ := mem_kidsN.mp h
  have := hold_lt T h1
  omega
/-- which rooms straight in each are entered -/
structure Pick (hs : List Int) (ch : Nat → List Nat) : Prop where
  sub : ∀ r, ∀ c ∈ ch r, c ∈ kidsN hs r
  nd : ∀ r, (ch r).Nodup
def ent (ch : Nat → List Nat) : Nat → Nat → List Nat
  | 0, r => [r]
  | f + 1, r => r :: (ch r).flatMap (ent ch f)
theorem chain_mono {hs : List Int} {a b : Nat} : ∀ k : Nat, a ∈ chain hs k → b ∈ chain hs k → a ≤ b → a ∈ chain hs b := by
  intro k
  induction k using Nat.strongRecOn with
  | ind k ih =>
    intro ha hb hab
    by_cases z : 0 ≤ hold hs k ∧ hold hs k < (k : Int)
    · rw [chain_up z] at hb
      rcases List.mem_cons.mp hb with e | hb
      · rw [e]; exact ha
      · rw [chain_up z] at ha
        rcases List.mem_cons.mp ha with e | ha
        · have := chain_le _ hb
          omega
        · exact ih _ (by omega) ha hb hab
    · rw [chain, dif_neg z] at hb
      rw [List.mem_singleton.mp hb]; exact ha
theorem chain_kid {hs : List Int} (T : Tree hs) {c r : Nat} (h : c ∈ kidsN hs r) : chain hs c = c :: chain hs r := by
  obtain ⟨h1, h2⟩ := mem_kidsN.mp h
  have := kid_gt T h
  rw [chain_up ⟨by omega, by omega⟩, h2, Int.toNat_natCast]
theorem chain_trans {hs : List Int} {a b : Nat} : ∀ k : Nat, a ∈ chain hs b → b ∈ chain hs k → a ∈ chain hs k := by
  intro k
  induction k using Nat.strongRecOn with
  | ind k ih =>
    intro ha hb
    by_cases z : 0 ≤ hold hs k ∧ hold hs k < (k : Int)
    · rw [chain_up z] at hb
      rcases List.mem_cons.mp hb with e | hb
      · rw [← e]; exact ha
      · rw [chain_up z]; exact List.mem_cons_of_mem _ (ih _ (by omega) ha hb)
    · rw [chain, dif_neg z] at hb
      rw [← List.mem_singleton.mp hb]; exact ha
theorem ent_sub {hs : List Int} {ch : Nat → List Nat} (T : Tree hs) (P : Pick hs ch) : ∀ (f r k : Nat), r < hs.length → k ∈ ent ch f r → k < hs.length ∧ r ∈ chain hs k
  | 0, r, k, hr, h => by
    rw [List.mem_singleton.mp h]; exact ⟨hr, chain_self hs r⟩
  | f + 1, r, k, hr, h => by
    rcases List.mem_cons.mp h with e | h
    · rw [e]; exact ⟨hr, chain_self hs r⟩
    · obtain ⟨c, hc, hk⟩ := List.mem_flatMap.mp h
      have hc' := P.sub r c hc
      obtain ⟨a, b⟩ := ent_sub T P f c k (mem_kidsN.mp hc').1 hk
      refine ⟨a, chain_trans k ?_ b⟩
      rw [chain_kid T hc']; exact List.mem_cons_of_mem _ (chain_self hs r)
theorem ent_nodup {hs : List Int} {ch : Nat → List Nat} (T : Tree hs) (P : Pick hs ch) : ∀ (f r : Nat), r < hs.length → (ent ch f r).Nodup
  | 0, r, _ => by simp [ent]
  | f + 1, r, hr => by
    show (r :: (ch r).flatMap (ent ch f)).Nodup
    refine List.nodup_cons.mpr ⟨fun h => ?_, ?_⟩
    · obtain ⟨c, hc, hk⟩ := List.mem_flatMap.mp h
      have hc' := P.sub r c hc
      have := (ent_sub T P f c r (mem_kidsN.mp hc').1 hk).2
      have := chain_le _ this
      have := kid_gt T hc'
      omega
    · show List.Pairwise _ _
      rw [List.pairwise_flatMap]
      refine ⟨fun c hc => ent_nodup T P f c (mem_kidsN.mp (P.sub r c hc)).1, ?_⟩
      refine (P.nd r).imp_of_mem fun {a b} ha hb hab x hx y hy e => ?_
      subst e
      have a' := P.sub r a ha
      have b' := P.sub r b hb
      have ca := (ent_sub T P f a x (mem_kidsN.mp a').1 hx).2
      have cb := (ent_sub T P f b x (mem_kidsN.mp b').1 hy).2
      have ga := kid_gt T a'
      have gb := kid_gt T b'
      rcases Nat.le_total a b with l | l
      · have := chain_mono x ca cb l
        rw [chain_kid T b'] at this
        rcases List.mem_cons.mp this with e | e
        · exact hab e
        · have := chain_le _ e
          omega
      · have := chain_mono x cb ca l
        rw [chain_kid T a'] at this
        rcases List.mem_cons.mp this with e | e
        · exact hab e.symm
        · have := chain_le _ e
          omega
theorem ent_len {hs : List Int} {ch : Nat → List Nat} (T : Tree hs) (P : Pick hs ch) (f r : Nat) (hr : r < hs.length) : (ent ch f r).length ≤ hs.length := by
  have h := (ent_nodup T P f r hr).length_le_of_subset (l₂ := List.range hs.length) fun k hk => List.mem_range.mpr (ent_sub T P f r k hr hk).1
  rwa [List.length_range] at h
/-- k is kept: its holder is, and it is chosen there -/
def kb (ok : Nat → Nat → Bool) (hs : List Int) (k : Nat) : Bool :=
  if h : 0 ≤ hold hs k ∧ hold hs k < (k : Int) then kb ok hs (hold hs k).toNat && ok (hold hs k).toNat k else decide (k = 0)
termination_by k
decreasing_by omega
theorem kb_root {ok : Nat → Nat → Bool} {hs : List Int} (T : Tree hs) : kb ok hs 0 = true := by
  rw [kb, dif_neg (by rw [T.root]; decide)]; rfl
theorem kb_up {ok : Nat → Nat → Bool} {hs : List Int} (T : Tree hs) {k : Nat} (h0 : 0 < k) (hk : k < hs.length) : kb ok hs k = (kb ok hs (hold hs k).toNat && ok (hold hs k).toNat k) := by
  rw [kb, dif_pos (T.up k h0 hk)]
theorem ent_next {hs : List Int} {ch : Nat → List Nat} (T : Tree hs) (P : Pick hs ch) : ∀ (f r p k : Nat), r < hs.length → hs.length ≤ f + r → p ∈ ent ch f r → k ∈ ch p → k ∈ ent ch f r
  | 0, r, p, k, hr, hf, _, _ => absurd hr (by omega)
  | f + 1, r, p, k, hr, hf, hp, hk => by
    rcases List.mem_cons.mp hp with e | hp
    · subst e
      refine List.mem_cons_of_mem _ (List.mem_flatMap.mpr ⟨k, hk, ?_⟩)
      cases f with
      | zero => exact List.mem_singleton.mpr rfl
      | succ f => exact List.mem_cons_self
    · obtain ⟨c, hc, hp⟩ := List.mem_flatMap.mp hp
      have hc' := P.sub r c hc
      have := kid_gt T hc'
      exact List.mem_cons_of_mem _ (List.mem_flatMap.mpr ⟨c, hc, ent_next T P f c p k (mem_kidsN.mp hc').1 (by omega) hp hk⟩)
theorem ent_back {hs : List Int} {ch : Nat → List Nat} (T : Tree hs) (P : Pick hs ch) : ∀ (f r k : Nat), r < hs.length → k ∈ ent ch f r → k = r ∨ (k ∈ ch (hold hs k).toNat ∧ (hold hs k).toNat ∈ ent ch f r ∧ 0 < k)
  | 0, r, k, hr, h => .inl (List.mem_singleton.mp h)
  | f + 1, r, k, hr, h => by
    rcases List.mem_cons.mp h with e | h
    · exact .inl e
    · obtain ⟨c, hc, hk⟩ := List.mem_flatMap.mp h
      have hc' := P.sub r c hc
      obtain ⟨c1, c2⟩ := mem_kidsN.mp hc'
      have := kid_gt T hc'
      rcases ent_back T P f c k c1 hk with e | ⟨a, b, d⟩
      · subst e
        refine .inr ⟨by rw [c2, Int.toNat_natCast]; exact hc, ?_, by omega⟩
        rw [c2, Int.toNat_natCast]; exact List.mem_cons_self
      · exact .inr ⟨a, List.mem_cons_of_mem _ (List.mem_flatMap.mpr ⟨c, hc, b⟩), d⟩
theorem ent_iff {hs : List Int} {ch : Nat → List Nat} {ok : Nat → Nat → Bool} (T : Tree hs) (P : Pick hs ch) {f : Nat} (hf : hs.length ≤ f) (hok : ∀ k, 0 < k → k < hs.length → (ok (hold hs k).toNat k = true ↔ k ∈ ch (hold hs k).toNat)) :
    ∀ k, k ∈ ent ch f 0 ↔ k < hs.length ∧ kb ok hs k = true := by
  intro k
  induction k using Nat.strongRecOn with
  | ind k ih =>
    constructor
    · intro h
      have hk := (ent_sub T P f 0 k T.pos h).1
      refine ⟨hk, ?_⟩
      rcases ent_back T P f 0 k T.pos h with e | ⟨a, b, d⟩
      · rw [e]; exact kb_root T
      · have hu := T.up k d hk
        rw [kb_up T d hk, ((ih _ (by omega)).mp b).2, (hok k d hk).mpr a]; rfl
    · rintro ⟨hk, h⟩
      by_cases z : k = 0
      · subst z
        cases f with
        | zero => exact List.mem_singleton.mpr rfl
        | succ f => exact List.mem_cons_self
      · have hu := T.up k (by omega) hk
        rw [kb_up T (by omega) hk, Bool.and_eq_true] at h
        exact ent_next T P f 0 _ k T.pos (by omega) ((ih _ (by omega)).mpr ⟨by omega, h.1⟩) ((hok k (by omega) hk).mp h.2)
/-- sorted, the entered rooms are the kept ones -/
theorem ent_sorted {hs : List Int} {ch : Nat → List Nat} {ok : Nat → Nat → Bool} (T : Tree hs) (P : Pick hs ch) {f : Nat} (hf : hs.length ≤ f) (hok : ∀ k, 0 < k → k < hs.length → (ok (hold hs k).toNat k = true ↔ k ∈ ch (hold hs k).toNat))
    {ns : List Int} (hp : ns.Perm ((ent ch f 0).map fun (j : Nat) => (j : Int))) (hs' : ns.Pairwise (· ≤ ·)) : ns = ((List.range hs.length).filter (kb ok hs)).map fun (j : Nat) => (j : Int) := by
  have hq : (ent ch f 0).Perm ((List.range hs.length).filter (kb ok hs)) := by
    refine (List.perm_ext_iff_of_nodup (ent_nodup T P f 0 T.pos) (List.Pairwise.filter _ List.nodup_range)).mpr fun k => ?_
    rw [ent_iff T P hf hok, List.mem_filter, List.mem_range]
  refine (hp.trans (hq.map _)).eq_of_pairwise (fun a b _ _ h1 h2 => Int.le_antisymm h1 h2) hs' ?_
  rw [List.pairwise_map]
  exact (List.Pairwise.filter _ List.pairwise_lt_range).imp fun h => by omega
end Rm

set_option Elab.async false
set_option linter.all false
set_option maxRecDepth 100000
set_option maxHeartbeats 4000000
/-! My rules over the layer: deep ==, isinstance, list comprehensions. -/
namespace L2
open PySem PySem.Spec PyProof.Rows
/-! ### == of data -/
mutual
inductive RdV (K : PySem.W.Frag) (H : Hp) : V → PyData → Prop
  | non : RdV K H .non .none
  | bl (b : Bool) : RdV K H (.bl b) (.bool b)
  | int (i : Int) : RdV K H (.int i) (.int i)
  | str (x : Str) : RdV K H (.str x) (.str x)
  | lst {a : Addr} {xs : List V} {ds : List PyData} : SqL K H a xs → RdVs K H xs ds → RdV K H (.ref a) (.list ds)
  | tup {a : Addr} {xs : List V} {ds : List PyData} : SqT K H a xs → RdVs K H xs ds → RdV K H (.ref a) (.tuple ds)
inductive RdVs (K : PySem.W.Frag) (H : Hp) : List V → List PyData → Prop
  | nil : RdVs K H [] []
  | cons {x : V} {d : PyData} {xs : List V} {ds : List PyData} : RdV K H x d → RdVs K H xs ds → RdVs K H (x :: xs) (d :: ds)
end
section
variable {X : Cx} {pins : List (Addr × Obj)} {σ : St} {H : Hp} {s : Shared}
mutual
theorem RdV.reads (I : Inv X pins σ H s) : ∀ {v : V} {d : PyData} {u : Value}, RdV X.K H v d → RelV v u → ∃ as, Reads s.heap u d as
  | _, _, u, .non, r => by
    cases (show u = Value.none from r)
    exact ⟨_, .none⟩
  | _, _, u, .bl b, r => by
    cases (show u = Value.bool b from r)
    exact ⟨_, .bool b⟩
  | _, _, u, .int i, r => by
    obtain ⟨t, q⟩ := (show ∃ t, u = Value.int i t from r)
    cases q
    exact ⟨_, .int i t⟩
  | _, _, u, .str x, r => by
    obtain ⟨t, q⟩ := (show ∃ t, u = Value.str x t from r)
    cases q
    exact ⟨_, .str x t⟩
  | _, _, u, .lst (a := a) h hs, r => by
    cases (show u = Value.ref a from r)
    obtain ⟨its, rv, p, _⟩ := I.list h
    obtain ⟨o, ho, hc, n, hd⟩ := p.isList
    obtain ⟨as, q⟩ := RdVs.reads I hs rv
    exact ⟨_, .list ho hc hd (by simpa using q)⟩
  | _, _, u, .tup (a := a) h hs, r => by
    cases (show u = Value.ref a from r)
    obtain ⟨its, rv, p, _⟩ := I.tuple h
    obtain ⟨o, ho, hc, n, hd⟩ := p
    obtain ⟨as, q⟩ := RdVs.reads I hs rv
    exact ⟨_, .tuple ho hc hd (by simpa using q)⟩
theorem RdVs.reads (I : Inv X pins σ H s) : ∀ {vs : List V} {ds : List PyData} {us : List Value}, RdVs X.K H vs ds → Vals vs us → ∃ as, ReadsAll s.heap us ds as
  | _, _, _, .nil, .nil => ⟨_, .nil⟩
  | _, _, _, .cons h hs, .cons r rs => by
    obtain ⟨as, q⟩ := RdV.reads I h r
    obtain ⟨bs, q'⟩ := RdVs.reads I hs rs
    exact ⟨_, .cons q q'⟩
end
def rEqD (K : PySem.W.Frag) (neg : Bool) : R2 := fun x y H Q => ∃ da db, RdV K H x da ∧ RdV K H y db ∧ SeqAt.shaped da = true ∧ SeqAt.shaped db = true ∧ Q (.bl (if neg then !PyData.eqv da db else PyData.eqv da db)) H
theorem op_eqD (hu : X.A.units + 64 < cLine) : OpR X (compareOp .Eq) (rEqD X.K false) := by
  intro pins s σ H x y v u Q I rx ry h
  obtain ⟨da, db, ra, rb, ha, hb, q⟩ := h
  obtain ⟨as, r1⟩ := ra.reads I rx
  obtain ⟨bs, r2⟩ := rb.reads I ry
  exact eq_dataH r1 r2 ha hb hu ⟨.bl _, H, I, rfl, q⟩
theorem op_neD (hu : X.A.units + 64 < cLine) : OpR X (compareOp .NotEq) (rEqD X.K true) := by
  intro pins s σ H x y v u Q I rx ry h
  obtain ⟨da, db, ra, rb, ha, hb, q⟩ := h
  obtain ⟨as, r1⟩ := ra.reads I rx
  obtain ⟨bs, r2⟩ := rb.reads I ry
  exact ne_dataH r1 r2 ha hb hu ⟨.bl _, H, I, rfl, q⟩
/-! ### isinstance(x, T) -/
theorem call_isinst : CallR X (.builtin "isinstance") (fun xs H Q => ∃ x n t b, xs = [x, .ty n] ∧ TyOf X.K H x t ∧ PySem.W.kitOne X.K t (.type n) = some b ∧ Q (.bl b) H) := by
  intro pins s σ H xs us Q I r h
  obtain ⟨x, n, t, b, rfl, ty, e, q⟩ := h
  obtain ⟨u, u', rfl, rx, ry⟩ := Vals.two r
  cases (show u' = Value.type n from ry)
  exact isinst_ok I rx ty e fun tk => ⟨.bl b, H, I.tok tk, rfl, q⟩
end
/-! ### sorted(a list of ints) -/
theorem call_sorted {X : Cx} : CallR X (.builtin "sorted") (fun xs H Q => ∃ p ns, xs = [.ref p] ∧ SqL X.K H p (ns.map V.int) ∧ ns.length < 64 ∧
    ∀ l (ns' : List Int), H l = none → ns'.Perm ns → ns'.Pairwise (· ≤ ·) → Q (.ref l) (upd H l (.lst (ns'.map V.int)))) := by
  intro pins s σ H xs us Q I r h
  obtain ⟨p, ns, rfl, hq, h64, q⟩ := h
  obtain ⟨u, rfl, ru⟩ := Vals.one r
  cases (show u = Value.ref p from ru)
  obtain ⟨its, rv, pl, hz⟩ := I.list hq
  have hl := rv.length
  rw [List.length_map] at hl
  refine sorted_ints pl.isList (intsAre_of rv) (by omega) fun out ns' a1 a2 a3 => ?_
  obtain ⟨e, he⟩ := sortedAll_at s.heap its out
  have hn := a2.length_eq
  have sml : (ns'.map V.int).length ≤ sizeLine := by
    rw [List.length_map]
    exact Nat.le_of_lt (Nat.lt_of_lt_of_le (show ns'.length < 64 by omega) (by decide))
  exact ⟨.ref _, _, I.laid (o := .lst (ns'.map V.int)) (t' := s.toks) (fun b o z => sortedAll_old z) (Nat.le_succ _) ⟨sml, out.toList, e, vals_ints a1, he⟩, rfl, q _ ns' (I.hok.fresh (Nat.le_succ _)) a2 a3⟩
/-! ### a list comprehension -/
structure Bk where
  cl : List (Str × Addr)
  C : Addr
  s : Shared
  H : Hp
  fp : List Addr
  pn : List (Addr × Obj)
/-- the block's context -/
def Cx.blk (X : Cx) (N' : List Str) (sc : Scope) (b : Bk) : Cx where
  prog := X.prog
  w := X.w
  K := X.K
  mg := X.mg
  base := X.base
  A := X.A
  N := N'
  s₀ := b.s
  H₀ := b.H
  env := compEnvC sc b.cl b.C X.env
  outer := X.stack
  stack := X.stack
  ex := b.fp
  fn := fun _ => false
  calm := X.calm
  pn := b.pn
  xe := fun _ _ => False
/-- the block's names: none an own one, j the j-th of the def's -/
def bst (ix : List (Option Nat)) (σ : St) : St := ix.map fun o => match o with
  | none => none
  | some j => (σ[j]?).getD none
def fromB (N : List Str) (names : List (Str × NameKind)) : List Str → List (Option Nat) → Bool
  | x :: r, some j :: t => decide (N[j]? = some x) && decide (names.lookup x = some .free) && fromB N names r t
  | _ :: r, none :: t => fromB N names r t
  | [], [] => true
  | _, _ => false
theorem fromB_ok {N : List Str} {names : List (Str × NameKind)} : ∀ {N' : List Str} {ix : List (Option Nat)}, fromB N names N' ix = true →
    ix.length = N'.length ∧ ∀ (i j : Nat) (x : Str), N'[i]? = some x → ix[i]? = some (some j) → N[j]? = some x ∧ names.lookup x = some .free
  | [], [], _ => ⟨rfl, fun i j x e _ => by simp at e⟩
  | x :: r, some j :: t, h => by
    simp only [fromB, Bool.and_eq_true, decide_eq_true_eq] at h
    obtain ⟨hl, hf⟩ := fromB_ok (N' := r) (ix := t) h.2
    refine ⟨by simp [hl], fun i k y e1 e2 => ?_⟩
    cases i with
    | zero =>
      simp at e1 e2
      subst e1 e2
      exact h.1
    | succ i => exact hf i k y (by simpa using e1) (by simpa using e2)
  | x :: r, none :: t, h => by
    simp only [fromB] at h
    obtain ⟨hl, hf⟩ := fromB_ok (N' := r) (ix := t) h
    refine ⟨by simp [hl], fun i k y e1 e2 => ?_⟩
    cases i with
    | zero => simp at e2
    | succ i => exact hf i k y (by simpa using e1) (by simpa using e2)
  | [], some _ :: _, h => by simp [fromB] at h
  | [], none :: _, h => by simp [fromB] at h
  | _ :: _, [], h => by simp [fromB] at h
theorem forIn_pure {α β : Type} {f : α → β → Sem (ForInStep β)} (Pv : List α → β → Prop) (hs : ∀ x l b, Pv (x :: l) b → ∃ b', f x b = pure (.yield b') ∧ Pv l b') :
    ∀ (l : List α) (b : β), Pv l b → ∃ b', forIn l b f = pure b' ∧ Pv [] b'
  | [], b, h => ⟨b, rfl, h⟩
  | x :: l, b, h => by
    obtain ⟨b1, e1, h1⟩ := hs x l b h
    obtain ⟨b2, e2, h2⟩ := forIn_pure Pv hs l b1 h1
    refine ⟨b2, ?_, h2⟩
    rw [List.forIn_cons, e1, pure_bind]
    exact e2
def cstep (env : Env) (x : Str × NameKind) (r : List (Str × Addr)) : Sem (ForInStep (List (Str × Addr))) :=
  if x.2 == .free then (do let c ← cellOf env x.1; pure (.yield ((x.1, c) :: r))) else pure (.yield r)
theorem closure_step (sc : Scope) (env : Env) : closureFor sc env = (forIn sc.names [] (cstep env) >>= fun cs => pure cs) := by rfl
theorem closure_of {sc : Scope} {env : Env} (h : ∀ p ∈ sc.names, p.2 = .free → ∃ c, env.cells.lookup p.1 = some c) :
    ∃ cl, closureFor sc env = pure cl ∧ (∀ x c, cl.lookup x = some c → env.cells.lookup x = some c) ∧ ∀ p ∈ sc.names, p.2 = .free → ∃ c, cl.lookup p.1 = some c := by
  obtain ⟨cl, e, _, h1, h2⟩ := forIn_pure (f := cstep env)
    (fun l (b : List (Str × Addr)) => (∀ p ∈ l, p ∈ sc.names) ∧ (∀ x c, b.lookup x = some c → env.cells.lookup x = some c) ∧ ∀ p ∈ sc.names, p.2 = .free → p ∈ l ∨ ∃ c, b.lookup p.1 = some c)
    (fun p l b ⟨g0, g1, g2⟩ => by
      unfold cstep
      by_cases hk : p.2 = .free
      · obtain ⟨c, hc⟩ := h p (g0 p List.mem_cons_self) hk
        have ec : cellOf env p.1 = pure c := by unfold cellOf; rw [hc]
        rw [hk, if_pos (by decide), ec, pure_bind]
        refine ⟨_, rfl, fun q hq => g0 q (List.mem_cons_of_mem _ hq), fun x d e => ?_, fun q hq hf => ?_⟩
        · rw [List.lookup_cons] at e
          cases hx : x == p.1 with
          | true =>
            rw [hx] at e
            cases e
            rw [eq_of_beq hx]; exact hc
          | false =>
            rw [hx] at e
            exact g1 x d e
        · rcases g2 q hq hf with z | ⟨d, hd⟩
          · rcases List.mem_cons.mp z with z | z
            · subst z
              exact .inr ⟨c, by rw [List.lookup_cons, beq_self_eq_true]⟩
            · exact .inl z
          · refine .inr ?_
            rw [List.lookup_cons]
            cases hx : q.1 == p.1 with
            | true => exact ⟨c, rfl⟩
            | false => exact ⟨d, hd⟩
      · rw [if_neg (by simpa using hk)]
        refine ⟨_, rfl, fun q hq => g0 q (List.mem_cons_of_mem _ hq), g1, fun q hq hf => ?_⟩
        rcases g2 q hq hf with z | z
        · rcases List.mem_cons.mp z with z | z
          · subst z; exact absurd hf hk
          · exact .inl z
        · exact .inr z)
    sc.names [] ⟨fun _ z => z, fun x c e => by simp at e, fun p hp _ => .inl hp⟩
  refine ⟨cl, ?_, h1, fun p hp hf => (h2 p hp hf).elim (fun z => by simp at z) id⟩
  rw [closure_step, e, pure_bind]
theorem lookup_mem {names : List (Str × NameKind)} {x : Str} {k : NameKind} : names.lookup x = some k → (x, k) ∈ names := by
  induction names with
  | nil => intro e; simp at e
  | cons p r ih =>
    intro e
    rw [List.lookup_cons] at e
    cases hx : x == p.1 with
    | true =>
      rw [hx] at e
      cases e
      rw [eq_of_beq hx]; exact List.mem_cons_self
    | false =>
      rw [hx] at e
      exact List.mem_cons_of_mem _ (ih e)
theorem relabel_eq (sc : Scope) (env : Env) : (relabel sc env).names = sc.names.map fun p => (p.1, if (p.2 == .free && env.scope.kind == .function && env.kindOf p.1 == some .cell) = true then NameKind.cell else p.2) := by
  show (sc.names.map _) = _
  refine List.map_congr_left fun p _ => ?_
  obtain ⟨n, k⟩ := p
  dsimp only
  split <;> rfl
theorem relabel_in {sc : Scope} {env : Env} {x : Str} {k : NameKind} (hc : ∀ y ∈ sc.names, y.2 ≠ .cell) (h : (relabel sc env).names.lookup x = some k) (hk : k = .cell ∨ k = .free) : (x, NameKind.free) ∈ sc.names := by
  have hm := lookup_mem h
  rw [relabel_eq] at hm
  obtain ⟨p, hp, e⟩ := List.mem_map.mp hm
  obtain ⟨n, k'⟩ := p
  injection e with e1 e2
  dsimp only at e1 e2
  subst e1
  have hk' : k' = .free := by
    by_cases z : (k' == NameKind.free && env.scope.kind == .function && env.kindOf n == some .cell) = true
    · have z' := (Bool.and_eq_true_iff.mp (Bool.and_eq_true_iff.mp z).1).1
      exact eq_of_beq z'
    · rw [if_neg z] at e2
      rcases hk with w | w
      · exact absurd (e2.trans w) (hc _ hp)
      · exact e2.trans w
  subst hk'
  exact hp
theorem relabel_notlocal {sc : Scope} {env : Env} {x : Str} (hf : sc.names.lookup x = some .free) : (relabel sc env).names.lookup x ≠ some .local := by
  have key : ∀ (g : Str → NameKind → NameKind) (l : List (Str × NameKind)), (l.map fun p => (p.1, g p.1 p.2)).lookup x = (l.lookup x).map (g x) := by
    intro g l
    induction l with
    | nil => rfl
    | cons p r ih =>
      rw [List.map_cons, List.lookup_cons, List.lookup_cons]
      cases hx : x == p.1 with
      | true => rw [eq_of_beq hx]; rfl
      | false => exact ih
  rw [relabel_eq, key fun n k => if (k == .free && env.scope.kind == .function && env.kindOf n == some .cell) = true then NameKind.cell else k, hf]
  intro z
  simp only [Option.map_some] at z
  split at z <;> cases z
/-- tests -/
def PTs (X : Cx) (ifs : List Expr) (t : TT) : Prop :=
  ∀ (pins : List (Addr × Obj)) (s : Shared) (σ : St) (H : Hp) (Q : Bool → Hp → Prop), Inv X pins σ H s → t σ H Q →
    wpAny (model X.prog X.w) X.A (forIn ifs true fun c r => if r = true then do let ok ← isTrue c X.env (eval c X.env); pure (ForInStep.yield ok) else pure (ForInStep.yield r)) (TP X pins σ Q) X.xe s
def tYes : TT := fun _ H Q => Q true H
theorem yes_i {σ : St} {H : Hp} {Q : Bool → Hp → Prop} (h : Q true H) : tYes σ H Q := h
theorem pts_nil {X : Cx} : PTs X [] tYes := fun _ _ _ H _ I h => wpAny_tests_nil ⟨H, I, h⟩
theorem pts_one {X : Cx} {c : Expr} {t : TT} (h : PT X c t) : PTs X [c] t := fun pins s σ H Q I q => wpAny_tests_one (h pins s σ H Q I q)
/-- the loop of the block: the list grows at D -/
def tLoop (J : It) (g : TG) (tt : TT) (te : TE) (D : Addr) (Q : VK) (σ : St) (H : Hp) : Prop :=
  ∃ W : Nat → Nat → St → Hp → Prop, (∃ m, W 0 m σ H) ∧ ∀ i m σ H, W i m σ H → (J.stop i H ∧ Q (.ref D) H) ∨ (J.go i H ∧ ∃ (N1 : V → St → Hp → Prop) (N2 : St → Hp → Prop),
    (∀ y σ' H', N1 y σ' H' → ∃ ys, H' D = some (.lst ys) ∧ ys.length < sizeLine ∧ ∃ m', m' < m ∧ W (i + 1) m' σ' (upd H' D (.lst (ys ++ [y])))) ∧ (∀ σ' H', N2 σ' H' → ∃ m', m' < m ∧ W (i + 1) m' σ' H') ∧
    ∀ x H', J.yld i H x H' → g x σ H' fun σ2 H2 => tt σ2 H2 fun b H3 => if b = true then te σ2 H3 (fun y H4 => N1 y σ2 H4) else N2 σ2 H3)
def tComp (wi : TI) (ix : List (Option Nat)) (g : Bk → TG) (tt : Bk → TT) (te : Bk → TE) : TE := fun σ H Q => wi σ H fun J H1 => ∀ (b : Bk) D, H1 D = none → tLoop J (g b) (tt b) (te b) D Q (bst ix σ) (upd H1 D (.lst []))
section
variable {X : Cx}
/-- the block's start and its end -/
theorem blk_run {tg elt iter : Expr} {ifs : List Expr} {sc : Scope} {pos : Pos} {N' : List Str} {ix : List (Option Nat)} {g : Bk → TG} {tt : Bk → TT} {te : Bk → TE} {Q : VK} {pins : List (Addr × Obj)} {σ : St} {H : Hp} {s : Shared} {it : Addr} {fp : List Addr} {tn : Nat → Heap → Prop} {J : It} {cl : List (Str × Addr)}
    {RR : Value → Addr → Result → Shared → Prop} {E : Value → Shared → Prop}
    (hc : X.calm = true) (hkind : sc.kind = .function) (hcell : ∀ y ∈ sc.names, y.2 ≠ .cell) (hfree : ∀ p ∈ sc.names, p.2 = .free → X.env.kindOf p.1 = some .cell) (hfrom : fromB X.N sc.names N' ix = true)
    (hg : ∀ b : Bk, PG (X.blk N' sc b) tg (g b)) (ht : ∀ b : Bk, PTs (X.blk N' sc b) ifs (tt b)) (he : ∀ b : Bk, PE (X.blk N' sc b) elt (te b))
    (hcl : ∀ x c, cl.lookup x = some c → X.env.cells.lookup x = some c) (hcl2 : ∀ p ∈ sc.names, p.2 = .free → ∃ c, cl.lookup p.1 = some c)
    (I : Inv X pins σ H s) (T : Turn X.prog X.w X.K tg J fp it tn) (st : tn 0 s.heap) (f2 : ∀ b ∈ fp, FpOk X pins H b) (q : ∀ (b : Bk) D, H D = none → tLoop J (g b) (tt b) (te b) D Q (bst ix σ) (upd H D (.lst [])))
    (hRR : ∀ D C (s' : Shared) H', Inv X pins σ H' s' → Q (.ref D) H' → (∃ m, s'.heap.Ns C m) → H' C = none → C ≠ X.env.locals → X.s₀.heap.objs.size ≤ C → (∀ x c, X.env.cells.lookup x = some c → c ≠ C) → (∀ p ∈ X.pn ++ pins, p.1 ≠ C) → RR (.ref D) C (.ok .next) s') :
    wpAny (model X.prog X.w) X.A (newList []) (fun acc s3 => wpAny (model X.prog X.w) X.A (newFunctionEnv sc X.env.globals cl [] X.env.qual none .none (some X.env)) (fun cenv s4 =>
      codeAny (model X.prog X.w) X.A (.compStart (.ListComp elt [⟨tg, iter, ifs, 0⟩] sc pos) 0 (.ref it) acc { cenv with scope := relabel sc X.env }) (RR acc cenv.locals) s4) E s3) E s := by
  refine wpAny_newObj_type (wpAny_newFunctionEnv hcell (by intro y hy; simp at hy) (fun h1 hns hsb => ?_) hkind)
  dsimp only at hns hsb ⊢
  have I3 : Inv X pins σ (upd H s.heap.objs.size (.lst [])) { s with heap := s.heap.push { cls := .type "list", dict := none, data := .seq ([] : List Value).toArray } } :=
    I.lnew (t' := s.toks) (ys := []) (its := []) .nil (by show 0 ≤ sizeLine; decide)
  have hD : H s.heap.objs.size = none := I.fresh
  generalize hDn : s.heap.objs.size = D at hns hsb I3 hD ⊢
  generalize hh : s.heap.push { cls := .type "list", dict := none, data := .seq ([] : List Value).toArray } = hp at hns hsb I3 ⊢
  generalize hH3 : upd H D (.lst []) = H3 at I3 ⊢
  generalize hCn : hp.objs.size = C at hns hsb ⊢
  have hDC : D < C := by rw [← hCn, ← hh, Heap.size_push, hDn]; exact Nat.lt_succ_self _
  have old : ∀ b o, hp.get? b = some o → h1.get? b = some o := fun b o e => hsb.extBut b o (by rw [← hCn]; exact Nat.ne_of_lt (Heap.lt_size e)) (Heap.get?_push_of_some _ e)
  have old0 : ∀ b o, s.heap.get? b = some o → hp.get? b = some o := fun b o e => by rw [← hh]; exact Heap.get?_push_of_some _ e
  have fpLt : ∀ b ∈ fp, b < D := fun b hb => by
    obtain ⟨o, e, _⟩ := T.obj _ _ st b hb
    rw [← hDn]; exact Heap.lt_size e
  have I3s : Inv X pins σ H3 { s with heap := hp } := I3
  -- the block's context
  let B : Bk := ⟨cl, C, { s with heap := hp }, H3, fp, X.pn ++ pins⟩
  have cellX : ∀ x c, cl.lookup x = some c → c ≠ C ∧ ∀ b ∈ fp, c ≠ b := fun x c e => by
    obtain ⟨v, z⟩ := I3s.cell x c (hcl x c e)
    exact ⟨by rw [← hCn]; exact Nat.ne_of_lt z.lt, fun b hb => (f2 b hb).2.2.2.2.1 x c (hcl x c e)⟩
  have okY : (X.blk N' sc B).Ok := by
    refine ⟨I.ok.mod, hkind, I.ok.glob, I.ok.blt, ?_, fun x y c a b => I.ok.inj x y c (hcl x c a) (hcl y c b), fun x hx => ?_, (fun x c (a : false = true) => (nomatch a)), I.ok.hd, I.ok.frames, .inl rfl, fun b hb => ?_, fun b o e => ?_, ?_, fun b o e hb => ?_, fun b hb z => ?_, I3s.stack, I3s.stkFree⟩
    · show hp.objs.size ≤ C
      rw [hCn]; exact Nat.le_refl _
    · have hx' : (relabel sc X.env).names.lookup x = some .cell ∨ (relabel sc X.env).names.lookup x = some .free := hx
      rcases hx' with z | z
      · exact hcl2 _ (relabel_in hcell z (.inl rfl)) rfl
      · exact hcl2 _ (relabel_in hcell z (.inr rfl)) rfl
    · exact ⟨Nat.ne_of_lt (Nat.lt_trans (fpLt b hb) hDC), fun x c e => (cellX x c e).2 b hb⟩
    · obtain ⟨z1, z2⟩ := I3s.bs b o e
      exact ⟨z1, z2⟩
    · exact Nat.le_trans I.ok.bsz I3s.sz
    · rcases (f2 b hb).2.2.2.1 with z | z
      · exact I.ok.noex b o e z
      · exact absurd (Nat.lt_of_lt_of_le (Heap.lt_size (h := X.base) e) (Nat.le_trans I.ok.bsz z)) (Nat.lt_irrefl _)
    · rcases List.mem_cons.mp (I.stkSub b z) with w | w
      · exact (f2 b hb).2.1 w
      · exact (f2 b hb).2.2.1 w
  have frC : ∀ b ∈ frs X.stack, b ≠ C := fun b hb => by
    obtain ⟨_, o, ho, _⟩ := I3s.stack.mem hb
    rw [← hCn]; exact Nat.ne_of_lt (Heap.lt_size (h := hp) ho)
  obtain ⟨hlen, hix⟩ := fromB_ok hfrom
  have IY : Inv (X.blk N' sc B) [] (bst ix σ) H3 { s with heap := h1, toks := s.toks + ([] : List (Str × Value)).length } := by
    refine ⟨okY, rfl, I.bare, Un.kept old, ⟨_, hns, fun i x v e1 e2 e3 => ?_⟩, fun x c e => ?_, I3s.hok.fresh (by show hp.objs.size ≤ C; rw [hCn]; exact Nat.le_refl _), fun x c e => I3s.freeC x c (hcl x c e), fun p hp' => ?_, I3s.hok.kept old, by show (bst ix σ).length = N'.length; rw [← hlen]; simp [bst]⟩
    · have e1' : N'[i]? = some x := e1
      unfold bst at e2
      rw [List.getElem?_map] at e2
      cases hi : ix[i]? with
      | none => rw [hi] at e2; cases e2
      | some o =>
        rw [hi] at e2
        cases o with
        | none => cases e2
        | some j =>
          obtain ⟨hj, hfr⟩ := hix i j x e1' hi
          have e2' : (σ[j]?).getD none = some v := Option.some.inj e2
          have e4 : σ[j]? = some (some v) := by
            cases z : σ[j]? with
            | none => rw [z] at e2'; cases e2'
            | some w => rw [z] at e2'; exact congrArg some e2'
          have hkX := hfree _ (lookup_mem hfr) rfl
          obtain ⟨m, hn, hl⟩ := I3s.loc
          obtain ⟨u, r, l⟩ := hl j x v hj e4 (.inr (.inl hkX))
          refine ⟨u, r, .inr ⟨?_, ?_⟩⟩
          · have e3' : (relabel sc X.env).names.lookup x = some .local ∨ (relabel sc X.env).names.lookup x = some .cell ∨ (relabel sc X.env).names.lookup x = some .free := e3
            rcases e3' with z | z
            · exact absurd z (relabel_notlocal hfr)
            · exact z
          · obtain ⟨c, hc'⟩ := hcl2 _ (lookup_mem hfr) rfl
            refine ⟨c, hc', ?_⟩
            rcases l with ⟨z, _⟩ | ⟨_, d, hd, hcell'⟩
            · rw [hkX] at z; cases z
            · rw [hcl x c hc'] at hd
              cases hd
              obtain ⟨o, ho, hod⟩ := hcell'
              exact ⟨o, old _ o ho, hod⟩
    · obtain ⟨v, o, ho, hod⟩ := I3s.cell x c (hcl x c e)
      exact ⟨v, o, old _ o ho, hod⟩
    · have hp'' : p ∈ X.pn ++ pins := by simpa [Cx.blk, B] using hp'
      obtain ⟨z1, z2, z3, z4, z5⟩ := I3s.pin p hp''
      refine ⟨old _ _ z1, z2, by show p.1 ≠ C; rw [← hCn]; exact Nat.ne_of_lt (Heap.lt_size (h := hp) z1), fun z => ?_, z5⟩
      rcases List.mem_cons.mp (I.stkSub p.1 z) with w | w
      · exact z3 w
      · exact z4 w
  have st1 : tn 0 h1 := T.keep _ _ _ st fun b _ o e => old b o (old0 b o e)
  have fpY : ∀ {H' : Hp}, (∀ b ∈ fp, H' b = none) → ∀ b ∈ fp, FpOk (X.blk N' sc B) [] H' b := fun hn b hb => by
    refine ⟨hn b hb, Nat.ne_of_lt (Nat.lt_trans (fpLt b hb) hDC), okY.exfs b hb, .inl hb, fun x c e => (cellX x c e).2 b hb, fun p hp' => ?_⟩
    have hp'' : p ∈ X.pn ++ pins := by simpa [Cx.blk, B] using hp'
    exact (f2 b hb).2.2.2.2.2 p hp''
  have qD := q B D hD
  rw [hH3] at qD
  obtain ⟨W, ⟨m0, w0⟩, turn⟩ := qD
  -- behind the loop
  have fin : ∀ {i : Nat} {σ' : St} {H' : Hp} {s' : Shared}, Inv (X.blk N' sc B) [] σ' H' s' → Q (.ref D) H' → RR (.ref D) C (.ok .next) s' := fun {i σ' H' s'} I' q' => by
    have IX : Inv X pins σ H' s' := I3s.call' (ch := fp) I'.os I'.base I'.hok I'.bare fun b hb => by
      obtain ⟨_, a2, _, a4, a5, a6⟩ := f2 b hb
      exact ⟨a4, a2, a5, a6⟩
    have hCs : X.s₀.heap.objs.size ≤ C := Nat.le_trans I3s.sz (by show hp.objs.size ≤ C; rw [hCn]; exact Nat.le_refl _)
    refine hRR D C s' H' IX q' (let ⟨m, hn, _⟩ := I'.loc; ⟨m, hn⟩) I'.free ?_ hCs (fun x c e => ?_) fun p hp' => ?_
    · rw [← hCn]; exact Nat.ne_of_gt I3s.lt
    · obtain ⟨v, z⟩ := I3s.cell x c e
      rw [← hCn]; exact Nat.ne_of_lt z.lt
    · rw [← hCn]; exact Nat.ne_of_lt (Heap.lt_size (h := hp) (I3s.pin p hp').1)
  have loop : codeAny (model X.prog X.w) X.A (.compLoop (.ListComp elt [⟨tg, iter, ifs, 0⟩] sc pos) 0 (.ref it) (.ref D) (compEnvC sc cl C X.env)) (RR (.ref D) C) { s with heap := h1, toks := s.toks + ([] : List (Str × Value)).length } := by
    refine codeAny_loop rfl (fun n s' => ∃ i σ' H', Inv (X.blk N' sc B) [] σ' H' s' ∧ tn i s'.heap ∧ (∀ b ∈ fp, H' b = none) ∧ W i n σ' H') (fun n s5 hI => ?_) m0 ⟨0, _, _, IY, st1, fun b hb => ?_, w0⟩
    · obtain ⟨i, σ5, H5, I5, st5, fr5, w5⟩ := hI
      show wpAny _ _ ((compTurn (.ListComp elt [⟨tg, iter, ifs, 0⟩] sc pos) 0 (.ref it) (.ref D) (compEnvC sc cl C X.env)).onRaise (fun x => do noteFrame x (compEnvC sc cl C X.env); theTreesLotGoes x)) _ _ s5
      refine wpAny_noted ?_
      rw [compTurn_list]
      refine wpAny_bind (wpAny_standAt ?_)
      rcases turn i n σ5 H5 w5 with ⟨stop, qn⟩ | ⟨go, N1, N2, hN1, hN2, step⟩
      · refine wpAny_bind (wpAny_mono (T.done (X.blk N' sc B) rfl rfl rfl hc i [] s5 σ5 H5 (fun _ _ => False) I5 (fpY fr5) st5 stop) (fun r s6 h6 => ?_) fun _ _ f => f.elim)
        obtain ⟨hr, I6⟩ := h6
        subst hr
        exact wpAny_pure (fin (i := i) I6 qn)
      · refine wpAny_bind (wpAny_mono (T.item (X.blk N' sc B) rfl rfl rfl hc i [] s5 σ5 H5 (fun _ _ => False) I5 (fpY fr5) st5 go) (fun r s6 h6 => ?_) fun _ _ f => f.elim)
        obtain ⟨u, hr, h6⟩ := h6
        subst hr
        refine wpAny_bind (wpAny_mono h6 (fun _ s7 h7 => ?_) fun _ _ f => f.elim)
        obtain ⟨x, H7, I7, r7, y7, st7, fr7⟩ := h7
        have I7' := I7.pinned (fpY fr7) (T.obj _ _ st7)
        refine wpAny_bind (wpAny_mono (hg B _ s7 σ5 H7 x u _ I7' r7 (step x H7 y7)) (fun _ s8 h8 => ?_) fun _ _ f => f.elim)
        obtain ⟨σ8, H8, I8, q8⟩ := h8
        refine wpAny_bind (wpAny_mono (ht B _ s8 σ8 H8 _ I8 q8) (fun ok s9 h9 => ?_) fun _ _ f => f.elim)
        obtain ⟨H9, I9, q9⟩ := h9
        have again : ∀ {s' : Shared} {H' : Hp}, Inv (X.blk N' sc B) ([] ++ pinsAt fp s7.heap) σ8 H' s' → (∃ m', m' < n ∧ W (i + 1) m' σ8 H') →
            ∃ m, m < n ∧ ∃ i σ' H', Inv (X.blk N' sc B) [] σ' H' s' ∧ tn i s'.heap ∧ (∀ b ∈ fp, H' b = none) ∧ W i m σ' H' := fun {s' H'} I' w' => by
          obtain ⟨m', hm, w'⟩ := w'
          have pn : ∀ b ∈ fp, ∀ o, s7.heap.get? b = some o → s'.heap.get? b = some o ∧ H' b = none := fun b hb o e => by
            have z := I'.pin (b, o) (List.mem_append_right _ (List.mem_append_right _ (mem_pinsAt hb e)))
            exact ⟨z.1, z.2.1⟩
          refine ⟨m', hm, i + 1, σ8, H', I'.unpinned, T.keep _ _ _ st7 fun b hb o e => (pn b hb o e).1, fun b hb => ?_, w'⟩
          obtain ⟨o, e, _⟩ := T.obj _ _ st7 b hb
          exact (pn b hb o e).2
        cases ok with
        | false =>
          have q9' : N2 σ8 H9 := by simpa using q9
          exact wpAny_pure ⟨rfl, again I9 (hN2 _ _ q9')⟩
        | true =>
          have q9' : te B σ8 H9 fun y H4 => N1 y σ8 H4 := by simpa using q9
          refine wpAny_bind (wpAny_bind (wpAny_mono (he B _ s9 σ8 H9 _ I9 q9') (fun y sA hA => ?_) fun _ _ f => f.elim))
          obtain ⟨yv, HA, IA, rA, nA⟩ := hA
          obtain ⟨ys, eA, zA, w'⟩ := hN1 _ _ _ nA
          refine wpAny_bind (wpAny_mono (mt_append (X := X.blk N' sc B) _ sA σ8 HA (.ref D) [yv] (.ref D) [y] (fun _ H' => H' = upd HA D (.lst (ys ++ [yv]))) IA rfl (.cons rA .nil) ⟨D, ys, yv, rfl, rfl, eA, zA, rfl⟩) (fun _ sB hB => ?_) fun _ _ f => f.elim)
          obtain ⟨_, HB, IB, _, eB⟩ := hB
          subst eB
          exact wpAny_pure (wpAny_pure ⟨rfl, again IB w'⟩)
    · rw [← hH3, upd_ne (Nat.ne_of_lt (fpLt b hb))]
      exact (f2 b hb).1
  exact codeAny_compStart_list loop (T.self _ 0 _ _ _ st1 loop)
/-- [elt for tg in iter if ..] -/
theorem pe_comp {tg elt iter : Expr} {ifs : List Expr} {sc : Scope} {pos : Pos} {wi : TI} {g : Bk → TG} {tt : Bk → TT} {te : Bk → TE} (N' : List Str) (ix : List (Option Nat)) (hc : X.calm = true)
    (hi : PI X tg iter wi) (hg : ∀ b : Bk, PG (X.blk N' sc b) tg (g b)) (ht : ∀ b : Bk, PTs (X.blk N' sc b) ifs (tt b)) (he : ∀ b : Bk, PE (X.blk N' sc b) elt (te b)) {N : List Str} {ks : List (Str × NameKind)}
    (hN : X.N = N) (hks : X.env.scope.names = ks) (hfree : ∀ p ∈ sc.names, p.2 = .free → ks.lookup p.1 = some .cell) (hfrom : fromB N sc.names N' ix = true)
    (hcell : ∀ y ∈ sc.names, y.2 ≠ .cell) (hnames : ∀ y ∈ sc.names, y.2 = .local → sc.names.lookup y.1 = some .local) (hkind : sc.kind = .function := by rfl)
    (hs : ∀ x, foldedSetIterable iter X.env x = pure x := by intro _; rfl) : PE X (.ListComp elt [⟨tg, iter, ifs, 0⟩] sc pos) (tComp wi ix g tt te) := by
  intro pins s σ H Q I h
  have hfree' : ∀ p ∈ sc.names, p.2 = .free → X.env.kindOf p.1 = some .cell := fun p hp hf => by
    show X.env.scope.names.lookup p.1 = _
    rw [hks]; exact hfree p hp hf
  obtain ⟨cl, hclos, hcl, hcl2⟩ := closure_of (sc := sc) (env := X.env) fun p hp hf => I.ok.has p.1 (.inl (hfree' p hp hf))
  rw [eval_ListComp]
  refine wpAny_comprehension_free (use := none) rfl hs hclos hkind hnames (thn (hi pins s σ H _ I h) fun v s1 h1 => thn h1 fun itv s2 h2 => ?_)
  obtain ⟨it, fp, tn, J, H2, e, I2, T, st2, f2, q⟩ := h2
  subst e
  refine blk_run (RR := fun acc C => compPost (model X.prog X.w) X.A X.xe none (EP X pins σ Q) acc C) hc hkind hcell hfree' (by rw [hN]; exact hfrom) hg ht he hcl hcl2 I2 T st2 f2 q ?_
  intro D C s' H' I' q' hns hC hL hsz hcel hpin
  obtain ⟨m, hn⟩ := hns
  refine ⟨m, hn, fun h' hsb => ?_⟩
  exact ⟨.ref D, H', I'.turned (t' := s'.toks) (fun b o hb e => hsb.extBut b o hb e) hC hL (.inr hsz) hcel hpin, rfl, q'⟩
/-- y = [elt for tg in iter if ..], y a plain local -/
theorem ps_comp {i : Nat} {y : Str} {py spos : Pos} {tg elt iter : Expr} {ifs : List Expr} {sc : Scope} {pos : Pos} {wi : TI} {g : Bk → TG} {tt : Bk → TT} {te : Bk → TE} (N' : List Str) (ix : List (Option Nat)) (hc : X.calm = true) (hNd : X.N.Nodup) (hiy : X.N[i]? = some y) (hy : X.env.scope.names.lookup y = some .local)
    (hi : PI X tg iter wi) (hg : ∀ b : Bk, PG (X.blk N' sc b) tg (g b)) (ht : ∀ b : Bk, PTs (X.blk N' sc b) ifs (tt b)) (he : ∀ b : Bk, PE (X.blk N' sc b) elt (te b)) {N : List Str} {ks : List (Str × NameKind)}
    (hN : X.N = N) (hks : X.env.scope.names = ks) (hfree : ∀ p ∈ sc.names, p.2 = .free → ks.lookup p.1 = some .cell) (hfrom : fromB N sc.names N' ix = true)
    (hcell : ∀ y ∈ sc.names, y.2 ≠ .cell) (hnames : ∀ y ∈ sc.names, y.2 = .local → sc.names.lookup y.1 = some .local) (hkind : sc.kind = .function := by rfl)
    (hs : ∀ x, foldedSetIterable iter X.env x = pure x := by intro _; rfl) (hsw : swapsWith (.ListComp elt [⟨tg, iter, ifs, 0⟩] sc pos) (some (.Name y py)) spos.line X.env = pure true := by rfl) :
    PS X (.Assign [.Name y py] (.ListComp elt [⟨tg, iter, ifs, 0⟩] sc pos) spos) (tAsg (tComp wi ix g tt te) (gName i)) := by
  intro pins s σ H D I h
  have hfree' : ∀ p ∈ sc.names, p.2 = .free → X.env.kindOf p.1 = some .cell := fun p hp hf => by
    show X.env.scope.names.lookup p.1 = _
    rw [hks]; exact hfree p hp hf
  obtain ⟨cl, hclos, hcl, hcl2⟩ := closure_of (sc := sc) (env := X.env) fun p hp hf => I.ok.has p.1 (.inl (hfree' p hp hf))
  rw [exec_Assign_Name_used _ _ _ _ hsw]
  refine wpAny_bind (wpAny_standAt (wpAny_bind ?_))
  show wpAny _ X.A (do let _ ← comprehension (.ListComp elt [⟨tg, iter, ifs, 0⟩] sc pos) sc X.env _ (newList []) false (eval iter X.env) (some (assign (.Name y py) X.env))) _ _ s
  refine wpAny_bind (wpAny_mono (wpAny_comprehension_free (use := some (assign (.Name y py) X.env)) (Q := fun _ s' => SP X pins D .next s') rfl hs hclos hkind hnames
    (thn (hi pins s σ H _ I h) fun v s1 h1 => thn h1 fun itv s2 h2 => ?_)) (fun _ s' hq => wpAny_pure (wpAny_pure hq)) fun _ _ e => e)
  obtain ⟨it, fp, tn, J, H2, e, I2, T, st2, f2, q⟩ := h2
  subst e
  refine blk_run (Q := fun x H1 => gName i x σ H1 D.nx) (RR := fun acc C => compPost (model X.prog X.w) X.A X.xe (some (assign (.Name y py) X.env)) (fun _ s' => SP X pins D .next s') acc C) hc hkind hcell hfree' (by rw [hN]; exact hfrom) hg ht he hcl hcl2 I2 T st2 f2 q ?_
  intro E C s' H' I' q' hns hC hL hsz hcel hpin
  obtain ⟨m, hn⟩ := hns
  show wpAny _ X.A (assign (.Name y py) X.env (.ref E)) _ _ _
  refine wpAny_assign_Name (store_ok2 I' hNd hiy (.inl hy) (show RelV (.ref E) (.ref E) from rfl) (fun s2 I2' hch => ?_) (.inr hy))
  obtain ⟨a, hsb, ha⟩ := hch
  have haC : C ≠ a := by
    rcases ha with z | z
    · rw [z]; exact hL
    · exact (hcel _ _ z).symm
  refine ⟨m, hn.sameBut hsb haC, fun h' hsb' => ?_⟩
  exact ⟨_, H', I2'.turned (t' := s2.toks) (fun b o hb e => hsb'.extBut b o hb e) hC hL (.inr hsz) hcel hpin, q'⟩
end
/-! ### the loop's forms -/
theorem comp_range {lo : Int} {n : Nat} {g : TG} {tt : TT} {te : TE} {D : Addr} {Q : VK} {σ : St} {H : Hp} (Pv : Nat → List V → St → Hp → Prop) (h0 : Pv 0 [] σ (upd H D (.lst [])))
    (hs : ∀ i ys σ H, i < n → H D = some (.lst ys) → Pv i ys σ H → g (.int (lo + i)) σ H fun σ2 H2 => tt σ2 H2 fun b H3 =>
      if b = true then te σ2 H3 fun y H4 => H4 D = some (.lst ys) ∧ ys.length < sizeLine ∧ Pv (i + 1) (ys ++ [y]) σ2 (upd H4 D (.lst (ys ++ [y]))) else H3 D = some (.lst ys) ∧ Pv (i + 1) ys σ2 H3)
    (hd : ∀ ys σ H, H D = some (.lst ys) → Pv n ys σ H → Q (.ref D) H) :
    tLoop (Itr lo n) g tt te D Q σ (upd H D (.lst [])) := by
  refine ⟨fun i m σ H => m = n - i ∧ i ≤ n ∧ ∃ ys, H D = some (.lst ys) ∧ Pv i ys σ H, ⟨n, by simp, Nat.zero_le _, [], upd_same, h0⟩, ?_⟩
  rintro i m σ H ⟨rfl, hi, ys, hD, p⟩
  by_cases hlt : i < n
  · refine .inr ⟨hlt, fun y σ' H' => H' D = some (.lst ys) ∧ ys.length < sizeLine ∧ Pv (i + 1) (ys ++ [y]) σ' (upd H' D (.lst (ys ++ [y]))), fun σ' H' => H' D = some (.lst ys) ∧ Pv (i + 1) ys σ' H',
      fun y σ' H' q => ⟨ys, q.1, q.2.1, n - (i + 1), by omega, rfl, hlt, _, upd_same, q.2.2⟩, fun σ' H' q => ⟨n - (i + 1), by omega, rfl, hlt, ys, q⟩, fun x H' y => ?_⟩
    obtain ⟨e, y⟩ := y
    subst e y
    exact hs i ys σ _ hlt hD p
  · have e : i = n := by omega
    subst e
    exact .inl ⟨Nat.le_refl _, hd ys σ H hD p⟩
theorem comp_list {K : PySem.W.Frag} {a : Addr} {xs : List V} {g : TG} {tt : TT} {te : TE} {D : Addr} {Q : VK} {σ : St} {H : Hp} (Pv : Nat → List V → St → Hp → Prop) (h0 : Pv 0 [] σ (upd H D (.lst [])))
    (hl : ∀ i ys σ H, i ≤ xs.length → H D = some (.lst ys) → Pv i ys σ H → SqL K H a xs)
    (hs : ∀ i x ys σ H, xs[i]? = some x → H D = some (.lst ys) → Pv i ys σ H → g x σ H fun σ2 H2 => tt σ2 H2 fun b H3 =>
      if b = true then te σ2 H3 fun y H4 => H4 D = some (.lst ys) ∧ ys.length < sizeLine ∧ Pv (i + 1) (ys ++ [y]) σ2 (upd H4 D (.lst (ys ++ [y]))) else H3 D = some (.lst ys) ∧ Pv (i + 1) ys σ2 H3)
    (hd : ∀ ys σ H, H D = some (.lst ys) → Pv xs.length ys σ H → Q (.ref D) H) :
    tLoop (Itl K a) g tt te D Q σ (upd H D (.lst [])) := by
  refine ⟨fun i m σ H => m = xs.length - i ∧ i ≤ xs.length ∧ ∃ ys, H D = some (.lst ys) ∧ Pv i ys σ H, ⟨xs.length, by simp, Nat.zero_le _, [], upd_same, h0⟩, ?_⟩
  rintro i m σ H ⟨rfl, hi, ys, hD, p⟩
  have hq := hl i ys σ H hi hD p
  by_cases hlt : i < xs.length
  · refine .inr ⟨⟨xs, xs[i], hq, by simp [hlt]⟩, fun y σ' H' => H' D = some (.lst ys) ∧ ys.length < sizeLine ∧ Pv (i + 1) (ys ++ [y]) σ' (upd H' D (.lst (ys ++ [y]))), fun σ' H' => H' D = some (.lst ys) ∧ Pv (i + 1) ys σ' H',
      fun y σ' H' q => ⟨ys, q.1, q.2.1, xs.length - (i + 1), by omega, rfl, hlt, _, upd_same, q.2.2⟩, fun σ' H' q => ⟨xs.length - (i + 1), by omega, rfl, hlt, ys, q⟩, fun x H' y => ?_⟩
    obtain ⟨e, y⟩ := y
    subst e
    exact hs i x ys σ _ (y xs hq) hD p
  · have e : i = xs.length := by omega
    subst e
    exact .inl ⟨⟨xs, hq, Nat.le_refl _⟩, hd ys σ H hD p⟩
/-- without a test -/
theorem comp_rangeA {lo : Int} {n : Nat} {g : TG} {te : TE} {D : Addr} {Q : VK} {σ : St} {H : Hp} (Pv : Nat → List V → St → Hp → Prop) (h0 : Pv 0 [] σ (upd H D (.lst [])))
    (hs : ∀ i ys σ H, i < n → H D = some (.lst ys) → Pv i ys σ H → g (.int (lo + i)) σ H fun σ2 H3 => te σ2 H3 fun y H4 => H4 D = some (.lst ys) ∧ ys.length < sizeLine ∧ Pv (i + 1) (ys ++ [y]) σ2 (upd H4 D (.lst (ys ++ [y]))))
    (hd : ∀ ys σ H, H D = some (.lst ys) → Pv n ys σ H → Q (.ref D) H) : tLoop (Itr lo n) g tYes te D Q σ (upd H D (.lst [])) :=
  comp_range Pv h0 (fun i ys σ H hi hD p => hs i ys σ H hi hD p) hd
theorem comp_listA {K : PySem.W.Frag} {a : Addr} {xs : List V} {g : TG} {te : TE} {D : Addr} {Q : VK} {σ : St} {H : Hp} (Pv : Nat → List V → St → Hp → Prop) (h0 : Pv 0 [] σ (upd H D (.lst [])))
    (hl : ∀ i ys σ H, i ≤ xs.length → H D = some (.lst ys) → Pv i ys σ H → SqL K H a xs)
    (hs : ∀ i x ys σ H, xs[i]? = some x → H D = some (.lst ys) → Pv i ys σ H → g x σ H fun σ2 H3 => te σ2 H3 fun y H4 => H4 D = some (.lst ys) ∧ ys.length < sizeLine ∧ Pv (i + 1) (ys ++ [y]) σ2 (upd H4 D (.lst (ys ++ [y]))))
    (hd : ∀ ys σ H, H D = some (.lst ys) → Pv xs.length ys σ H → Q (.ref D) H) : tLoop (Itl K a) g tYes te D Q σ (upd H D (.lst [])) :=
  comp_list Pv h0 hl (fun i x ys σ H hi hD p => hs i x ys σ H hi hD p) hd
end L2
/-! ### for i, x in enumerate(a list) -/
namespace L2
open PySem PySem.Spec PyProof.Rows
/-- at turn i: a new pair (i, the item) -/
def Ite (K : PySem.W.Frag) (a : Addr) : It :=
  ⟨fun i H => ∃ xs x, SqL K H a xs ∧ xs[i]? = some x, fun i H y H' => ∃ t x, y = .ref t ∧ H t = none ∧ H' = upd H t (.tup [.int i, x]) ∧ ∀ xs, SqL K H a xs → xs[i]? = some x, fun i H => ∃ xs, SqL K H a xs ∧ xs.length ≤ i⟩
theorem turn_enum {P : Program} {w : World} {K : PySem.W.Frag} {elts : List Expr} {x1 : Nat} {tp : Pos} (a e it : Addr) (hne : e ≠ it) :
    Turn P w K (.Tuple elts x1 tp) (Ite K a) [e, it] e (fun i h => (∃ old, IsEnum h e it (i : Nat) old) ∧ h.IsListIter it a i) where
  mem := by simp
  obj := fun i h st b hb => by
    obtain ⟨⟨old, he⟩, o, ho, hc, hd⟩ := st
    rcases List.mem_cons.mp hb with z | hb
    · subst z
      exact ⟨_, he, fun v z => by cases (show Data.fields _ = Data.cell v from z)⟩
    · have z : b = it := by simpa using hb
      subst z
      exact ⟨o, ho, fun v z => by rw [hd] at z; cases z⟩
  keep := fun i h h' st k => by
    obtain ⟨⟨old, he⟩, hit⟩ := st
    exact ⟨⟨old, k e (by simp) _ he⟩, hit.at fun o z => k it (by simp) o z⟩
  item := by
    intro X hP hw hK hc i pins s σ H E I hf st hg
    subst hP hw hK
    obtain ⟨⟨old, he⟩, hit⟩ := st
    obtain ⟨xs, x, hq, hx⟩ := hg
    obtain ⟨its, rv, pl, hz⟩ := I.list hq
    obtain ⟨u, hu, ru⟩ := rv.get hx
    obtain ⟨f0, f1, f2, f3, f4, f5⟩ := hf e (by simp)
    obtain ⟨g0, g1, g2, g3, g4, g5⟩ := hf it (by simp)
    refine wpAny_pyNext_enum_item he hit pl.isList (x := u) (by simpa using hu) hne fun h1 heo hit1 ht1 hz1 hk1 => ⟨_, rfl, ?_⟩
    refine wpAny_letOwnedTupleGo_enum heo fun h2 he2 hs2 => ?_
    have hk2 : ∀ b o, b ≠ e → b ≠ it → s.heap.get? b = some o → h2.get? b = some o := fun b o n1 n2 q => (hs2.2 b n1).trans (hk1 b o n1 n2 q)
    have elt : e < s.heap.objs.size := Heap.lt_size he
    have ilt : it < s.heap.objs.size := by obtain ⟨o, z, _⟩ := hit; exact Heap.lt_size z
    have hTe : s.heap.objs.size ≠ e := Nat.ne_of_gt elt
    have hT : h2.get? s.heap.objs.size = some { cls := .type "tuple", data := .seq #[.int i s.toks, u] } := (hs2.2 _ hTe).trans ht1
    have hn : H s.heap.objs.size = none := I.fresh
    have hob : ∀ b o, h2.get? b = some o ∨ s.heap.get? b = some o → True := fun _ _ _ => trivial
    have e2 : ∃ o, h2.get? e = some o := ⟨_, he2⟩
    have i2 : ∃ o, h2.get? it = some o := by
      obtain ⟨o, z, _⟩ := hit1
      exact ⟨o, (hs2.2 it hne.symm).trans z⟩
    have I2 : Inv X pins σ (upd H s.heap.objs.size (.tup [.int i, x])) { s with heap := h2, toks := s.toks + 1 } := by
      refine I.step (g' := s.gens) (d' := s.drawn) (ch := [e, it]) (fun b hb => ?_) (fun b o _ _ hcb q _ => ?_) (fun b o _ _ hcb q _ => ?_) (fun b o _ q n => ?_) (fun b o hcb q => ?_) (fun b ys q => ?_) (fun b o v q => ?_) (fun b qs q => ?_) (fun m hm => ?_) (fun b v q => ?_) I.bare
      · rcases List.mem_cons.mp hb with z | hb
        · subst z; exact ⟨f3, f1, f4, f5⟩
        · have z : b = it := by simpa using hb
          subst z; exact ⟨g3, g1, g4, g5⟩
      · exact hk2 b o (fun z => hcb (by simp [z])) (fun z => hcb (by simp [z])) q
      · exact ⟨o.slots, hk2 b o (fun z => hcb (by simp [z])) (fun z => hcb (by simp [z])) q⟩
      · rw [upd_ne (Nat.ne_of_lt (Heap.lt_size q))]; exact n
      · exact ⟨o, hk2 b o (fun z => hcb (by simp [z])) (fun z => hcb (by simp [z])) q⟩
      · rw [upd_ne (ne_of_none q hn)]; exact q
      · rw [upd_ne (ne_of_none q hn)]; exact q
      · exact ⟨#[], by rw [upd_ne (ne_of_none q hn), q]; simp⟩
      · obtain ⟨o, es, ep, ho, r⟩ := hm
        exact ⟨o, es, ep, hk2 _ o (Ne.symm f1) (Ne.symm g1) ho, r⟩
      · by_cases hb : b = s.heap.objs.size
        · subst hb
          rw [upd_same] at q
          cases q
          exact ⟨by show 2 ≤ sizeLine; decide, [.int i s.toks, u], .cons ⟨_, rfl⟩ (.cons ru .nil), _, hT, rfl, _, rfl⟩
        · rw [upd_ne hb] at q
          refine (I.hok b v q).stay (fun c o hc' z => hk2 c o ?_ ?_ z) (fun c z => by rw [upd_ne (ne_of_none z hn)]; exact z) fun c ys z => by rw [upd_ne (ne_of_none z hn)]; exact z
          · rcases hc' with y | y
            · rw [y]; exact fun w => by rw [w, f0] at q; cases q
            · exact fun w => by rw [w, f0] at y; cases y
          · rcases hc' with y | y
            · rw [y]; exact fun w => by rw [w, g0] at q; cases q
            · exact fun w => by rw [w, g0] at y; cases y
    refine ⟨.ref s.heap.objs.size, _, I2, rfl, ⟨_, x, rfl, hn, rfl, fun ys hy => by rw [I.list_inj hy hq]; exact hx⟩, ⟨⟨_, he2⟩, ?_⟩, fun b hb => ?_⟩
    · exact hit1.at fun o z => (hs2.2 it hne.symm).trans z
    · rcases List.mem_cons.mp hb with z | hb
      · subst z; rw [upd_ne hTe.symm]; exact f0
      · have z : b = it := by simpa using hb
        subst z; rw [upd_ne (Nat.ne_of_lt ilt)]; exact g0
  done := by
    intro X hP hw hK hc i pins s σ H E I hf st hg
    subst hP hw hK
    obtain ⟨⟨old, he⟩, hit⟩ := st
    obtain ⟨xs, hq, hx⟩ := hg
    obtain ⟨its, rv, pl, hz⟩ := I.list hq
    obtain ⟨g0, g1, g2, g3, g4, g5⟩ := hf it (by simp)
    have hl := rv.length
    exact wpAny_pyNext_enum_end (I.ok.hd hc) he hit pl.isList (by simp; omega) fun h' eb => ⟨rfl, I.turned (t' := s.toks) (fun b o hb q => eb b o hb q) g0 g1 g3 g4 g5⟩
  self := fun _ _ _ _ _ st h => by
    obtain ⟨⟨old, he⟩, _⟩ := st
    exact wpAny_pyIter_enum he h
section
variable {X : Cx}
def iEnum (K : PySem.W.Frag) (ta : TA) : TI := fun σ H R => ta σ H fun vs H1 => ∃ a, vs = [.ref a] ∧ (∃ xs, SqL K H1 a xs) ∧ R (Ite K a) H1
theorem pi_enum {elts : List Expr} {x1 : Nat} {tp : Pos} {a : Expr} {ta : TA} {p pos : Pos} (hg : Gl X "enumerate") (hm : X.mg "enumerate" = none) (ha : PA X [a] ta) (hs : starEach [a] X.env = [(false, eval a X.env)] := by rfl) :
    PI X (.Tuple elts x1 tp) (.Call (.Name "enumerate" p) [a] [] pos) (iEnum X.K ta) := by
  intro pins s σ H R I h
  refine Call_ (ld_blt I hg hm (by decide +kernel : bootBuiltins "enumerate" = some (.type "enumerate")) (PyProof.Rows.callWith_type1 (thn (ha pos pins s σ H _ I h) fun us s1 ⟨vs, H1, I1, r1, q1⟩ => ?_) hs rfl))
  obtain ⟨b, e, ⟨xs, hq⟩, q⟩ := q1
  subst e
  obtain ⟨u, rfl, ru⟩ := Vals.one r1
  cases (show u = Value.ref b from ru)
  obtain ⟨its, rv, pl, hz⟩ := I1.list hq
  refine call_enumerate_list pl.isList fun h' he hit hsz hk => ?_
  refine wpAny_pyIter_enum he ?_
  have I2 : Inv X pins σ H1 { s1 with heap := h' } := I1.kept (t' := s1.toks) hk
  refine ⟨s1.heap.objs.size + 1, [s1.heap.objs.size + 1, s1.heap.objs.size], _, _, H1, rfl, I2, turn_enum b (s1.heap.objs.size + 1) s1.heap.objs.size (Nat.succ_ne_self _), ⟨⟨.none, he⟩, hit⟩, fun c hc => ?_, q⟩
  rcases List.mem_cons.mp hc with z | hc
  · subst z; exact I1.fpOk (Nat.le_succ _) (I1.hok.fresh (Nat.le_succ _))
  · have z : c = s1.heap.objs.size := by simpa using hc
    subst z; exact I1.fpOk (Nat.le_refl _) (I1.hok.fresh (Nat.le_refl _))
end
theorem for_enum {K : PySem.W.Frag} {a : Addr} {xs : List V} {g : TG} {tb : TS} {D : Ends} {σ : St} {H : Hp} (Pv : Nat → St → Hp → Prop) (h0 : Pv 0 σ H) (hl : ∀ i σ H, i ≤ xs.length → Pv i σ H → SqL K H a xs)
    (hs : ∀ i x t σ H, xs[i]? = some x → H t = none → Pv i σ H → g (.ref t) σ (upd H t (.tup [.int i, x])) fun σ2 H2 => tb { D with nx := Pv (i + 1), ct := Pv (i + 1), bk := D.nx } σ2 H2) (hd : ∀ σ H, Pv xs.length σ H → D.nx σ H) :
    ∃ W : Nat → Nat → St → Hp → Prop, (∃ m, W 0 m σ H) ∧ ∀ i m σ H, W i m σ H →
      ((Ite K a).stop i H ∧ D.nx σ H) ∨ ((Ite K a).go i H ∧ ∃ N : St → Hp → Prop, (∀ σ' H', N σ' H' → ∃ m', m' < m ∧ W (i + 1) m' σ' H') ∧ ∀ x H', (Ite K a).yld i H x H' → g x σ H' fun σ2 H2 => tb { D with nx := N, ct := N, bk := D.nx } σ2 H2) := by
  refine ⟨fun i m σ H => m = xs.length - i ∧ i ≤ xs.length ∧ Pv i σ H, ⟨xs.length, by simp, Nat.zero_le _, h0⟩, ?_⟩
  rintro i m σ H ⟨rfl, hi, p⟩
  have q := hl i σ H hi p
  by_cases hlt : i < xs.length
  · refine .inr ⟨⟨xs, xs[i], q, by simp [hlt]⟩, Pv (i + 1), fun σ' H' p' => ⟨xs.length - (i + 1), by omega, rfl, hlt, p'⟩, fun y H' hy => ?_⟩
    obtain ⟨t, x, rfl, ht, rfl, hx⟩ := hy
    exact hs i x t σ H (hx xs q) ht p
  · have e : i = xs.length := by omega
    subst e
    exact .inl ⟨⟨xs, q, Nat.le_refl _⟩, hd σ H p⟩
end L2
/-! ### xs.index(k), small ints -/
namespace L2
open PySem PySem.Spec PyProof.Rows
theorem small_weight : ∀ xs : List Int, (∀ x ∈ xs, 0 ≤ x ∧ x < 65536) → PyData.canLayAll0 (xs.map PyData.int) = true ∧ PyData.depthAll (xs.map PyData.int) = 0 ∧ PyData.weightAll (xs.map PyData.int) ≤ 17 * xs.length
  | [], _ => ⟨rfl, rfl, Nat.le_refl _⟩
  | x :: r, h => by
    obtain ⟨a, b, c⟩ := small_weight r fun y hy => h y (List.mem_cons_of_mem _ hy)
    obtain ⟨h1, h2⟩ := h x List.mem_cons_self
    have hw : PyData.weight (.int x) ≤ 16 := by
      simp only [PyData.weight]
      split
      · omega
      · rename_i hx
        have hx' : x ≠ 0 := by simpa using hx
        have : x.natAbs.log2 < 16 := (Nat.log2_lt (by omega)).mpr (by omega)
        omega
    refine ⟨?_, ?_, ?_⟩
    · simp only [List.map_cons, PyData.canLayAll0, PyData.canLay0, a, Bool.and_true]
    · simp only [List.map_cons, PyData.depthAll, PyData.depth, b]; rfl
    · simp only [List.map_cons, PyData.weightAll, List.length_cons]; omega
theorem small_layable {xs : List Int} (h : ∀ x ∈ xs, 0 ≤ x ∧ x < 65536) (hl : xs.length ≤ 1000) : PyData.layable0 (.list (xs.map PyData.int)) = true := by
  obtain ⟨a, b, c⟩ := small_weight xs h
  unfold PyData.layable0
  rw [Bool.and_eq_true, Bool.and_eq_true]
  refine ⟨⟨by simpa only [PyData.canLay0] using a, decide_eq_true ?_⟩, decide_eq_true ?_⟩
  · simp only [PyData.depth, b]; decide
  · simp only [PyData.weight]; omega
def rIndex (K : PySem.W.Frag) : V → List V → Hp → VK → Prop := fun x vs H Q => ∃ (l : Addr) (ns : List Int) (k : Int), x = .ref l ∧ vs = [.int k] ∧ SqL K H l (ns.map V.int) ∧ (∀ y ∈ ns, 0 ≤ y ∧ y < 65536) ∧ ns.length ≤ 1000 ∧ k ∈ ns ∧ Q (.int (ns.idxOf k : Nat)) H
theorem mt_index {X : Cx} : MtM X "list.index" (rIndex X.K) := by
  intro pins s σ H x vs v us Q I rx rv h
  obtain ⟨l, ns, k, rfl, rfl, hq, hs, hl, hk, q⟩ := h
  cases rx
  obtain ⟨u, rfl, ru⟩ := rv.one
  obtain ⟨t, rfl⟩ := (show ∃ t, u = Value.int k t from ru)
  obtain ⟨its, rr, pl, hz⟩ := I.list hq
  exact index_list_ints pl.isList (intsAre_of rr) (small_layable hs hl) hk ⟨.int _, H, I.tok _, ⟨_, rfl⟩, q⟩
end L2

set_option Elab.async false
set_option linter.all false
set_option maxRecDepth 100000
set_option maxHeartbeats 4000000
/-! Exceptions over the layer: how one flies out of a def, how it is raised, how it is caught. -/
namespace L2
open PySem PySem.Spec PyProof.Rows

/-! ### a frame is written onto the exception's trail -/
/-- h' is h with one entry T more on the trail of e; the frames at fs may have new slots -/
structure Put (fs : List Addr) (h h' : Heap) (e : Addr) : Prop where
  keep : ∀ b o, b ≠ e → b ∉ fs → h.get? b = some o → h'.get? b = some o
  slot : ∀ b o, b ≠ e → h.get? b = some o → ∃ sl, h'.get? b = some { o with slots := sl }
  exc : ∃ oe vs oe' T oT ts, h.get? e = some oe ∧ oe.data = .fields vs ∧ h'.get? e = some oe' ∧ oe'.cls = oe.cls ∧ oe'.dict = oe.dict ∧ oe'.data = .fields (vs.setIfInBounds 1 (.ref T)) ∧ 1 < vs.size ∧
    h.objs.size ≤ T ∧ T ≠ e ∧ h'.get? T = some oT ∧ oT.data = .fields ts ∧ ts[3]? = some .none
/-- the head of the trail: none yet, or one that is not in flight -/
def Rests (h : Heap) (vs : Array Value) (P : Addr → Prop) : Prop :=
  vs[1]? = some .none ∨ ∃ T oT ts, vs[1]? = some (.ref T) ∧ P T ∧ h.get? T = some oT ∧ oT.data = .fields ts ∧ ts[3]? = some .none

section
variable {M : Model} {A : Around} {E : Value → Shared → Prop} {s : Shared}
theorem entry_put {base : Heap} {env : Env} {outer : List Env} {L e : Addr} {oe : Obj} {vs : Array Value} {head : Value} {hadNext : Bool} {Q : Unit → Shared → Prop}
    (hfr : A.frames = some (env :: outer)) (hl : s.heap.FunFrames base (env :: outer)) (hf : env.frame = some L)
    (he : s.heap.get? e = some oe) (hd : oe.data = .fields vs) (hsz : 1 < vs.size)
    (h : ∀ h', Put (frs (env :: outer)) s.heap h' e → Q () { s with heap := h' }) :
    wpAny M A (do let a ← frameOf env; let pl ← entryPlaceOf L hadNext; let b ← EntryCells.newEntry head a .none (rawInt L) .none pl; setField (.ref e) 1 b) (fun _ s' => wpAny M A (setFlight (.ref e) none) Q E s') E s := by
  have hene : e ∉ frs (env :: outer) := fun hm => by
    obtain ⟨_, o, ho, hnf⟩ := hl.mem hm
    rw [he] at ho; injection ho with ho; subst ho; exact hnf vs hd
  refine wpAny_bind (wpAny_frameOf_fun hfr hl hf fun h1 hs1 => ?_)
  refine wpAny_bind (wpAny_entryPlaceOf fun pl hpl => ?_)
  unfold EntryCells.newEntry newFields
  refine wpAny_bind (wpAny_newObj_type ?_ (hpl.sizeOk5 _ _ _ _ _))
  have he1 : h1.get? e = some oe := (hs1.2.1 e hene).trans he
  have he2 := Heap.get?_push_of_some (h := h1) { cls := .type "traceback", dict := none, data := .fields ([head, .ref L, .none, rawInt L, .none] ++ (if pl.isEmpty then List.replicate 6 Value.none else pl)).toArray } he1
  refine wpAny_setField he2 hd hsz ?_
  have hTe : h1.objs.size ≠ e := Nat.ne_of_gt (Heap.lt_size he1)
  have hd3 := Obj.data_mapFields hd (·.setIfInBounds 1 (Value.ref h1.objs.size))
  have he3 := Heap.get?_update_self (Obj.mapFields (·.setIfInBounds 1 (Value.ref h1.objs.size))) he2 (Obj.isFreed_of_fields hd3)
  have hT3 := (Heap.get?_update_other (h1.push { cls := .type "traceback", dict := none, data := .fields ([head, .ref L, .none, rawInt L, .none] ++ (if pl.isEmpty then List.replicate 6 Value.none else pl)).toArray })
    (Obj.mapFields (·.setIfInBounds 1 (Value.ref h1.objs.size))) (Ne.symm hTe)).trans (Heap.get?_push_size h1 rfl)
  unfold setFlight
  refine wpAny_bind (wpAny_field he3 hd3 (x := .ref h1.objs.size) (by simp [hsz]) ?_)
  rw [if_pos (show (Value.ref h1.objs.size != Value.none) = true from by simp)]
  refine wpAny_setField hT3 rfl (by simp only [List.size_toArray, List.length_append, List.length_cons, List.length_nil] <;> omega) (h _ ?_)
  have keep : ∀ b o, b ≠ e → h1.get? b = some o →
      (((h1.push { cls := .type "traceback", dict := none, data := .fields ([head, .ref L, .none, rawInt L, .none] ++ (if pl.isEmpty then List.replicate 6 Value.none else pl)).toArray }).update e (Obj.mapFields (·.setIfInBounds 1 (Value.ref h1.objs.size)))).update h1.objs.size
        (Obj.mapFields (·.setIfInBounds 3 ((none : Option Addr).elim Value.none fun f => rawInt f)))).get? b = some o := fun b o hbe hb => by
    have hbT : h1.objs.size ≠ b := Nat.ne_of_gt (Heap.lt_size hb)
    rw [Heap.get?_update_other _ _ hbT, Heap.get?_update_other _ _ (Ne.symm hbe)]
    exact Heap.get?_push_of_some _ hb
  refine ⟨fun b o hbe hbf hb => keep b o hbe ((hs1.2.1 b hbf).trans hb), fun b o hbe hb => ?_, ?_⟩
  · obtain ⟨sl, hsl⟩ := hs1.2.2 b o hb
    exact ⟨sl, keep b _ hbe hsl⟩
  · have hTn : s.heap.objs.size ≤ h1.objs.size := by rw [hs1.1]; exact Nat.le_refl _
    refine ⟨oe, vs, _, h1.objs.size, _, _, he, hd, (Heap.get?_update_other _ _ hTe).trans he3, Obj.cls_mapFields _ _, ?_, hd3, hsz, hTn, hTe, Heap.get?_update_self _ hT3 (Obj.isFreed_of_fields (Obj.data_mapFields rfl _)), Obj.data_mapFields rfl _, by first | (simp; done) | (rcases hpl with rfl | ⟨_, _, _, _, _, _, _, rfl⟩ <;> simp)⟩
    obtain ⟨c, dd, dt, sl⟩ := oe
    cases dt <;> rfl

theorem note_put {base : Heap} {env : Env} {outer : List Env} {L e : Addr} {oe : Obj} {vs : Array Value} {Q : Unit → Shared → Prop} {P : Addr → Prop}
    (hfr : A.frames = some (env :: outer)) (hl : s.heap.FunFrames base (env :: outer)) (hf : env.frame = some L)
    (he : s.heap.get? e = some oe) (hd : oe.data = .fields vs) (h1 : Rests s.heap vs P)
    (h : ∀ h', Put (frs (env :: outer)) s.heap h' e → Q () { s with heap := h' }) :
    wpAny M A (noteFrame (.ref e) env) (fun _ s2 => wpAny M A (setFlight (.ref e) none) Q E s2) E s := by
  unfold noteFrame
  simp only [hf]
  rcases h1 with h1 | ⟨T, oT, ts, h1, _, hT, hdT, h3⟩
  · refine wpAny_bind (wpAny_field he hd h1 ?_)
    rw [if_neg (by decide)]
    exact entry_put hfr hl hf he hd (Array.getElem?_eq_some_iff.mp h1).1 h
  · refine wpAny_bind (wpAny_field he hd h1 ?_)
    rw [if_pos (show (Value.ref T != Value.none) = true from by simp)]
    refine wpAny_bind (wpAny_field hT hdT h3 ?_)
    rw [if_neg (show ¬ ((Value.none == rawInt L) = true) from by simp [rawInt])]
    refine wpAny_bind (wpAny_setField hT hdT (Array.getElem?_eq_some_iff.mp h3).1 ?_)
    rw [Heap.update_setField_same _ _ _ _ _ _ hT hdT h3]
    exact entry_put hfr hl hf he hd (Array.getElem?_eq_some_iff.mp h1).1 h
end

/-! ### a body with an exception in flight -/
theorem ObjOk.ex {P : Program} {w : World} {H : Hp} {h : Heap} {a : Addr} {o : HO} (x : ObjOk P w H h a o) : ∃ ob, h.get? a = some ob := by
  cases o with
  | lst xs => obtain ⟨_, _, _, _, e⟩ := x; exact ⟨_, e⟩
  | tup xs => obtain ⟨_, _, _, p⟩ := x; obtain ⟨o, e, _⟩ := p; exact ⟨_, e⟩
  | dK kvs => obtain ⟨_, _, _, _, o, _, _, e, _⟩ := x; exact ⟨_, e⟩
  | dT kvs => obtain ⟨_, _, _, _, o, _, _, e, _⟩ := x; exact ⟨_, e⟩
  | set S n => obtain ⟨o, _, _, _, e, _⟩ := x; exact ⟨_, e⟩
  | ins C dx fs => obtain ⟨_, _, _, e, _⟩ := x; exact ⟨_, e⟩
  | own y => obtain ⟨_, e⟩ := x; exact ⟨_, e⟩
  | xd fs => obtain ⟨_, ⟨_, _, _, e, _⟩, _⟩ := x; exact ⟨_, e⟩
  | rng lo hi => obtain ⟨_, _, _, e⟩ := x; exact ⟨_, e⟩
  | frz ob u => obtain ⟨e, _⟩ := x; exact ⟨_, e⟩
  | tbl ps => exact ⟨_, x⟩
  | met f y => exact ⟨_, x⟩
  | ext φ => exact x.2.1
section
variable {X : Cx} {pins : List (Addr × Obj)} {σ : St} {H : Hp} {s : Shared} {a : Addr} {C : Value} {d : Option Addr} {h' : Heap}
theorem Inv.put (I : Inv X pins σ H s) (P : Put (frs X.stack) s.heap h' a) (n0 : X.s₀.heap.get? a = none) (fr : H a = none) (pn : ∀ p ∈ X.pn ++ pins, p.1 ≠ a) : Inv X pins σ H { s with heap := h' } := by
  obtain ⟨oe, vs, oe', T, oT, ts, he, hd, _⟩ := P.exc
  have neL : a ≠ X.env.locals := fun z => by
    obtain ⟨m, ⟨o, es, ep, ho, hdt, _⟩, _⟩ := I.loc
    rw [← z, he] at ho; cases ho; rw [hd] at hdt; cases hdt
  have neC : ∀ x c, X.env.cells.lookup x = some c → c ≠ a := fun x c e z => by
    obtain ⟨v, o, ho, hdt⟩ := I.cell x c e
    rw [z, he] at ho; cases ho; rw [hd] at hdt; cases hdt
  have stk : ∀ b, b ≠ X.env.locals → b ∉ X.fs → b ∉ frs X.stack := fun b h1 h2 z => (List.mem_cons.mp (I.stkSub b z)).elim h1 h2
  have neL' : ∀ b o, X.s₀.heap.get? b = some o → b ≠ X.env.locals := fun b o e => Nat.ne_of_lt (Nat.lt_of_lt_of_le (Heap.lt_size e) I.ok.above)
  have nea : ∀ b o, X.s₀.heap.get? b = some o → b ≠ a := fun b o e z => by rw [z, n0] at e; cases e
  have cellK : ∀ x c, X.env.cells.lookup x = some c → ∀ v, s.heap.IsCell c v → h'.IsCell c v := fun x c e v ⟨o, ho, hdt⟩ => by
    obtain ⟨sl, q⟩ := P.slot c o (neC x c e) ho
    exact ⟨_, q, hdt⟩
  refine ⟨I.ok, I.os, I.bare, ⟨fun b o e n hb hx => ?_, fun b o e n hb hx => ?_, fun b o e n hx => I.base.free b o e n hx, fun b o e hx => ?_, I.base.tups, I.base.frzs, I.base.tbls⟩, ?_, fun x c e => ?_, I.free, I.freeC, fun p hp => ?_, fun b u e => ?_, I.len⟩
  · exact P.keep b o (nea b o e) (stk b (neL' b o e) hb) (I.base.keep b o e n hb hx)
  · obtain ⟨sl, e1⟩ := I.base.slot b o e n hb hx
    obtain ⟨sl', e2⟩ := P.slot b _ (nea b o e) e1
    exact ⟨sl', e2⟩
  · obtain ⟨o', e1⟩ := I.base.there b o e hx
    obtain ⟨sl', e2⟩ := P.slot b _ (nea b o e) e1
    exact ⟨_, e2⟩
  · obtain ⟨m, ⟨o, es, ep, ho, r⟩, hl⟩ := I.loc
    obtain ⟨sl, e2⟩ := P.slot _ _ (Ne.symm neL) ho
    refine ⟨m, ⟨_, es, ep, e2, r⟩, fun i x v e1 e2 e3 => ?_⟩
    obtain ⟨u, r, l⟩ := hl i x v e1 e2 e3
    refine ⟨u, r, ?_⟩
    rcases l with l | ⟨k, c, e, z⟩
    · exact .inl l
    · exact .inr ⟨k, c, e, cellK x c e _ z⟩
  · obtain ⟨v, z⟩ := I.cell x c e
    exact ⟨v, cellK x c e v z⟩
  · obtain ⟨e, n, ne, nf, dd⟩ := I.pin p hp
    exact ⟨P.keep p.1 p.2 (pn p hp) (stk p.1 ne nf) e, n, ne, nf, dd⟩
  · have tr : ∀ c v, H c = some v → ∀ u, s.heap.get? c = some u → h'.get? c = some u := fun c v hc u q => by
      refine P.keep c u (fun z => by rw [z, fr] at hc; cases hc) (fun z => ?_) q
      rw [I.stkFree c z] at hc; cases hc
    refine (I.hok b u e).stay (fun c v hc q => ?_) (fun _ q => q) fun _ _ q => q
    rcases hc with z | z
    · rw [z] at q ⊢; exact tr b u e v q
    · exact tr c _ z v q

/-- an exception of the class C with the dict d lies at a, younger than this def's entry, and is not in flight -/
structure Flies (X : Cx) (pins : List (Addr × Obj)) (σ : St) (H : Hp) (a : Addr) (C : Value) (d : Option Addr) (s : Shared) : Prop where
  inv : Inv X pins σ H s
  new : X.s₀.heap.get? a = none
  free : H a = none
  pin : ∀ p ∈ X.pn ++ pins, p.1 ≠ a
  obj : ∃ oe vs, s.heap.get? a = some oe ∧ oe.cls = C ∧ oe.dict = d ∧ oe.data = .fields vs ∧ Rests s.heap vs fun T => T ≠ a ∧ X.s₀.heap.get? T = none ∧ H T = none

theorem Flies.put (F : Flies X pins σ H a C d s) (P : Put (frs X.stack) s.heap h' a) : Flies X pins σ H a C d { s with heap := h' } := by
  obtain ⟨oe, vs, he, hc, hdd, hd, _⟩ := F.obj
  refine ⟨F.inv.put P F.new F.free F.pin, F.new, F.free, F.pin, ?_⟩
  obtain ⟨oe2, vs2, oe', T, oT, ts, he2, hd2, he', hc', hdd', hd', hsz, hT, hTe, hT', hTd, hT3⟩ := P.exc
  rw [he] at he2; cases he2
  rw [hd] at hd2; cases hd2
  refine ⟨oe', _, he', hc'.trans hc, hdd'.trans hdd, hd', .inr ⟨T, oT, ts, by simp [hsz], ⟨hTe, ?_, ?_⟩, hT', hTd, hT3⟩⟩
  · exact Heap.get?_none_of_le (Nat.le_trans F.inv.sz hT)
  · exact F.inv.hok.fresh hT
theorem Flies.at (F : Flies X pins σ H a C d s) : ∃ oe vs, s.heap.get? a = some oe ∧ oe.cls = C ∧ oe.dict = d ∧ oe.data = .fields vs := by
  obtain ⟨oe, vs, he, hc, hdd, hd, _⟩ := F.obj
  exact ⟨oe, vs, he, hc, hdd, hd⟩
/-- the frame is noted, the flight ends -/
theorem Flies.note {Q : Unit → Shared → Prop} {E : Value → Shared → Prop} {A : Around} {M : Model} (F : Flies X pins σ H a C d s) (hA : A.frames = some X.stack) (hs : X.stack = X.env :: X.outer) (hf : X.env.frame = some X.env.locals)
    (h : ∀ h', Flies X pins σ H a C d { s with heap := h' } → (∃ oe vs T oT ts, h'.get? a = some oe ∧ oe.data = .fields vs ∧ vs[1]? = some (.ref T) ∧ h'.get? T = some oT ∧ oT.data = .fields ts ∧ ts[3]? = some .none) → Q () { s with heap := h' }) :
    wpAny M A (noteFrame (.ref a) X.env) (fun _ s2 => wpAny M A (setFlight (.ref a) none) Q E s2) E s := by
  obtain ⟨oe, vs, he, hc, hdd, hd, hr⟩ := F.obj
  refine note_put (base := X.base) (hA.trans (congrArg some hs)) (hs ▸ F.inv.stack) hf he hd hr fun h' P => ?_
  have P' : Put (frs X.stack) s.heap h' a := by rw [hs]; exact P
  refine h h' (F.put P') ?_
  obtain ⟨oe2, vs2, oe', T, oT, ts, he2, hd2, he', hc', hdd', hd', hsz, hT, hTe, hT', hTd, hT3⟩ := P.exc
  exact ⟨oe', _, T, oT, ts, he', hd', by simp [hsz], hT', hTd, hT3⟩
end

/-- how an exception lies behind a call -/
def CXE (P : Program) (w : World) : CXT := fun outer H s E e s' =>
  ∃ a C d H', e = .ref a ∧ s'.os = s.os ∧ AllBare s'.gens ∧ Un (frs outer) [] H H' s.heap s'.heap ∧ HOk P w H' s'.heap ∧ s.heap.get? a = none ∧ H' a = none ∧
    (∃ oe vs, s'.heap.get? a = some oe ∧ oe.cls = C ∧ oe.dict = d ∧ oe.data = .fields vs ∧ Rests s'.heap vs fun T => T ≠ a ∧ s.heap.get? T = none ∧ H' T = none) ∧ E C d H'

section
variable {P : Program} {w : World} {K : PySem.W.Frag} {mg : Str → Option Value} {base : Heap} {N : List Str} {qual : Str} {scope : Scope} {f : Addr} {cd : Value} {A : Around} {outer : List Env} {s0 : Shared} {H0 : Hp} {E : XK}
/-- it leaves the def -/
theorem Flies.leave {pins : List (Addr × Obj)} {σ : St} {H : Hp} {s : Shared} {a : Addr} {C : Value} {d : Option Addr} (F : Flies (cxOf (CXE P w) P w K mg base N qual scope f cd A outer s0 H0 E) pins σ H a C d s) (hE : E C d H) :
    (cxOf (CXE P w) P w K mg base N qual scope f cd A outer s0 H0 E).xe (.ref a) s := by
  show wpAny _ _ (leaving _ (.ref a)) _ _ s
  unfold leaving
  refine wpAny_bind (F.note F.inv.ok.frames rfl rfl fun h' F' _ => ?_)
  exact ⟨a, C, d, H, rfl, F'.inv.os, F'.inv.bare, F'.inv.base, F'.inv.hok, F'.new, F'.free, F'.obj, hE⟩
end
section
variable {X : Cx} {pins : List (Addr × Obj)} {σ : St} {H : Hp} {s s' : Shared} {e : Value} {E : XK}
/-- it comes out of a callee -/
theorem Inv.flies (I : Inv X pins σ H s) (hx : X.ex = []) (h : CXE X.prog X.w X.stack H s E e s') : ∃ a C d H', e = .ref a ∧ Flies X pins σ H' a C d s' ∧ E C d H' := by
  obtain ⟨a, C, d, H', rfl, os, bare, un, hok, na, fa, obj, q⟩ := h
  obtain ⟨hh, g, dr, t, os'⟩ := s'
  obtain rfl : os' = s.os := os
  have old : ∀ b, s.heap.get? b = none → X.s₀.heap.get? b = none := fun b n => by
    cases z : X.s₀.heap.get? b with
    | none => rfl
    | some o =>
      obtain ⟨o', e⟩ := I.base.there b o z (by rw [hx]; simp)
      rw [n] at e; cases e
  refine ⟨a, C, d, H', rfl, ⟨I.call (h' := hh) (g' := g) (d' := dr) (t' := t) (ch := []) un hok bare (fun b z => absurd z (by simp)), old a na, fa, fun p hp z => ?_, ?_⟩, q⟩
  · have := (I.pin p hp).1
    rw [z, na] at this; cases this
  · obtain ⟨oe, vs, he, hc, hdd, hd, hr⟩ := obj
    refine ⟨oe, vs, he, hc, hdd, hd, ?_⟩
    rcases hr with hr | ⟨T, oT, ts, h1, ⟨h2, h3, h4⟩, h5, h6, h7⟩
    · exact .inl hr
    · exact .inr ⟨T, oT, ts, h1, ⟨h2, old T h3, h4⟩, h5, h6, h7⟩
/-- what a raise in the body makes -/
theorem Inv.raised {C : Value} {args : List Value} {h' : Heap} {a : Addr} (I : Inv X pins σ H s) (hx : X.ex = []) (m : Heap.MadeExcOf s.heap h' a C args) : Flies X pins σ H a C none { s with heap := h' } := by
  obtain ⟨t, h1, h2, h3⟩ := m.there
  have old : ∀ b, s.heap.get? b = none → X.s₀.heap.get? b = none := fun b n => by
    cases z : X.s₀.heap.get? b with
    | none => rfl
    | some o =>
      obtain ⟨o', e⟩ := I.base.there b o z (by rw [hx]; simp)
      rw [n] at e; cases e
  refine ⟨I.kept (t' := s.toks) m.keeps, old a m.new, ?_, fun p hp z => ?_, ⟨_, _, h1, rfl, rfl, rfl, .inl rfl⟩⟩
  · cases q : H a with
    | none => rfl
    | some u =>
      obtain ⟨o, e⟩ := (I.hok a u q).ex
      rw [m.new] at e; cases e
  · have := (I.pin p hp).1
    rw [z, m.new] at this; cases this
end
section
variable {P : Program} {w : World} {K : PySem.W.Frag} {mg : Str → Option Value} {base : Heap} {N : List Str} {qual : Str} {scope : Scope} {f : Addr} {cd : Value} {A : Around} {outer : List Env} {s0 : Shared} {H0 : Hp} {E : XK}
/-- an exception of a callee passes -/
theorem passes_on : Passes (CXE P w) (cxOf (CXE P w) P w K mg base N qual scope f cd A outer s0 H0 E) E := fun pins σ H s e s' I h => by
  obtain ⟨a, C, d, H', rfl, F, q⟩ := I.flies (X := cxOf (CXE P w) P w K mg base N qual scope f cd A outer s0 H0 E) rfl h
  exact F.leave q
theorem passes_own0 : PassesOwn (model P w) (A.deeper (envOfC qual scope s0.heap.objs.size f cd)) (envOfC qual scope s0.heap.objs.size f cd) (cxOf (CXE P w) P w K mg base N qual scope f cd A outer s0 H0 E).xe := PassesOwn.leaving
end

/-! ### raise C(..), C an own exception without an __init__ -/
abbrev bmV : List Value := [.type "ValueError", .type "Exception", .type "BaseException", .type "object"]
theorem exc_obj {K : PySem.W.Frag} {h : Heap} {C : Addr} {bmB : List Value} {newId : String} (X : K.In h) (q : PySem.W.excIn K C bmB newId = true) :
    ∃ nm qn N bs bm hdct sn sub ab col dd k0 k1 k2 k3 k5 mN, h.get? C = some (excClassObj nm qn C N bs bm hdct sn sub ab col dd k0 k1 k2 k3 k5 newId) ∧ h.Ns N mN ∧ mN "__init__" = none ∧ OwnTail h bmB bm := by
  unfold PySem.W.excIn at q
  split at q
  · rename_i dd cd sl ho
    split at q
    · rename_i C' bm k0 k1 k2 k3 n k5 hm hs
      simp only [Bool.and_eq_true, beq_iff_eq, Bool.not_eq_true'] at q
      obtain ⟨⟨⟨⟨⟨rfl, rfl⟩, hdel⟩, ht⟩, hok⟩, hni⟩ := q
      obtain ⟨nm, bs, mro, ns, qn, hd, sn, sub, ab, col, del⟩ := cd
      dsimp only at hm hdel hok hni
      subst hm hdel
      have hsl : sl = #[k0, k1, k2, k3, some (.builtin n), k5] := by
        obtain ⟨l⟩ := sl
        simp only at hs
        rw [hs]
      subst hsl
      exact ⟨nm, qn, ns, bs, bm, hd, sn, sub, ab, col, dd, k0, k1, k2, k3, k5, _, X _ _ ho, .of_isNs (PySem.W.isNs_of_in X hok), PySem.W.nsMap_none_of_in X hok hni, PySem.W.tail_of_in X ht⟩
    · cases q
  · cases q

def tRaise (C : Addr) (E : XK) (ta : TA) : TS := fun _ σ H => ta σ H fun vs H1 => vs.length ≤ 100 ∧ E (.ref C) none H1
/-- what is wanted of an exception that arises in this body -/
def Wants (X : Cx) (E : XK) : Prop := X.ex = [] ∧ ∀ pins σ H a C d s, Flies X pins σ H a C d s → E C d H → X.xe (.ref a) s
section
variable {X : Cx} {E : XK} {x : Str} {C : Addr} {np cpos pos : Pos} {e : Expr} {es : List Expr} {ta : TA}
theorem ps_raise (hW : Wants X E) (hc : X.calm = true) (hg : Gl X x) (hm : X.mg x = some (.ref C)) (q : PySem.W.excIn X.K C bmV "ValueError.__new__" = true) (ha : PA X (e :: es) ta)
    (hdb : (x == ("__debug__" : Str)) = false := by decide) (he : starEach (e :: es) X.env = (false, eval e X.env) :: starEach es X.env := by rfl) (hpl : (backTo cpos (starEach (e :: es) X.env)).any (·.1) = false := by rfl) :
    PS X (.Raise (some (.Call (.Name x np) (e :: es) [] cpos)) none pos) (tRaise C E ta) := by
  intro pins s σ H D I h
  obtain ⟨nm, qn, N, bs, bm, hdct, sn, sub, ab, col, dd, k0, k1, k2, k3, k5, mN, hC, hN, hni, TL⟩ := exc_obj I.mod.kin q
  refine wpAny_Raise_call_subT (C := C) (nm := nm) (q := qn) (N := N) (bs := bs) (bm := bm) (hdct := hdct) (sn := sn) (sub := sub) (ab := ab) (col := col) (dd := dd) (k0 := k0) (k1 := k1) (k2 := k2) (k3 := k3) (k5 := k5) PySem.F.excBase_ValueError (TL.hasType (by decide +kernel)) (I.ok.hd hc) hpl hni ?_
  refine ld_glob I hg hm ⟨rfl, ?_⟩ hdb
  have hx := ha cpos pins s σ H _ I h
  rw [he] at hx ⊢
  refine Calls.evalArgs_plain (thn hx fun us s1 ⟨vs, H1, I1, r, z, qq⟩ => ?_)
  refine ⟨rfl, ?_, I1.bk _ _ hC, hN.keeps I1.bk, TL.keeps I1.bk, fun h' a m => ?_⟩
  · show us.length ≤ sizeLine
    rw [← r.length]
    exact Nat.le_trans z (by rw [sizeLine_eq]; decide)
  · exact hW.2 pins σ H1 a (.ref C) none _ (I1.raised hW.1 m) qq
end
section
variable {P : Program} {w : World} {K : PySem.W.Frag} {mg : Str → Option Value} {base : Heap} {N : List Str} {qual : Str} {scope : Scope} {f : Addr} {cd : Value} {A : Around} {outer : List Env} {s0 : Shared} {H0 : Hp} {E : XK}
theorem wants_out : Wants (cxOf (CXE P w) P w K mg base N qual scope f cd A outer s0 H0 E) E := ⟨rfl, fun _ _ _ _ _ _ _ F q => F.leave q⟩
end

/-! ### f-strings (of which one wants to know only that they are made) -/
def PF (X : Cx) (e : Expr) (c : St → Hp → Prop) : Prop :=
  ∀ (pins : List (Addr × Obj)) (s : Shared) (σ : St) (H : Hp) (Q : Value → Shared → Prop), Inv X pins σ H s → c σ H → (∀ y t s', y.length ≤ 3000 → Inv X pins σ H s' → Q (.str y t) s') → wpAny (model X.prog X.w) X.A (eval e X.env) Q X.xe s
def PFs (X : Cx) (es : List Expr) (c : St → Hp → Prop) : Prop :=
  ∀ (pins : List (Addr × Obj)) (s : Shared) (σ : St) (H : Hp) (acc : Str) (Q : Value → Shared → Prop), Inv X pins σ H s → c σ H → acc.length + es.length * 3000 ≤ sizeLine → (∀ y t s', Inv X pins σ H s' → Q (.str y t) s') →
    wpAny (model X.prog X.w) X.A (joinParts acc (evalEach es X.env)) Q X.xe s
section
variable {X : Cx} {e a : Expr} {es : List Expr} {c c' : St → Hp → Prop} {ta : TE} {pos : Pos}
theorem pf_text {x : Str} {k : Nat} (hx : x.length ≤ 3000 := by decide +kernel) : PF X (.Constant (.str x) k pos) fun _ _ => True := fun pins s σ H Q I _ h =>
  Calls.Constant_str (h x _ _ hx (I.tok _))
theorem pf_int (ha : PE X a ta) : PF X (.FormattedValue a (-1) none pos) fun σ H => ta σ H fun v H' => ∃ i : Int, v = .int i ∧ H' = H ∧ i.natAbs.log2 < 1920 := fun pins s σ H Q I hc h => by
  refine FormattedValue_plain (thn (ha pins s σ H _ I hc) ?_)
  rintro u s1 ⟨v, H1, I1, r, i, rfl, rfl, hi⟩
  obtain ⟨t, rfl⟩ := r
  exact formatField_int_small hi (h _ _ _ (Nat.le_trans (PyProof.Rows.int_text_len_1921 hi) (by decide)) (I1.tok _))
theorem pf_str (ha : PE X a ta) : PF X (.FormattedValue a (-1) none pos) fun σ H => ta σ H fun v H' => ∃ x : Str, v = .str x ∧ H' = H ∧ x.length ≤ 3000 := fun pins s σ H Q I hc h => by
  refine FormattedValue_plain (thn (ha pins s σ H _ I hc) ?_)
  rintro u s1 ⟨v, H1, I1, r, x, rfl, rfl, hx⟩
  obtain ⟨t, rfl⟩ := r
  exact formatField_str (fun t' tk => h x t' _ hx (I1.tok tk)) (Nat.le_trans hx (by rw [sizeLine_eq]; decide))
theorem pf_repr (ha : PE X a ta) : PF X (.FormattedValue a 114 none pos) fun σ H => ta σ H fun v H' => ∃ x : Str, v = .str x ∧ H' = H ∧ (PySem.reprText x).length ≤ 3000 := fun pins s σ H Q I hc h => by
  refine wpAny_FormattedValue_repr (thn (ha pins s σ H _ I hc) ?_)
  rintro u s1 ⟨v, H1, I1, r, x, rfl, rfl, hx⟩
  obtain ⟨t, rfl⟩ := r
  have hz : (PySem.reprText x).length ≤ sizeLine := Nat.le_trans hx (by rw [sizeLine_eq]; decide)
  refine wpAny_pyReprObj_gives (T := "str") (typeIs_str _ _ _) slot_str_repr entry_str_repr (args_str_repr _) (gives_str_repr x t) ?_ rfl hz
  exact formatField_str (fun t' tk => h _ t' _ hx (I1.tok tk)) hz
theorem pfs_nil : PFs X [] fun _ _ => True := fun pins s σ H acc Q I _ hz h => joinParts_nil (h _ _ _ (I.tok _)) (by simpa using hz)
theorem pfs_cons (h1 : PF X e c) (h2 : PFs X es c') : PFs X (e :: es) fun σ H => c σ H ∧ c' σ H := fun pins s σ H acc Q I hc hz h => by
  show wpAny _ _ (joinParts acc (eval e X.env :: evalEach es X.env)) Q X.xe s
  refine joinParts_cons (h1 pins s σ H _ I hc.1 fun y t s1 hy I1 => ?_)
  have hl : (acc ++ y).length = acc.length + y.length := strLen_append ..
  simp only [List.length_cons] at hz
  exact ⟨by rw [hl]; omega, h2 pins s1 σ H (acc ++ y) Q I1 hc.2 (by rw [hl]; omega) h⟩
def tF (c : St → Hp → Prop) : TE := fun σ H Q => c σ H ∧ ∀ y, Q (.str y) H
theorem pe_fstr {v1 v2 : Expr} {rest : List Expr} (h : PFs X (v1 :: v2 :: rest) c) (hl : (v1 :: v2 :: rest).length ≤ 1000 := by decide) : PE X (.JoinedStr (v1 :: v2 :: rest) pos) (tF c) := fun pins s σ H Q I hq => by
  refine JoinedStr_many (h pins s σ H Str.empty _ I hq.1 ?_ fun y t s1 I1 => ⟨.str y, H, I1, ⟨t, rfl⟩, hq.2 y⟩)
  have : (Str.empty).length = 0 := rfl
  have : (3000000 : Nat) ≤ sizeLine := by rw [sizeLine_eq]; decide
  omega
end

/-! ### except clauses -/
theorem match_ok {M : Model} {A : Around} {E : Value → Shared → Prop} {K : PySem.W.Frag} {hp : Heap} {g : Array GenState} {dr : Drawn} {tk : Nat} {os : OsState} {a : Addr} {oe : Obj} {c : Value} {b : Bool} {Q : Bool → Shared → Prop} (X : K.In hp) (he : hp.get? a = some oe)
    (kc : PySem.W.kitCls K oe.cls c = some b) (kb : PySem.W.subIn K c (.type "BaseException") = some true) (h : Q b ⟨hp, g, dr, tk, os⟩) : wpAny M A (excMatches (.ref a) c) Q E ⟨hp, g, dr, tk, os⟩ := by
  obtain ⟨LT, LI, LS⟩ := PySem.W.kit_cls (M := M) X kc
  have LB := PySem.W.looks_subIn (M := M) X kb
  have f := tc_notTuple
  unfold excMatches isInstance
  refine wpAny_bind (wpAny_bind (LT _ _ _ _ (fun _ _ e => e) ?_))
  rw [f]
  refine wpAny_pure ?_
  try dsimp only
  rw [if_neg (by decide)]
  refine wpAny_bind (wpAny_pure ?_)
  simp only [List.forIn_cons, List.forIn_nil]
  unfold isExcClass
  refine wpAny_bind (wpAny_bind (wpAny_bind (wpAny_bind (LI _ _ _ _ (fun _ _ e => e) ?_))))
  rw [if_pos rfl]
  refine LB _ _ _ _ (fun _ _ e => e) ?_
  try dsimp only
  rw [if_neg (by decide)]
  refine wpAny_pure ?_
  try dsimp only
  refine wpAny_pure (wpAny_bind ?_)
  unfold typeOf
  refine wpAny_bind (wpAny_load he (wpAny_pure ?_))
  refine wpAny_bind (wpAny_bind (wpAny_bind (LS _ _ _ _ (fun _ _ e => e) ?_)))
  cases b
  · rw [if_neg (by decide)]
    exact wpAny_pure (wpAny_pure (wpAny_pure h))
  · rw [if_pos rfl]
    exact wpAny_pure (wpAny_pure (wpAny_pure h))

/-- within an except clause's suite -/
def Cx.hnd (X : Cx) (a : Addr) : Cx := { X with A := X.A.mark (some (.ref a)), calm := false, xe := fun _ _ => False }
section
variable {X : Cx} {pins : List (Addr × Obj)} {σ : St} {H : Hp} {s : Shared} {a : Addr} {C : Value} {d : Option Addr} {E : XK}
theorem Cx.Ok.hnd (ok : X.Ok) (a : Addr) : (X.hnd a).Ok :=
  ⟨ok.mod, ok.kind, ok.glob, ok.blt, ok.above, ok.inj, ok.has, ok.cab, fun z => absurd (show false = true from z) (by decide), ok.frames, ok.stk, ok.exf, ok.bs, ok.bsz, ok.noex, ok.exfs, ok.funs, ok.frf⟩
theorem Inv.hnd (I : Inv X pins σ H s) (a : Addr) : Inv (X.hnd a) pins σ H s := ⟨I.ok.hnd a, I.os, I.bare, I.base, I.loc, I.cell, I.free, I.freeC, I.pin, I.hok, I.len⟩
theorem Inv.unhnd (ok : X.Ok) (I : Inv (X.hnd a) pins σ H s) : Inv X pins σ H s := ⟨ok, I.os, I.bare, I.base, I.loc, I.cell, I.free, I.freeC, I.pin, I.hok, I.len⟩
theorem SP.unhnd {D : Ends} {f : Flow} (ok : X.Ok) (h : SP (X.hnd a) pins D f s) : SP X pins D f s := by
  cases f with
  | next => obtain ⟨σ, H, I, q⟩ := h; exact ⟨σ, H, I.unhnd ok, q⟩
  | brk => obtain ⟨σ, H, I, q⟩ := h; exact ⟨σ, H, I.unhnd ok, q⟩
  | cont => obtain ⟨σ, H, I, q⟩ := h; exact ⟨σ, H, I.unhnd ok, q⟩
  | ret u => obtain ⟨v, σ, H, I, r, q⟩ := h; exact ⟨v, σ, H, I.unhnd ok, r, q⟩
/-- the exception has a trail, and is not in flight -/
def Trail (a : Addr) (h : Heap) : Prop := ∃ oe vs T oT ts, h.get? a = some oe ∧ oe.data = .fields vs ∧ vs[1]? = some (.ref T) ∧ h.get? T = some oT ∧ oT.data = .fields ts ∧ ts[3]? = some .none
theorem Trail.still {M : Model} {A : Around} {E' : Value → Shared → Prop} {Q : Unit → Shared → Prop} (t : Trail a s.heap) (h : Q () s) : wpAny M A (setFlight (.ref a) none) Q E' s := by
  obtain ⟨oe, vs, T, oT, ts, he, hd, h1, hT, hTd, h3⟩ := t
  refine wpAny_setFlight_none he hd h1 hT hTd (Array.getElem?_eq_some_iff.mp h3).1 ?_
  rw [Heap.update_setField_same _ _ _ _ _ _ hT hTd h3]
  exact h
def PH (X : Cx) (hs : List ExceptHandler) (th : Value → Option Addr → TS) : Prop :=
  ∀ (pins : List (Addr × Obj)) (σ : St) (H : Hp) (a : Addr) (C : Value) (d : Option Addr) (s : Shared) (D : Ends), Flies X pins σ H a C d s → Trail a s.heap → th C d D σ H → wpAny (model X.prog X.w) X.A (handleBy (.ref a) X.env hs) (SP X pins D) X.xe s
def tH (K : PySem.W.Frag) (c : Value) (t : TS) (th : Value → Option Addr → TS) : Value → Option Addr → TS := fun C d D σ H => ∃ b, PySem.W.kitCls K C c = some b ∧ if b = true then t D σ H else th C d D σ H
def tHno : Value → Option Addr → TS := fun _ _ _ _ _ => False
theorem ph_none : PH X [] tHno := fun _ _ _ _ _ _ _ _ _ _ h => h.elim
theorem ph_cons {x : Str} {np pos : Pos} {b0 : Stmt} {suite : List Stmt} {rest : List ExceptHandler} {c : Value} {t : TS} {th : Value → Option Addr → TS} (hg : Gl X x) (hm : X.mg x = some c) (hk : PySem.W.subIn X.K c (.type "BaseException") = some true)
    (hs : ∀ a, PSs (X.hnd a) (b0 :: suite) t) (hr : PH X rest th) (hd : (x == ("__debug__" : Str)) = false := by decide) :
    PH X (.ExceptHandler (some (.Name x np)) none (b0 :: suite) pos :: rest) (tH X.K c t th) := by
  intro pins σ H a C d s D F tr h
  obtain ⟨b, kc, h⟩ := h
  obtain ⟨oe, vs, he, hc, hdd, hd'⟩ := F.at
  have I' := F.inv.hnd a
  refine wpAny_handleBy_cons (codeAny_handlers_test (ld_glob (X := X.hnd a) I' hg hm ?_ hd)) (by intro q; cases q)
  obtain ⟨hp, g, dr, tk, os⟩ := s
  refine match_ok (K := X.K) F.inv.kIn he (by rw [hc]; exact kc) hk ?_
  cases b with
  | false => exact hr pins σ H a C d _ D F tr h
  | true =>
    refine codeAny_handlers_suite (tr.still ?_)
    exact wpAny_mono (hs a pins _ σ H D I' h) (fun f s' q => q.unhnd F.inv.ok) fun _ _ q => False.elim q
end

/-! ### try: one call -/
/-- an expression with both its ends: the value, or an exception (the names' values stand) -/
def PX (X : Cx) (e : Expr) (t : St → Hp → VK → XK → Prop) : Prop :=
  ∀ (pins : List (Addr × Obj)) (s : Shared) (σ : St) (H : Hp) (Q : VK) (E : XK) (Ev : Value → Shared → Prop), Inv X pins σ H s → t σ H Q E → (∀ a C d H' s', Flies X pins σ H' a C d s' → E C d H' → Ev (.ref a) s') →
    wpAny (model X.prog X.w) X.A (eval e X.env) (EP X pins σ Q) Ev s
section
variable {X : Cx} {k : Nat} {f C : Addr} {fd : FuncData} {ps : List Str} {sp : Sp} {x : Str} {p pos : Pos} {e : Expr} {es : List Expr} {ta : TA}
theorem px_call (F : FnOk X.prog X.w X.K X.mg X.base (CXE X.prog X.w) k f fd ps sp) (hx0 : X.ex = []) (hr : Room k X.A) (hg : Gl X x) (hm : X.mg x = some (.ref f)) (hk : PySem.W.keepIn X.K (.ref f) = true) (hb : Binds X.K fd ps [])
    (ha : PA X.nox (e :: es) ta) (hdb : (x == ("__debug__" : Str)) = false := by decide) (he : starEach (e :: es) X.env = (false, eval e X.env) :: starEach es X.env := by rfl) (hpl : (backTo pos (starEach es X.env)).any (·.1) = false := by rfl) :
    PX X (.Call (.Name x p) (e :: es) [] pos) (fun σ H Q E => ta σ H fun vs H1 => sp vs H1 Q E) := by
  intro pins s σ H Q E Ev I h hE
  refine wpAny_Call_Name_kw (ld_glob I hg hm ?_ hdb)
  refine PySem.W.callWith_K (h₀ := X.base) I.ok.mod.kin hk (wpAny_mono (ha pos pins s σ H _ (I.wish _) h) (fun us s1 ⟨vs, H1, I1, r, q⟩ => ⟨I1.kIn, ?_⟩) fun _ _ z => False.elim z) he hpl
  have J := I1.unwish
  have hl : us.length = ps.length := by rw [← r.length]; exact F.len _ _ _ _ q
  have bb := hb s1 us I1.kIn (by simpa using hl)
  rw [List.append_nil] at bb
  refine wpAny_call (codeAny_mono (F.run X.A X.stack s1 H1 ⟨us, []⟩ us vs Q E hr J.env0 bb r q) fun r s' hq => ?_)
  cases r with
  | error e =>
    obtain ⟨a, C, d, H', rfl, Fl, q'⟩ := J.flies hx0 hq
    exact hE a C d H' s' Fl q'
  | ok fl =>
    cases fl with
    | ret u => exact J.after hq
    | next => exact False.elim hq
    | brk => exact False.elim hq
    | cont => exact False.elim hq
theorem px_make (M : Mk X.K C f) (F : FnOk X.prog X.w X.K X.mg X.base (CXE X.prog X.w) k f fd ps sp) (hx0 : X.ex = []) (hr : Room (k + 1) X.A) (hg : Gl X x) (hm : X.mg x = some (.ref C)) (hb : Binds X.K fd ps [])
    (ha : PA X.nox (e :: es) ta) (hdb : (x == ("__debug__" : Str)) = false := by decide) (he : starEach (e :: es) X.env = (false, eval e X.env) :: starEach es X.env := by rfl) (hpl : (backTo pos (starEach es X.env)).any (·.1) = false := by rfl) :
    PX X (.Call (.Name x p) (e :: es) [] pos) (fun σ H Q E => ta σ H fun vs H1 => ∀ x dx, H1 x = none → H1 dx = none → dx ≠ x → sp (.ref x :: vs) (upd (upd H1 dx (.own x)) x (.ins C dx [])) (fun v H2 => v = .non ∧ Q (.ref x) H2) E) := by
  intro pins s σ H Q E Ev I h hE
  refine wpAny_Call_Name_kw (ld_glob I hg hm ?_ hdb)
  refine PySem.W.callWith_K (h₀ := X.base) I.ok.mod.kin M.kp (wpAny_mono (ha pos pins s σ H _ (I.wish _) h) (fun us s1 ⟨vs, H1, I1, r, h⟩ => ⟨I1.kIn, ?_⟩) fun _ _ z => False.elim z) he hpl
  have J := I1.unwish
  have hq := h (s1.heap.objs.size + 1) s1.heap.objs.size (J.hok.fresh (Nat.le_succ _)) (J.hok.fresh (Nat.le_refl _)) (Nat.ne_of_lt (Nat.lt_succ_self _))
  have I2 := Inv.made (C := C) J
  have r2 : Vals (V.ref (s1.heap.objs.size + 1) :: vs) (Value.ref (s1.heap.objs.size + 1) :: us) := .cons rfl r
  have hl : (Value.ref (s1.heap.objs.size + 1) :: us).length = ps.length := by
    have e := r2.length
    rw [F.len _ _ _ _ hq] at e
    exact e.symm
  have bb := hb _ (Value.ref (s1.heap.objs.size + 1) :: us) I2.kIn (by simpa using hl)
  rw [List.append_nil] at bb
  refine wpAny_call (make_map (f := f) J.kIn M.makes M.init (beq_iff_eq.mp M.fn) (codeAny_mono (F.run _ X.stack _ _ ⟨Value.ref (s1.heap.objs.size + 1) :: us, []⟩ (Value.ref (s1.heap.objs.size + 1) :: us) _ _ E (hr.make C us [])
    (I2.env0.make C us []) bb r2 hq) fun r s' hq' => ?_))
  cases r with
  | error e =>
    obtain ⟨a, C, d, H', rfl, Fl, q'⟩ := I2.flies hx0 hq'
    exact hE a C d H' s' Fl q'
  | ok fl =>
    cases fl with
    | ret u =>
      obtain ⟨v, H', I3, rv, ev, q3⟩ := I2.after hq'
      subst ev
      exact ⟨rv, ⟨V.ref (s1.heap.objs.size + 1), H', I3, rfl, q3⟩⟩
    | next => exact False.elim hq'
    | brk => exact False.elim hq'
    | cont => exact False.elim hq'
def tTry (t : St → Hp → VK → XK → Prop) (th : Value → Option Addr → TS) : TS := fun D σ H => t σ H (fun _ H1 => D.nx σ H1) fun C d H1 => th C d D σ H1
def tTrySet (i : Nat) (t : St → Hp → VK → XK → Prop) (th : Value → Option Addr → TS) : TS := fun D σ H => t σ H (fun v H1 => D.nx (σ.set i (some v)) H1) fun C d H1 => th C d D σ H1
theorem ps_try {t : St → Hp → VK → XK → Prop} {th : Value → Option Addr → TS} {h0 : ExceptHandler} {hs : List ExceptHandler} {p1 : Pos} (px : PX X e t) (hh : PH X (h0 :: hs) th) (hst : X.stack = X.env :: X.outer := by rfl) (hfr : X.env.frame = some X.env.locals := by rfl)
    (hs0 : swapsWith e none p1.line X.env = pure false := by rfl) : PS X (.Try [.Expr e p1] (h0 :: hs) [] [] pos) (tTry t th) := by
  intro pins s σ H D I h
  refine wpAny_Try_except (wpAny_execs_cons (wpAny_Expr_any (thn (px pins s σ H _ _ _ I h ?_) fun v s1 ⟨y, H1, I1, r1, q1⟩ => ?_) I.quiet hs0))
  · exact fun a C d H' s' Fl q => Fl.note I.ok.frames hst hfr fun h' Fl' tr => hh pins σ H' a C d _ D Fl' tr q
  · exact wpAny_execs_nil (wpAny_execs_nil ⟨σ, H1, I1, q1⟩)
theorem ps_trySet {t : St → Hp → VK → XK → Prop} {th : Value → Option Addr → TS} {h0 : ExceptHandler} {hs : List ExceptHandler} {p1 p2 : Pos} {i : Nat} {y : Str} (px : PX X e t) (hh : PH X (h0 :: hs) th) (hN : X.N.Nodup) (hi : X.N[i]? = some y) (hy : Loc X.env.scope y)
    (hst : X.stack = X.env :: X.outer := by rfl) (hfr : X.env.frame = some X.env.locals := by rfl) (hs0 : swapsWith e (some (.Name y p2)) p1.line X.env = pure false := by rfl) (hf : X.fn y = true ∨ X.env.scope.names.lookup y = some .local := by first | exact .inl rfl | exact .inr rfl | assumption) :
    PS X (.Try [.Assign [.Name y p2] e p1] (h0 :: hs) [] [] pos) (tTrySet i t th) := by
  intro pins s σ H D I h
  refine wpAny_Try_except (wpAny_execs_cons (wpAny_Assign_Name (thn (px pins s σ H _ _ _ I h ?_) fun v s1 ⟨y, H1, I1, r1, q1⟩ => ?_) hs0))
  · exact fun a C d H' s' Fl q => Fl.note I.ok.frames hst hfr fun h' Fl' tr => hh pins σ H' a C d _ D Fl' tr q
  · exact store_ok I1 hN hi hy r1 (fun s2 I2 => wpAny_execs_nil (wpAny_execs_nil ⟨_, H1, I2, q1⟩)) hf
end

/-! ### except C as e -/
/-- an exception of the class C with the dict d -/
def XO (a : Addr) (C : Value) (d : Option Addr) : HO := .ext fun h => ∃ oe vs, h.get? a = some oe ∧ oe.cls = C ∧ oe.dict = d ∧ oe.data = .fields vs
section
variable {X : Cx} {pins : List (Addr × Obj)} {σ : St} {H : Hp} {s : Shared} {a : Addr} {C : Value} {d : Option Addr}
theorem Flies.track (F : Flies X pins σ H a C d s) : Inv X pins σ (upd H a (XO a C d)) s := by
  obtain ⟨oe, vs, he, hc, hdd, hd⟩ := F.at
  have I := F.inv
  have ne : ∀ b u, H b = some u → b ≠ a := fun b u e => ne_of_none e F.free
  have neL : X.env.locals ≠ a := fun z => by
    obtain ⟨m, ⟨o, es, ep, ho, hdt, _⟩, _⟩ := I.loc
    rw [z, he] at ho; cases ho; rw [hd] at hdt; cases hdt
  have neC : ∀ x c, X.env.cells.lookup x = some c → c ≠ a := fun x c e z => by
    obtain ⟨v, o, ho, hdt⟩ := I.cell x c e
    rw [z, he] at ho; cases ho; rw [hd] at hdt; cases hdt
  have nea : ∀ b o, X.s₀.heap.get? b = some o → b ≠ a := fun b o e z => by rw [z, F.new] at e; cases e
  refine ⟨I.ok, I.os, I.bare, ⟨I.base.keep, I.base.slot, fun b o e n hx => ?_, I.base.there, fun b xs e => ?_, fun b o u e => ?_, fun b ps e => ?_⟩, I.loc, I.cell, ?_, fun x c e => ?_, fun p hp => ?_, fun b u e => ?_, I.len⟩
  · rw [upd_ne (nea b o e)]; exact I.base.free b o e n hx
  · rw [upd_ne (ne _ _ (I.base.tups b xs e))]; exact I.base.tups b xs e
  · rw [upd_ne (ne _ _ (I.base.frzs b o u e))]; exact I.base.frzs b o u e
  · obtain ⟨m, q⟩ := I.base.tbls b ps e
    exact ⟨m, by rw [upd_ne (ne _ _ q)]; exact q⟩
  · rw [upd_ne neL]; exact I.free
  · rw [upd_ne (neC x c e)]; exact I.freeC x c e
  · obtain ⟨e, n, r⟩ := I.pin p hp
    exact ⟨e, by rw [upd_ne (F.pin p hp)]; exact n, r⟩
  · by_cases hb : b = a
    · subst hb
      rw [upd_same] at e
      cases e
      refine ⟨⟨oe, vs, he, hc, hdd, hd⟩, ⟨oe, he⟩, ?_⟩
      rintro h1 h2 ⟨o1, v1, e1, r1⟩ k
      exact ⟨o1, v1, k _ e1, r1⟩
    · rw [upd_ne hb] at e
      exact (I.hok b u e).stay (fun _ _ _ q => q) (fun c q => by rw [upd_ne (ne _ _ q)]; exact q) fun c xs q => by rw [upd_ne (ne _ _ q)]; exact q
/-- a name goes -/
theorem Inv.goes {M : Model} {A : Around} {E : Value → Shared → Prop} {i : Nat} {n : Str} {pos : Pos} {Q : Unit → Shared → Prop} (I : Inv X pins σ H s) (hN : X.N.Nodup) (hi : X.N[i]? = some n) (hk : X.env.scope.names.lookup n = some .local)
    (h : ∀ s', Inv X pins (σ.set i none) H s' → Q () s') : wpAny M A (do bindName X.env n .none; unbindBehindTheSuite X.env n pos) Q E s := by
  obtain ⟨m, hn, hl⟩ := id I.loc
  have hcls : (X.env.scope.kind == .class || (X.env.scope.kind == .module && X.env.locals != X.env.globals)) = false := by rw [I.ok.kind]; rfl
  have hiσ : i < σ.length := by rw [I.len]; exact (List.getElem?_eq_some_iff.mp hi).1
  refine wpAny_nameGoes_keeps hk hn hcls fun h' v hn' hs => ?_
  obtain ⟨oL, _, _, hoL, _⟩ := id hn
  have neL : ∀ b o, X.s₀.heap.get? b = some o → b ≠ X.env.locals := fun b o e => Nat.ne_of_lt (Nat.lt_of_lt_of_le (Heap.lt_size e) I.ok.above)
  refine h _ ⟨I.ok, I.os, I.bare, ⟨fun b o e n hb hx => (hs.2 b (neL b o e)).trans (I.base.keep b o e n hb hx), fun b o e n hb hx => ?_, I.base.free, fun b o e hx => ?_, I.base.tups, I.base.frzs, I.base.tbls⟩, ⟨_, hn', fun j y v' e1 e2 e3 => ?_⟩, fun y c e => ?_, I.free, I.freeC, fun p hp => ?_, fun b ob e => ?_, by simpa using I.len⟩
  · obtain ⟨sl, e1⟩ := I.base.slot b o e n hb hx
    exact ⟨sl, (hs.2 b (neL b o e)).trans e1⟩
  · obtain ⟨o', e1⟩ := I.base.there b o e hx
    exact ⟨o', (hs.2 b (neL b o e)).trans e1⟩
  · by_cases hj : j = i
    · subst hj
      rw [List.getElem?_set_self hiσ] at e2
      cases e2
    · rw [List.getElem?_set_ne (Ne.symm hj)] at e2
      obtain ⟨u', r', q⟩ := hl j y v' e1 e2 e3
      refine ⟨u', r', ?_⟩
      rcases q with ⟨k, e⟩ | ⟨k, c, e, z⟩
      · refine .inl ⟨k, ?_⟩
        have : y ≠ n := fun e => hj (nodup_ix hN e1 (e ▸ hi))
        simp [this, e]
      · exact .inr ⟨k, c, e, z.sameBut hs (I.cne y c e)⟩
  · obtain ⟨w', z⟩ := I.cell y c e
    exact ⟨w', z.sameBut hs (I.cne y c e)⟩
  · obtain ⟨e, n, ne, nf, d⟩ := I.pin p hp
    exact ⟨(hs.2 p.1 ne).trans e, n, ne, nf, d⟩
  · refine (I.hok b ob e).stay (fun c w' hc q => (hs.2 c ?_).trans q) (fun _ q => q) fun _ _ q => q
    rintro rfl
    rcases hc with rfl | hc
    · rw [I.free] at e; cases e
    · rw [I.free] at hc; cases hc
def tHas (K : PySem.W.Frag) (c : Value) (i : Nat) (t : TS) (th : Value → Option Addr → TS) : Value → Option Addr → TS := fun C d D σ H => ∃ b, PySem.W.kitCls K C c = some b ∧
  if b = true then ∀ a, H a = none → t { nx := fun σ' H' => D.nx (σ'.set i none) H', rt := D.rt, bk := fun σ' H' => D.bk (σ'.set i none) H', ct := fun σ' H' => D.ct (σ'.set i none) H' } (σ.set i (some (.ref a))) (upd H a (XO a C d)) else th C d D σ H
theorem ph_as {x n : Str} {np pos : Pos} {i : Nat} {b0 : Stmt} {suite : List Stmt} {rest : List ExceptHandler} {c : Value} {t : TS} {th : Value → Option Addr → TS} (hg : Gl X x) (hm : X.mg x = some c) (hk : PySem.W.subIn X.K c (.type "BaseException") = some true)
    (hN : X.N.Nodup) (hi : X.N[i]? = some n) (hl : X.env.scope.names.lookup n = some .local) (hs : ∀ a, PSs (X.hnd a) (b0 :: suite) t) (hr : PH X rest th) (hd : (x == ("__debug__" : Str)) = false := by decide) :
    PH X (.ExceptHandler (some (.Name x np)) (some n) (b0 :: suite) pos :: rest) (tHas X.K c i t th) := by
  intro pins σ H a C d s D F tr h
  obtain ⟨b, kc, h⟩ := h
  obtain ⟨oe, vs, he, hc, hdd, hd'⟩ := F.at
  have I' := F.inv.hnd a
  refine wpAny_handleBy_cons (codeAny_handlers_test (ld_glob (X := X.hnd a) I' hg hm ?_ hd)) (by intro q; cases q)
  obtain ⟨hp, g, dr, tk, os⟩ := s
  refine match_ok (K := X.K) F.inv.kIn he (by rw [hc]; exact kc) hk ?_
  cases b with
  | false => exact hr pins σ H a C d _ D F tr h
  | true =>
    refine codeAny_handlers_suite_as (tr.still ?_)
    refine store_ok (X := X.hnd a) (F.track.hnd a) hN hi (.inl hl) (v := .ref a) rfl (fun s2 I2 => ?_) (.inr hl)
    refine wpAny_mono (hs a pins s2 _ _ _ I2 (h a F.free)) (fun f s3 q => ?_) fun _ _ q => False.elim q
    cases f with
    | next => obtain ⟨σ', H', J, q⟩ := q; exact (J.unhnd F.inv.ok).goes hN hi hl fun s4 J4 => ⟨_, H', J4, q⟩
    | brk => obtain ⟨σ', H', J, q⟩ := q; exact (J.unhnd F.inv.ok).goes hN hi hl fun s4 J4 => ⟨_, H', J4, q⟩
    | cont => obtain ⟨σ', H', J, q⟩ := q; exact (J.unhnd F.inv.ok).goes hN hi hl fun s4 J4 => ⟨_, H', J4, q⟩
    | ret u => obtain ⟨v, σ', H', J, r, q⟩ := q; exact (J.unhnd F.inv.ok).goes hN hi hl fun s4 J4 => ⟨v, _, H', J4, r, q⟩
end
/-! ### isinstance(e, C) of an exception, where it is one -/
section
variable {X : Cx}
theorem isx_true {prog : Program} {w : World} {A : Around} {E : Value → Shared → Prop} {K : PySem.W.Frag} {s : Shared} {a : Addr} {oe : Obj} {c : Value} {Q : Value → Shared → Prop} (Xk : K.In s.heap) (he : s.heap.get? a = some oe)
    (kc : PySem.W.kitCls K oe.cls c = some true) (h : ∀ tk, Q (.bool true) { s with toks := tk }) : wpAny (model prog w) A (call (.builtin "isinstance") [.ref a, c]) Q E s := by
  refine call_isinstance (S := fun _ R s => (K.In s.heap ∧ s.heap.get? a = some oe) ∧ ∀ tk, R (.ok (.ret (.bool true))) { s with toks := tk }) (fun prog w A R s hs => isinstance_outer ?_ (fun z => nomatch z)) ⟨⟨Xk, he⟩, h⟩
  obtain ⟨h0, g, d, tt, os⟩ := s
  obtain ⟨⟨Xk, he⟩, hq⟩ := hs
  unfold Builtin.«isinstance.nested»
  have LT : ∀ {M : Model} {A : Around} {Q : Value → Shared → Prop} {E : Value → Shared → Prop}, Q oe.cls ⟨h0, g, d, tt, os⟩ → wpAny M A (typeOf (.ref a)) Q E ⟨h0, g, d, tt, os⟩ := fun q => by
    unfold typeOf
    exact wpAny_bind (wpAny_load he (wpAny_pure q))
  refine wpAny_bind (LT ?_)
  by_cases q : (oe.cls == c) = true
  · rw [if_pos q]
    first
      | ((repeat lk); exact hq tt)
      | exact wpAny_bind (wpAny_rule (hq tt))
      | exact wpAny_bind (wpAny_rule (wpAny_pure (hq tt)))
  · rw [if_neg q]
    obtain ⟨hty, his, hsub⟩ := PySem.W.kit_cls (M := model prog w) Xk kc
    refine wpAny_bind (hty.at ?_)
    rw [if_pos (by decide)]
    k_delta "plainIsInstance"
    refine wpAny_bind (wpAny_bind (his.at ?_))
    simp only [Bool.not_true, Bool.false_eq_true, if_false]
    unfold isInstance
    refine wpAny_bind (wpAny_bind (LT (hsub.at ?_)))
    first
      | exact wpAny_pure (wpAny_pure (hq tt))
      | (simp only [if_true]; first | exact wpAny_pure (wpAny_pure (hq tt)) | exact wpAny_pure (hq tt) | exact wpAny_bind (wpAny_pure (wpAny_pure (hq tt))))
/-- isinstance(x, T), x an exception that was caught -/
theorem call_isx : CallR X (.builtin "isinstance") (fun xs H Q => ∃ a C d n, xs = [.ref a, .ty n] ∧ H a = some (XO a C d) ∧ PySem.W.kitCls X.K C (.type n) = some true ∧ Q (.bl true) H) := by
  intro pins s σ H xs us Q I r h
  obtain ⟨a, C, d, n, rfl, e, k, q⟩ := h
  obtain ⟨u, u', rfl, rx, ry⟩ := Vals.two r
  cases (show u = Value.ref a from rx)
  cases (show u' = Value.type n from ry)
  obtain ⟨⟨oe, vs, he, hc, _⟩, _⟩ := (show ObjOk X.prog X.w H s.heap a (XO a C d) from I.hok a _ e)
  exact isx_true I.kIn he (by rw [hc]; exact k) fun tk => ⟨.bl true, H, I.tok tk, rfl, q⟩
end

/-! ### an exception's attributes -/
section
open PySem.W
theorem getx {prog : Program} {w : World} {A : Around} {E : Value → Shared → Prop} {K : Frag} {x C : Addr} {ox : Obj} {od : Option Obj} {name : Str} {expr : Bool} {v : Value} {Q : Value → Shared → Prop} {hp : Heap} {g : Array GenState} {dr : Drawn} {tk : Nat} {os : OsState}
    (X : K.In hp) (I : InstAt hp x ox C od) (hga : findIn K (.ref C) "__getattribute__" = some (some (.builtin "BaseException.__getattribute__")))
    (hgt : findIn K (.ref C) "__getattr__" = some none) (hsub : mroIn K C (.type "BaseException") = some true) (hf : findObj K C od name = some (.value v)) (hh : handedIn v = true) (h : Q v ⟨hp, g, dr, tk + 1, os⟩) :
    wpAny (model prog w) A (getAttr (.ref x) name expr) Q E ⟨hp, g, dr, tk, os⟩ := by
  have L0 := I.type (M := model prog w)
  have L1 := looks_findIn (M := model prog w) X hga
  have L2 := looks_findIn (M := model prog w) X hgt
  have L3 := looks_find (M := model prog w) X I hf
  have L4 := looks_mroIn (M := model prog w) X hsub
  have f3 := PySem.F.excAttr_ValueError
  have hx2 : (Value.builtin "BaseException.__getattribute__" == Value.builtin "object.__getattribute__") = false := by decide +kernel
  unfold getAttr getAttrBy
  refine wpAny_bind (wpAny_mkText (wpAny_holding (wpAny_bind (L0.at (wpAny_bind (L1.at ?_))))))
  dsimp only
  rw [hx2, Bool.and_false, if_neg (by decide)]
  unfold getAttrByItsOwn
  refine wpAny_bind (L2.at ?_)
  refine wpAny_bind (wpAny_attempt (wpAny_holding ?_))
  have hx0 : (expr && onTheHeap (Value.builtin "BaseException.__getattribute__")) = false := by cases expr <;> rfl
  unfold callGetattribute
  rw [hx0, if_neg (by decide)]
  unfold boundAndCalled
  rw [f3.ga.bind]
  refine wpAny_bind (wpAny_pure (wpAny_call ?_))
  have sub : Looks (model prog w) hp (isInstance (.ref x) (.type "BaseException")) true := L0.andThen L4
  have hk : builtinKind "BaseException.__getattribute__" = some .slot := by decide +kernel
  have hsp : splitId "BaseException.__getattribute__" = some ("BaseException", "__getattribute__") := by decide +kernel
  show codeAny _ _ (.call (.builtin "BaseException.__getattribute__") ⟨[.ref x, .str name tk], []⟩) _ _
  refine codeAny_call_builtin f3.ga.plain PySem.F.entry_bexc_ga ?_
  refine @check_slot (model prog w) _ _ ⟨hp, g, dr, tk + 1, os⟩ "BaseException.__getattribute__" "BaseException" "__getattribute__" (.ref x) [.str name tk] [] _ hk hsp sub (PySem.F.args_bexc_ga _ _) ?_
  have wlk : wpAny (model prog w) A.in1 (Builtin.«object.__getattribute__» ⟨[.ref x, .str name tk], []⟩) (fun fin s' => fin = .done (.ret v) ∧ s' = ⟨hp, g, dr, tk + 1, os⟩) (fun _ _ => False) ⟨hp, g, dr, tk + 1, os⟩ := by
    repeat (first | with_reducible refine L0.at ?_ | with_reducible refine L3.at ?_ | wp_step)
    exact ⟨rfl, rfl⟩
  refine wpAny_mono wlk (fun fin s' q => ?_) fun _ _ q => False.elim q
  obtain ⟨rfl, rfl⟩ := q
  show wpAny _ _ (handedOut v) _ _ _
  rw [handedOut_of hh]
  exact wpAny_pure h
end
section
open PySem PySem.Spec PyProof.Rows PySem.W
variable {prog : Program} {w : World} {A : Around} {E : Value → Shared → Prop} {K : Frag} {x C CE N : Addr} {ox : Obj} {od : Option Obj} {name : Str} {v : Value} {Q : Unit → Shared → Prop} {hp : Heap} {g : Array GenState} {dr : Drawn} {tk : Nat} {os : OsState}
  {nm q : Str} {bs : List Value} {sn : List Str} {sub : List Value} {ab : Bool} {col : Option Bool} {dd : Option Addr} {k0 k1 k2 k3 k5 : Option Value} {newId : String}
theorem setx (X : K.In hp) (I : InstAt hp x ox C od) (lk : K.lookup C = some (excClassObj nm q C N bs (.ref CE :: bmV) true sn sub ab col dd k0 k1 k2 k3 k5 newId)) (hs : findIn K (.ref C) "__setattr__" = some (some (.builtin "object.__setattr__")))
    (hob : mroIn K C (.type "object") = some true) (hn : findIn K (.ref C) name = some none)
    (h : wpAny (model prog w) A.in1 (Builtin.ObjectAttr.storeInOwnDict (.ref x) (.ref C) (.str name tk) name v false) (fun fin s' => fin = .done (.ret .none) ∧ Q () s') (fun _ _ => False) ⟨hp, g, dr, tk + 1, os⟩) :
    wpAny (model prog w) A (setAttr (.ref x) name v) Q E ⟨hp, g, dr, tk, os⟩ := by
  refine set_plain (s := ⟨hp, g, dr, tk, os⟩) X I hs ?_
  have SF := PySem.F.store_object
  have L0 := I.type (M := model prog w)
  have sub : Looks (model prog w) hp (isInstance (.ref x) (.type "object")) true := L0.andThen (looks_mroIn X hob)
  refine codeAny_call_builtin SF.slot.plain SF.entry (@check_slot (model prog w) _ _ ⟨hp, g, dr, tk + 1, os⟩ "object.__setattr__" "object" "__setattr__" (.ref x) [.str name tk, v] [] _ SF.kind SF.split sub (SF.args (.ref x) (.str name tk) v) ?_)
  rw [osa_eq, refuse_eq]
  refine wpAny_bind (wpAny_bind (L0.at (wpAny_bind (wpAny_mroOf_exc (X _ _ lk) ?_))))
  rw [refuseLoop_ref, refuseLoop_ref, PySem.F.store_ValueError.passes]
  refine wpAny_pure (wpAny_bind (L0.at (wpAny_bind ((looks_findIn X hn).at (wpAny_bind (wpAny_pure ?_))))))
  refine wpAny_mono h (fun fin s' q => ?_) fun _ _ q => False.elim q
  obtain ⟨rfl, q⟩ := q
  exact q
theorem setx_new {os0 : OsState} (X : K.In hp) (hx : hp.get? x = some ox) (hc : ox.cls = .ref C) (hdn : ox.dict = none) (hnc : ∀ c, ox.data ≠ .cls c) (lk : K.lookup C = some (excClassObj nm q C N bs (.ref CE :: bmV) true sn sub ab col dd k0 k1 k2 k3 k5 newId)) (hs : findIn K (.ref C) "__setattr__" = some (some (.builtin "object.__setattr__")))
    (hob : mroIn K C (.type "object") = some true) (hn : findIn K (.ref C) name = some none)
    (h : ∀ h' tk', h'.get? x = some { ox with dict := some hp.objs.size } → h'.Ns1 hp.objs.size (fun y => if y = name then some v else none) → (∀ b o, b ≠ x → hp.get? b = some o → h'.get? b = some o) → Q () ⟨h', g, dr, tk', os⟩) :
    wpAny (model prog w) A (setAttr (.ref x) name v) Q E ⟨hp, g, dr, tk, os⟩ := by
  have I : InstAt hp x ox C none := ⟨hx, hc, by unfold notCls; split <;> first | rfl | (rename_i e; exact absurd e (hnc _)), by rw [hdn]; trivial⟩
  refine setx X I lk hs hob hn ?_
  have hC := X _ _ lk
  unfold Builtin.ObjectAttr.storeInOwnDict
  repeat (first | (with_reducible refine wpAny_loadPart_at hx ?_; rw [hc]) | wp_step)
  rw [hdn]
  dsimp only
  rw [if_neg (by simp [typeHasDict])]
  split
  · rename_i c hcd
    exact absurd hcd (hnc c)
  have hx1 : (hp.push { cls := .type "dict", data := .dict #[] }).get? x = some ox := Heap.get?_push_of_some _ hx
  have hxs : x ≠ hp.objs.size := Nat.ne_of_lt (Heap.lt_size hx)
  refine wpAny_bind (wpAny_alloc' ?_)
  refine wpAny_bind (wpAny_update' hx1 ?_)
  refine wpAny_pure ?_
  have hgd : ((hp.push { cls := .type "dict", data := .dict #[] }).update x fun o => { cls := o.cls, dict := some hp.objs.size, data := o.data, slots := o.slots }).get? hp.objs.size
      = some { cls := .type "dict", data := .dict #[] } :=
    (Heap.get?_update_ne _ _ _ _ hxs.symm).trans (Heap.get?_push_at rfl rfl)
  have hnd : ((hp.push { cls := .type "dict", data := .dict #[] }).update x fun o => { cls := o.cls, dict := some hp.objs.size, data := o.data, slots := o.slots }).Ns hp.objs.size (fun _ => none) :=
    ⟨_, #[], _, hgd, rfl, fun e he => absurd he (by simp), fun _ => rfl⟩
  show wpAny _ _ (Builtin.ObjectAttr.storeInDict hp.objs.size (.str name tk) name v) _ _ _
  unfold Builtin.ObjectAttr.storeInDict Builtin.ObjectAttr.newKeyGuard
  refine wpAny_bind (wpAny_pure (wpAny_bind (wpAny_nsSet1 (Heap.Ns1.of_empty hnd) fun h' hn' hs' => ?_)))
  obtain ⟨oD, esD, epD, hoD, hdD, hcD⟩ := hn'.count (Within.cons name v Within.nil)
  refine wpAny_bind (wpAny_lookBehind hoD (by rw [hdD]; exact pastItsLine_dict (Nat.le_trans hcD (by rw [List.length_cons, List.length_nil, sizeLine_eq]; omega))) ?_)
  refine wpAny_pure ⟨rfl, h h' _ ?_ hn' fun b ob hbx hb => ?_⟩
  · refine (hs'.2 x hxs).trans (Heap.get?_update_self _ hx1 ?_)
    have hfr := (Heap.get?_some_iff.mp hx).2
    obtain ⟨oc, od, odt, osl⟩ := ox
    cases odt <;> first | rfl | exact hfr
  · exact (hs'.2 b (Nat.ne_of_lt (Heap.lt_size hb))).trans ((Heap.get?_update_ne _ _ _ _ hbx).trans (Heap.get?_push_of_some _ hb))
theorem setx_old {d : Addr} {mA : Str → Option Value} {ns : List Str} (X : K.In hp) (hx : hp.get? x = some ox) (hc : ox.cls = .ref C) (hdx : ox.dict = some d) (hne : d ≠ x) (hD : hp.Ns1 d mA) (hw : Within mA ns) (hsz : ns.length ≤ 1000) (hnc : ∀ c, ox.data ≠ .cls c) (lk : K.lookup C = some (excClassObj nm q C N bs (.ref CE :: bmV) true sn sub ab col dd k0 k1 k2 k3 k5 newId)) (hs : findIn K (.ref C) "__setattr__" = some (some (.builtin "object.__setattr__")))
    (hob : mroIn K C (.type "object") = some true) (hn : findIn K (.ref C) name = some none)
    (h : ∀ h' tk', h'.Ns1 d (fun y => if y = name then some v else mA y) → (∀ b o, b ≠ d → hp.get? b = some o → h'.get? b = some o) → Q () ⟨h', g, dr, tk', os⟩) :
    wpAny (model prog w) A (setAttr (.ref x) name v) Q E ⟨hp, g, dr, tk, os⟩ := by
  obtain ⟨oD0, hoD0, _⟩ := lookIn_ns hD
  have I : InstAt hp x ox C (some oD0) := ⟨hx, hc, by unfold notCls; split <;> first | rfl | (rename_i e; exact absurd e (hnc _)), by rw [hdx]; exact hoD0⟩
  refine setx X I lk hs hob hn ?_
  have hC := X _ _ lk
  unfold Builtin.ObjectAttr.storeInOwnDict
  repeat (first | (with_reducible refine wpAny_loadPart_at hx ?_; rw [hc]) | wp_step)
  rw [hdx]
  refine wpAny_pure ?_
  show wpAny _ _ (Builtin.ObjectAttr.storeInDict d (.str name tk) name v) _ _ _
  unfold Builtin.ObjectAttr.storeInDict Builtin.ObjectAttr.newKeyGuard
  refine wpAny_bind (wpAny_pure (wpAny_bind (wpAny_nsSet1 hD fun h' hn' hs' => ?_)))
  obtain ⟨oD, esD, epD, hoD, hdD, hcD⟩ := hn'.count (Within.cons name v hw)
  refine wpAny_bind (wpAny_lookBehind hoD (by rw [hdD]; exact pastItsLine_dict (Nat.le_trans hcD (by rw [List.length_cons, sizeLine_eq]; omega))) ?_)
  exact wpAny_pure ⟨rfl, h h' _ hn' fun b ob hbx hb => (hs'.2 b hbx).trans hb⟩
end
section
open PySem PySem.Spec PyProof.Rows PySem.W
variable {prog : Program} {w : World} {A : Around} {E : Value → Shared → Prop} {K : Frag} {e C CE N : Addr} {oe : Obj} {Q : Value → Shared → Prop} {hp : Heap} {g : Array GenState} {dr : Drawn} {tk : Nat} {os : OsState}
  {nm q : Str} {bs : List Value} {hd0 : Bool} {sn : List Str} {sub : List Value} {ab : Bool} {col : Option Bool} {dd : Option Addr} {k0 k1 k2 k3 k5 : Option Value} {newId : String}
theorem initx {vs : Array Value} {rest : List Value} (X : K.In hp) (he : hp.get? e = some oe) (hc : oe.cls = .ref C) (hd : oe.data = .fields vs) (h0 : 0 < vs.size) (lk : K.lookup C = some (excClassObj nm q C N bs (.ref CE :: bmV) hd0 sn sub ab col dd k0 k1 k2 k3 k5 newId))
    (hr : rest.length ≤ sizeLine) (h : ∀ h', h'.get? e = some (oe.mapFields (·.setIfInBounds 0 (.ref hp.objs.size))) → (∀ b o, b ≠ e → hp.get? b = some o → h'.get? b = some o) → Q .none ⟨h', g, dr, tk, os⟩) :
    wpAny (model prog w) A (call (.builtin "ValueError.__init__") (.ref e :: rest)) Q E ⟨hp, g, dr, tk, os⟩ := by
  have F := PySem.F.excBase_ValueError
  have hC := X _ _ lk
  have hcB : (Value.ref C :: .ref CE :: bmV).contains (.type "ValueError") = true := by rw [List.contains_cons, List.contains_cons, show bmV.contains (.type "ValueError") = true from by decide +kernel, Bool.or_true, Bool.or_true]
  refine wpAny_call (codeAny_call_builtin F.init.plain F.initEntry ?_)
  have chk : ∀ {M : Model} {A : Around} {E : Value → Shared → Prop} {Q : Unit → Shared → Prop}, Q () ⟨hp, g, dr, tk, os⟩ → wpAny M A (checkBuiltinCall "ValueError.__init__" ⟨.ref e :: rest, []⟩) Q E ⟨hp, g, dr, tk, os⟩ := by
    intro M A E Q hq
    have hshort := F.noStar
    simp only [checkBuiltinCall, F.initKind, F.initSplit, F.initRow]
    repeat (first | (with_reducible refine wpAny_loadPart_at he ?_; rw [hc]) | with_reducible refine wpAny_loadPart_at hC ?_ | (with_reducible refine wpAny_isSubtype_exc hC ?_; rw [hcB]) | wp_step)
    refine wpAny_onRaise ?_
    rw [show ∀ (a b : String) (n : Nat), Bind.check ⟨.positional, "*", "ValueError", .self, [⟨"args", .varPos, false⟩]⟩ a b n (List.map (fun x => x.fst) ({ pos := Value.ref e :: rest } : Args).kw) = pure () from
      fun a b n => check_star_args _ _ _ _ _ _]
    exact wpAny_pure hq
  refine chk ?_
  wp_walk
  have he1 := Heap.get?_push_of_some (h := hp) { cls := .type "tuple", data := .seq rest.toArray } he
  obtain ⟨x0, hx0⟩ : ∃ x0, vs[0]? = some x0 := ⟨vs[0], Array.getElem?_eq_getElem h0⟩
  rw [hd]
  refine wpAny_pure ?_
  rw [hx0]
  refine wpAny_pure ?_
  have hd3 := Obj.data_mapFields hd (·.setIfInBounds 0 (Value.ref hp.objs.size))
  have fin : Q .none ⟨(hp.push { cls := .type "tuple", data := .seq rest.toArray }).update e (Obj.mapFields (·.setIfInBounds 0 (Value.ref hp.objs.size))), g, dr, tk, os⟩ :=
    h _ (Heap.get?_update_self _ he1 (Obj.isFreed_of_fields hd3)) fun b o hb q => (Heap.get?_update_other _ _ (Ne.symm hb)).trans (Heap.get?_push_of_some _ q)
  refine wpAny_bind (wpAny_setField he1 hd h0 ?_)
  cases x0 <;> first | exact wpAny_letGo (wpAny_pure fin) | exact wpAny_pure (wpAny_pure fin)
end
end L2

set_option Elab.async false
set_option linter.all false
set_option maxRecDepth 100000
set_option maxHeartbeats 1000000
namespace L2
open PySem PySem.Spec PyProof.Rows
section
open PySem.W
variable {prog : Program} {w : World} {A : Around} {E : Value → Shared → Prop} {K : Frag} {C CE N fI : Addr} {h : Heap} {g : Array GenState} {d : Drawn} {t : Nat} {os : OsState}
  {nm q : Str} {bs : List Value} {hdct : Bool} {sn : List Str} {sub : List Value} {ab : Bool} {col : Option Bool} {dd : Option Addr} {k0 k1 k2 k3 k5 : Option Value}
/-- C(..), C an own exception under another own one, with an __init__ -/
theorem callx_init {mN : Str → Option Value} {rest : List Value} {oI : Obj} {Q : Value → Shared → Prop} (X : K.In h) (lk : K.lookup C = some (excClassObj nm q C N bs (.ref CE :: bmV) hdct sn sub ab col dd k0 k1 k2 k3 k5 "ValueError.__new__")) (T : OwnTail h bmV (.ref CE :: bmV))
    (hi : findIn K (.ref C) "__init__" = some (some (.ref fI))) (hfI : h.get? fI = some oI) (hfc : oI.cls = .type "function")
    (hq : ∀ h' e, Heap.MadeExcOf h h' e (.ref C) rest →
      wpAny (model prog w) (A.under (.builtin "type.__call__" ⟨.ref C :: rest, []⟩)) (call (.ref fI) (.ref e :: rest)) (fun r s' => r = .none ∧ Q (.ref e) s') E ⟨h', g, d, t, os⟩) (hrest : rest.length ≤ sizeLine) :
    wpAny (model prog w) A (call (.ref C) rest) Q E ⟨h, g, d, t, os⟩ := by
  have F := PySem.F.excBase_ValueError
  have hC := X _ _ lk
  have core : ∀ {A : Around} {Q : Fin → Shared → Prop}, (∀ h' e, Heap.MadeExcOf h h' e (.ref C) rest →
      wpAny (model prog w) A (call (.ref fI) (.ref e :: rest)) (fun r s' => r = .none ∧ Q (.done (.ret (.ref e))) s') E ⟨h', g, d, t, os⟩) → wpAny (model prog w) A (Builtin.«type.__call__» ⟨.ref C :: rest, []⟩) Q E ⟨h, g, d, t, os⟩ := by
    intro A Q hq
    repeat (first | with_reducible refine wpAny_loadPart_at hC ?_ | with_reducible refine wpAny_madeBy_exc hC ?_ | wp_step)
    refine codeAny_call_builtin_code (Code.quiet_builtin _ F.quiet) (wpAny_check_new_subT F T hC ?_)
    refine codeAny_exc_new_subT F T hC ?_ hrest
    show wpAny _ _ _ _ _ _
    have k1 : ∀ b o, h.get? b = some o → ((h.push { cls := .type "tuple", data := .seq rest.toArray }).push { cls := .ref C, data := .fields #[.ref h.objs.size, .none, .none, .none, .bool false, .none] }).get? b = some o :=
      fun b o e => Heap.get?_push_of_some _ (Heap.get?_push_of_some _ e)
    have hC1 := k1 _ _ hC
    have hfI1 := k1 _ _ hfI
    have hget : ((h.push { cls := .type "tuple", data := .seq rest.toArray }).push
        { cls := .ref C, data := .fields #[.ref h.objs.size, .none, .none, .none, .bool false, .none] }).get? (h.objs.size + 1) = some
        { cls := .ref C, data := .fields #[.ref h.objs.size, .none, .none, .none, .bool false, .none] } := by heap_get
    have hcC : (Value.ref C :: .ref CE :: bmV).contains (.ref C) = true := by simp
    unfold isInstance
    repeat (first | with_reducible refine wpAny_loadPart_at hget ?_ | (with_reducible refine wpAny_isSubtype_exc hC1 ?_; rw [hcC]) | wp_step)
    show wpAny _ _ (typeLookup (.ref C) _) _ _ _
    refine (looks_findIn (X.keeps k1) hi).at ?_
    refine wpAny_holding (wpAny_bind ?_)
    unfold bindSpecial
    refine wpAny_bind (wpAny_typeOf (T := "function") ⟨_, hfI1, hfc⟩ ?_)
    rw [if_pos (by decide)]
    refine wpAny_pure (wpAny_bind (wpAny_mono (hq _ (h.objs.size + 1) ⟨k1, Heap.get?_none_of_le (Nat.le_succ _), h.objs.size, hget, Heap.get?_none_of_le (Nat.le_refl _), ?_⟩) (fun r s' hr => ?_) fun _ _ x => x))
    · exact Heap.get?_push_of_some _ (Heap.get?_push_at rfl rfl)
    · obtain ⟨rfl, hQ⟩ := hr
      wp_walk
      exact hQ
  have f1 := tc_lookup
  have f2 := tc_bind (.ref C)
  have hT : (⟨h, g, d, t, os⟩ : Shared).TypeIs (.ref C) "type" := ⟨_, hC, rfl⟩
  refine wpAny_call (codeAny_of_tree ?_)
  show wpAny _ _ (callAny (.ref C) _) _ _ _
  repeat (any_goals (first | assumption | with_reducible refine wpAny_loadPart_at hC ?_ | wp_step))
  refine ⟨rfl, ?_⟩
  refine codeAny_call_builtin_at (Code.quiet_builtin _ (by decide +kernel)) entry_typeCall (wpAny_check_type_call_sub hC (core fun h' e hm => ?_))
  exact hq h' e hm
end

section
/-- an own exception while it is made: class, dict; the trail is empty -/
def XI (a C : Addr) (d : Option Addr) : HO := .ext fun h => ∃ oe vs, h.get? a = some oe ∧ oe.cls = .ref C ∧ oe.dict = d ∧ oe.data = .fields vs ∧ vs.size = 6 ∧ vs[1]? = some .none
/-- an exception's dict -/
def XD (d : Addr) (fs : List (Str × V)) : HO := .ext fun h => ∃ mA, h.Ns1 d mA ∧ (∀ f, RelO (fs.lookup f) (mA f)) ∧ PySem.Within mA (fs.map (·.1)) ∧ fs.length ≤ 100
theorem ns1_kept {h h' : Heap} {d : Addr} {mA : Str → Option Value} (n : h.Ns1 d mA) (k : ∀ o, h.get? d = some o → h'.get? d = some o) : h'.Ns1 d mA := by
  obtain ⟨o, es, ep, e1, r⟩ := n
  exact ⟨o, es, ep, k _ e1, r⟩
theorem xi_ok {P : Program} {w : World} {H : Hp} {h : Heap} {a C : Addr} {d : Option Addr} {oe : Obj} {vs : Array Value} (he : h.get? a = some oe) (hc : oe.cls = .ref C) (hdd : oe.dict = d) (hd : oe.data = .fields vs) (h6 : vs.size = 6) (h1 : vs[1]? = some .none) : ObjOk P w H h a (XI a C d) := by
  refine ⟨⟨oe, vs, he, hc, hdd, hd, h6, h1⟩, ⟨oe, he⟩, ?_⟩
  rintro g1 g2 ⟨o1, v1, e1, r1⟩ k
  exact ⟨o1, v1, k _ e1, r1⟩
theorem xd_ok {P : Program} {w : World} {H : Hp} {h : Heap} {d : Addr} {fs : List (Str × V)} {mA : Str → Option Value} (n : h.Ns1 d mA) (r : ∀ f, RelO (fs.lookup f) (mA f)) (hw : PySem.Within mA (fs.map (·.1))) (hl : fs.length ≤ 100) : ObjOk P w H h d (XD d fs) := by
  obtain ⟨o, es, ep, e1, rr⟩ := n
  refine ⟨⟨mA, ⟨o, es, ep, e1, rr⟩, r, hw, hl⟩, ⟨o, e1⟩, ?_⟩
  rintro g1 g2 ⟨m1, n1, r1⟩ k
  exact ⟨m1, ns1_kept n1 k, r1⟩
theorem upd_id {H : Hp} {a : Addr} {o : HO} (h : H a = some o) : upd H a o = H := by
  funext b
  unfold upd
  by_cases hb : b = a
  · rw [if_pos hb, hb, h]
  · rw [if_neg hb]
/-- what the text says of an own exception under another own one -/
structure XCls (K : PySem.W.Frag) (C CE fI : Addr) : Prop where
  lk : ∃ nm q N bs sn sub ab col dd k0 k1 k2 k3 k5, K.lookup C = some (excClassObj nm q C N bs (.ref CE :: bmV) true sn sub ab col dd k0 k1 k2 k3 k5 "ValueError.__new__")
  be : PySem.W.excIn K CE bmV "ValueError.__new__" = true
  init : PySem.W.findIn K (.ref C) "__init__" = some (some (.ref fI))
  fn : PySem.W.isFn K (.ref fI) = true
  sa : PySem.W.findIn K (.ref C) "__setattr__" = some (some (.builtin "object.__setattr__"))
  ob : PySem.W.mroIn K C (.type "object") = some true
  bx : PySem.W.mroIn K C (.type "BaseException") = some true
  hd : PySem.W.hasDictIn K C = true
  ga : PySem.W.findIn K (.ref C) "__getattribute__" = some (some (.builtin "BaseException.__getattribute__"))
  gt : PySem.W.findIn K (.ref C) "__getattr__" = some none
end
section
variable {X : Cx} {pins : List (Addr × Obj)} {σ : St} {H : Hp} {s : Shared} {d : Addr} {o : HO}
/-- an object that is there, of ours, is tracked from now on -/
theorem Inv.track (I : Inv X pins σ H s) (n0 : X.s₀.heap.get? d = none) (fr : H d = none) (nl : X.env.locals ≠ d) (nc : ∀ x c, X.env.cells.lookup x = some c → c ≠ d) (np : ∀ p ∈ X.pn ++ pins, p.1 ≠ d) (ok : ObjOk X.prog X.w (upd H d o) s.heap d o) : Inv X pins σ (upd H d o) s := by
  have ne : ∀ b u, H b = some u → b ≠ d := fun b u e => ne_of_none e fr
  have nea : ∀ b o, X.s₀.heap.get? b = some o → b ≠ d := fun b o e z => by rw [z, n0] at e; cases e
  refine ⟨I.ok, I.os, I.bare, ⟨I.base.keep, I.base.slot, fun b o e n hx => ?_, I.base.there, fun b xs e => ?_, fun b o u e => ?_, fun b ps e => ?_⟩, I.loc, I.cell, ?_, fun x c e => ?_, fun p hp => ?_, fun b u e => ?_, I.len⟩
  · rw [upd_ne (nea b o e)]; exact I.base.free b o e n hx
  · rw [upd_ne (ne _ _ (I.base.tups b xs e))]; exact I.base.tups b xs e
  · rw [upd_ne (ne _ _ (I.base.frzs b o u e))]; exact I.base.frzs b o u e
  · obtain ⟨m, q⟩ := I.base.tbls b ps e
    exact ⟨m, by rw [upd_ne (ne _ _ q)]; exact q⟩
  · rw [upd_ne nl]; exact I.free
  · rw [upd_ne (nc x c e)]; exact I.freeC x c e
  · obtain ⟨e, n, r⟩ := I.pin p hp
    exact ⟨e, by rw [upd_ne (np p hp)]; exact n, r⟩
  · by_cases hb : b = d
    · subst hb
      rw [upd_same] at e
      cases e
      exact ok
    · rw [upd_ne hb] at e
      exact (I.hok b u e).stay (fun _ _ _ q => q) (fun c q => by rw [upd_ne (ne _ _ q)]; exact q) fun c xs q => by rw [upd_ne (ne _ _ q)]; exact q
end
section
variable {X : Cx} {C CE fI : Addr} {o value : Expr} {f : Str} {ta tv : TE} {pos pos' : Pos}
/-- e.f = value, e an exception that is being made -/
def sX (C : Addr) (ta tv : TE) (f : Str) : TS := fun D σ H => tv σ H fun y H1 => ta σ H1 fun x H2 => ∃ a, x = .ref a ∧
  ((H2 a = some (XI a C none) ∧ ∀ d, H2 d = none → D.nx σ (upd (upd H2 a (XI a C (some d))) d (XD d [(f, y)]))) ∨
   ∃ d fs, H2 a = some (XI a C (some d)) ∧ H2 d = some (XD d fs) ∧ d ≠ a ∧ fs.length < 100 ∧ D.nx σ (upd H2 d (XD d (putF f y fs))))
theorem ps_xfld (c : XCls X.K C CE fI) (hn : PySem.W.findIn X.K (.ref C) f = some none) (ha : PE X o ta) (hv : PE X value tv) (hs : swapsWith value (some (.Attribute o f pos')) pos.line X.env = pure false := by rfl) :
    PS X (.Assign [.Attribute o f pos'] value pos) (sX C ta tv f) := by
  intro pins s σ H D I h
  obtain ⟨nm, q, N, bs, sn, sub, ab, col, dd, k0, k1, k2, k3, k5, lk⟩ := c.lk
  refine plainObj_wpAny_Assign_Attribute (thn (hv pins s σ H _ I h) fun u s1 ⟨y, H1, I1, ry, q⟩ => thn (ha pins s1 σ H1 _ I1 q) fun ov s2 ⟨x, H2, I2, rx, a, ex, q2⟩ => ?_) hs
  subst ex
  obtain rfl : ov = Value.ref a := rx
  rcases q2 with ⟨ea, q2⟩ | ⟨d, fs, ea, ed, ne, hl, q2⟩
  · obtain ⟨⟨oe, vs, he, hc, hdn, hd, h6, h1⟩, _⟩ := (show ObjOk X.prog X.w H2 s2.heap a (XI a C none) from I2.hok a _ ea)
    obtain ⟨hp, g, dr, tk, os⟩ := s2
    refine setx_new (os0 := os) I2.kIn he hc hdn (fun z q => by rw [hd] at q; cases q) lk c.sa c.ob hn fun h' tk' hx' hns' keep => ?_
    have I3 : Inv X pins σ (upd H2 a (XI a C (some hp.objs.size))) ⟨h', g, dr, tk', os⟩ :=
      I2.write (x := a) (e := a) (by rw [ea]; exact True.intro) (.inl rfl) (fun b u hb q => keep b u hb q) ⟨_, hx'⟩ (xi_ok hx' hc rfl hd h6 h1)
    have fr : H2 hp.objs.size = none := I2.hok.fresh (Nat.le_refl _)
    have na : hp.objs.size ≠ a := Nat.ne_of_gt (Heap.lt_size he)
    refine ⟨σ, _, I3.track (d := hp.objs.size) (o := XD hp.objs.size [(f, y)]) (Heap.get?_none_of_le (show X.s₀.heap.objs.size ≤ hp.objs.size from I2.sz)) (by rw [upd_ne na]; exact fr) (Nat.ne_of_lt (show X.env.locals < hp.objs.size from I2.lt)) (fun x' c' e z => ?_) (fun p hp' z => ?_) ?_, q2 _ fr⟩
    · obtain ⟨v, o', ho', _⟩ := I2.cell x' c' e
      exact Nat.lt_irrefl _ (z ▸ Heap.lt_size ho')
    · have := Heap.lt_size (I2.pin p hp').1
      exact Nat.lt_irrefl _ (z ▸ this)
    · refine xd_ok hns' (fun g' => ?_) (fun g' hg => ?_) (by simp)
      · by_cases hg : g' = f
        · subst hg
          simp [List.lookup]
          exact ry
        · have : (g' == f) = false := by simpa using hg
          simp [List.lookup, this, hg, RelO]
      · by_cases q' : g' = f
        · simp [q']
        · exact absurd (show (if g' = f then some u else none) = none by rw [if_neg q']) hg
  · obtain ⟨⟨oe, vs, he, hc, hdx, hd, h6, h1⟩, _⟩ := (show ObjOk X.prog X.w H2 s2.heap a (XI a C (some d)) from I2.hok a _ ea)
    obtain ⟨⟨mA, hD, r, wi, hl0⟩, _⟩ := (show ObjOk X.prog X.w H2 s2.heap d (XD d fs) from I2.hok d _ ed)
    obtain ⟨hp, g, dr, tk, os⟩ := s2
    refine setx_old I2.kIn he hc hdx ne hD wi (by rw [List.length_map]; omega) (fun z q => by rw [hd] at q; cases q) lk c.sa c.ob hn fun h' tk' hns' keep => ?_
    have hd' : ∃ o, h'.get? d = some o := let ⟨o, _, _, e', _⟩ := hns'; ⟨o, e'⟩
    refine ⟨σ, _, I2.write (x := d) (e := d) (by rw [ed]; exact True.intro) (.inl rfl) (fun b u hb q => keep b u hb q) hd' ?_, q2⟩
    refine xd_ok hns' (fun g' => ?_) (fun g' hg => ?_) ?_
    · show RelO ((putF f y fs).lookup g') (if g' = f then some u else mA g')
      rw [lookup_putF]
      by_cases q : g' = f
      · rw [if_pos q, if_pos q]; exact ry
      · rw [if_neg q, if_neg q]; exact r g'
    · by_cases q : g' = f
      · rw [q]; exact (keys_putF f y fs).1
      · refine (keys_putF f y fs).2 g' (wi g' fun z => hg ?_)
        show (if g' = f then some u else mA g') = none
        rw [if_neg q]; exact z
    · have := length_putF f y fs; omega
end

/-! ### a caught exception's field -/
section
variable {X : Cx} {C CE fI : Addr} {e : Expr} {f : Str} {ta : TE} {pos : Pos}
def tX (C : Addr) (ta : TE) (f : Str) : TE := fun σ H Q => ta σ H fun x H1 => ∃ a d fs v, x = .ref a ∧ H1 a = some (XO a (.ref C) (some d)) ∧ H1 d = some (XD d fs) ∧ fs.lookup f = some v ∧ Q v H1
theorem pe_xfld (c : XCls X.K C CE fI) (hn : PySem.W.findIn X.K (.ref C) f = some none) (he : PE X e ta) (hb : attributeBase e f X.env (eval e X.env) = eval e X.env := by rfl) : PE X (.Attribute e f pos) (tX C ta f) := by
  intro pins s σ H Q I h
  refine attr_of hb (thn (he pins s σ H _ I h) fun u s1 ⟨x, H1, I1, rx, a, d, fs, v, ex, ea, ed, l, q⟩ => ?_)
  subst ex
  obtain rfl : u = Value.ref a := rx
  obtain ⟨⟨oe, vs, he, hc, hdx, hd⟩, _⟩ := (show ObjOk X.prog X.w H1 s1.heap a (XO a (.ref C) (some d)) from I1.hok a _ ea)
  obtain ⟨⟨mA, hD, r, wi, hl0⟩, _⟩ := (show ObjOk X.prog X.w H1 s1.heap d (XD d fs) from I1.hok d _ ed)
  obtain ⟨od, ho, hl⟩ := lookIn_ns hD
  have rv := r f
  rw [l] at rv
  obtain ⟨u, hu, ru⟩ := rv.some_of
  have J : PySem.W.InstAt s1.heap a oe C (some od) := ⟨he, hc, by unfold PySem.W.notCls; rw [hd], by rw [hdx]; exact ho⟩
  obtain ⟨hp, g, dr, tk, os⟩ := s1
  refine getx I1.kIn J c.ga c.gt c.bx (PySem.W.findObj_own c.hd hn rfl (by rw [hl, hu])) (handed_of ru) ?_
  exact ⟨v, H1, I1.tok _, ru, q⟩
end

/-! ### B.__init__(self, text), B the own base -/
section
variable {X : Cx} {C CE fI : Addr} {e : Expr} {es : List Expr} {ta : TA} {x : Str} {p apos pos : Pos} {pl : Sem Bool}
structure XSup (K : PySem.W.Frag) (CE : Addr) : Prop where
  rd : PySem.W.readsIn K CE (.type "type") = true
  fc : PySem.W.findCls K (.ref CE) (.type "type") "__init__" = some (.val (.builtin "ValueError.__init__"))
  sg : PySem.W.specialIn K (.ref CE) "__getattribute__" = some (some (.builtin "type.__getattribute__"))
def tSup (C : Addr) (ta : TA) : TE := fun σ H Q => ta σ H fun vs H1 => ∃ a d v, vs = [.ref a, v] ∧ H1 a = some (XI a C d) ∧ Q .non H1
theorem pe_sup (c : XCls X.K C CE fI) (u : XSup X.K CE) (hg : Gl X x) (hm : X.mg x = some (.ref CE)) (ha : PA X (e :: es) ta) (hdb : (x == ("__debug__" : Str)) = false := by decide)
    (he : starEach (e :: es) X.env = (false, eval e X.env) :: starEach es X.env := by rfl) (hpl : (backTo pos (starEach es X.env)).any (·.1) = false := by rfl)
    (ht : eval (.Call (.Attribute (.Name x p) "__init__" apos) (e :: es) [] pos) X.env = (do
      let ov ← eval (.Name x p) X.env
      standAt apos.atName
      let (f, first) ← holding [ov] (getMethod ov "__init__" pl)
      callWith pos f first (backTo pos (starEach (e :: es) X.env)) (backToKw pos (keywordEach [] X.env))) := by rfl) :
    PE X (.Call (.Attribute (.Name x p) "__init__" apos) (e :: es) [] pos) (tSup C ta) := by
  intro pins s σ H Q I h
  obtain ⟨nm, q, N, bs, sn, sub, ab, col, dd, k0, k1, k2, k3, k5, lk⟩ := c.lk
  refine PySem.W.methodCall_KW (pl := pl) (ld_glob I hg hm ?_ hdb) ht
  refine PySem.W.method_cls I.kIn u.sg (PySem.W.cls_value I.kIn u.rd u.fc rfl ?_)
  refine PyProof.Rows.callWith_builtin1 (thn (ha pos pins _ σ H _ (I.tok _) h) fun us s1 ⟨vs, H1, I1, r1, a, d, v, ev, ea, q1⟩ => ?_) he hpl
  subst ev
  obtain ⟨u1, u2, rfl, ra, _⟩ := Vals.two r1
  cases (show u1 = Value.ref a from ra)
  obtain ⟨⟨oe, vs, he, hc, hdx, hd, h6, h1⟩, _⟩ := (show ObjOk X.prog X.w H1 s1.heap a (XI a C d) from I1.hok a _ ea)
  obtain ⟨hp, g, dr, tk, os⟩ := s1
  refine initx I1.kIn he hc hd (by omega) lk (by rw [sizeLine_eq, List.length_cons, List.length_nil]; omega) fun h' hx' keep => ?_
  have I2 : Inv X pins σ (upd H1 a (XI a C d)) ⟨h', g, dr, tk, os⟩ :=
    I1.write (x := a) (e := a) (by rw [ea]; exact True.intro) (.inl rfl) (fun b u hb q => keep b u hb q) ⟨_, hx'⟩ (xi_ok hx' ((Obj.cls_mapFields _ _).trans hc) (by
      obtain ⟨oc, od, odt, osl⟩ := oe
      cases odt <;> exact hdx) (Obj.data_mapFields hd _) (by simp [h6]) (by simp [Array.getElem?_setIfInBounds, h1]))
  rw [upd_id ea] at I2
  exact ⟨.non, H1, I2, rfl, q1⟩
end
/-! ### raise C(..), C an own exception with an __init__ -/
def drp (H : Hp) (a : Addr) : Hp := fun b => if b = a then none else H b
theorem drp_ne {H : Hp} {a b : Addr} (h : b ≠ a) : drp H a b = H b := by unfold drp; rw [if_neg h]
theorem drp_same {H : Hp} {a : Addr} : drp H a a = none := by unfold drp; rw [if_pos rfl]
section
variable {X : Cx} {pins : List (Addr × Obj)} {σ : St} {H : Hp} {s : Shared} {a : Addr} {φ : Heap → Prop}
theorem Inv.drop (I : Inv X pins σ H s) (n0 : X.s₀.heap.get? a = none) (ha : H a = some (.ext φ)) : Inv X pins σ (drp H a) s := by
  have dn : ∀ b, H b = none → drp H a b = none := fun b n => by
    by_cases hb : b = a
    · rw [hb]; exact drp_same
    · rw [drp_ne hb]; exact n
  have nt : ∀ b xs, H b = some (.tup xs) → b ≠ a := fun b xs e z => by rw [z, ha] at e; cases e
  have no : ∀ b c, H b = some (.own c) → b ≠ a := fun b xs e z => by rw [z, ha] at e; cases e
  refine ⟨I.ok, I.os, I.bare, ⟨I.base.keep, I.base.slot, fun b o e n hx => dn b (I.base.free b o e n hx), I.base.there, fun b xs e => ?_, fun b o u e => ?_, fun b ps e => ?_⟩, I.loc, I.cell, dn _ I.free, fun x c e => dn c (I.freeC x c e), fun p hp => ?_, fun b u e => ?_, I.len⟩
  · rw [drp_ne (nt _ _ (I.base.tups b xs e))]; exact I.base.tups b xs e
  · have q := I.base.frzs b o u e
    rw [drp_ne (fun z => by rw [z, ha] at q; cases q)]; exact q
  · obtain ⟨m, q⟩ := I.base.tbls b ps e
    exact ⟨m, by rw [drp_ne (fun z => by rw [z, ha] at q; cases q)]; exact q⟩
  · obtain ⟨e, n, r⟩ := I.pin p hp
    exact ⟨e, dn _ n, r⟩
  · by_cases hb : b = a
    · rw [hb, drp_same] at e; cases e
    · rw [drp_ne hb] at e
      exact (I.hok b u e).stay (fun _ _ _ q => q) (fun c q => by rw [drp_ne (no _ _ q)]; exact q) fun c xs q => by rw [drp_ne (nt _ _ q)]; exact q
end

section
variable {X : Cx} {E : XK} {C CE fI : Addr} {k : Nat} {fd : FuncData} {ps : List Str} {sp : Sp} {x : Str} {np cpos pos : Pos} {e : Expr} {es : List Expr} {ta : TA}
def tRaiseC (C : Addr) (sp : Sp) (E0 E : XK) (ta : TA) : TS := fun _ σ H => ta σ H fun vs H1 => vs.length ≤ 100 ∧ ∀ a, H1 a = none → sp (.ref a :: vs) (upd H1 a (XI a C none)) (fun v H2 => v = .non ∧ ∃ d, H2 a = some (XI a C (some d)) ∧ E (.ref C) (some d) (drp H2 a)) E0
/-- the exception is made -/
theorem made_ok {E0 : XK} {CX : CXT} (c : XCls X.K C CE fI) (F : FnOk X.prog X.w X.K X.mg X.base CX k fI fd ps sp) (hx0 : X.ex = []) (hno : ∀ o H s e s', ¬ CX o H s E0 e s') (hr : Room (k + 1) X.A) (hb : Binds X.K fd ps [])
    {pins : List (Addr × Obj)} {σ : St} {H : Hp} {s : Shared} {Ev : Value → Shared → Prop} {us : List Value} {vs : List V} {R : Addr → V → Hp → Prop} (I : Inv X pins σ H s) (r : Vals vs us) (hz : us.length ≤ sizeLine)
    (h : ∀ a, H a = none → sp (.ref a :: vs) (upd H a (XI a C none)) (fun v H2 => v = .non ∧ R a v H2) E0) :
    wpAny (model X.prog X.w) X.A (call (.ref C) us) (fun v s' => ∃ a H', v = .ref a ∧ Inv X pins σ H' s' ∧ X.s₀.heap.get? a = none ∧ (∀ p ∈ X.pn ++ pins, p.1 ≠ a) ∧ R a .non H') Ev s := by
  obtain ⟨nm, q, N, bs, sn, sub, ab, col, dd, k0, k1, k2, k3, k5, lk⟩ := c.lk
  have old : ∀ b, s.heap.get? b = none → X.s₀.heap.get? b = none := fun b n => by
    cases z : X.s₀.heap.get? b with
    | none => rfl
    | some o =>
      obtain ⟨o', e⟩ := I.base.there b o z (by rw [hx0]; simp)
      rw [n] at e; cases e
  obtain ⟨nmE, qE, NE, bsE, bmE, hdE, snE, subE, abE, colE, ddE, e0, e1, e2, e3, e5, mE, hCE, hNE, hniE, TE⟩ := exc_obj I.kIn c.be
  have TL : OwnTail s.heap bmV (.ref CE :: bmV) := OwnTail.own hCE hNE hniE .base
  have hfn := beq_iff_eq.mp c.fn
  obtain ⟨oI, hfI, hfc⟩ : ∃ oI, s.heap.get? fI = some oI ∧ oI.cls = .type "function" := by
    obtain ⟨o, ho, hc⟩ := Option.map_eq_some_iff.mp (show (X.K.lookup fI).map (·.cls) = some (.type "function") from hfn)
    exact ⟨o, I.kIn _ _ ho, hc⟩
  obtain ⟨hp, g, dr, tk, os⟩ := s
  refine callx_init (mN := fun _ => none) I.kIn lk TL c.init hfI hfc (fun h' a hm => ?_) hz
  have J : Inv X pins σ H ⟨h', g, dr, tk, os⟩ := I.kept (t' := tk) hm.keeps
  obtain ⟨t, h1, h2, h3⟩ := hm.there
  have fr : H a = none := by
    cases q : H a with
    | none => rfl
    | some u =>
      obtain ⟨o, e⟩ := (I.hok a u q).ex
      rw [hm.new] at e; cases e
  have np : ∀ p ∈ X.pn ++ pins, p.1 ≠ a := fun p hp z => by
    have := (I.pin p hp).1
    rw [z, hm.new] at this; cases this
  have I2 : Inv X pins σ (upd H a (XI a C none)) ⟨h', g, dr, tk, os⟩ := J.track (old a hm.new) fr (fun z => by
      obtain ⟨m, ⟨o, es, ep, ho, _⟩, _⟩ := I.loc
      rw [z, hm.new] at ho; cases ho) (fun x' c' e z => by
      obtain ⟨v, o', ho', _⟩ := I.cell x' c' e
      rw [z, hm.new] at ho'; cases ho') np (xi_ok h1 rfl rfl rfl rfl rfl)
  have hq := h a fr
  have r2 : Vals (V.ref a :: vs) (Value.ref a :: us) := .cons rfl r
  have hl : (Value.ref a :: us).length = ps.length := by
    have e := r2.length
    rw [F.len _ _ _ _ hq] at e
    exact e.symm
  have bb := hb _ (Value.ref a :: us) I2.kIn (by simpa using hl)
  rw [List.append_nil] at bb
  refine wpAny_call (codeAny_mono (F.run _ X.stack _ _ ⟨Value.ref a :: us, []⟩ (Value.ref a :: us) _ _ E0 ((hr.make C us [])) (I2.env0.make C us []) bb r2 hq) fun r s' hq' => ?_)
  cases r with
  | error e => exact absurd hq' (hno _ _ _ _ _)
  | ok fl =>
    cases fl with
    | ret u =>
      obtain ⟨v, H', I3, rv, ev, q3⟩ := I2.after hq'
      subst ev
      exact ⟨rv, a, H', rfl, I3, old a hm.new, np, q3⟩
    | next => exact False.elim hq'
    | brk => exact False.elim hq'
    | cont => exact False.elim hq'
/-- raise of a thing that is made -/
theorem raise_made {M : Model} {A : Around} {E : Value → Shared → Prop} {s : Shared} {env : Env} {x : Sem Value} {Q : Flow → Shared → Prop} {K : PySem.W.Frag} (hh : A.handled = none) (c : XCls K C CE fI)
    (h : wpAny M A x (fun v s1 => ∃ a oe vs, v = .ref a ∧ s1.heap.get? a = some oe ∧ oe.cls = .ref C ∧ oe.data = .fields vs ∧ vs[1]? = some .none ∧ K.In s1.heap ∧ E (.ref a) s1) E s) :
    wpAny M A (raiseStmt env (some x) none) Q E s := by
  unfold raiseStmt
  refine wpAny_bind (wpAny_mono h (fun v s1 h1 => ?_) fun _ _ x => x)
  obtain ⟨a, oe, vs, rfl, he, hc, hd, h1, X, hE⟩ := h1
  obtain ⟨hp, g, d, tk, os⟩ := s1
  obtain ⟨nm, q, N, bs, sn, sub, ab, col, dd, k0, k1, k2, k3, k5, lk⟩ := c.lk
  have hC := X _ _ lk
  have L := PySem.W.looks_mroIn (M := M) X c.bx
  have he' : hp.get? a = some oe := he
  have hnc : ∀ cd, oe.data ≠ .cls cd := fun cd z => by rw [hd] at z; cases z
  repeat (first | (with_reducible refine wpAny_loadPart_at he' ?_; rw [hc]) | with_reducible refine wpAny_loadPart_at hC ?_ | with_reducible refine L.at ?_ | wp_step)
  rw [hd]
  refine wpAny_pure ?_
  rw [h1]
  refine wpAny_pure ?_
  rw [if_neg (by decide)]
  exact wpAny_pure (wpAny_raiseNew_none hh hE)
/-- raise C(..) -/
theorem ps_raiseC {E0 : XK} {CX : CXT} (c : XCls X.K C CE fI) (F : FnOk X.prog X.w X.K X.mg X.base CX k fI fd ps sp) (hno : ∀ o H s e s', ¬ CX o H s E0 e s') (hW : Wants X E) (hc : X.calm = true) (hr : Room (k + 1) X.A) (hb : Binds X.K fd ps [])
    (hg : Gl X x) (hm : X.mg x = some (.ref C)) (hk : PySem.W.keepIn X.K (.ref C) = true) (ha : PA X (e :: es) ta) (hdb : (x == ("__debug__" : Str)) = false := by decide)
    (he : starEach (e :: es) X.env = (false, eval e X.env) :: starEach es X.env := by rfl) (hpl : (backTo cpos (starEach es X.env)).any (·.1) = false := by rfl) :
    PS X (.Raise (some (.Call (.Name x np) (e :: es) [] cpos)) none pos) (tRaiseC C sp E0 E ta) := by
  intro pins s σ H D I h
  rw [arm_exec_Raise]
  show wpAny _ _ (do standAt pos; raiseStmt X.env (some (do let v ← eval (.Call (.Name x np) (e :: es) [] cpos) X.env; standAt pos; pure v)) none) _ _ s
  refine wpAny_bind (wpAny_standAt (raise_made (K := X.K) (I.ok.hd hc) c (wpAny_bind ?_)))
  refine wpAny_Call_Name_kw (ld_glob I hg hm ?_ hdb)
  refine PySem.W.callWith_K (h₀ := X.base) I.ok.mod.kin hk (thn (ha cpos pins s σ H _ I h) fun us s1 ⟨vs, H1, I1, r, z, q⟩ => ⟨I1.kIn, ?_⟩) he hpl
  refine wpAny_mono (made_ok (R := fun a v H2 => ∃ d, H2 a = some (XI a C (some d)) ∧ E (.ref C) (some d) (drp H2 a)) (Ev := fun _ _ => False) c F hW.1 hno hr hb I1 r (by show us.length ≤ sizeLine; rw [← r.length, sizeLine_eq]; omega) q) (fun v s2 hq => ?_) fun _ _ z => False.elim z
  obtain ⟨a, H2, rfl, I2, n0, np', d, ea, qq⟩ := hq
  refine wpAny_bind (wpAny_standAt (wpAny_pure ?_))
  obtain ⟨⟨oe, ws, he', hc', hdx, hd, h6, h1⟩, _⟩ := (show ObjOk X.prog X.w H2 s2.heap a (XI a C (some d)) from I2.hok a _ ea)
  exact ⟨a, oe, ws, rfl, he', hc', hd, h1, I2.kIn, hW.2 pins σ (drp H2 a) a (.ref C) (some d) s2 ⟨I2.drop n0 ea, n0, drp_same, np', oe, ws, he', hc', hdx, hd, .inl h1⟩ qq⟩
end

/-! ### isinstance of an exception, both answers -/
section
open PySem.W
structure XKit (K : Frag) (C : Addr) : Prop where
  hd : hasDictIn K C = true
  ga : findIn K (.ref C) "__getattribute__" = some (some (.builtin "BaseException.__getattribute__"))
  gt : findIn K (.ref C) "__getattr__" = some none
  bx : mroIn K C (.type "BaseException") = some true
  ob : mroIn K C (.type "object") = some true
  ha : findIn K (.ref C) "__class__" = some (some (.builtin "object.__class__"))
  hn : specialIn K (.builtin "object.__class__") "__get__" = some (some (.builtin "getset_descriptor.__get__"))
  tk : takesIn K (.builtin "object.__class__") = some true
variable {prog : Program} {w : World} {A : Around} {E : Value → Shared → Prop} {K : Frag} {x C : Addr} {ox : Obj} {od : Option Obj} {hp : Heap} {g : Array GenState} {dr : Drawn} {tk : Nat} {os : OsState}
theorem clsx {Q : Option Value → Shared → Prop} (k : XKit K C) (X : K.In hp) (I : W.InstAt hp x ox C od) (h : Q (some (.ref C)) ⟨hp, g, dr, tk + 1, os⟩) :
    wpAny (model prog w) A (getAttr? (.ref x) "__class__") Q E ⟨hp, g, dr, tk, os⟩ := by
  have hf : findObj K C od "__class__" = some (.bind (.builtin "getset_descriptor.__get__") (.builtin "object.__class__")) := by
    obtain ⟨cd, hc, _⟩ := any_some k.hd
    unfold findObj
    rw [hc, Option.bind_some, k.ha, Option.bind_some]
    simp [k.hn, k.tk]
  have L0 := I.type (M := model prog w)
  have L1 := looks_findIn (M := model prog w) X k.ga
  have L2 := looks_findIn (M := model prog w) X k.gt
  have L3 := looks_find (M := model prog w) X I hf
  have L4 := looks_mroIn (M := model prog w) X k.bx
  have f3 := PySem.F.attr_ValueError
  have hx2 : (Value.builtin "BaseException.__getattribute__" == Value.builtin "object.__getattribute__") = false := by decide +kernel
  unfold getAttr? getAttrBy?
  refine wpAny_bind (wpAny_mkText (wpAny_bind (wpAny_attempt ?_)))
  unfold getAttrBy
  refine wpAny_holding (wpAny_bind (L0.at (wpAny_bind (L1.at ?_))))
  dsimp only
  rw [hx2, Bool.and_false, if_neg (by decide)]
  unfold getAttrByItsOwn
  refine wpAny_bind (L2.at ?_)
  refine wpAny_bind (wpAny_attempt (wpAny_holding ?_))
  unfold callGetattribute
  rw [show (false && onTheHeap (Value.builtin "BaseException.__getattribute__")) = false from rfl, if_neg (by decide)]
  unfold boundAndCalled
  rw [f3.ga.bind]
  refine wpAny_bind (wpAny_pure (wpAny_call ?_))
  have sub : Looks (model prog w) hp (isInstance (.ref x) (.type "BaseException")) true := L0.andThen L4
  have hk : builtinKind "BaseException.__getattribute__" = some .slot := by decide +kernel
  have hsp : splitId "BaseException.__getattribute__" = some ("BaseException", "__getattribute__") := by decide +kernel
  show codeAny _ _ (.call (.builtin "BaseException.__getattribute__") ⟨[.ref x, .str "__class__" tk], []⟩) _ _
  refine codeAny_call_builtin f3.ga.plain PySem.F.entry_bexc_ga ?_
  refine @check_slot (model prog w) _ _ ⟨hp, g, dr, tk + 1, os⟩ "BaseException.__getattribute__" "BaseException" "__getattribute__" (.ref x) [.str "__class__" tk] [] _ hk hsp sub (PySem.F.args_bexc_ga _ _) ?_
  have wlk : wpAny (model prog w) A.in1 (Builtin.«object.__getattribute__» ⟨[.ref x, .str "__class__" tk], []⟩) (fun fin s' => fin = .done (.ret (.ref C)) ∧ s' = ⟨hp, g, dr, tk + 1, os⟩) (fun _ _ => False) ⟨hp, g, dr, tk + 1, os⟩ := by
    repeat (first | with_reducible refine L0.at ?_ | with_reducible refine L3.at ?_ | wp_step)
    exact class_get (s := ⟨hp, g, dr, tk + 1, os⟩) X I k.ob (wpAny_pure ⟨rfl, rfl⟩)
  refine wpAny_mono wlk (fun fin s' q => ?_) fun _ _ q => False.elim q
  obtain ⟨rfl, rfl⟩ := q
  show wpAny _ _ (handedOut (.ref C)) _ _ _
  rw [handedOut_of rfl]
  exact wpAny_pure (wpAny_pure h)
theorem kitx_exc (k : XKit K C) : KitX K (.ref x) (.ref C) (fun h => W.InstAt h x ox C od) where
  ty := fun _ _ _ I => I.type
  it := fun _ _ X _ => by
    obtain ⟨cdD, hcD, _⟩ := any_some k.hd
    unfold clsIn at hcD
    split at hcD
    · rename_i c' d' cd' sl' ho
      intro A' Q' E' s' kk q
      unfold isType loadHead
      exact wpAny_bind (wpAny_loadPart (kk _ _ (X _ _ ho)) (wpAny_pure q))
    · cases hcD
  ne := fun h tp dd its n sl X htp => by
    obtain ⟨cdD, hcD, _⟩ := any_some k.hd
    refine Bool.eq_false_iff.mpr fun q => ?_
    have e : C = tp := Value.ref.inj (beq_iff_eq.mp q)
    subst e
    unfold clsIn at hcD
    split at hcD
    · rename_i c' d' cd' sl' ho
      have z := (X _ _ ho).symm.trans htp
      cases z
    · cases hcD
  ca := fun {prog w A E Q s} X I q => by
    obtain ⟨hp, g, dr, tk, os⟩ := s
    exact clsx k X I q
end
section
variable {X : Cx}
def clsV : V → Option Value
  | .ty n => some (.type n)
  | .ref D => some (.ref D)
  | _ => none
/-- isinstance(x, c), x a caught exception, c a class, built-in or own -/
theorem call_isxA : CallR X (.builtin "isinstance") (fun xs H Q => ∃ a C d y c b, xs = [.ref a, y] ∧ clsV y = some c ∧ H a = some (XO a (.ref C) d) ∧ (d = none ∨ ∃ dx fs, d = some dx ∧ H dx = some (XD dx fs)) ∧ XKit X.K C ∧ PySem.W.kitOne X.K (.ref C) c = some b ∧ Q (.bl b) H) := by
  intro pins s σ H xs us Q I r h
  obtain ⟨a, C, d, y, c, b, rfl, hc0, e, hd, k, kk, q⟩ := h
  obtain ⟨u, u', rfl, rx, ry⟩ := Vals.two r
  cases (show u = Value.ref a from rx)
  obtain rfl : u' = c := by
    cases y with
    | ty n => cases (show u' = Value.type n from ry); exact Option.some.inj hc0
    | ref D => cases (show u' = Value.ref D from ry); exact Option.some.inj hc0
    | _ => cases hc0
  obtain ⟨⟨oe, vs, he, hc, hdx, hdt⟩, _⟩ := (show ObjOk X.prog X.w H s.heap a (XO a (.ref C) d) from I.hok a _ e)
  have no : PySem.W.notCls oe = true := by unfold PySem.W.notCls; rw [hdt]
  obtain ⟨od, J⟩ : ∃ od, PySem.W.InstAt s.heap a oe C od := by
    rcases hd with rfl | ⟨dx, fs, rfl, ed⟩
    · exact ⟨none, he, hc, no, by rw [hdx]; trivial⟩
    · obtain ⟨o, ho⟩ := (I.hok dx _ ed).ex
      exact ⟨some o, he, hc, no, by rw [hdx]; exact ho⟩
  exact PySem.W.kia_one (kitx_exc (ox := oe) (od := od) k) I.kIn J kk (fun z => nomatch z) fun tk => ⟨.bl b, H, I.tok tk, rfl, q⟩
end

/-! ### a def that may raise -/
section
variable {P : Program} {w : World} {K : PySem.W.Frag} {mg : Str → Option Value} {base : Heap}
theorem Fun.okX {x qual : Str} {st : Stmt} {f : Addr} {fd : FuncData} {N ps : List Str} {k : Nat} {sp : Sp} (F : Fun K x qual st f fd) (S : FnScope N ps (defScope st)) (len : ∀ vs H Q E, sp vs H Q E → vs.length = ps.length)
    (hbody : ∀ (cdv : Value) (A : Around) (outer : List Env) (s : Shared) (H : Hp) (vs : List V) (Q : VK) (E : XK), Room k (A.deeper (envOfC qual (defScope st) s.heap.objs.size f cdv)) → sp vs H Q E →
      ∃ t, PSs (cxOf (CXE P w) P w K mg base N qual (defScope st) f cdv A outer s H E) (defBody st) t ∧ t { nx := fun _ H' => Q .non H', rt := Q } (start N vs) H) : FnOk P w K mg base (CXE P w) (k + 1) f fd ps sp := by
  obtain ⟨oc, od, kV, doc, pm, an, cdv, ct, osl, rfl, lk, hcd⟩ := F.ex
  exact fn_of lk hcd S len fun A outer s H vs Q E hr hsp => hbody cdv A outer s H vs Q E hr hsp
end
end L2

set_option Elab.async false
set_option linter.all false
set_option maxRecDepth 100000
set_option maxHeartbeats 4000000
/-! My rules over the layer: list.insert. -/
namespace L2
open PySem PySem.Spec PyProof.Rows
section
variable {X : Cx}
/-- l.insert(k, y) -/
def rInsert : V → List V → Hp → VK → Prop := fun x vs H Q => ∃ (l : Addr) (xs : List V) (k : Nat) (y : V), x = .ref l ∧ vs = [.int k, y] ∧ H l = some (.lst xs) ∧ k ≤ xs.length ∧ xs.length ≤ 1000 ∧ Q .non (upd H l (.lst (xs.take k ++ y :: xs.drop k)))
seal PySem.Meets in
theorem mt_insert : MtM X "list.insert" rInsert := by
  intro pins s σ H x vs v us Q I rx rv h
  obtain ⟨l, xs, k, y, rfl, rfl, hH, hk, hz, q⟩ := h
  cases rx
  obtain ⟨u, u', rfl, ru, ru'⟩ := rv.two
  obtain ⟨t, rfl⟩ := (show ∃ t, u = Value.int k t from ru)
  obtain ⟨z, its, n, r, hl, e⟩ := I.lstM hH
  have hf : ¬ (!Builtin.List.listFitsIndex (k : Int)) = true := by
    have h1 : Builtin.List.listFitsIndex (k : Int) = true := by
      unfold Builtin.List.listFitsIndex
      rw [Bool.and_eq_true]
      exact ⟨decide_eq_true (by omega), decide_eq_true (by omega)⟩
    rw [h1]; decide
  have hsz : its.length ≤ sizeLine := Nat.le_of_lt (small1000 (by omega))
  have M := AutoSeq1.list_insert_list_int_val_1 l its.toArray n (k : Int) t u' hf hsz
  refine call_meets F.slot_list_insert ⟨_, e, rfl⟩ F.entry_list_insert (F.args_list_insert_3 _ _ _)
    M ⟨e, ?_⟩
  refine ⟨.non, _, I.lset (its' := its.take k ++ u' :: its.drop k) hH e ?_ ?_ ?_, rfl, q⟩
  · show (its.toArray.extract 0 _).push u' ++ its.toArray.extract _ = _
    have hkk : (if (k : Int) < 0 then ((k : Int) + (its.toArray.size : Int)).toNat else min (k : Int).toNat its.toArray.size) = k := by
      rw [if_neg (by omega), Int.toNat_natCast, List.size_toArray]; omega
    rw [hkk]
    rw [← Array.toList_inj]
    simp only [Array.toList_append, Array.toList_push, List.extract_toArray, List.toList_toArray]
    simp [List.extract_eq_drop_take]
    exact List.take_of_length_le (by simp)
  · exact (r.take k).append (.cons ru' (r.drop k))
  · rw [List.length_append, List.length_cons, List.length_take, List.length_drop]
    exact Nat.le_of_lt (Nat.lt_of_lt_of_le (show _ < 1002 by omega) (by unfold sizeLine; omega))
end
end L2

set_option maxHeartbeats 4000000
namespace Toy
open PySem L2
seal PySem.wpAny
/-! ### the text by places -/
def top (i : Nat) : Stmt := PySem.Challenge.pw_chartfold_k03_charts_refused.main.body.getD i (.Pass ⟨0, 0, 0, 0⟩)
abbrev sInit : Stmt := inClass (top 20) 0
abbrev sCheckRooms : Stmt := top 21
abbrev sCheckHolder : Stmt := top 22
abbrev sCheckKind : Stmt := top 23
abbrev sCheckArrows : Stmt := top 24
abbrev sCheckArrow : Stmt := top 25
abbrev sPart : Stmt := top 26
abbrev sChildren : Stmt := top 27
abbrev sWithin : Stmt := top 28
abbrev sLies : Stmt := top 29
abbrev sScope : Stmt := top 30
abbrev sCell : Stmt := top 32
abbrev sSpR : Stmt := top 33
abbrev sSpA : Stmt := top 34
abbrev sTaken : Stmt := top 35
abbrev sTakenB : Stmt := top 36
abbrev sLaw : Stmt := top 37
/-! ### the heap's pictures -/
theorem same_new {H : Hp} {p : Addr} (h : H p = none) (o : HO) : Same H (upd H p o) := fun b u q => by rw [upd_ne (ne_of_none q h)]; exact q
theorem sameUpd {H H1 : Hp} {p : Addr} (h : Same H H1) (hp : H p = none) (o : HO) : Same H (upd H1 p o) := fun b u q => by rw [upd_ne (ne_of_none q hp)]; exact h b u q
theorem sameNe {H H1 : Hp} {p q : Addr} {o : HO} (h : Same H H1) (hp : H p = some o) (hq : H1 q = none) : p ≠ q := ne_of_none (h p o hp) hq
theorem small {n : Nat} (h : n ≤ 1000) : n ≤ sizeLine := Nat.le_of_lt (small1000 h)
def Items (H : Hp) (ps : List Addr) (os : List (List V)) : Prop := ps.length = os.length ∧ ∀ (i : Nat) p o, ps[i]? = some p → os[i]? = some o → H p = some (.tup o)
theorem Items.same {H H' : Hp} {ps : List Addr} {os : List (List V)} (s : Same H H') (h : Items H ps os) : Items H' ps os := ⟨h.1, fun i p o a b => s _ _ (h.2 i p o a b)⟩
theorem Items.at {H : Hp} {ps : List Addr} {os : List (List V)} (h : Items H ps os) {i : Nat} {o : List V} (e : os[i]? = some o) : ∃ p, (ps.map V.ref)[i]? = some (.ref p) ∧ H p = some (.tup o) := by
  obtain ⟨hi, _⟩ := List.getElem?_eq_some_iff.mp e
  have hi' : i < ps.length := by rw [h.1]; exact hi
  refine ⟨ps[i], by rw [List.getElem?_map, List.getElem?_eq_getElem hi']; rfl, h.2 i _ o (List.getElem?_eq_getElem hi') e⟩
theorem Items.snoc {H : Hp} {ps : List Addr} {os : List (List V)} {p : Addr} {o : List V} (h : Items H ps os) (hp : H p = some (.tup o)) : Items H (ps ++ [p]) (os ++ [o]) := by
  refine ⟨by simp [h.1], fun i q u a b => ?_⟩
  by_cases hi : i < ps.length
  · rw [List.getElem?_append_left hi] at a
    rw [List.getElem?_append_left (by rw [← h.1]; exact hi)] at b
    exact h.2 i q u a b
  · have hl := h.1
    rw [List.getElem?_append_right (by omega)] at a
    rw [List.getElem?_append_right (by omega)] at b
    have e1 : i - ps.length = 0 := by
      cases z : i - ps.length with
      | zero => rfl
      | succ n => rw [z] at a; simp at a
    have e2 : i - os.length = 0 := by omega
    rw [e1] at a
    rw [e2] at b
    simp at a b
    subst a b
    exact hp
/-- a room (holder, kind); an arrow -/
abbrev Room1 := Int × Str
abbrev Arrow := Int × Int × Int × Int × Int
def rV (r : Room1) : List V := [.int r.1, .str r.2]
def aV (a : Arrow) : List V := [.int a.1, .int a.2.1, .int a.2.2.1, .int a.2.2.2.1, .int a.2.2.2.2]
def hsOf (R : List Room1) : List Int := R.map (·.1)
theorem hsOf_len (R : List Room1) : (hsOf R).length = R.length := by simp [hsOf]
theorem hsOf_get {R : List Room1} {i : Nat} {r : Room1} (h : R[i]? = some r) : Rm.hold (hsOf R) i = r.1 := by
  unfold Rm.hold hsOf
  rw [List.getD_eq_getElem?_getD, List.getElem?_map, h]; rfl
theorem kr : ¬ (("rooms" : Str) = "arrows") := by decide +kernel
def flds (l m : Addr) : List (Str × V) := putF "arrows" (.ref m) (putF "rooms" (.ref l) [])
theorem flds_rooms (l m : Addr) : (flds l m).lookup ("rooms" : Str) = some (.ref l) := by
  unfold flds
  rw [lookup_putF, if_neg kr, lookup_putF, if_pos rfl]
theorem flds_arrows (l m : Addr) : (flds l m).lookup ("arrows" : Str) = some (.ref m) := by
  unfold flds
  rw [lookup_putF, if_pos rfl]
structure ChartAt (C : Addr) (H : Hp) (c : Addr) (R : List Room1) (A : List Arrow) : Prop where
  ob : ∃ dx l m ps qs, H c = some (.ins C dx (flds l m)) ∧ H l = some (.lst (ps.map V.ref)) ∧ Items H ps (R.map rV) ∧ H m = some (.lst (qs.map V.ref)) ∧ Items H qs (A.map aV)
  rl : R.length ≤ 100
  al : A.length ≤ 100
theorem ChartAt.same {C : Addr} {H H' : Hp} {c : Addr} {R : List Room1} {A : List Arrow} (s : Same H H') (h : ChartAt C H c R A) : ChartAt C H' c R A := by
  obtain ⟨dx, l, m, ps, qs, h1, h2, h3, h4, h5⟩ := h.ob
  exact ⟨⟨dx, l, m, ps, qs, s _ _ h1, s _ _ h2, h3.same s, s _ _ h4, h5.same s⟩, h.rl, h.al⟩
def kPlain : Str := "plain"
/-- what a chart's rooms keep to -/
structure Good (R : List Room1) : Prop where
  tree : Rm.Tree (hsOf R)
  most : R.length ≤ 16
  kind : ∀ (i : Nat) r, R[i]? = some r → (r.2 = "plain" ∨ r.2 = "one" ∨ r.2 = "all" ∨ r.2 = "keep") ∧ (r.2 = "plain" ↔ Rm.kids (hsOf R) i = [])
/-! ### what the top has written -/
structure DefAt (K : PySem.W.Frag) (mg : Str → Option Value) (x : Str) (st : Stmt) (ps : List Str) (f : Addr) (fd : FuncData) : Prop where
  fn : Fun K x x st f fd
  bd : Binds K fd ps []
  mg : mg x = some (.ref f)
structure Txt (K : PySem.W.Frag) (mg : Str → Option Value) (C : Addr) : Prop where
  cl : Cls K C
  nR : NoAttr K C "rooms"
  nA : NoAttr K C "arrows"
  mgC : mg "Chart" = some (.ref C)
  len : mg "len" = none
  range : mg "range" = none
  list : mg "list" = none
  inst : mg "isinstance" = none
  tbool : mg "bool" = none
  tint : mg "int" = none
  tup : mg "tuple" = none
  srt : mg "sorted" = none
  enum : mg "enumerate" = none
  hold : ∃ t, mg "HOLDER" = some (.int 0 t)
  kind : ∃ t, mg "KIND" = some (.int 1 t)
  nil : ∃ t, mg "NONE" = some (.int (-1) t)
  src : ∃ t, mg "SOURCE" = some (.int 0 t)
  evt : ∃ t, mg "EVENT" = some (.int 1 t)
  grd : ∃ t, mg "GUARD" = some (.int 2 t)
  tgt : ∃ t, mg "TARGET" = some (.int 3 t)
  ded : ∃ t, mg "DEED" = some (.int 4 t)
  lastE : ∃ t, mg "LAST_EVENT" = some (.int 3 t)
  lastD : ∃ t, mg "LAST_DEED" = some (.int 99 t)
  mostR : ∃ t, mg "MOST_ROOMS" = some (.int 16 t)
  mostA : ∃ t, mg "MOST_ARROWS" = some (.int 20 t)
  choosing : ∃ a, mg "CHOOSING" = some (.ref a) ∧ ∀ H, SqT K H a [.str "one", .str "keep"]
  kinds : ∃ a, mg "KINDS" = some (.ref a) ∧ ∀ H, SqT K H a [.str "plain", .str "one", .str "all", .str "keep"]
  ll : PySem.W.kitOne K (.type "list") (.type "list") = some true
  bb : PySem.W.kitOne K (.type "bool") (.type "bool") = some true
  ii : PySem.W.kitOne K (.type "int") (.type "int") = some true
  ib : PySem.W.kitOne K (.type "int") (.type "bool") = some false
  pp : PySem.W.kitOne K (.type "tuple") (.type "tuple") = some true
theorem pe_gint {X : Cx} {x : Str} {i : Int} {pos : Pos} (h : ∃ t, X.mg x = some (.int i t)) (hg : Gl X x) (hd : (x == ("__debug__" : Str)) = false := by decide) : PE X (.Name x pos) (tC (.int i)) := by
  obtain ⟨t, h⟩ := h
  exact pe_glob hg h ⟨t, rfl⟩ hd
section
variable {P : Program} {w : World} {K : PySem.W.Frag} {mg : Str → Option Value} {base : Heap}
/-! ### children -/
def spChildren (C : Addr) : Sp := fun vs H Q _ => ∃ (c : Addr) (R : List Room1) (A : List Arrow) (k : Int), vs = [.ref c, .int k] ∧ ChartAt C H c R A ∧
  ∀ (l : Addr) (H' : Hp), H l = Option.none → Same H H' → H' l = some (.lst ((Rm.kids (hsOf R) k).map V.int)) → Q (.ref l) H'
theorem scChildren : FnScope ["chart", "room"] ["chart", "room"] (defScope sChildren) := ⟨rfl, rfl, rfl, by decide +kernel, rfl, by decide +kernel, by decide +kernel⟩
theorem ok_children {f C : Addr} {fd : FuncData} (D : DefAt K mg "children" sChildren ["chart", "room"] f fd) (T : Txt K mg C) : FnOk P w K mg base CX0 1 f fd ["chart", "room"] (spChildren C) := by
  refine D.fn.ok scChildren (fun vs H Q E h => ?_) (fun cdv A outer s H vs Q E hr h => ?_)
  · obtain ⟨c, R, As, k, rfl, _⟩ := h
    rfl
  obtain ⟨c, R, As, k, rfl, hC, q⟩ := h
  refine ⟨_, pss_one (ps_ret (pe_comp ["inner", "chart", "room"] [Option.none, some 0, some 1] rfl
    (pi_range1 rfl T.range (pa_cons (pe_callB call_len_seq (by rfl) T.len PySem.boot_len (pa_cons (pe_fld (pv 0) rfl) pa_nil)) pa_nil))
    (fun _ => pg_name (i := 0) (show (["inner", "chart", "room"] : List Str).Nodup by decide +kernel) rfl (Or.inl rfl))
    (fun _ => pts_one (pt_cmpR op_eq (pe_ix ix_tup (pe_ix ix_list (pe_fld (pv 1) rfl) (pv 0) (fun _ _ => rfl)) (pe_gint T.hold rfl) (fun _ _ => rfl)) (pv 2) (nomark _)))
    (fun _ => pv 0) (N := ["chart", "room"]) (ks := (defScope sChildren).names) rfl rfl (by decide +kernel) (by decide +kernel) (by decide +kernel) (by decide +kernel))), ?_⟩
  obtain ⟨dx, l, m, ps, qs, h1, h2, h3, h4, h5⟩ := hC.ob
  have hl : (ps.map V.ref).length = R.length := by rw [List.length_map, h3.1, List.length_map]
  have hrl := hC.rl
  refine ⟨_, rfl, c, C, dx, _, _, rfl, h1, T.cl, T.nR, flds_rooms l m, l, _, rfl, .inl (SqL.of h2), _, rfl, by rw [hl]; omega, by rw [hl]; omega, fun bk D hD => ?_⟩
  rw [hl]
  refine comp_range (Pv := fun i ys σ H' => ∃ v, σ = [v, some (.ref c), some (.int k)] ∧ ys = (((List.range i).filter fun j => decide (Rm.hold (hsOf R) j = k)).map fun (j : Nat) => V.int (j : Int)) ∧ Same H H') ⟨_, rfl, rfl, same_new hD _⟩ ?_ ?_
  · rintro i ys σ H1 hi hDi ⟨v, rfl, hys, (s1 : Same _ _)⟩
    have hi' : i < R.length := by simpa using hi
    have er : (R.map rV)[i]? = some (rV R[i]) := by rw [List.getElem?_map, List.getElem?_eq_getElem hi']; rfl
    obtain ⟨p, hp, hp2⟩ := h3.at er
    have ei : (0 : Int) + (i : Int) = (i : Int) := by omega
    refine ⟨_, rfl, c, C, dx, _, _, rfl, s1 _ _ h1, T.cl, T.nR, flds_rooms l m, _, rfl, l, _, _, _, rfl, rfl, SqL.of (s1 _ _ h2), by rw [ei]; exact atI_nat hp, p, _, _, _, rfl, rfl, SqT.of (s1 _ _ hp2), rfl, _, rfl, rfl, _, rfl, ?_⟩
    have eh : Rm.hold (hsOf R) i = R[i].1 := hsOf_get (List.getElem?_eq_getElem hi')
    refine ite2 (fun z => ?_) (fun z => ?_)
    · have z' : R[i].1 = k := by simpa using z
      refine ⟨_, rfl, hDi, ?_, ⟨_, rfl, ?_, sameUpd s1 hD _⟩⟩
      · rw [hys, List.length_map]
        have := List.length_filter_le (fun j => decide (Rm.hold (hsOf R) j = k)) (List.range i)
        rw [List.length_range] at this
        exact small1000 (by omega)
      · rw [Rm.range_filter_succ, if_pos (by rw [eh]; exact decide_eq_true z'), List.map_append, ← hys, ei]; rfl
    · have z' : ¬ R[i].1 = k := by simpa using z
      refine ⟨hDi, ⟨_, rfl, ?_, s1⟩⟩
      rw [Rm.range_filter_succ, if_neg (by rw [eh]; simpa using z'), List.append_nil]; exact hys
  · rintro ys σ H1 hDn ⟨v, rfl, hys, (s1 : Same _ _)⟩
    refine q D H1 hD s1 ?_
    rw [hDn, hys]
    unfold Rm.kids
    rw [List.map_map, hsOf_len]
    have e : ((R.length : Int)).toNat = R.length := by omega
    rw [e]; rfl
/-! ### within -/
def spWithin (C : Addr) : Sp := fun vs H Q _ => ∃ (c : Addr) (R : List Room1) (A : List Arrow) (i j : Nat), vs = [.ref c, .int i, .int j] ∧ ChartAt C H c R A ∧ Rm.Tree (hsOf R) ∧ i < R.length ∧
  Q (.bl (Rm.wi (hsOf R) i j)) H
theorem scWithin : FnScope ["chart", "room", "other", "place"] ["chart", "room", "other"] (defScope sWithin) := ⟨rfl, rfl, rfl, by decide +kernel, rfl, by decide +kernel, by decide +kernel⟩
theorem ok_within {f C : Addr} {fd : FuncData} (D : DefAt K mg "within" sWithin ["chart", "room", "other"] f fd) (T : Txt K mg C) : FnOk P w K mg base CX0 1 f fd ["chart", "room", "other"] (spWithin C) := by
  refine D.fn.ok scWithin (fun vs H Q E h => ?_) (fun cdv A outer s H vs Q E hr h => ?_)
  · obtain ⟨c, R, As, i, j, rfl, _⟩ := h
    rfl
  obtain ⟨c, R, As, i, j, rfl, hC, hT, hi, q⟩ := h
  refine ⟨_, pss_cons (ps_set (i := 3) scWithin.nd rfl (Or.inl rfl) (pv 1))
    (pss_cons (ps_while PassesOwn.never (pt_cmpR op_gt (pv 3) (pv 2) (nomark _))
      (pss_one (ps_set (i := 3) scWithin.nd rfl (Or.inl rfl) (pe_ix ix_tup (pe_ix ix_list (pe_fld (pv 0) rfl) (pv 3) (fun _ _ => rfl)) (pe_gint T.hold rfl) (fun _ _ => rfl)))))
    (pss_one (ps_ret (pe_cmpR op_eq (pv 3) (pv 2) (nomark _))))), ?_⟩
  obtain ⟨dx, l, m, ps, qs, h1, h2, h3, h4, h5⟩ := hC.ob
  refine ⟨_, rfl, fun n σ H1 => ∃ p : Nat, σ = [some (.ref c), some (.int i), some (.int j), some (.int p)] ∧ H1 = H ∧ p < R.length ∧ n = p ∧ Rm.wi (hsOf R) i j = Rm.wi (hsOf R) p j, ⟨i, i, rfl, rfl, hi, rfl, rfl⟩, ?_⟩
  rintro n σ H1 ⟨p, rfl, rfl, hp, rfl, ew⟩
  refine ⟨_, rfl, _, rfl, _, _, rfl, rfl, _, rfl, ?_⟩
  refine ite2 (fun z => ?_) (fun z => ?_)
  · have z' : (j : Int) < (n : Int) := by simpa using z
    have er : (R.map rV)[n]? = some (rV R[n]) := by rw [List.getElem?_map, List.getElem?_eq_getElem hp]; rfl
    obtain ⟨a, ha, ha2⟩ := h3.at er
    have eh : Rm.hold (hsOf R) n = R[n].1 := hsOf_get (List.getElem?_eq_getElem hp)
    have hu := hT.up n (by omega) (by rw [hsOf_len]; exact hp)
    rw [eh] at hu
    refine ⟨fun σ' H' => ∃ p' : Nat, p' < n ∧ σ' = [some (.ref c), some (.int i), some (.int j), some (.int p')] ∧ H' = H1 ∧ Rm.wi (hsOf R) i j = Rm.wi (hsOf R) p' j, ?_, ?_⟩
    · rintro σ' H' ⟨p', hlt, rfl, rfl, e'⟩
      exact ⟨p', hlt, p', rfl, rfl, by omega, rfl, e'⟩
    · refine ⟨_, rfl, c, C, dx, _, _, rfl, h1, T.cl, T.nR, flds_rooms l m, _, rfl, l, _, _, _, rfl, rfl, SqL.of h2, atI_nat ha, a, _, _, _, rfl, rfl, SqT.of ha2, rfl, ?_⟩
      refine ⟨R[n].1.toNat, by omega, ?_, rfl, ?_⟩
      · show [some (V.ref c), some (V.int i), some (V.int j), some (V.int R[n].1)] = _
        have e3 : ((R[n].1.toNat : Nat) : Int) = R[n].1 := by omega
        rw [e3]
      · rw [ew, Rm.wi_step (by rw [eh]; exact hu) (by omega), eh]
  · have z' : ¬ (j : Int) < (n : Int) := by simpa using z
    refine ⟨_, rfl, _, rfl, rfl, ?_⟩
    rw [ew, Rm.wi_end (by omega)] at q
    have e : (decide (V.int (n : Int) = V.int (j : Int))) = decide (n = j) := decide_eq_decide.mpr ⟨fun y => by injection y with y; omega, fun y => by rw [y]⟩
    rw [e]
    exact q

/-! ### reading a room -/
theorem room_at {H : Hp} {ps : List Addr} {R : List Room1} (h3 : Items H ps (R.map rV)) {i : Nat} (hi : i < R.length) : ∃ p, atI (ps.map V.ref) (i : Int) = some (.ref p) ∧ H p = some (.tup (rV R[i])) := by
  have er : (R.map rV)[i]? = some (rV R[i]) := by rw [List.getElem?_map, List.getElem?_eq_getElem hi]; rfl
  obtain ⟨p, hp, hp2⟩ := h3.at er
  exact ⟨p, atI_nat hp, hp2⟩
/-! ### check_holder -/
def spCheck1 (C : Addr) : Sp := fun vs H Q _ => ∃ (c : Addr) (R : List Room1) (A : List Arrow) (i : Nat), vs = [.ref c, .int i] ∧ ChartAt C H c R A ∧ Good R ∧ i < R.length ∧ ∀ H', Same H H' → Q .non H'
theorem scCheckHolder : FnScope ["chart", "room", "holder"] ["chart", "room"] (defScope sCheckHolder) := ⟨rfl, rfl, rfl, by decide +kernel, rfl, by decide +kernel, by decide +kernel⟩
theorem ok_check_holder {f C : Addr} {fd : FuncData} (D : DefAt K mg "check_holder" sCheckHolder ["chart", "room"] f fd) (T : Txt K mg C) : FnOk P w K mg base CX0 1 f fd ["chart", "room"] (spCheck1 C) := by
  refine D.fn.ok scCheckHolder (fun vs H Q E h => ?_) (fun cdv A outer s H vs Q E hr h => ?_)
  · obtain ⟨c, R, As, i, rfl, _⟩ := h
    rfl
  obtain ⟨c, R, As, i, rfl, hC, hG, hi, q⟩ := h
  refine ⟨_, pss_cons (ps_set (i := 2) scCheckHolder.nd rfl (Or.inl rfl) (pe_ix ix_tup (pe_ix ix_list (pe_fld (pv 0) rfl) (pv 1) (fun _ _ => rfl)) (pe_gint T.hold rfl) (fun _ _ => rfl)))
    (pss_cons (ps_if (pt_cmpR op_eq (pv 1) pe_int (nomark _))
      (pss_cons (ps_if (pt_cmpR op_ne (pv 2) (pe_gint T.nil rfl) (nomark _)) pss_never pss_nil) (pss_one ps_retN)) pss_nil)
    (pss_one (ps_if (pt_not (pt_chain op_le op_lt pe_int (pv 2) (pv 1))) pss_never pss_nil))), ?_⟩
  obtain ⟨dx, l, m, ps, qs, h1, h2, h3, h4, h5⟩ := hC.ob
  obtain ⟨p, hp, hp2⟩ := room_at h3 hi
  have eh : Rm.hold (hsOf R) i = R[i].1 := hsOf_get (List.getElem?_eq_getElem hi)
  refine ⟨_, rfl, c, C, dx, _, _, rfl, h1, T.cl, T.nR, flds_rooms l m, _, rfl, l, _, _, _, rfl, rfl, SqL.of h2, hp, p, _, _, _, rfl, rfl, SqT.of hp2, rfl, ?_⟩
  refine ⟨_, rfl, rfl, _, rfl, ?_⟩
  refine ite2 (fun z => ?_) (fun z => ?_)
  · have z' : i = 0 := by
      have : (i : Int) = 0 := by simpa using z
      omega
    have e0 : R[i].1 = -1 := by rw [← eh, z']; exact hG.tree.root
    refine ⟨_, rfl, rfl, _, rfl, ?_⟩
    refine iteNS (show V.int R[i].1 = V.int (-1) by rw [e0]) ?_
    exact q H (Same.refl H)
  · have z' : ¬ i = 0 := fun y => z (by rw [y]; rfl)
    have hu := hG.tree.up i (by omega) (by rw [hsOf_len]; exact hi)
    rw [eh] at hu
    refine ⟨_, rfl, _, _, rfl, rfl, _, rfl, ?_⟩
    rw [decide_eq_true hu.1]
    refine iteT ?_
    refine ⟨_, rfl, _, _, rfl, rfl, _, rfl, ?_⟩
    rw [decide_eq_true hu.2]
    refine iteF ?_
    exact q H (Same.refl H)
/-! ### check_kind -/
theorem scCheckKind : FnScope ["chart", "room", "kind", "inner"] ["chart", "room"] (defScope sCheckKind) := ⟨rfl, rfl, rfl, by decide +kernel, rfl, by decide +kernel, by decide +kernel⟩
theorem in_kinds {x : Str} (h : x = "plain" ∨ x = "one" ∨ x = "all" ∨ x = "keep") : inV (.str x) [.str "plain", .str "one", .str "all", .str "keep"] = true := by
  rcases h with h | h | h | h <;> (subst h; decide +kernel)
theorem ok_check_kind {f C fc : Addr} {fd fdc : FuncData} (D : DefAt K mg "check_kind" sCheckKind ["chart", "room"] f fd) (T : Txt K mg C) (Dc : DefAt K mg "children" sChildren ["chart", "room"] fc fdc) : FnOk P w K mg base CX0 2 f fd ["chart", "room"] (spCheck1 C) := by
  have Gc : FnOk P w K mg base CX0 1 fc fdc ["chart", "room"] (spChildren C) := ok_children Dc T
  refine D.fn.ok scCheckKind (fun vs H Q E h => ?_) (fun cdv A outer s H vs Q E hr h => ?_)
  · obtain ⟨c, R, As, i, rfl, _⟩ := h
    rfl
  obtain ⟨c, R, As, i, rfl, hC, hG, hi, q⟩ := h
  obtain ⟨aK, hK, sK⟩ := T.kinds
  refine ⟨_, pss_cons (ps_set (i := 2) scCheckKind.nd rfl (Or.inl rfl) (pe_ix ix_tup (pe_ix ix_list (pe_fld (pv 0) rfl) (pv 1) (fun _ _ => rfl)) (pe_gint T.kind rfl) (fun _ _ => rfl)))
    (pss_cons (ps_if (pt_cmpR op_notIn_seq (pv 2) (pe_glob rfl hK (v := .ref aK) rfl) (by with_unfolding_all rfl)) pss_never pss_nil)
    (pss_cons (ps_set (i := 3) scCheckKind.nd rfl (Or.inl rfl) (pe_call Gc hr rfl Dc.mg Dc.fn.kp Dc.bd .nil pass0 (pa_cons (pv 0) (pa_cons (pv 1) pa_nil))))
    (pss_cons (ps_if (PW.pt (pw_and (pt_cmpR op_eq (pv 2) pe_str (nomark _)) (pw_and1 (pt_cmpR op_gt (pe_callB call_len_seq (by rfl) T.len PySem.boot_len (pa_cons (pv 3) pa_nil)) pe_int (nomark _))))) pss_never pss_nil)
    (pss_one (ps_if (PW.pt (pw_and (pt_cmpR op_ne (pv 2) pe_str (nomark _)) (pw_and1 (pt_cmpR op_eq (pe_callB call_len_seq (by rfl) T.len PySem.boot_len (pa_cons (pv 3) pa_nil)) pe_int (nomark _))))) pss_never pss_nil))))), ?_⟩
  obtain ⟨dx, l, m, ps, qs, h1, h2, h3, h4, h5⟩ := hC.ob
  obtain ⟨p, hp, hp2⟩ := room_at h3 hi
  obtain ⟨hk1, hk2⟩ := hG.kind i R[i] (List.getElem?_eq_getElem hi)
  refine ⟨_, rfl, c, C, dx, _, _, rfl, h1, T.cl, T.nR, flds_rooms l m, _, rfl, l, _, _, _, rfl, rfl, SqL.of h2, hp, p, _, _, _, rfl, rfl, SqT.of hp2, rfl, ?_⟩
  refine ⟨_, rfl, aK, _, rfl, .inr (sK _), rfl, by decide +kernel, _, rfl, ?_⟩
  rw [if_pos rfl, in_kinds hk1]
  refine iteF ?_
  refine ⟨_, rfl, _, rfl, c, R, As, i, rfl, hC, fun d H1 hd s1 e1 => ?_⟩
  -- inner stands at d
  have el : ∀ b : Bool, (if b = true then False else True) → b = false := fun b h => by cases b <;> simp_all
  refine ⟨_, rfl, rfl, _, rfl, ?_⟩
  by_cases hpl : R[i].2 = "plain"
  · have e0 : Rm.kids (hsOf R) i = [] := hk2.mp hpl
    rw [decide_eq_true (show V.str R[i].2 = V.str "plain" by rw [hpl])]
    refine iteT ?_
    refine ⟨_, rfl, d, _, rfl, .inl (SqL.of e1), _, _, rfl, rfl, _, rfl, ?_⟩
    rw [e0]
    refine iteF ?_
    refine ⟨_, rfl, rfl, _, rfl, ?_⟩
    rw [decide_eq_true (show V.str R[i].2 = V.str "plain" by rw [hpl])]
    refine iteF ?_
    refine iteF ?_
    exact q H1 s1
  · have e0 : Rm.kids (hsOf R) i ≠ [] := fun z => hpl (hk2.mpr z)
    have ne : ¬ V.str R[i].2 = V.str "plain" := fun z => hpl (by injection z)
    rw [decide_eq_false ne]
    refine iteF ?_
    refine iteF ?_
    refine ⟨_, rfl, rfl, _, rfl, ?_⟩
    rw [decide_eq_false ne]
    refine iteT ?_
    refine ⟨_, rfl, d, _, rfl, .inl (SqL.of e1), rfl, _, rfl, ?_⟩
    have nz : ¬ V.int (((Rm.kids (hsOf R) i).map V.int).length : Int) = V.int 0 := fun z => by
      injection z with z
      rw [List.length_map] at z
      exact e0 (List.length_eq_zero_iff.mp (by omega))
    rw [decide_eq_false nz]
    refine iteF ?_
    exact q H1 s1
/-! ### check_rooms -/
def spCheckRooms (C : Addr) : Sp := fun vs H Q _ => ∃ (c : Addr) (R : List Room1) (A : List Arrow), vs = [.ref c] ∧ ChartAt C H c R A ∧ Good R ∧ ∀ H', Same H H' → Q .non H'
theorem scCheckRooms : FnScope ["chart", "room"] ["chart"] (defScope sCheckRooms) := ⟨rfl, rfl, rfl, by decide +kernel, rfl, by decide +kernel, by decide +kernel⟩
theorem ok_check_rooms {f C fc fh fk : Addr} {fd fdc fdh fdk : FuncData} (D : DefAt K mg "check_rooms" sCheckRooms ["chart"] f fd) (T : Txt K mg C) (Dc : DefAt K mg "children" sChildren ["chart", "room"] fc fdc)
    (Dh : DefAt K mg "check_holder" sCheckHolder ["chart", "room"] fh fdh) (Dk : DefAt K mg "check_kind" sCheckKind ["chart", "room"] fk fdk) : FnOk P w K mg base CX0 3 f fd ["chart"] (spCheckRooms C) := by
  have Gh : FnOk P w K mg base CX0 1 fh fdh ["chart", "room"] (spCheck1 C) := ok_check_holder Dh T
  have Gk : FnOk P w K mg base CX0 2 fk fdk ["chart", "room"] (spCheck1 C) := ok_check_kind Dk T Dc
  refine D.fn.ok scCheckRooms (fun vs H Q E h => ?_) (fun cdv A outer s H vs Q E hr h => ?_)
  · obtain ⟨c, R, As, rfl, _⟩ := h
    rfl
  obtain ⟨c, R, As, rfl, hC, hG, q⟩ := h
  refine ⟨_, pss_cons (ps_if (pt_not (pt_chain op_le op_le pe_int (pe_callB call_len_seq (by rfl) T.len PySem.boot_len (pa_cons (pe_fld (pv 0) rfl) pa_nil)) (pe_gint T.mostR rfl))) pss_never pss_nil)
    (pss_one (ps_for PassesOwn.never rfl (pi_range1 rfl T.range (pa_cons (pe_callB call_len_seq (by rfl) T.len PySem.boot_len (pa_cons (pe_fld (pv 0) rfl) pa_nil)) pa_nil)) (pg_name (i := 1) scCheckRooms.nd rfl (Or.inl rfl))
      (pss_cons (ps_expr (pe_call Gh (hr.mono (by decide)) rfl Dh.mg Dh.fn.kp Dh.bd .nil pass0 (pa_cons (pv 0) (pa_cons (pv 1) pa_nil))))
      (pss_one (ps_expr (pe_call Gk hr rfl Dk.mg Dk.fn.kp Dk.bd .nil pass0 (pa_cons (pv 0) (pa_cons (pv 1) pa_nil)))))))), ?_⟩
  obtain ⟨dx, l, m, ps, qs, h1, h2, h3, h4, h5⟩ := hC.ob
  have hl : (ps.map V.ref).length = R.length := by rw [List.length_map, h3.1, List.length_map]
  have hm := hG.most
  have h0 := hG.tree.pos
  rw [hsOf_len] at h0
  refine ⟨_, rfl, c, C, dx, _, _, rfl, h1, T.cl, T.nR, flds_rooms l m, l, _, rfl, .inl (SqL.of h2), _, _, rfl, rfl, _, rfl, ?_⟩
  rw [hl, decide_eq_true (show (1 : Int) ≤ (R.length : Int) by omega)]
  refine iteT ?_
  refine ⟨_, _, rfl, rfl, _, rfl, ?_⟩
  rw [decide_eq_true (show (R.length : Int) ≤ (16 : Int) by omega)]
  refine iteF ?_
  refine ⟨_, rfl, c, C, dx, _, _, rfl, h1, T.cl, T.nR, flds_rooms l m, l, _, rfl, .inl (SqL.of h2), _, rfl, by rw [hl]; omega, by rw [hl]; omega, ?_⟩
  rw [hl]
  refine for_range (fun i σ H1 => ∃ v, σ = [some (.ref c), v] ∧ Same H H1) ⟨_, rfl, Same.refl H⟩ ?_ ?_
  · rintro i σ H1 hi ⟨v, rfl, (s1 : Same _ _)⟩
    have hi' : i < R.length := by omega
    have ei : (0 : Int) + (i : Int) = (i : Int) := by omega
    rw [ei]
    refine ⟨_, rfl, _, rfl, c, R, As, i, rfl, hC.same s1, hG, hi', fun H2 s2 => ?_⟩
    refine ⟨_, rfl, _, rfl, c, R, As, i, rfl, hC.same (s1.trans s2), hG, hi', fun H3 s3 => ?_⟩
    exact ⟨_, rfl, s1.trans (s2.trans s3)⟩
  · rintro σ H1 ⟨v, rfl, (s1 : Same _ _)⟩
    exact q H1 s1
/-! ### check_arrows: no arrows -/
def spCheckArrows0 (C : Addr) : Sp := fun vs H Q _ => ∃ (c : Addr) (R : List Room1), vs = [.ref c] ∧ ChartAt C H c R [] ∧ Q .non H
theorem scCheckArrows : FnScope ["chart", "number"] ["chart"] (defScope sCheckArrows) := ⟨rfl, rfl, rfl, by decide +kernel, rfl, by decide +kernel, by decide +kernel⟩
theorem ok_check_arrows0 {f C : Addr} {fd : FuncData} (D : DefAt K mg "check_arrows" sCheckArrows ["chart"] f fd) (T : Txt K mg C) : FnOk P w K mg base CX0 1 f fd ["chart"] (spCheckArrows0 C) := by
  refine D.fn.ok scCheckArrows (fun vs H Q E h => ?_) (fun cdv A outer s H vs Q E hr h => ?_)
  · obtain ⟨c, R, rfl, _⟩ := h
    rfl
  obtain ⟨c, R, rfl, hC, q⟩ := h
  refine ⟨_, pss_cons (ps_if (pt_cmpR op_gt (pe_callB call_len_seq (by rfl) T.len PySem.boot_len (pa_cons (pe_fld (pv 0) rfl) pa_nil)) (pe_gint T.mostA rfl) (nomark _)) pss_never pss_nil)
    (pss_one (ps_for PassesOwn.never rfl (pi_range1 rfl T.range (pa_cons (pe_callB call_len_seq (by rfl) T.len PySem.boot_len (pa_cons (pe_fld (pv 0) rfl) pa_nil)) pa_nil)) (pg_name (i := 1) scCheckArrows.nd rfl (Or.inl rfl))
      pss_never)), ?_⟩
  obtain ⟨dx, l, m, ps, qs, h1, h2, h3, h4, h5⟩ := hC.ob
  have hl : (qs.map V.ref).length = 0 := by rw [List.length_map, h5.1]; rfl
  refine ⟨_, rfl, c, C, dx, _, _, rfl, h1, T.cl, T.nA, flds_arrows l m, m, _, rfl, .inl (SqL.of h4), _, _, rfl, rfl, _, rfl, ?_⟩
  rw [hl]
  refine iteF ?_
  refine ⟨_, rfl, c, C, dx, _, _, rfl, h1, T.cl, T.nA, flds_arrows l m, m, _, rfl, .inl (SqL.of h4), _, rfl, by rw [hl]; decide, by rw [hl]; decide, ?_⟩
  rw [hl]
  refine for_range (fun i σ H1 => H1 = H) rfl ?_ ?_
  · rintro i σ H1 hi e
    exact absurd hi (by omega)
  · rintro σ H1 rfl
    exact q
/-! ### Chart(rooms, []) -/
def spInit0 (C : Addr) : Sp := fun vs H Q _ => ∃ (c dx a b : Addr) (ps : List Addr) (R : List Room1), vs = [.ref c, .ref a, .ref b] ∧ H c = some (.ins C dx []) ∧ H a = some (.lst (ps.map V.ref)) ∧ Items H ps (R.map rV) ∧ H b = some (.lst []) ∧ Good R ∧
  ∀ H', (∀ x o, H x = some o → x ≠ c → H' x = some o) → (∀ H'', (∀ x o, H' x = some o → x ≠ a → H'' x = some o) → ChartAt C H'' c R []) → Q .non H'
theorem scInit : FnScope ["self", "rooms", "arrows"] ["self", "rooms", "arrows"] (defScope sInit) := ⟨rfl, rfl, rfl, by decide +kernel, rfl, by decide +kernel, by decide +kernel⟩
theorem ok_init0 {f C fr fa fc fh fk : Addr} {fd fdr fda fdc fdh fdk : FuncData} (F : Fun K "__init__" "Chart.__init__" sInit f fd) (T : Txt K mg C) (Dr : DefAt K mg "check_rooms" sCheckRooms ["chart"] fr fdr) (Da : DefAt K mg "check_arrows" sCheckArrows ["chart"] fa fda)
    (Dc : DefAt K mg "children" sChildren ["chart", "room"] fc fdc) (Dh : DefAt K mg "check_holder" sCheckHolder ["chart", "room"] fh fdh) (Dk : DefAt K mg "check_kind" sCheckKind ["chart", "room"] fk fdk) : FnOk P w K mg base CX0 4 f fd ["self", "rooms", "arrows"] (spInit0 C) := by
  have Gr : FnOk P w K mg base CX0 3 fr fdr ["chart"] (spCheckRooms C) := ok_check_rooms Dr T Dc Dh Dk
  have Ga : FnOk P w K mg base CX0 1 fa fda ["chart"] (spCheckArrows0 C) := ok_check_arrows0 Da T
  refine F.ok scInit (fun vs H Q E h => ?_) (fun cdv A outer s H vs Q E hr h => ?_)
  · obtain ⟨c, dx, a, b, ps, R, rfl, _⟩ := h
    rfl
  obtain ⟨c, dx, a, b, ps, R, rfl, hc, ha, hI, hb, hG, q⟩ := h
  refine ⟨_, pss_cons (ps_fld (pv 0) (pe_callTy call_list_of (by rfl) T.list (by decide +kernel) (pa_cons (pv 1) pa_nil)) rfl)
    (pss_cons (ps_fld (pv 0) (pe_callTy call_list_of (by rfl) T.list (by decide +kernel) (pa_cons (pv 2) pa_nil)) rfl)
    (pss_cons (ps_expr (pe_call Gr hr rfl Dr.mg Dr.fn.kp Dr.bd .nil pass0 (pa_cons (pv 0) pa_nil)))
    (pss_one (ps_expr (pe_call Ga (hr.mono (by decide)) rfl Da.mg Da.fn.kp Da.bd .nil pass0 (pa_cons (pv 0) pa_nil)))))), ?_⟩
  refine ⟨_, rfl, a, _, rfl, .inl (SqL.of ha), fun l hl => ?_⟩
  have ncl : c ≠ l := ne_of_none hc hl
  refine ⟨_, rfl, c, C, dx, _, rfl, (by rw [upd_ne ncl]; exact hc), T.cl, T.nR, (by show 0 < 1000; decide), ?_⟩
  have nbl : b ≠ l := ne_of_none hb hl
  have nbc : b ≠ c := ne_of hb hc (by intro z; cases z)
  have nac : a ≠ c := ne_of ha hc (by intro z; cases z)
  have nal : a ≠ l := ne_of_none ha hl
  refine ⟨_, rfl, b, _, rfl, .inl (SqL.of (by rw [upd_ne nbc, upd_ne nbl]; exact hb)), fun m hm => ?_⟩
  have ncm : c ≠ m := ne_of_none upd_same hm
  have hm' : H m = Option.none := by
    have z := hm
    rw [upd_ne ncm.symm] at z
    by_cases e : m = l
    · rw [e, upd_same] at z; cases z
    · rw [upd_ne e] at z; exact z
  have nml : m ≠ l := fun e => by
    rw [e, upd_ne ncl.symm, upd_same] at hm
    cases hm
  refine ⟨_, rfl, c, C, dx, _, rfl, (by rw [upd_ne ncm]; exact upd_same), T.cl, T.nA, (by show 1 < 1000; decide), ?_⟩
  -- the chart as it now stands
  have keep : ∀ x o, H x = some o → x ≠ c → (upd (upd (upd (upd H l (.lst (ps.map V.ref))) c (.ins C dx (putF "rooms" (.ref l) []))) m (.lst [])) c (.ins C dx (putF "arrows" (.ref m) (putF "rooms" (.ref l) [])))) x = some o := fun x o e n => by
    rw [upd_ne n, upd_ne (ne_of_none e hm'), upd_ne n, upd_ne (ne_of_none e hl)]; exact e
  have hcl : (upd (upd (upd (upd H l (.lst (ps.map V.ref))) c (.ins C dx (putF "rooms" (.ref l) []))) m (.lst [])) c (.ins C dx (putF "arrows" (.ref m) (putF "rooms" (.ref l) [])))) l = some (.lst (ps.map V.ref)) := by
    rw [upd_ne ncl.symm, upd_ne nml.symm, upd_ne ncl.symm, upd_same]
  have hcm : (upd (upd (upd (upd H l (.lst (ps.map V.ref))) c (.ins C dx (putF "rooms" (.ref l) []))) m (.lst [])) c (.ins C dx (putF "arrows" (.ref m) (putF "rooms" (.ref l) [])))) m = some (.lst []) := by
    rw [upd_ne ncm.symm, upd_same]
  have ntc : ∀ p o, H p = some (.tup o) → p ≠ c := fun p o e => ne_of e hc (by intro z; cases z)
  generalize hH2 : (upd (upd (upd (upd H l (.lst (ps.map V.ref))) c (.ins C dx (putF "rooms" (.ref l) []))) m (.lst [])) c (.ins C dx (putF "arrows" (.ref m) (putF "rooms" (.ref l) [])))) = H2 at keep hcl hcm ⊢
  have hcc : H2 c = some (.ins C dx (flds l m)) := by rw [← hH2]; exact upd_same
  have hI2 : Items H2 ps (R.map rV) := ⟨hI.1, fun i p o e1 e2 => keep _ _ (hI.2 i p o e1 e2) (ntc _ _ (hI.2 i p o e1 e2))⟩
  have hC2 : ChartAt C H2 c R [] := ⟨⟨dx, l, m, ps, [], hcc, hcl, hI2, hcm, ⟨rfl, fun i p o e => by simp at e⟩⟩, Nat.le_trans hG.most (by decide), by decide⟩
  refine ⟨_, rfl, c, R, [], rfl, hC2, hG, fun H3 s3 => ?_⟩
  refine ⟨_, rfl, c, R, rfl, hC2.same s3, ?_⟩
  refine q H3 (fun x o e n => s3 _ _ (keep x o e n)) (fun H4 k4 => ?_)
  have nma : m ≠ a := fun e => by rw [e, ha] at hm'; cases hm'
  have nta : ∀ p o, H p = some (.tup o) → p ≠ a := fun p o e => ne_of e ha (by intro z; cases z)
  exact ⟨⟨dx, l, m, ps, [], k4 _ _ (s3 _ _ hcc) nac.symm, k4 _ _ (s3 _ _ hcl) nal.symm, ⟨hI.1, fun i p o e1 e2 => k4 _ _ (s3 _ _ (hI2.2 i p o e1 e2)) (nta _ _ (hI.2 i p o e1 e2))⟩, k4 _ _ (s3 _ _ hcm) nma, ⟨rfl, fun i p o e => by simp at e⟩⟩, Nat.le_trans hG.most (by decide), by decide⟩

/-! #### _law_chain -/
theorem chain_head (hs : List Int) (i : Nat) : Rm.chain hs i = i :: (Rm.chain hs i).tail := by
  rw [Rm.chain]; split <;> rfl
theorem chain_len {hs : List Int} : ∀ i : Nat, (Rm.chain hs i).length ≤ i + 1 := by
  intro i
  induction i using Nat.strongRecOn with
  | ind i ih =>
    by_cases z : 0 ≤ Rm.hold hs i ∧ Rm.hold hs i < (i : Int)
    · rw [Rm.chain_up z, List.length_cons]
      have := ih (Rm.hold hs i).toNat (by omega)
      omega
    · rw [Rm.chain, dif_neg z, List.length_singleton]; omega
def cV (l : List Nat) : List V := (l.map fun (j : Nat) => (j : Int)).map V.int
theorem cV_len (l : List Nat) : (cV l).length = l.length := by unfold cV; rw [List.length_map, List.length_map]
theorem cV_get {l : List Nat} {i : Nat} {x : V} (h : (cV l)[i]? = some x) : ∃ k : Nat, l[i]? = some k ∧ x = .int k := by
  unfold cV at h
  rw [List.getElem?_map, List.getElem?_map] at h
  cases e : l[i]? with
  | none => rw [e] at h; cases h
  | some k => rw [e] at h; exact ⟨k, rfl, (Option.some.inj h).symm⟩
theorem cV_app (l m : List Nat) : cV (l ++ m) = cV l ++ cV m := by unfold cV; rw [List.map_append, List.map_append]

/-! ### lies_in, scope -/
def choosing (R : List Room1) (p : Nat) : Bool := match R[p]? with
  | some r => decide (r.2 = "one" ∨ r.2 = "keep")
  | Option.none => false
def scopeOf (R : List Room1) (s t : Nat) : Option Nat := (Rm.chain (hsOf R) s).tail.find? fun p => choosing R p && Rm.li (hsOf R) t p
def optV : Option Nat → V
  | some p => .int p
  | Option.none => .non
theorem in_two (x : Str) : inV (.str x) [.str "one", .str "keep"] = decide (x = "one" ∨ x = "keep") := by
  show ((("one" : Str) == x) || ((("keep" : Str) == x) || false)) = _
  by_cases h1 : x = "one"
  · subst h1; decide +kernel
  · by_cases h2 : x = "keep"
    · subst h2; decide +kernel
    · have e1 : (("one" : Str) == x) = false := beq_eq_false_iff_ne.mpr fun z => h1 z.symm
      have e2 : (("keep" : Str) == x) = false := beq_eq_false_iff_ne.mpr fun z => h2 z.symm
      rw [e1, e2, decide_eq_false fun z => z.elim h1 h2]; rfl

def spLies (C : Addr) : Sp := fun vs H Q _ => ∃ (c : Addr) (R : List Room1) (A : List Arrow) (i j : Nat), vs = [.ref c, .int i, .int j] ∧ ChartAt C H c R A ∧ Rm.Tree (hsOf R) ∧ i < R.length ∧ Q (.bl (Rm.li (hsOf R) i j)) H
theorem scLies : FnScope ["chart", "room", "other"] ["chart", "room", "other"] (defScope sLies) := ⟨rfl, rfl, rfl, by decide +kernel, rfl, by decide +kernel, by decide +kernel⟩
theorem ok_lies {f C fw : Addr} {fd fdw : FuncData} (D : DefAt K mg "lies_in" sLies ["chart", "room", "other"] f fd) (T : Txt K mg C) (Dw : DefAt K mg "within" sWithin ["chart", "room", "other"] fw fdw) : FnOk P w K mg base CX0 2 f fd ["chart", "room", "other"] (spLies C) := by
  have Gw : FnOk P w K mg base CX0 1 fw fdw ["chart", "room", "other"] (spWithin C) := ok_within Dw T
  refine D.fn.ok scLies (fun vs H Q E h => ?_) (fun cdv A outer s H vs Q E hr h => ?_)
  · obtain ⟨c, R, As, i, j, rfl, _⟩ := h
    rfl
  obtain ⟨c, R, As, i, j, rfl, hC, hT, hi, q⟩ := h
  refine ⟨_, pss_one (ps_ret (pe_and (pe_cmpR op_ne (pv 1) (pv 2) (nomark _)) (pe_one (pe_call Gw hr rfl Dw.mg Dw.fn.kp Dw.bd .nil pass0 (pa_cons (pv 0) (pa_cons (pv 1) (pa_cons (pv 2) pa_nil))))))), ?_⟩
  refine ⟨_, rfl, _, rfl, rfl, _, rfl, ?_⟩
  rw [Rm.li_eq] at q
  have e : (decide (V.int (i : Int) = V.int (j : Int))) = decide (i = j) := decide_eq_decide.mpr ⟨fun y => by injection y with y; omega, fun y => by rw [y]⟩
  rw [e]
  by_cases z : i = j
  · rw [decide_eq_true z] at q ⊢
    exact iteF q
  · rw [decide_eq_false z] at q ⊢
    refine iteT ?_
    exact ⟨_, rfl, _, rfl, _, rfl, c, R, As, i, j, rfl, hC, hT, hi, q⟩
def spScope (C : Addr) : Sp := fun vs H Q _ => ∃ (c : Addr) (R : List Room1) (A : List Arrow) (i j : Nat), vs = [.ref c, .int i, .int j] ∧ ChartAt C H c R A ∧ Rm.Tree (hsOf R) ∧ i < R.length ∧ j < R.length ∧ Q (optV (scopeOf R i j)) H
theorem scScope : FnScope ["chart", "source", "target", "place"] ["chart", "source", "target"] (defScope sScope) := ⟨rfl, rfl, rfl, by decide +kernel, rfl, by decide +kernel, by decide +kernel⟩
theorem ok_scope {f C fl fw : Addr} {fd fdl fdw : FuncData} (D : DefAt K mg "scope" sScope ["chart", "source", "target"] f fd) (T : Txt K mg C) (Dl : DefAt K mg "lies_in" sLies ["chart", "room", "other"] fl fdl) (Dw : DefAt K mg "within" sWithin ["chart", "room", "other"] fw fdw) :
    FnOk P w K mg base CX0 3 f fd ["chart", "source", "target"] (spScope C) := by
  have Gl : FnOk P w K mg base CX0 2 fl fdl ["chart", "room", "other"] (spLies C) := ok_lies Dl T Dw
  refine D.fn.ok scScope (fun vs H Q E h => ?_) (fun cdv A outer s H vs Q E hr h => ?_)
  · obtain ⟨c, R, As, i, j, rfl, _⟩ := h
    rfl
  obtain ⟨c, R, As, i, j, rfl, hC, hT, hi, hj, q⟩ := h
  obtain ⟨aK, hK, sK⟩ := T.choosing
  refine ⟨_, pss_cons (ps_set (i := 3) scScope.nd rfl (Or.inl rfl) (pe_ix ix_tup (pe_ix ix_list (pe_fld (pv 0) rfl) (pv 1) (fun _ _ => rfl)) (pe_gint T.hold rfl) (fun _ _ => rfl)))
    (pss_cons (ps_while PassesOwn.never (pt_cmpR op_ne (pv 3) (pe_gint T.nil rfl) (nomark _))
      (pss_cons (ps_if (PW.pt (pw_and (pt_cmpR op_in_seq (pe_ix ix_tup (pe_ix ix_list (pe_fld (pv 0) rfl) (pv 3) (fun _ _ => rfl)) (pe_gint T.kind rfl) (fun _ _ => rfl)) (pe_glob rfl hK (v := .ref aK) rfl) (by with_unfolding_all rfl))
          (pw_and1 (pt_val (pe_call Gl hr rfl Dl.mg Dl.fn.kp Dl.bd .nil pass0 (pa_cons (pv 0) (pa_cons (pv 2) (pa_cons (pv 3) pa_nil)))))))) (pss_one (ps_ret (pv 3))) pss_nil)
      (pss_one (ps_set (i := 3) scScope.nd rfl (Or.inl rfl) (pe_ix ix_tup (pe_ix ix_list (pe_fld (pv 0) rfl) (pv 3) (fun _ _ => rfl)) (pe_gint T.hold rfl) (fun _ _ => rfl))))))
    (pss_one (ps_ret pe_non))), ?_⟩
  obtain ⟨dx, l, m, ps, qs, h1, h2, h3, h4, h5⟩ := hC.ob
  have hok : ∀ {n : Nat}, n < R.length → Rm.hold (hsOf R) n = -1 ∨ (0 ≤ Rm.hold (hsOf R) n ∧ Rm.hold (hsOf R) n < (n : Int)) := fun {n} hn => by
    by_cases z : n = 0
    · subst z; exact .inl hT.root
    · exact .inr (hT.up n (by omega) (by rw [hsOf_len]; exact hn))
  obtain ⟨p, hp, hp2⟩ := room_at h3 hi
  have eh : Rm.hold (hsOf R) i = R[i].1 := hsOf_get (List.getElem?_eq_getElem hi)
  refine ⟨_, rfl, c, C, dx, _, _, rfl, h1, T.cl, T.nR, flds_rooms l m, _, rfl, l, _, _, _, rfl, rfl, SqL.of h2, hp, p, _, _, _, rfl, rfl, SqT.of hp2, rfl, ?_⟩
  refine ⟨fun n σ H1 => ∃ pl : Int, σ = [some (.ref c), some (.int i), some (.int j), some (.int pl)] ∧ H1 = H ∧ (pl = -1 ∨ (0 ≤ pl ∧ pl < (R.length : Int))) ∧ n = (pl + 1).toNat ∧ scopeOf R i j = (Rm.upper (hsOf R) pl).find? fun p => choosing R p && Rm.li (hsOf R) j p,
    ⟨_, R[i].1, rfl, rfl, by rw [← eh]; rcases hok hi with z | z <;> omega, rfl, by unfold scopeOf; rw [Rm.tail_upper hT (by rw [hsOf_len]; exact hi), eh]⟩, ?_⟩
  rintro n σ H1 ⟨pl, rfl, rfl, hpl, rfl, es⟩
  refine ⟨_, rfl, rfl, _, rfl, ?_⟩
  by_cases z : pl = -1
  · subst z
    refine iteNS rfl ?_
    rw [es, Rm.upper_neg] at q
    exact q
  · have z0 : 0 ≤ pl ∧ pl < (R.length : Int) := hpl.resolve_left z
    obtain ⟨k, rfl⟩ : ∃ k : Nat, pl = (k : Int) := ⟨pl.toNat, by omega⟩
    have hk : k < R.length := by omega
    have ne : ¬ V.int (k : Int) = V.int (-1) := fun y => by injection y with y; omega
    rw [decide_eq_false ne]
    refine iteT ?_
    obtain ⟨a, ha, ha2⟩ := room_at h3 hk
    have ehk : Rm.hold (hsOf R) k = R[k].1 := hsOf_get (List.getElem?_eq_getElem hk)
    have ech : choosing R k = decide (R[k].2 = "one" ∨ R[k].2 = "keep") := by
      unfold choosing; rw [List.getElem?_eq_getElem hk]
    rw [Rm.upper_step hT (by rw [hsOf_len]; exact hk), List.find?_cons, ehk] at es
    refine ⟨fun σ' H' => ∃ pl' : Int, σ' = [some (.ref c), some (.int i), some (.int j), some (.int pl')] ∧ H' = H1 ∧ (pl' = -1 ∨ (0 ≤ pl' ∧ pl' < (k : Int))) ∧ scopeOf R i j = (Rm.upper (hsOf R) pl').find? fun p => choosing R p && Rm.li (hsOf R) j p, ?_, ?_⟩
    · rintro σ' H' ⟨pl', rfl, rfl, h', e'⟩
      exact ⟨(pl' + 1).toNat, by omega, pl', rfl, rfl, by omega, rfl, e'⟩
    · refine ⟨_, rfl, c, C, dx, _, _, rfl, h1, T.cl, T.nR, flds_rooms l m, _, rfl, l, _, _, _, rfl, rfl, SqL.of h2, ha, a, _, _, _, rfl, rfl, SqT.of ha2, rfl, aK, _, rfl, .inr (sK _), rfl, by decide +kernel, _, rfl, ?_⟩
      have stepOn : scopeOf R i j = (Rm.upper (hsOf R) R[k].1).find? (fun p => choosing R p && Rm.li (hsOf R) j p) →
          (tAsg (tOp (rIxT K) (tOp (rIxL K) (tFld K (tVar 0) "rooms") (tVar 3)) (tC (.int 0))) (gName 3)) { nx := fun σ' H' => ∃ pl' : Int, σ' = [some (.ref c), some (.int i), some (.int j), some (.int pl')] ∧ H' = H1 ∧ (pl' = -1 ∨ (0 ≤ pl' ∧ pl' < (k : Int))) ∧ scopeOf R i j = (Rm.upper (hsOf R) pl').find? fun p => choosing R p && Rm.li (hsOf R) j p, rt := Q }
            [some (.ref c), some (.int i), some (.int j), some (.int k)] H1 := fun e' => by
        refine ⟨_, rfl, c, C, dx, _, _, rfl, h1, T.cl, T.nR, flds_rooms l m, _, rfl, l, _, _, _, rfl, rfl, SqL.of h2, ha, a, _, _, _, rfl, rfl, SqT.of ha2, rfl, ?_⟩
        exact ⟨R[k].1, rfl, rfl, by rw [← ehk]; exact hok hk, e'⟩
      show if inV (V.str R[k].2) [V.str "one", V.str "keep"] = true then _ else _
      rw [in_two, ← ech]
      cases hc : choosing R k with
      | false =>
        rw [hc] at es
        refine iteF ?_
        refine iteF ?_
        exact stepOn es
      | true =>
        rw [hc] at es
        refine iteT ?_
        refine ⟨_, rfl, _, rfl, _, rfl, c, R, As, j, k, rfl, hC, hT, hj, _, rfl, ?_⟩
        cases hb : Rm.li (hsOf R) j k with
        | false =>
          rw [hb] at es
          refine iteF ?_
          exact stepOn es
        | true =>
          rw [hb] at es
          refine iteT ?_
          have es' : scopeOf R i j = some k := es
          rw [es'] at q
          exact ⟨_, rfl, q⟩

/-! ### arrows -/
structure GoodA (R : List Room1) (a : Arrow) : Prop where
  src : ∃ s : Nat, a.1 = (s : Int) ∧ s < R.length
  evt : 0 ≤ a.2.1 ∧ a.2.1 ≤ 3
  grd : -1 ≤ a.2.2.1 ∧ a.2.2.1 < (R.length : Int)
  tgt : ∃ t : Nat, a.2.2.2.1 = (t : Int) ∧ t < R.length
  ded : 0 ≤ a.2.2.2.2 ∧ a.2.2.2.2 ≤ 99
  sc : ∃ p : Nat, scopeOf R a.1.toNat a.2.2.2.1.toNat = some p
theorem arrow_at {H : Hp} {qs : List Addr} {A : List Arrow} (h5 : Items H qs (A.map aV)) {i : Nat} (hi : i < A.length) : ∃ p, atI (qs.map V.ref) (i : Int) = some (.ref p) ∧ H p = some (.tup (aV A[i])) := by
  have er : (A.map aV)[i]? = some (aV A[i]) := by rw [List.getElem?_map, List.getElem?_eq_getElem hi]; rfl
  obtain ⟨p, hp, hp2⟩ := h5.at er
  exact ⟨p, atI_nat hp, hp2⟩
def spPart : Sp := fun vs H Q _ => ∃ (n : Int) (nm : Str) (p l m : Int), vs = [.int n, .str nm, .int p, .int l, .int m] ∧ l ≤ p ∧ p ≤ m ∧ Q .non H
theorem scPart : FnScope ["number", "name", "part", "least", "most"] ["number", "name", "part", "least", "most"] (defScope sPart) := ⟨rfl, rfl, rfl, by decide +kernel, rfl, by decide +kernel, by decide +kernel⟩
theorem ok_part {f : Addr} {fd : FuncData} (D : DefAt K mg "check_part" sPart ["number", "name", "part", "least", "most"] f fd) : FnOk P w K mg base CX0 1 f fd ["number", "name", "part", "least", "most"] spPart := by
  refine D.fn.ok scPart (fun vs H Q E h => ?_) (fun cdv A outer s H vs Q E hr h => ?_)
  · obtain ⟨n, nm, p, l, m, rfl, _⟩ := h
    rfl
  obtain ⟨n, nm, p, l, m, rfl, h1, h2, q⟩ := h
  refine ⟨_, pss_one (ps_if (pt_not (pt_chain op_le op_le (pv 3) (pv 2) (pv 4))) pss_never pss_nil), ?_⟩
  refine ⟨_, rfl, _, rfl, _, _, rfl, rfl, _, rfl, ?_⟩
  rw [decide_eq_true h1]
  refine iteT ?_
  refine ⟨_, rfl, _, _, rfl, rfl, _, rfl, ?_⟩
  rw [decide_eq_true h2]
  refine iteF ?_
  exact q
def spCheckArrow (C : Addr) : Sp := fun vs H Q _ => ∃ (c : Addr) (R : List Room1) (A : List Arrow) (i : Nat) (a : Arrow), vs = [.ref c, .int i] ∧ ChartAt C H c R A ∧ Good R ∧ A[i]? = some a ∧ GoodA R a ∧ Q .non H
theorem scCheckArrow : FnScope ["chart", "number", "arrow", "last_room"] ["chart", "number"] (defScope sCheckArrow) := ⟨rfl, rfl, rfl, by decide +kernel, rfl, by decide +kernel, by decide +kernel⟩
theorem ok_check_arrow {f C fp fs fl fw : Addr} {fd fdp fds fdl fdw : FuncData} (D : DefAt K mg "check_arrow" sCheckArrow ["chart", "number"] f fd) (T : Txt K mg C) (Dp : DefAt K mg "check_part" sPart ["number", "name", "part", "least", "most"] fp fdp)
    (Ds : DefAt K mg "scope" sScope ["chart", "source", "target"] fs fds) (Dl : DefAt K mg "lies_in" sLies ["chart", "room", "other"] fl fdl) (Dw : DefAt K mg "within" sWithin ["chart", "room", "other"] fw fdw) : FnOk P w K mg base CX0 4 f fd ["chart", "number"] (spCheckArrow C) := by
  have Gp : FnOk P w K mg base CX0 1 fp fdp ["number", "name", "part", "least", "most"] spPart := ok_part Dp
  have Gs : FnOk P w K mg base CX0 3 fs fds ["chart", "source", "target"] (spScope C) := ok_scope Ds T Dl Dw
  refine D.fn.ok scCheckArrow (fun vs H Q E h => ?_) (fun cdv A outer s H vs Q E hr h => ?_)
  · obtain ⟨c, R, As, i, a, rfl, _⟩ := h
    rfl
  obtain ⟨c, R, As, i, a, rfl, hC, hG, hia, hA, q⟩ := h
  have hr1 : Room 1 _ := hr.mono (by decide)
  refine ⟨_, pss_cons (ps_set (i := 2) scCheckArrow.nd rfl (Or.inl rfl) (pe_ix ix_list (pe_fld (pv 0) rfl) (pv 1) (fun _ _ => rfl)))
    (pss_cons (ps_set (i := 3) scCheckArrow.nd rfl (Or.inl rfl) (pe_op op_sub (pe_callB call_len_seq (by rfl) T.len PySem.boot_len (pa_cons (pe_fld (pv 0) rfl) pa_nil)) pe_int))
    (pss_cons (ps_expr (pe_call Gp hr1 rfl Dp.mg Dp.fn.kp Dp.bd .nil pass0 (pa_cons (pv 1) (pa_cons pe_str (pa_cons (pe_ix ix_tup (pv 2) (pe_gint T.src rfl) (fun _ _ => rfl)) (pa_cons pe_int (pa_cons (pv 3) pa_nil)))))))
    (pss_cons (ps_expr (pe_call Gp hr1 rfl Dp.mg Dp.fn.kp Dp.bd .nil pass0 (pa_cons (pv 1) (pa_cons pe_str (pa_cons (pe_ix ix_tup (pv 2) (pe_gint T.evt rfl) (fun _ _ => rfl)) (pa_cons pe_int (pa_cons (pe_gint T.lastE rfl) pa_nil)))))))
    (pss_cons (ps_expr (pe_call Gp hr1 rfl Dp.mg Dp.fn.kp Dp.bd .nil pass0 (pa_cons (pv 1) (pa_cons pe_str (pa_cons (pe_ix ix_tup (pv 2) (pe_gint T.grd rfl) (fun _ _ => rfl)) (pa_cons (pe_gint T.nil rfl) (pa_cons (pv 3) pa_nil)))))))
    (pss_cons (ps_expr (pe_call Gp hr1 rfl Dp.mg Dp.fn.kp Dp.bd .nil pass0 (pa_cons (pv 1) (pa_cons pe_str (pa_cons (pe_ix ix_tup (pv 2) (pe_gint T.tgt rfl) (fun _ _ => rfl)) (pa_cons pe_int (pa_cons (pv 3) pa_nil)))))))
    (pss_cons (ps_expr (pe_call Gp hr1 rfl Dp.mg Dp.fn.kp Dp.bd .nil pass0 (pa_cons (pv 1) (pa_cons pe_str (pa_cons (pe_ix ix_tup (pv 2) (pe_gint T.ded rfl) (fun _ _ => rfl)) (pa_cons pe_int (pa_cons (pe_gint T.lastD rfl) pa_nil)))))))
    (pss_one (ps_if (pt_cmp (pc_isN (pe_call Gs hr rfl Ds.mg Ds.fn.kp Ds.bd .nil pass0 (pa_cons (pv 0) (pa_cons (pe_ix ix_tup (pv 2) (pe_gint T.src rfl) (fun _ _ => rfl)) (pa_cons (pe_ix ix_tup (pv 2) (pe_gint T.tgt rfl) (fun _ _ => rfl)) pa_nil)))))) pss_never pss_nil)))))))), ?_⟩
  obtain ⟨hi, rfl⟩ := List.getElem?_eq_some_iff.mp hia
  obtain ⟨dx, l, m, ps, qs, h1, h2, h3, h4, h5⟩ := hC.ob
  obtain ⟨p, hp, hp2⟩ := arrow_at h5 hi
  have hl : (ps.map V.ref).length = R.length := by rw [List.length_map, h3.1, List.length_map]
  obtain ⟨sn, es, hs⟩ := hA.src
  obtain ⟨tn, et, ht⟩ := hA.tgt
  obtain ⟨g1, g2⟩ := hA.grd
  refine ⟨_, rfl, c, C, dx, _, _, rfl, h1, T.cl, T.nA, flds_arrows l m, _, rfl, m, _, _, _, rfl, rfl, SqL.of h4, hp, ?_⟩
  refine ⟨_, rfl, c, C, dx, _, _, rfl, h1, T.cl, T.nR, flds_rooms l m, l, _, rfl, .inl (SqL.of h2), _, _, rfl, rfl, ?_⟩
  rw [hl]
  refine ⟨_, rfl, _, rfl, p, _, _, _, rfl, rfl, SqT.of hp2, rfl, _, rfl, _, _, _, _, _, rfl, by rw [es]; omega, by rw [es]; omega, ?_⟩
  refine ⟨_, rfl, _, rfl, p, _, _, _, rfl, rfl, SqT.of hp2, rfl, _, _, _, _, _, rfl, hA.evt.1, hA.evt.2, ?_⟩
  refine ⟨_, rfl, _, rfl, p, _, _, _, rfl, rfl, SqT.of hp2, rfl, _, rfl, _, _, _, _, _, rfl, g1, by omega, ?_⟩
  refine ⟨_, rfl, _, rfl, p, _, _, _, rfl, rfl, SqT.of hp2, rfl, _, rfl, _, _, _, _, _, rfl, by rw [et]; omega, by rw [et]; omega, ?_⟩
  refine ⟨_, rfl, _, rfl, p, _, _, _, rfl, rfl, SqT.of hp2, rfl, _, _, _, _, _, rfl, hA.ded.1, hA.ded.2, ?_⟩
  refine ⟨_, rfl, _, rfl, p, _, _, _, rfl, rfl, SqT.of hp2, rfl, _, rfl, p, _, _, _, rfl, rfl, SqT.of hp2, rfl, c, R, As, sn, tn, (by rw [es, et]; rfl), hC, hG.tree, hs, ht, _, rfl, ?_⟩
  obtain ⟨pp, hsc⟩ := hA.sc
  rw [es, et, Int.toNat_natCast, Int.toNat_natCast] at hsc
  rw [hsc]
  refine iteF ?_
  exact q
def spCheckArrows (C : Addr) : Sp := fun vs H Q _ => ∃ (c : Addr) (R : List Room1) (A : List Arrow), vs = [.ref c] ∧ ChartAt C H c R A ∧ Good R ∧ A.length ≤ 20 ∧ (∀ a ∈ A, GoodA R a) ∧ Q .non H
theorem scCheckArrowsG : FnScope ["chart", "number"] ["chart"] (defScope sCheckArrows) := ⟨rfl, rfl, rfl, by decide +kernel, rfl, by decide +kernel, by decide +kernel⟩
theorem ok_check_arrows {f C fa : Addr} {fd fda : FuncData} (D : DefAt K mg "check_arrows" sCheckArrows ["chart"] f fd) (T : Txt K mg C) (Da : DefAt K mg "check_arrow" sCheckArrow ["chart", "number"] fa fda) (Ga : FnOk P w K mg base CX0 4 fa fda ["chart", "number"] (spCheckArrow C)) :
    FnOk P w K mg base CX0 5 f fd ["chart"] (spCheckArrows C) := by
  refine D.fn.ok scCheckArrowsG (fun vs H Q E h => ?_) (fun cdv A outer s H vs Q E hr h => ?_)
  · obtain ⟨c, R, As, rfl, _⟩ := h
    rfl
  obtain ⟨c, R, As, rfl, hC, hG, h20, hA, q⟩ := h
  refine ⟨_, pss_cons (ps_if (pt_cmpR op_gt (pe_callB call_len_seq (by rfl) T.len PySem.boot_len (pa_cons (pe_fld (pv 0) rfl) pa_nil)) (pe_gint T.mostA rfl) (nomark _)) pss_never pss_nil)
    (pss_one (ps_for PassesOwn.never rfl (pi_range1 rfl T.range (pa_cons (pe_callB call_len_seq (by rfl) T.len PySem.boot_len (pa_cons (pe_fld (pv 0) rfl) pa_nil)) pa_nil)) (pg_name (i := 1) scCheckArrowsG.nd rfl (Or.inl rfl))
      (pss_one (ps_expr (pe_call Ga hr rfl Da.mg Da.fn.kp Da.bd .nil pass0 (pa_cons (pv 0) (pa_cons (pv 1) pa_nil))))))), ?_⟩
  obtain ⟨dx, l, m, ps, qs, h1, h2, h3, h4, h5⟩ := hC.ob
  have hl : (qs.map V.ref).length = As.length := by rw [List.length_map, h5.1, List.length_map]
  refine ⟨_, rfl, c, C, dx, _, _, rfl, h1, T.cl, T.nA, flds_arrows l m, m, _, rfl, .inl (SqL.of h4), _, _, rfl, rfl, _, rfl, ?_⟩
  rw [hl, decide_eq_false (show ¬ (20 : Int) < (As.length : Int) by omega)]
  refine iteF ?_
  refine ⟨_, rfl, c, C, dx, _, _, rfl, h1, T.cl, T.nA, flds_arrows l m, m, _, rfl, .inl (SqL.of h4), _, rfl, by rw [hl]; omega, by rw [hl]; omega, ?_⟩
  rw [hl]
  refine for_range (fun i σ H1 => ∃ v, σ = [some (.ref c), v] ∧ H1 = H) ⟨_, rfl, rfl⟩ ?_ ?_
  · rintro i σ H1 hi ⟨v, rfl, rfl⟩
    have hi' : i < As.length := by omega
    have ei : (0 : Int) + (i : Int) = (i : Int) := by omega
    rw [ei]
    refine ⟨_, rfl, _, rfl, c, R, As, i, As[i], rfl, hC, hG, List.getElem?_eq_getElem hi', hA _ (List.getElem_mem hi'), ?_⟩
    exact ⟨_, rfl, rfl⟩
  · rintro σ H1 ⟨v, rfl, rfl⟩
    exact q
/-! ### Chart(rooms, arrows) -/
def spInit (C : Addr) : Sp := fun vs H Q _ => ∃ (c dx a b : Addr) (ps qs : List Addr) (R : List Room1) (As : List Arrow), vs = [.ref c, .ref a, .ref b] ∧ H c = some (.ins C dx []) ∧ H a = some (.lst (ps.map V.ref)) ∧ Items H ps (R.map rV) ∧ H b = some (.lst (qs.map V.ref)) ∧ Items H qs (As.map aV) ∧ Good R ∧ As.length ≤ 20 ∧ (∀ x ∈ As, GoodA R x) ∧
  ∀ H', (∀ x o, H x = some o → x ≠ c → H' x = some o) → (∀ H'', (∀ x o, H' x = some o → x ≠ a → x ≠ b → H'' x = some o) → ChartAt C H'' c R As) → Q .non H'
theorem scInitG : FnScope ["self", "rooms", "arrows"] ["self", "rooms", "arrows"] (defScope sInit) := ⟨rfl, rfl, rfl, by decide +kernel, rfl, by decide +kernel, by decide +kernel⟩
theorem ok_init {f C fr fa : Addr} {fd fdr fda : FuncData} (F : Fun K "__init__" "Chart.__init__" sInit f fd) (T : Txt K mg C) (Dr : DefAt K mg "check_rooms" sCheckRooms ["chart"] fr fdr) (Da : DefAt K mg "check_arrows" sCheckArrows ["chart"] fa fda)
    (Gr : FnOk P w K mg base CX0 3 fr fdr ["chart"] (spCheckRooms C)) (Ga : FnOk P w K mg base CX0 5 fa fda ["chart"] (spCheckArrows C)) : FnOk P w K mg base CX0 6 f fd ["self", "rooms", "arrows"] (spInit C) := by
  refine F.ok scInitG (fun vs H Q E h => ?_) (fun cdv A outer s H vs Q E hr h => ?_)
  · obtain ⟨c, dx, a, b, ps, qs, R, As, rfl, _⟩ := h
    rfl
  obtain ⟨c, dx, a, b, ps, qs, R, As, rfl, hc, ha, hI, hb, hJ, hG, h20, hA, q⟩ := h
  refine ⟨_, pss_cons (ps_fld (pv 0) (pe_callTy call_list_of (by rfl) T.list (by decide +kernel) (pa_cons (pv 1) pa_nil)) rfl)
    (pss_cons (ps_fld (pv 0) (pe_callTy call_list_of (by rfl) T.list (by decide +kernel) (pa_cons (pv 2) pa_nil)) rfl)
    (pss_cons (ps_expr (pe_call Gr (hr.mono (by decide)) rfl Dr.mg Dr.fn.kp Dr.bd .nil pass0 (pa_cons (pv 0) pa_nil)))
    (pss_one (ps_expr (pe_call Ga hr rfl Da.mg Da.fn.kp Da.bd .nil pass0 (pa_cons (pv 0) pa_nil)))))), ?_⟩
  refine ⟨_, rfl, a, _, rfl, .inl (SqL.of ha), fun l hl => ?_⟩
  have ncl : c ≠ l := ne_of_none hc hl
  refine ⟨_, rfl, c, C, dx, _, rfl, (by rw [upd_ne ncl]; exact hc), T.cl, T.nR, (by show 0 < 1000; decide), ?_⟩
  have nbl : b ≠ l := ne_of_none hb hl
  have nbc : b ≠ c := ne_of hb hc (by intro z; cases z)
  have nac : a ≠ c := ne_of ha hc (by intro z; cases z)
  have nal : a ≠ l := ne_of_none ha hl
  refine ⟨_, rfl, b, _, rfl, .inl (SqL.of (by rw [upd_ne nbc, upd_ne nbl]; exact hb)), fun m hm => ?_⟩
  have ncm : c ≠ m := ne_of_none upd_same hm
  have hm' : H m = Option.none := by
    have z := hm
    rw [upd_ne ncm.symm] at z
    by_cases e : m = l
    · rw [e, upd_same] at z; cases z
    · rw [upd_ne e] at z; exact z
  have nml : m ≠ l := fun e => by
    rw [e, upd_ne ncl.symm, upd_same] at hm
    cases hm
  refine ⟨_, rfl, c, C, dx, _, rfl, (by rw [upd_ne ncm]; exact upd_same), T.cl, T.nA, (by show 1 < 1000; decide), ?_⟩
  have keep : ∀ x o, H x = some o → x ≠ c → (upd (upd (upd (upd H l (.lst (ps.map V.ref))) c (.ins C dx (putF "rooms" (.ref l) []))) m (.lst (qs.map V.ref))) c (.ins C dx (putF "arrows" (.ref m) (putF "rooms" (.ref l) [])))) x = some o := fun x o e n => by
    rw [upd_ne n, upd_ne (ne_of_none e hm'), upd_ne n, upd_ne (ne_of_none e hl)]; exact e
  have hcl : (upd (upd (upd (upd H l (.lst (ps.map V.ref))) c (.ins C dx (putF "rooms" (.ref l) []))) m (.lst (qs.map V.ref))) c (.ins C dx (putF "arrows" (.ref m) (putF "rooms" (.ref l) [])))) l = some (.lst (ps.map V.ref)) := by
    rw [upd_ne ncl.symm, upd_ne nml.symm, upd_ne ncl.symm, upd_same]
  have hcm : (upd (upd (upd (upd H l (.lst (ps.map V.ref))) c (.ins C dx (putF "rooms" (.ref l) []))) m (.lst (qs.map V.ref))) c (.ins C dx (putF "arrows" (.ref m) (putF "rooms" (.ref l) [])))) m = some (.lst (qs.map V.ref)) := by
    rw [upd_ne ncm.symm, upd_same]
  have ntc : ∀ p o, H p = some (.tup o) → p ≠ c := fun p o e => ne_of e hc (by intro z; cases z)
  generalize hH2 : (upd (upd (upd (upd H l (.lst (ps.map V.ref))) c (.ins C dx (putF "rooms" (.ref l) []))) m (.lst (qs.map V.ref))) c (.ins C dx (putF "arrows" (.ref m) (putF "rooms" (.ref l) [])))) = H2 at keep hcl hcm ⊢
  have hcc : H2 c = some (.ins C dx (flds l m)) := by rw [← hH2]; exact upd_same
  have hI2 : Items H2 ps (R.map rV) := ⟨hI.1, fun i p o e1 e2 => keep _ _ (hI.2 i p o e1 e2) (ntc _ _ (hI.2 i p o e1 e2))⟩
  have hJ2 : Items H2 qs (As.map aV) := ⟨hJ.1, fun i p o e1 e2 => keep _ _ (hJ.2 i p o e1 e2) (ntc _ _ (hJ.2 i p o e1 e2))⟩
  have hC2 : ChartAt C H2 c R As := ⟨⟨dx, l, m, ps, qs, hcc, hcl, hI2, hcm, hJ2⟩, Nat.le_trans hG.most (by decide), by omega⟩
  refine ⟨_, rfl, c, R, As, rfl, hC2, hG, fun H3 s3 => ?_⟩
  refine ⟨_, rfl, c, R, As, rfl, hC2.same s3, hG, h20, hA, ?_⟩
  refine q H3 (fun x o e n => s3 _ _ (keep x o e n)) (fun H4 k4 => ?_)
  have nma : m ≠ a := fun e => by rw [e, ha] at hm'; cases hm'
  have nmb : m ≠ b := fun e => by rw [e, hb] at hm'; cases hm'
  have nta : ∀ p o, H p = some (.tup o) → p ≠ a := fun p o e => ne_of e ha (by intro z; cases z)
  have ntb : ∀ p o, H p = some (.tup o) → p ≠ b := fun p o e => ne_of e hb (by intro z; cases z)
  refine ⟨⟨dx, l, m, ps, qs, k4 _ _ (s3 _ _ hcc) nac.symm nbc.symm, k4 _ _ (s3 _ _ hcl) nal.symm nbl.symm, ⟨hI.1, fun i p o e1 e2 => k4 _ _ (s3 _ _ (hI2.2 i p o e1 e2)) (nta _ _ (hI.2 i p o e1 e2)) (ntb _ _ (hI.2 i p o e1 e2))⟩,
    k4 _ _ (s3 _ _ hcm) nma nmb, ⟨hJ.1, fun i p o e1 e2 => k4 _ _ (s3 _ _ (hJ2.2 i p o e1 e2)) (nta _ _ (hJ.2 i p o e1 e2)) (ntb _ _ (hJ.2 i p o e1 e2))⟩⟩, Nat.le_trans hG.most (by decide), by omega⟩

/-! ### entering -/
def kindAt (R : List Room1) (p : Nat) : Str := match R[p]? with
  | some r => r.2
  | Option.none => ""
theorem kindAt_get {R : List Room1} {p : Nat} (h : p < R.length) : kindAt R p = R[p].2 := by
  unfold kindAt; rw [List.getElem?_eq_getElem h]
theorem choosing_kind {R : List Room1} {p : Nat} (h : p < R.length) : choosing R p = decide (kindAt R p = "one" ∨ kindAt R p = "keep") := by
  rw [kindAt_get h]; unfold choosing; rw [List.getElem?_eq_getElem h]
def chOf (R : List Room1) (mem : List Int) (goal r : Nat) : List Nat :=
  if choosing R r = true then
    (if ((Rm.kidsN (hsOf R) r).filter fun p => Rm.wi (hsOf R) goal p) ≠ [] then (Rm.kidsN (hsOf R) r).filter fun p => Rm.wi (hsOf R) goal p
     else if kindAt R r = "keep" then [(mem.getD r (-1)).toNat] else [(Rm.kidsN (hsOf R) r).headD 0])
  else Rm.kidsN (hsOf R) r
structure MemOk (R : List Room1) (mem : List Int) : Prop where
  len : mem.length = R.length
  keep : ∀ r, r < R.length → kindAt R r = "keep" → ∃ k ∈ Rm.kidsN (hsOf R) r, mem.getD r (-1) = (k : Int)
theorem kids_some {R : List Room1} (hG : Good R) {r : Nat} (hr : r < R.length) (hc : choosing R r = true) : Rm.kidsN (hsOf R) r ≠ [] := by
  intro z
  have h1 := (hG.kind r R[r] (List.getElem?_eq_getElem hr)).2
  rw [Rm.kids_kidsN, z] at h1
  have h2 : R[r].2 = "plain" := h1.mpr rfl
  rw [choosing_kind hr, kindAt_get hr, h2] at hc
  exact absurd hc (by decide +kernel)
theorem head_mem {l : List Nat} (h : l ≠ []) : l.headD 0 ∈ l := by
  cases l with
  | nil => exact absurd rfl h
  | cons x r => exact List.mem_cons_self
theorem choosing_lt {R : List Room1} {r : Nat} (h : choosing R r = true) : r < R.length := by
  unfold choosing at h
  cases e : R[r]? with
  | none => rw [e] at h; cases h
  | some x => exact (List.getElem?_eq_some_iff.mp e).1
theorem chOf_pick {R : List Room1} {mem : List Int} (hG : Good R) (hM : MemOk R mem) (goal : Nat) : Rm.Pick (hsOf R) (chOf R mem goal) := by
  refine ⟨fun r c hc => ?_, fun r => ?_⟩
  · unfold chOf at hc
    by_cases h1 : choosing R r = true
    · rw [if_pos h1] at hc
      by_cases h2 : ((Rm.kidsN (hsOf R) r).filter fun p => Rm.wi (hsOf R) goal p) ≠ []
      · rw [if_pos h2] at hc; exact (List.mem_filter.mp hc).1
      · rw [if_neg h2] at hc
        by_cases h3 : kindAt R r = "keep"
        · rw [if_pos h3] at hc
          obtain ⟨k, hk, e⟩ := hM.keep r (choosing_lt h1) h3
          rw [List.mem_singleton.mp hc, e, Int.toNat_natCast]; exact hk
        · rw [if_neg h3] at hc
          rw [List.mem_singleton.mp hc]
          exact head_mem (kids_some hG (choosing_lt h1) h1)
    · rw [if_neg h1] at hc; exact hc
  · unfold chOf
    have n1 := Rm.kidsN_nodup (hsOf R) r
    by_cases h1 : choosing R r = true
    · rw [if_pos h1]
      by_cases h2 : ((Rm.kidsN (hsOf R) r).filter fun p => Rm.wi (hsOf R) goal p) ≠ []
      · rw [if_pos h2]; exact List.Pairwise.filter _ n1
      · rw [if_neg h2]
        by_cases h3 : kindAt R r = "keep"
        · rw [if_pos h3]; simp
        · rw [if_neg h3]; simp
    · rw [if_neg h1]; exact n1
theorem kids_len (R : List Room1) (r : Nat) : (Rm.kidsN (hsOf R) r).length ≤ R.length := by
  unfold Rm.kidsN
  rw [hsOf_len]
  have := List.length_filter_le (fun j => decide (Rm.hold (hsOf R) j = (r : Int))) (List.range R.length)
  rw [List.length_range] at this
  exact this
theorem kids_cV (hs : List Int) (r : Nat) : (Rm.kids hs (r : Int)).map V.int = cV (Rm.kidsN hs r) := rfl

/-! ### check_part, with its refusal -/
structure BadTxt (K : PySem.W.Frag) (mg : Str → Option Value) (CB : Addr) : Prop where
  mgB : mg "BadChart" = some (.ref CB)
  ex : PySem.W.excIn K CB bmV "ValueError.__new__" = true
def spPartX (CB : Addr) : Sp := fun vs H Q E => ∃ (n p lo hi : Int) (nm : Str), vs = [.int n, .str nm, .int p, .int lo, .int hi] ∧ nm.length ≤ 100 ∧ n.natAbs.log2 < 1920 ∧ lo.natAbs.log2 < 1920 ∧ hi.natAbs.log2 < 1920 ∧
  ((lo ≤ p ∧ p ≤ hi) → Q .non H) ∧ (¬ (lo ≤ p ∧ p ≤ hi) → E (.ref CB) Option.none H)
theorem scPartX : FnScope ["number", "name", "part", "least", "most"] ["number", "name", "part", "least", "most"] (defScope sPart) := ⟨rfl, rfl, rfl, by decide +kernel, rfl, by decide +kernel, by decide +kernel⟩
theorem ok_partX {f CB : Addr} {fd : FuncData} (D : DefAt K mg "check_part" sPart ["number", "name", "part", "least", "most"] f fd) (B : BadTxt K mg CB) : FnOk P w K mg base (CXE P w) 1 f fd ["number", "name", "part", "least", "most"] (spPartX CB) := by
  refine D.fn.okX scPartX (fun vs H Q E h => ?_) (fun cdv A outer s H vs Q E hr h => ?_)
  · obtain ⟨n, p, lo, hi, nm, rfl, _⟩ := h
    rfl
  obtain ⟨n, p, lo, hi, nm, rfl, hnm, hn, hlo, hhi, q1, q2⟩ := h
  refine ⟨_, pss_one (ps_if (pt_not (pt_chain op_le op_le (pv 3) (pv 2) (pv 4)))
    (pss_one (ps_raise (E := E) wants_out rfl rfl B.mgB B.ex (pa_cons (pe_fstr (pfs_cons pf_text (pfs_cons (pf_str (pv 1)) (pfs_cons pf_text (pfs_cons (pf_int (pv 0)) (pfs_cons pf_text (pfs_cons (pf_int (pv 3)) (pfs_cons pf_text (pfs_cons (pf_int (pv 4)) pfs_nil))))))))) pa_nil))) pss_nil), ?_⟩
  refine ⟨_, rfl, _, rfl, lo, p, rfl, rfl, _, rfl, ?_⟩
  have fs : True ∧ (tVar 1 (start ["number", "name", "part", "least", "most"] [V.int n, V.str nm, V.int p, V.int lo, V.int hi]) H fun v H' => ∃ x : Str, v = V.str x ∧ H' = H ∧ x.length ≤ 3000) := ⟨trivial, _, rfl, nm, rfl, rfl, by omega⟩
  by_cases h1 : lo ≤ p
  · rw [decide_eq_true h1]
    refine iteT ?_
    refine ⟨_, rfl, _, _, rfl, rfl, _, rfl, ?_⟩
    by_cases h2 : p ≤ hi
    · rw [decide_eq_true h2]
      refine iteF ?_
      exact q1 ⟨h1, h2⟩
    · rw [decide_eq_false h2]
      refine iteT ?_
      exact ⟨⟨trivial, fs.2, trivial, ⟨_, rfl, n, rfl, rfl, hn⟩, trivial, ⟨_, rfl, lo, rfl, rfl, hlo⟩, trivial, ⟨_, rfl, hi, rfl, rfl, hhi⟩, trivial⟩, fun y => ⟨by show 1 ≤ 100; decide, q2 fun z => h2 z.2⟩⟩
  · rw [decide_eq_false h1]
    refine iteF ?_
    refine ⟨_, rfl, ?_⟩
    refine iteT ?_
    exact ⟨⟨trivial, fs.2, trivial, ⟨_, rfl, n, rfl, rfl, hn⟩, trivial, ⟨_, rfl, lo, rfl, rfl, hlo⟩, trivial, ⟨_, rfl, hi, rfl, rfl, hhi⟩, trivial⟩, fun y => ⟨by show 1 ≤ 100; decide, q2 fun z => h1 z.1⟩⟩

/-! ### check_holder, with its refusals -/
def okHold (R : List Room1) (i : Nat) : Prop := if i = 0 then Rm.hold (hsOf R) i = -1 else 0 ≤ Rm.hold (hsOf R) i ∧ Rm.hold (hsOf R) i < (i : Int)
def spHoldX (C CB : Addr) : Sp := fun vs H Q E => ∃ (c : Addr) (R : List Room1) (A : List Arrow) (i : Nat), vs = [.ref c, .int i] ∧ ChartAt C H c R A ∧ i < R.length ∧ (okHold R i → Q .non H) ∧ (¬ okHold R i → E (.ref CB) Option.none H)
theorem scHoldX : FnScope ["chart", "room", "holder"] ["chart", "room"] (defScope sCheckHolder) := ⟨rfl, rfl, rfl, by decide +kernel, rfl, by decide +kernel, by decide +kernel⟩
theorem small_log {i : Nat} (h : i ≤ 100) : (i : Int).natAbs.log2 < 1920 := by
  have e : (i : Int).natAbs = i := Int.natAbs_natCast i
  rw [e]
  have := Nat.log2_lt (n := i) (k := 1920)
  by_cases z : i = 0
  · subst z; decide
  · exact (Nat.log2_lt z).mpr (Nat.lt_of_le_of_lt h (by decide +kernel))
theorem ok_holdX {f C CB : Addr} {fd : FuncData} (D : DefAt K mg "check_holder" sCheckHolder ["chart", "room"] f fd) (T : Txt K mg C) (B : BadTxt K mg CB) : FnOk P w K mg base (CXE P w) 1 f fd ["chart", "room"] (spHoldX C CB) := by
  refine D.fn.okX scHoldX (fun vs H Q E h => ?_) (fun cdv A outer s H vs Q E hr h => ?_)
  · obtain ⟨c, R, As, i, rfl, _⟩ := h
    rfl
  obtain ⟨c, R, As, i, rfl, hC, hi, q1, q2⟩ := h
  refine ⟨_, pss_cons (ps_set (i := 2) scHoldX.nd rfl (Or.inl rfl) (pe_ix ix_tup (pe_ix ix_list (pe_fld (pv 0) rfl) (pv 1) (fun _ _ => rfl)) (pe_gint T.hold rfl) (fun _ _ => rfl)))
    (pss_cons (ps_if (pt_cmpR op_eq (pv 1) pe_int (nomark _))
      (pss_cons (ps_if (pt_cmpR op_ne (pv 2) (pe_gint T.nil rfl) (nomark _)) (pss_one (ps_raise (E := E) wants_out rfl rfl B.mgB B.ex (pa_cons (pe_fstr (pfs_cons pf_text (pfs_cons (pf_int (pe_gint T.nil rfl)) pfs_nil))) pa_nil))) pss_nil) (pss_one ps_retN)) pss_nil)
    (pss_one (ps_if (pt_not (pt_chain op_le op_lt pe_int (pv 2) (pv 1))) (pss_one (ps_raise (E := E) wants_out rfl rfl B.mgB B.ex (pa_cons (pe_fstr (pfs_cons pf_text (pfs_cons (pf_int (pv 1)) (pfs_cons pf_text pfs_nil)))) pa_nil))) pss_nil))), ?_⟩
  obtain ⟨dx, l, m, ps, qs, h1, h2, h3, h4, h5⟩ := hC.ob
  obtain ⟨p, hp, hp2⟩ := room_at h3 hi
  have eh : Rm.hold (hsOf R) i = R[i].1 := hsOf_get (List.getElem?_eq_getElem hi)
  have hil : (i : Int).natAbs.log2 < 1920 := small_log (Nat.le_trans (Nat.le_of_lt hi) hC.rl)
  unfold okHold at q1 q2
  rw [eh] at q1 q2
  refine ⟨_, rfl, c, C, dx, _, _, rfl, h1, T.cl, T.nR, flds_rooms l m, _, rfl, l, _, _, _, rfl, rfl, SqL.of h2, hp, p, _, _, _, rfl, rfl, SqT.of hp2, rfl, ?_⟩
  refine ⟨_, rfl, rfl, _, rfl, ?_⟩
  refine ite2 (fun z => ?_) (fun z => ?_)
  · have z' : i = 0 := by
      have : (i : Int) = 0 := by simpa using z
      omega
    rw [if_pos z'] at q1 q2
    refine ⟨_, rfl, rfl, _, rfl, ?_⟩
    by_cases e0 : R[i].1 = -1
    · refine iteNS (show V.int R[i].1 = V.int (-1) by rw [e0]) ?_
      exact q1 e0
    · rw [decide_eq_false (show ¬ V.int R[i].1 = V.int (-1) from fun y => e0 (by injection y))]
      refine iteT ?_
      exact ⟨⟨trivial, ⟨-1, rfl, rfl, by decide +kernel⟩, trivial⟩, fun y => ⟨by show 1 ≤ 100; decide, q2 e0⟩⟩
  · have z' : ¬ i = 0 := fun y => z (by rw [y]; rfl)
    rw [if_neg z'] at q1 q2
    refine ⟨_, rfl, _, _, rfl, rfl, _, rfl, ?_⟩
    have rz : ∀ {D σ}, σ[1]? = some (some (V.int i)) → ¬ (0 ≤ R[i].1 ∧ R[i].1 < (i : Int)) → tRaise CB E (tCons (tF fun σ H => True ∧ (tVar 1 σ H fun v H' => ∃ i : Int, v = .int i ∧ H' = H ∧ i.natAbs.log2 < 1920) ∧ True ∧ True) tNil) D σ H :=
      fun hs y => ⟨⟨trivial, ⟨_, hs, i, rfl, rfl, hil⟩, trivial, trivial⟩, fun y' => ⟨by show 1 ≤ 100; decide, q2 y⟩⟩
    by_cases a1 : 0 ≤ R[i].1
    · rw [decide_eq_true a1]
      refine iteT ?_
      refine ⟨_, rfl, _, _, rfl, rfl, _, rfl, ?_⟩
      by_cases a2 : R[i].1 < (i : Int)
      · rw [decide_eq_true a2]
        refine iteF ?_
        exact q1 ⟨a1, a2⟩
      · rw [decide_eq_false a2]
        refine iteT ?_
        exact rz rfl fun y => a2 y.2
    · rw [decide_eq_false a1]
      refine iteF ?_
      refine ⟨_, rfl, ?_⟩
      refine iteT ?_
      exact rz rfl fun y => a1 y.1

/-! ### check_kind, with its refusals -/
def okKind (R : List Room1) (i : Nat) : Prop := (kindAt R i = "plain" ∨ kindAt R i = "one" ∨ kindAt R i = "all" ∨ kindAt R i = "keep") ∧ (kindAt R i = "plain" ↔ Rm.kids (hsOf R) i = [])
def spKindX (C CB : Addr) : Sp := fun vs H Q E => ∃ (c : Addr) (R : List Room1) (A : List Arrow) (i : Nat), vs = [.ref c, .int i] ∧ ChartAt C H c R A ∧ i < R.length ∧ (PySem.reprText (kindAt R i)).length ≤ 3000 ∧
  ∀ H', Same H H' → (okKind R i → Q .non H') ∧ (¬ okKind R i → E (.ref CB) Option.none H')
theorem scKindX : FnScope ["chart", "room", "kind", "inner"] ["chart", "room"] (defScope sCheckKind) := ⟨rfl, rfl, rfl, by decide +kernel, rfl, by decide +kernel, by decide +kernel⟩
theorem not_kinds {x : Str} (h : ¬ (x = "plain" ∨ x = "one" ∨ x = "all" ∨ x = "keep")) : inV (.str x) [.str "plain", .str "one", .str "all", .str "keep"] = false := by
  show ((("plain" : Str) == x) || ((("one" : Str) == x) || ((("all" : Str) == x) || ((("keep" : Str) == x) || false)))) = false
  have e1 : (("plain" : Str) == x) = false := beq_eq_false_iff_ne.mpr fun z => h (.inl z.symm)
  have e2 : (("one" : Str) == x) = false := beq_eq_false_iff_ne.mpr fun z => h (.inr (.inl z.symm))
  have e3 : (("all" : Str) == x) = false := beq_eq_false_iff_ne.mpr fun z => h (.inr (.inr (.inl z.symm)))
  have e4 : (("keep" : Str) == x) = false := beq_eq_false_iff_ne.mpr fun z => h (.inr (.inr (.inr z.symm)))
  rw [e1, e2, e3, e4]; rfl
theorem ok_kindX {f C CB fc : Addr} {fd fdc : FuncData} (D : DefAt K mg "check_kind" sCheckKind ["chart", "room"] f fd) (T : Txt K mg C) (B : BadTxt K mg CB) (Dc : DefAt K mg "children" sChildren ["chart", "room"] fc fdc) : FnOk P w K mg base (CXE P w) 2 f fd ["chart", "room"] (spKindX C CB) := by
  have Gc : FnOk P w K mg base CX0 1 fc fdc ["chart", "room"] (spChildren C) := ok_children Dc T
  refine D.fn.okX scKindX (fun vs H Q E h => ?_) (fun cdv A outer s H vs Q E hr h => ?_)
  · obtain ⟨c, R, As, i, rfl, _⟩ := h
    rfl
  obtain ⟨c, R, As, i, rfl, hC, hi, hrep, q⟩ := h
  obtain ⟨aK, hK, sK⟩ := T.kinds
  refine ⟨_, pss_cons (ps_set (i := 2) scKindX.nd rfl (Or.inl rfl) (pe_ix ix_tup (pe_ix ix_list (pe_fld (pv 0) rfl) (pv 1) (fun _ _ => rfl)) (pe_gint T.kind rfl) (fun _ _ => rfl)))
    (pss_cons (ps_if (pt_cmpR op_notIn_seq (pv 2) (pe_glob rfl hK (v := .ref aK) rfl) (by with_unfolding_all rfl)) (pss_one (ps_raise (E := E) wants_out rfl rfl B.mgB B.ex (pa_cons (pe_fstr (pfs_cons pf_text (pfs_cons (pf_int (pv 1)) (pfs_cons pf_text (pfs_cons (pf_repr (pv 2)) pfs_nil))))) pa_nil))) pss_nil)
    (pss_cons (ps_set (i := 3) scKindX.nd rfl (Or.inl rfl) (pe_call Gc hr rfl Dc.mg Dc.fn.kp Dc.bd .nil pass0 (pa_cons (pv 0) (pa_cons (pv 1) pa_nil))))
    (pss_cons (ps_if (PW.pt (pw_and (pt_cmpR op_eq (pv 2) pe_str (nomark _)) (pw_and1 (pt_cmpR op_gt (pe_callB call_len_seq (by rfl) T.len PySem.boot_len (pa_cons (pv 3) pa_nil)) pe_int (nomark _))))) (pss_one (ps_raise (E := E) wants_out rfl rfl B.mgB B.ex (pa_cons (pe_fstr (pfs_cons pf_text (pfs_cons (pf_int (pv 1)) (pfs_cons pf_text pfs_nil)))) pa_nil))) pss_nil)
    (pss_one (ps_if (PW.pt (pw_and (pt_cmpR op_ne (pv 2) pe_str (nomark _)) (pw_and1 (pt_cmpR op_eq (pe_callB call_len_seq (by rfl) T.len PySem.boot_len (pa_cons (pv 3) pa_nil)) pe_int (nomark _))))) (pss_one (ps_raise (E := E) wants_out rfl rfl B.mgB B.ex (pa_cons (pe_fstr (pfs_cons pf_text (pfs_cons (pf_int (pv 1)) (pfs_cons pf_text pfs_nil)))) pa_nil))) pss_nil))))), ?_⟩
  obtain ⟨dx, l, m, ps, qs, h1, h2, h3, h4, h5⟩ := hC.ob
  obtain ⟨p, hp, hp2⟩ := room_at h3 hi
  have hil : (i : Int).natAbs.log2 < 1920 := small_log (Nat.le_trans (Nat.le_of_lt hi) hC.rl)
  unfold okKind at q
  rw [kindAt_get hi] at q hrep
  have one : (1 : Nat) ≤ 100 := by decide
  refine ⟨_, rfl, c, C, dx, _, _, rfl, h1, T.cl, T.nR, flds_rooms l m, _, rfl, l, _, _, _, rfl, rfl, SqL.of h2, hp, p, _, _, _, rfl, rfl, SqT.of hp2, rfl, ?_⟩
  refine ⟨_, rfl, aK, _, rfl, .inr (sK _), rfl, by decide +kernel, _, rfl, ?_⟩
  by_cases hk1 : R[i].2 = "plain" ∨ R[i].2 = "one" ∨ R[i].2 = "all" ∨ R[i].2 = "keep"
  · rw [if_pos rfl, in_kinds hk1]
    refine iteF ?_
    refine ⟨_, rfl, _, rfl, c, R, As, i, rfl, hC, fun d H1 hd s1 e1 => ?_⟩
    obtain ⟨q1, q2⟩ := q H1 s1
    refine ⟨_, rfl, rfl, _, rfl, ?_⟩
    have rz : ∀ {D σ}, σ[1]? = some (some (V.int i)) → ¬ (R[i].2 = "plain" ↔ Rm.kids (hsOf R) i = []) → tRaise CB E (tCons (tF fun σ H => True ∧ (tVar 1 σ H fun v H' => ∃ i : Int, v = .int i ∧ H' = H ∧ i.natAbs.log2 < 1920) ∧ True ∧ True) tNil) D σ H1 :=
      fun hs y => ⟨⟨trivial, ⟨_, hs, i, rfl, rfl, hil⟩, trivial, trivial⟩, fun y' => ⟨one, q2 fun z => y z.2⟩⟩
    by_cases hpl : R[i].2 = "plain"
    · rw [decide_eq_true (show V.str R[i].2 = V.str "plain" by rw [hpl])]
      refine iteT ?_
      refine ⟨_, rfl, d, _, rfl, .inl (SqL.of e1), _, _, rfl, rfl, _, rfl, ?_⟩
      by_cases e0 : Rm.kids (hsOf R) i = []
      · rw [e0]
        refine iteF ?_
        refine ⟨_, rfl, rfl, _, rfl, ?_⟩
        rw [decide_eq_true (show V.str R[i].2 = V.str "plain" by rw [hpl])]
        refine iteF ?_
        refine iteF ?_
        exact q1 ⟨hk1, fun _ => e0, fun _ => hpl⟩
      · have pos : (0 : Int) < (((Rm.kids (hsOf R) i).map V.int).length : Int) := by
          rw [List.length_map]
          have := List.length_pos_iff.mpr e0
          omega
        rw [decide_eq_true pos]
        refine iteT ?_
        exact rz rfl fun z => e0 (z.mp hpl)
    · have ne : ¬ V.str R[i].2 = V.str "plain" := fun z => hpl (by injection z)
      rw [decide_eq_false ne]
      refine iteF ?_
      refine iteF ?_
      refine ⟨_, rfl, rfl, _, rfl, ?_⟩
      rw [decide_eq_false ne]
      refine iteT ?_
      refine ⟨_, rfl, d, _, rfl, .inl (SqL.of e1), rfl, _, rfl, ?_⟩
      by_cases e0 : Rm.kids (hsOf R) i = []
      · rw [e0]
        refine iteT ?_
        exact rz rfl fun z => hpl (z.mpr e0)
      · have nz : ¬ V.int (((Rm.kids (hsOf R) i).map V.int).length : Int) = V.int 0 := fun z => by
          injection z with z
          rw [List.length_map] at z
          exact e0 (List.length_eq_zero_iff.mp (by omega))
        rw [decide_eq_false nz]
        refine iteF ?_
        exact q1 ⟨hk1, fun z => absurd z hpl, fun z => absurd z e0⟩
  · rw [if_pos rfl, not_kinds hk1]
    refine iteT ?_
    exact ⟨⟨trivial, ⟨_, rfl, i, rfl, rfl, hil⟩, trivial, ⟨_, rfl, _, rfl, rfl, hrep⟩, trivial⟩, fun y => ⟨one, (q H (Same.refl H)).2 fun z => hk1 z.1⟩⟩

/-! ### check_rooms, with its refusals -/
def okRooms (R : List Room1) : Prop := (1 ≤ R.length ∧ R.length ≤ 16) ∧ ∀ i, i < R.length → okHold R i ∧ okKind R i
def spRoomsX (C CB : Addr) : Sp := fun vs H Q E => ∃ (c : Addr) (R : List Room1) (A : List Arrow), vs = [.ref c] ∧ ChartAt C H c R A ∧ (∀ i, i < R.length → (PySem.reprText (kindAt R i)).length ≤ 3000) ∧
  ∀ H', Same H H' → (okRooms R → Q .non H') ∧ (¬ okRooms R → E (.ref CB) Option.none H')
theorem scRoomsX : FnScope ["chart", "room"] ["chart"] (defScope sCheckRooms) := ⟨rfl, rfl, rfl, by decide +kernel, rfl, by decide +kernel, by decide +kernel⟩
theorem ok_roomsX {f C CB fc fh fk : Addr} {fd fdc fdh fdk : FuncData} (D : DefAt K mg "check_rooms" sCheckRooms ["chart"] f fd) (T : Txt K mg C) (B : BadTxt K mg CB) (Dc : DefAt K mg "children" sChildren ["chart", "room"] fc fdc)
    (Dh : DefAt K mg "check_holder" sCheckHolder ["chart", "room"] fh fdh) (Dk : DefAt K mg "check_kind" sCheckKind ["chart", "room"] fk fdk) : FnOk P w K mg base (CXE P w) 3 f fd ["chart"] (spRoomsX C CB) := by
  have Gh : FnOk P w K mg base (CXE P w) 1 fh fdh ["chart", "room"] (spHoldX C CB) := ok_holdX Dh T B
  have Gk : FnOk P w K mg base (CXE P w) 2 fk fdk ["chart", "room"] (spKindX C CB) := ok_kindX Dk T B Dc
  refine D.fn.okX scRoomsX (fun vs H Q E h => ?_) (fun cdv A outer s H vs Q E hr h => ?_)
  · obtain ⟨c, R, As, rfl, _⟩ := h
    rfl
  obtain ⟨c, R, As, rfl, hC, hrep, q⟩ := h
  refine ⟨_, pss_cons (ps_if (pt_not (pt_chain op_le op_le pe_int (pe_callB call_len_seq (by rfl) T.len PySem.boot_len (pa_cons (pe_fld (pv 0) rfl) pa_nil)) (pe_gint T.mostR rfl))) (pss_one (ps_raise (E := E) wants_out rfl rfl B.mgB B.ex (pa_cons (pe_fstr (pfs_cons pf_text (pfs_cons (pf_int (pe_gint T.mostR rfl)) (pfs_cons pf_text pfs_nil)))) pa_nil))) pss_nil)
    (pss_one (ps_for passes_own0 rfl (pi_range1 rfl T.range (pa_cons (pe_callB call_len_seq (by rfl) T.len PySem.boot_len (pa_cons (pe_fld (pv 0) rfl) pa_nil)) pa_nil)) (pg_name (i := 1) scRoomsX.nd rfl (Or.inl rfl))
      (pss_cons (ps_expr (pe_call Gh (hr.mono (by decide)) rfl Dh.mg Dh.fn.kp Dh.bd .nil passes_on (pa_cons (pv 0) (pa_cons (pv 1) pa_nil))))
      (pss_one (ps_expr (pe_call Gk hr rfl Dk.mg Dk.fn.kp Dk.bd .nil passes_on (pa_cons (pv 0) (pa_cons (pv 1) pa_nil)))))))), ?_⟩
  obtain ⟨dx, l, m, ps, qs, h1, h2, h3, h4, h5⟩ := hC.ob
  have hl : (ps.map V.ref).length = R.length := by rw [List.length_map, h3.1, List.length_map]
  have rz : ∀ {D σ}, ¬ okRooms R → tRaise CB E (tCons (tF fun σ H => True ∧ tC (.int 16) σ H (fun v H' => ∃ i : Int, v = .int i ∧ H' = H ∧ i.natAbs.log2 < 1920) ∧ True ∧ True) tNil) D σ H :=
    fun y => ⟨⟨trivial, ⟨16, rfl, rfl, by decide +kernel⟩, trivial, trivial⟩, fun y' => ⟨by show 1 ≤ 100; decide, (q H (Same.refl H)).2 y⟩⟩
  refine ⟨_, rfl, c, C, dx, _, _, rfl, h1, T.cl, T.nR, flds_rooms l m, l, _, rfl, .inl (SqL.of h2), _, _, rfl, rfl, _, rfl, ?_⟩
  by_cases a1 : (1 : Int) ≤ (R.length : Int)
  · rw [hl, decide_eq_true a1]
    refine iteT ?_
    refine ⟨_, _, rfl, rfl, _, rfl, ?_⟩
    by_cases a2 : (R.length : Int) ≤ (16 : Int)
    · rw [decide_eq_true a2]
      refine iteF ?_
      refine ⟨_, rfl, c, C, dx, _, _, rfl, h1, T.cl, T.nR, flds_rooms l m, l, _, rfl, .inl (SqL.of h2), _, rfl, by rw [hl]; omega, by rw [hl]; omega, ?_⟩
      rw [hl]
      refine for_range (fun i σ H1 => ∃ v, σ = [some (.ref c), v] ∧ Same H H1 ∧ ∀ j, j < i → okHold R j ∧ okKind R j) ⟨_, rfl, Same.refl H, fun j hj => absurd hj (Nat.not_lt_zero j)⟩ ?_ ?_
      · rintro i σ H1 hi ⟨v, rfl, (s1 : Same _ _), hok⟩
        have hi' : i < R.length := by omega
        have ei : (0 : Int) + (i : Int) = (i : Int) := by omega
        rw [ei]
        refine ⟨_, rfl, _, rfl, c, R, As, i, rfl, hC.same s1, hi', fun k1 => ?_, fun k1 => (q H1 s1).2 fun z => k1 (z.2 i hi').1⟩
        refine ⟨_, rfl, _, rfl, c, R, As, i, rfl, hC.same s1, hi', hrep i hi', fun H3 s3 => ⟨fun k2 => ?_, fun k2 => (q H3 (s1.trans s3)).2 fun z => k2 (z.2 i hi').2⟩⟩
        refine ⟨_, rfl, s1.trans s3, fun j hj => ?_⟩
        by_cases z : j = i
        · subst z; exact ⟨k1, k2⟩
        · exact hok j (by omega)
      · rintro σ H1 ⟨v, rfl, (s1 : Same _ _), hok⟩
        exact (q H1 s1).1 ⟨⟨by omega, by omega⟩, fun i hi => hok i (by omega)⟩
    · rw [decide_eq_false a2]
      refine iteT ?_
      exact rz fun z => a2 (by have := z.1.2; omega)
  · rw [hl, decide_eq_false a1]
    refine iteF ?_
    refine ⟨_, rfl, ?_⟩
    refine iteT ?_
    exact rz fun z => a1 (by have := z.1.1; omega)

/-! ### check_arrow and check_arrows, with their refusals -/
def spArrowX (C CB : Addr) : Sp := fun vs H Q E => ∃ (c : Addr) (R : List Room1) (A : List Arrow) (i : Nat) (a : Arrow), vs = [.ref c, .int i] ∧ ChartAt C H c R A ∧ Good R ∧ A[i]? = some a ∧ (GoodA R a → Q .non H) ∧ (¬ GoodA R a → E (.ref CB) Option.none H)
theorem scArrowX : FnScope ["chart", "number", "arrow", "last_room"] ["chart", "number"] (defScope sCheckArrow) := ⟨rfl, rfl, rfl, by decide +kernel, rfl, by decide +kernel, by decide +kernel⟩
theorem ok_arrowX {f C CB fp fs fl fw : Addr} {fd fdp fds fdl fdw : FuncData} (D : DefAt K mg "check_arrow" sCheckArrow ["chart", "number"] f fd) (T : Txt K mg C) (B : BadTxt K mg CB) (Dp : DefAt K mg "check_part" sPart ["number", "name", "part", "least", "most"] fp fdp)
    (Ds : DefAt K mg "scope" sScope ["chart", "source", "target"] fs fds) (Dl : DefAt K mg "lies_in" sLies ["chart", "room", "other"] fl fdl) (Dw : DefAt K mg "within" sWithin ["chart", "room", "other"] fw fdw) : FnOk P w K mg base (CXE P w) 4 f fd ["chart", "number"] (spArrowX C CB) := by
  have Gp : FnOk P w K mg base (CXE P w) 1 fp fdp ["number", "name", "part", "least", "most"] (spPartX CB) := ok_partX Dp B
  have Gs : FnOk P w K mg base CX0 3 fs fds ["chart", "source", "target"] (spScope C) := ok_scope Ds T Dl Dw
  refine D.fn.okX scArrowX (fun vs H Q E h => ?_) (fun cdv A outer s H vs Q E hr h => ?_)
  · obtain ⟨c, R, As, i, a, rfl, _⟩ := h
    rfl
  obtain ⟨c, R, As, i, a, rfl, hC, hG, hia, q1, q2⟩ := h
  have hr1 : Room 1 _ := hr.mono (by decide)
  refine ⟨_, pss_cons (ps_set (i := 2) scArrowX.nd rfl (Or.inl rfl) (pe_ix ix_list (pe_fld (pv 0) rfl) (pv 1) (fun _ _ => rfl)))
    (pss_cons (ps_set (i := 3) scArrowX.nd rfl (Or.inl rfl) (pe_op op_sub (pe_callB call_len_seq (by rfl) T.len PySem.boot_len (pa_cons (pe_fld (pv 0) rfl) pa_nil)) pe_int))
    (pss_cons (ps_expr (pe_call Gp hr1 rfl Dp.mg Dp.fn.kp Dp.bd .nil passes_on (pa_cons (pv 1) (pa_cons pe_str (pa_cons (pe_ix ix_tup (pv 2) (pe_gint T.src rfl) (fun _ _ => rfl)) (pa_cons pe_int (pa_cons (pv 3) pa_nil)))))))
    (pss_cons (ps_expr (pe_call Gp hr1 rfl Dp.mg Dp.fn.kp Dp.bd .nil passes_on (pa_cons (pv 1) (pa_cons pe_str (pa_cons (pe_ix ix_tup (pv 2) (pe_gint T.evt rfl) (fun _ _ => rfl)) (pa_cons pe_int (pa_cons (pe_gint T.lastE rfl) pa_nil)))))))
    (pss_cons (ps_expr (pe_call Gp hr1 rfl Dp.mg Dp.fn.kp Dp.bd .nil passes_on (pa_cons (pv 1) (pa_cons pe_str (pa_cons (pe_ix ix_tup (pv 2) (pe_gint T.grd rfl) (fun _ _ => rfl)) (pa_cons (pe_gint T.nil rfl) (pa_cons (pv 3) pa_nil)))))))
    (pss_cons (ps_expr (pe_call Gp hr1 rfl Dp.mg Dp.fn.kp Dp.bd .nil passes_on (pa_cons (pv 1) (pa_cons pe_str (pa_cons (pe_ix ix_tup (pv 2) (pe_gint T.tgt rfl) (fun _ _ => rfl)) (pa_cons pe_int (pa_cons (pv 3) pa_nil)))))))
    (pss_cons (ps_expr (pe_call Gp hr1 rfl Dp.mg Dp.fn.kp Dp.bd .nil passes_on (pa_cons (pv 1) (pa_cons pe_str (pa_cons (pe_ix ix_tup (pv 2) (pe_gint T.ded rfl) (fun _ _ => rfl)) (pa_cons pe_int (pa_cons (pe_gint T.lastD rfl) pa_nil)))))))
    (pss_one (ps_if (pt_cmp (pc_isN (pe_call Gs hr rfl Ds.mg Ds.fn.kp Ds.bd .nil pass0 (pa_cons (pv 0) (pa_cons (pe_ix ix_tup (pv 2) (pe_gint T.src rfl) (fun _ _ => rfl)) (pa_cons (pe_ix ix_tup (pv 2) (pe_gint T.tgt rfl) (fun _ _ => rfl)) pa_nil)))))) (pss_one (ps_raise (E := E) wants_out rfl rfl B.mgB B.ex (pa_cons (pe_fstr (pfs_cons pf_text (pfs_cons (pf_int (pv 1)) (pfs_cons pf_text pfs_nil)))) pa_nil))) pss_nil)))))))), ?_⟩
  obtain ⟨hi, rfl⟩ := List.getElem?_eq_some_iff.mp hia
  obtain ⟨dx, l, m, ps, qs, h1, h2, h3, h4, h5⟩ := hC.ob
  obtain ⟨p, hp, hp2⟩ := arrow_at h5 hi
  have hl : (ps.map V.ref).length = R.length := by rw [List.length_map, h3.1, List.length_map]
  have hmost := hG.most
  have hil : (i : Int).natAbs.log2 < 1920 := small_log (Nat.le_trans (Nat.le_of_lt hi) hC.al)
  have hpos := hG.tree.pos
  rw [hsOf_len] at hpos
  have hrl : ((R.length : Int) - 1).natAbs.log2 < 1920 := by
    have e : ((R.length : Int) - 1) = ((R.length - 1 : Nat) : Int) := by omega
    rw [e]; exact small_log (by omega)
  have lgs : (0 : Int).natAbs.log2 < 1920 ∧ (-1 : Int).natAbs.log2 < 1920 ∧ (3 : Int).natAbs.log2 < 1920 ∧ (99 : Int).natAbs.log2 < 1920 := by decide +kernel
  obtain ⟨g0, g1, g3, g99⟩ := lgs
  refine ⟨_, rfl, c, C, dx, _, _, rfl, h1, T.cl, T.nA, flds_arrows l m, _, rfl, m, _, _, _, rfl, rfl, SqL.of h4, hp, ?_⟩
  refine ⟨_, rfl, c, C, dx, _, _, rfl, h1, T.cl, T.nR, flds_rooms l m, l, _, rfl, .inl (SqL.of h2), _, _, rfl, rfl, ?_⟩
  rw [hl]
  refine ⟨_, rfl, _, rfl, p, _, _, _, rfl, rfl, SqT.of hp2, rfl, _, rfl, _, _, _, _, _, rfl, by decide +kernel, hil, g0, hrl, fun b1 => ?_, fun b1 => q2 fun z => b1 ?_⟩
  rotate_left
  · obtain ⟨sn, es, hs⟩ := z.src
    constructor <;> (rw [es]; omega)
  refine ⟨_, rfl, _, rfl, p, _, _, _, rfl, rfl, SqT.of hp2, rfl, _, _, _, _, _, rfl, by decide +kernel, hil, g0, g3, fun b2 => ?_, fun b2 => q2 fun z => b2 z.evt⟩
  refine ⟨_, rfl, _, rfl, p, _, _, _, rfl, rfl, SqT.of hp2, rfl, _, rfl, _, _, _, _, _, rfl, by decide +kernel, hil, g1, hrl, fun b3 => ?_, fun b3 => q2 fun z => b3 ⟨z.grd.1, by have := z.grd.2; omega⟩⟩
  refine ⟨_, rfl, _, rfl, p, _, _, _, rfl, rfl, SqT.of hp2, rfl, _, rfl, _, _, _, _, _, rfl, by decide +kernel, hil, g0, hrl, fun b4 => ?_, fun b4 => q2 fun z => b4 ?_⟩
  rotate_left
  · obtain ⟨tn, et, ht⟩ := z.tgt
    constructor <;> (rw [et]; omega)
  refine ⟨_, rfl, _, rfl, p, _, _, _, rfl, rfl, SqT.of hp2, rfl, _, _, _, _, _, rfl, by decide +kernel, hil, g0, g99, fun b5 => ?_, fun b5 => q2 fun z => b5 z.ded⟩
  obtain ⟨sn, es⟩ : ∃ sn : Nat, As[i].1 = (sn : Int) := ⟨As[i].1.toNat, by have := b1.1; omega⟩
  obtain ⟨tn, et⟩ : ∃ tn : Nat, As[i].2.2.2.1 = (tn : Int) := ⟨As[i].2.2.2.1.toNat, by have := b4.1; omega⟩
  have hs : sn < R.length := by have := b1.2; omega
  have ht : tn < R.length := by have := b4.2; omega
  refine ⟨_, rfl, _, rfl, p, _, _, _, rfl, rfl, SqT.of hp2, rfl, _, rfl, p, _, _, _, rfl, rfl, SqT.of hp2, rfl, c, R, As, sn, tn, (by rw [es, et]; rfl), hC, hG.tree, hs, ht, _, rfl, ?_⟩
  cases hsc : scopeOf R sn tn with
  | some pp =>
    refine iteF ?_
    exact q1 ⟨⟨sn, es, hs⟩, b2, ⟨b3.1, by have := b3.2; omega⟩, ⟨tn, et, ht⟩, b5, pp, by rw [es, et, Int.toNat_natCast, Int.toNat_natCast]; exact hsc⟩
  | none =>
    refine iteT ?_
    refine ⟨⟨trivial, ⟨_, rfl, i, rfl, rfl, hil⟩, trivial, trivial⟩, fun y => ⟨by show 1 ≤ 100; decide, q2 fun z => ?_⟩⟩
    obtain ⟨pp, e⟩ := z.sc
    rw [es, et, Int.toNat_natCast, Int.toNat_natCast, hsc] at e
    cases e

def okArrows (R : List Room1) (A : List Arrow) : Prop := A.length ≤ 20 ∧ ∀ a ∈ A, GoodA R a
def spArrowsX (C CB : Addr) : Sp := fun vs H Q E => ∃ (c : Addr) (R : List Room1) (A : List Arrow), vs = [.ref c] ∧ ChartAt C H c R A ∧ Good R ∧ (okArrows R A → Q .non H) ∧ (¬ okArrows R A → E (.ref CB) Option.none H)
theorem scArrowsX : FnScope ["chart", "number"] ["chart"] (defScope sCheckArrows) := ⟨rfl, rfl, rfl, by decide +kernel, rfl, by decide +kernel, by decide +kernel⟩
theorem ok_arrowsX {f C CB fa : Addr} {fd fda : FuncData} (D : DefAt K mg "check_arrows" sCheckArrows ["chart"] f fd) (T : Txt K mg C) (B : BadTxt K mg CB) (Da : DefAt K mg "check_arrow" sCheckArrow ["chart", "number"] fa fda) (Ga : FnOk P w K mg base (CXE P w) 4 fa fda ["chart", "number"] (spArrowX C CB)) :
    FnOk P w K mg base (CXE P w) 5 f fd ["chart"] (spArrowsX C CB) := by
  refine D.fn.okX scArrowsX (fun vs H Q E h => ?_) (fun cdv A outer s H vs Q E hr h => ?_)
  · obtain ⟨c, R, As, rfl, _⟩ := h
    rfl
  obtain ⟨c, R, As, rfl, hC, hG, q1, q2⟩ := h
  refine ⟨_, pss_cons (ps_if (pt_cmpR op_gt (pe_callB call_len_seq (by rfl) T.len PySem.boot_len (pa_cons (pe_fld (pv 0) rfl) pa_nil)) (pe_gint T.mostA rfl) (nomark _)) (pss_one (ps_raise (E := E) wants_out rfl rfl B.mgB B.ex (pa_cons (pe_fstr (pfs_cons pf_text (pfs_cons (pf_int (pe_gint T.mostA rfl)) (pfs_cons pf_text pfs_nil)))) pa_nil))) pss_nil)
    (pss_one (ps_for passes_own0 rfl (pi_range1 rfl T.range (pa_cons (pe_callB call_len_seq (by rfl) T.len PySem.boot_len (pa_cons (pe_fld (pv 0) rfl) pa_nil)) pa_nil)) (pg_name (i := 1) scArrowsX.nd rfl (Or.inl rfl))
      (pss_one (ps_expr (pe_call Ga hr rfl Da.mg Da.fn.kp Da.bd .nil passes_on (pa_cons (pv 0) (pa_cons (pv 1) pa_nil))))))), ?_⟩
  obtain ⟨dx, l, m, ps, qs, h1, h2, h3, h4, h5⟩ := hC.ob
  have hl : (qs.map V.ref).length = As.length := by rw [List.length_map, h5.1, List.length_map]
  refine ⟨_, rfl, c, C, dx, _, _, rfl, h1, T.cl, T.nA, flds_arrows l m, m, _, rfl, .inl (SqL.of h4), _, _, rfl, rfl, _, rfl, ?_⟩
  rw [hl]
  by_cases a1 : (20 : Int) < (As.length : Int)
  · rw [decide_eq_true a1]
    refine iteT ?_
    exact ⟨⟨trivial, ⟨20, rfl, rfl, by decide +kernel⟩, trivial, trivial⟩, fun y' => ⟨by show 1 ≤ 100; decide, q2 fun z => by have := z.1; omega⟩⟩
  · rw [decide_eq_false a1]
    refine iteF ?_
    refine ⟨_, rfl, c, C, dx, _, _, rfl, h1, T.cl, T.nA, flds_arrows l m, m, _, rfl, .inl (SqL.of h4), _, rfl, by rw [hl]; omega, by rw [hl]; omega, ?_⟩
    rw [hl]
    refine for_range (fun i σ H1 => ∃ v, σ = [some (.ref c), v] ∧ H1 = H ∧ ∀ a ∈ As.take i, GoodA R a) ⟨_, rfl, rfl, fun a z => absurd z (by simp)⟩ ?_ ?_
    · rintro i σ H1 hi ⟨v, rfl, rfl, hok⟩
      have hi' : i < As.length := by omega
      have ei : (0 : Int) + (i : Int) = (i : Int) := by omega
      rw [ei]
      refine ⟨_, rfl, _, rfl, c, R, As, i, As[i], rfl, hC, hG, List.getElem?_eq_getElem hi', fun k1 => ?_, fun k1 => q2 fun z => k1 (z.2 _ (List.getElem_mem hi'))⟩
      refine ⟨_, rfl, rfl, fun a z => ?_⟩
      rw [List.take_add_one, List.getElem?_eq_getElem hi'] at z
      rcases List.mem_append.mp z with z | z
      · exact hok a z
      · have : a = As[i] := by simpa using z
        rw [this]; exact k1
    · rintro σ H1 ⟨v, rfl, rfl, hok⟩
      have en : ((As.length : Int)).toNat = As.length := by omega
      rw [en, List.take_length] at hok
      exact q1 ⟨by omega, hok⟩
/-! ### Chart(rooms, arrows), with its refusals -/
theorem good_of {R : List Room1} (h : okRooms R) : Good R := by
  refine ⟨⟨by rw [hsOf_len]; exact h.1.1, ?_, fun i h0 hi => ?_⟩, h.1.2, fun i r hr => ?_⟩
  · have := (h.2 0 h.1.1).1
    unfold okHold at this
    rwa [if_pos rfl] at this
  · rw [hsOf_len] at hi
    have := (h.2 i hi).1
    unfold okHold at this
    rwa [if_neg (by omega)] at this
  · obtain ⟨hi, rfl⟩ := List.getElem?_eq_some_iff.mp hr
    have := (h.2 i hi).2
    unfold okKind at this
    rwa [kindAt_get hi] at this
def spInitX (C CB : Addr) : Sp := fun vs H Q E => ∃ (c dx a b : Addr) (ps qs : List Addr) (R : List Room1) (As : List Arrow), vs = [.ref c, .ref a, .ref b] ∧ H c = some (.ins C dx []) ∧ H a = some (.lst (ps.map V.ref)) ∧ Items H ps (R.map rV) ∧ H b = some (.lst (qs.map V.ref)) ∧ Items H qs (As.map aV) ∧
  R.length ≤ 100 ∧ As.length ≤ 100 ∧ (∀ i, i < R.length → (PySem.reprText (kindAt R i)).length ≤ 3000) ∧
  ∀ H', (∀ x o, H x = some o → x ≠ c → H' x = some o) →
    (okRooms R → okArrows R As → (∀ H'', (∀ x o, H' x = some o → x ≠ a → x ≠ b → H'' x = some o) → ChartAt C H'' c R As) → Q .non H') ∧ (¬ (okRooms R ∧ okArrows R As) → E (.ref CB) Option.none H')
theorem scInitX : FnScope ["self", "rooms", "arrows"] ["self", "rooms", "arrows"] (defScope sInit) := ⟨rfl, rfl, rfl, by decide +kernel, rfl, by decide +kernel, by decide +kernel⟩
theorem ok_initX {f C CB fr fa : Addr} {fd fdr fda : FuncData} (F : Fun K "__init__" "Chart.__init__" sInit f fd) (T : Txt K mg C) (Dr : DefAt K mg "check_rooms" sCheckRooms ["chart"] fr fdr) (Da : DefAt K mg "check_arrows" sCheckArrows ["chart"] fa fda)
    (Gr : FnOk P w K mg base (CXE P w) 3 fr fdr ["chart"] (spRoomsX C CB)) (Ga : FnOk P w K mg base (CXE P w) 5 fa fda ["chart"] (spArrowsX C CB)) : FnOk P w K mg base (CXE P w) 6 f fd ["self", "rooms", "arrows"] (spInitX C CB) := by
  refine F.okX scInitX (fun vs H Q E h => ?_) (fun cdv A outer s H vs Q E hr h => ?_)
  · obtain ⟨c, dx, a, b, ps, qs, R, As, rfl, _⟩ := h
    rfl
  obtain ⟨c, dx, a, b, ps, qs, R, As, rfl, hc, ha, hI, hb, hJ, hR1, hA1, hrep, q⟩ := h
  refine ⟨_, pss_cons (ps_fld (pv 0) (pe_callTy call_list_of (by rfl) T.list (by decide +kernel) (pa_cons (pv 1) pa_nil)) rfl)
    (pss_cons (ps_fld (pv 0) (pe_callTy call_list_of (by rfl) T.list (by decide +kernel) (pa_cons (pv 2) pa_nil)) rfl)
    (pss_cons (ps_expr (pe_call Gr (hr.mono (by decide)) rfl Dr.mg Dr.fn.kp Dr.bd .nil passes_on (pa_cons (pv 0) pa_nil)))
    (pss_one (ps_expr (pe_call Ga hr rfl Da.mg Da.fn.kp Da.bd .nil passes_on (pa_cons (pv 0) pa_nil)))))), ?_⟩
  refine ⟨_, rfl, a, _, rfl, .inl (SqL.of ha), fun l hl => ?_⟩
  have ncl : c ≠ l := ne_of_none hc hl
  refine ⟨_, rfl, c, C, dx, _, rfl, (by rw [upd_ne ncl]; exact hc), T.cl, T.nR, (by show 0 < 1000; decide), ?_⟩
  have nbl : b ≠ l := ne_of_none hb hl
  have nbc : b ≠ c := ne_of hb hc (by intro z; cases z)
  have nac : a ≠ c := ne_of ha hc (by intro z; cases z)
  have nal : a ≠ l := ne_of_none ha hl
  refine ⟨_, rfl, b, _, rfl, .inl (SqL.of (by rw [upd_ne nbc, upd_ne nbl]; exact hb)), fun m hm => ?_⟩
  have ncm : c ≠ m := ne_of_none upd_same hm
  have hm' : H m = Option.none := by
    have z := hm
    rw [upd_ne ncm.symm] at z
    by_cases e : m = l
    · rw [e, upd_same] at z; cases z
    · rw [upd_ne e] at z; exact z
  have nml : m ≠ l := fun e => by
    rw [e, upd_ne ncl.symm, upd_same] at hm
    cases hm
  refine ⟨_, rfl, c, C, dx, _, rfl, (by rw [upd_ne ncm]; exact upd_same), T.cl, T.nA, (by show 1 < 1000; decide), ?_⟩
  have keep : ∀ x o, H x = some o → x ≠ c → (upd (upd (upd (upd H l (.lst (ps.map V.ref))) c (.ins C dx (putF "rooms" (.ref l) []))) m (.lst (qs.map V.ref))) c (.ins C dx (putF "arrows" (.ref m) (putF "rooms" (.ref l) [])))) x = some o := fun x o e n => by
    rw [upd_ne n, upd_ne (ne_of_none e hm'), upd_ne n, upd_ne (ne_of_none e hl)]; exact e
  have hcl : (upd (upd (upd (upd H l (.lst (ps.map V.ref))) c (.ins C dx (putF "rooms" (.ref l) []))) m (.lst (qs.map V.ref))) c (.ins C dx (putF "arrows" (.ref m) (putF "rooms" (.ref l) [])))) l = some (.lst (ps.map V.ref)) := by
    rw [upd_ne ncl.symm, upd_ne nml.symm, upd_ne ncl.symm, upd_same]
  have hcm : (upd (upd (upd (upd H l (.lst (ps.map V.ref))) c (.ins C dx (putF "rooms" (.ref l) []))) m (.lst (qs.map V.ref))) c (.ins C dx (putF "arrows" (.ref m) (putF "rooms" (.ref l) [])))) m = some (.lst (qs.map V.ref)) := by
    rw [upd_ne ncm.symm, upd_same]
  have ntc : ∀ p o, H p = some (.tup o) → p ≠ c := fun p o e => ne_of e hc (by intro z; cases z)
  generalize hH2 : (upd (upd (upd (upd H l (.lst (ps.map V.ref))) c (.ins C dx (putF "rooms" (.ref l) []))) m (.lst (qs.map V.ref))) c (.ins C dx (putF "arrows" (.ref m) (putF "rooms" (.ref l) [])))) = H2 at keep hcl hcm ⊢
  have hcc : H2 c = some (.ins C dx (flds l m)) := by rw [← hH2]; exact upd_same
  have hI2 : Items H2 ps (R.map rV) := ⟨hI.1, fun i p o e1 e2 => keep _ _ (hI.2 i p o e1 e2) (ntc _ _ (hI.2 i p o e1 e2))⟩
  have hJ2 : Items H2 qs (As.map aV) := ⟨hJ.1, fun i p o e1 e2 => keep _ _ (hJ.2 i p o e1 e2) (ntc _ _ (hJ.2 i p o e1 e2))⟩
  have hC2 : ChartAt C H2 c R As := ⟨⟨dx, l, m, ps, qs, hcc, hcl, hI2, hcm, hJ2⟩, hR1, hA1⟩
  refine ⟨_, rfl, c, R, As, rfl, hC2, hrep, fun H3 s3 => ⟨fun k1 => ?_, fun k1 => (q H3 fun x o e n => s3 _ _ (keep x o e n)).2 fun z => k1 z.1⟩⟩
  refine ⟨_, rfl, c, R, As, rfl, hC2.same s3, good_of k1, fun k2 => ?_, fun k2 => (q H3 fun x o e n => s3 _ _ (keep x o e n)).2 fun z => k2 z.2⟩
  refine (q H3 (fun x o e n => s3 _ _ (keep x o e n))).1 k1 k2 (fun H4 k4 => ?_)
  have nma : m ≠ a := fun e => by rw [e, ha] at hm'; cases hm'
  have nmb : m ≠ b := fun e => by rw [e, hb] at hm'; cases hm'
  have nta : ∀ p o, H p = some (.tup o) → p ≠ a := fun p o e => ne_of e ha (by intro z; cases z)
  have ntb : ∀ p o, H p = some (.tup o) → p ≠ b := fun p o e => ne_of e hb (by intro z; cases z)
  refine ⟨⟨dx, l, m, ps, qs, k4 _ _ (s3 _ _ hcc) nac.symm nbc.symm, k4 _ _ (s3 _ _ hcl) nal.symm nbl.symm, ⟨hI.1, fun i p o e1 e2 => k4 _ _ (s3 _ _ (hI2.2 i p o e1 e2)) (nta _ _ (hI.2 i p o e1 e2)) (ntb _ _ (hI.2 i p o e1 e2))⟩,
    k4 _ _ (s3 _ _ hcm) nma nmb, ⟨hJ.1, fun i p o e1 e2 => k4 _ _ (s3 _ _ (hJ2.2 i p o e1 e2)) (nta _ _ (hJ.2 i p o e1 e2)) (ntb _ _ (hJ.2 i p o e1 e2))⟩⟩, hR1, hA1⟩

/-! ### the law's asking: _law_taken_by_base -/
theorem call_isxK {X : Cx} {K : PySem.W.Frag} (hK : X.K = K) : CallR X (.builtin "isinstance") (fun xs H Q => ∃ a C d n, xs = [.ref a, .ty n] ∧ H a = some (XO a C d) ∧ PySem.W.kitCls K C (.type n) = some true ∧ Q (.bl true) H) := by
  subst hK
  exact call_isx
structure TakenTxt (K : PySem.W.Frag) (mg : Str → Option Value) (CE CC CT CB : Addr) : Prop where
  mgE : mg "ChartError" = some (.ref CE)
  mgC : mg "Clash" = some (.ref CC)
  mgT : mg "TooMany" = some (.ref CT)
  mgB : mg "BadChart" = some (.ref CB)
  vE : mg "ValueError" = none
  bE : PySem.W.subIn K (.ref CE) (.type "BaseException") = some true
  bC : PySem.W.subIn K (.ref CC) (.type "BaseException") = some true
  bT : PySem.W.subIn K (.ref CT) (.type "BaseException") = some true
  bB : PySem.W.subIn K (.ref CB) (.type "BaseException") = some true
  kE : PySem.W.kitCls K (.ref CB) (.ref CE) = some true
  kC : PySem.W.kitCls K (.ref CB) (.ref CC) = some false
  kT : PySem.W.kitCls K (.ref CB) (.ref CT) = some false
  kB : PySem.W.kitCls K (.ref CB) (.ref CB) = some true
  kV : PySem.W.kitCls K (.ref CB) (.type "ValueError") = some true
def okAll (R : List Room1) (As : List Arrow) : Prop := okRooms R ∧ okArrows R As
open Classical in
noncomputable def askN (R : List Room1) (As : List Arrow) : Int := if okAll R As then 0 else 3
def spAsk : Sp := fun vs H Q _ => ∃ (a b : Addr) (ps qs : List Addr) (R : List Room1) (As : List Arrow), vs = [.ref a, .ref b] ∧ H a = some (.lst (ps.map V.ref)) ∧ Items H ps (R.map rV) ∧ H b = some (.lst (qs.map V.ref)) ∧ Items H qs (As.map aV) ∧
  R.length ≤ 100 ∧ As.length ≤ 100 ∧ (∀ i, i < R.length → (PySem.reprText (kindAt R i)).length ≤ 3000) ∧ ∀ H', Same H H' → Q (.int (askN R As)) H'
theorem scTakenB : FnScope ["rooms", "arrows", "refused", "e"] ["rooms", "arrows"] (defScope sTakenB) := ⟨rfl, rfl, rfl, by decide +kernel, rfl, by decide +kernel, by decide +kernel⟩
theorem ok_takenB {f C CE CC CT CB fi : Addr} {fd fdi : FuncData} (D : DefAt K mg "_law_taken_by_base" sTakenB ["rooms", "arrows"] f fd) (T : Txt K mg C) (S : TakenTxt K mg CE CC CT CB) (M : Mk K C fi) (bi : Binds K fdi ["self", "rooms", "arrows"] []) (Gi : FnOk P w K mg base (CXE P w) 6 fi fdi ["self", "rooms", "arrows"] (spInitX C CB)) :
    FnOk P w K mg base CX0 8 f fd ["rooms", "arrows"] spAsk := by
  refine D.fn.ok scTakenB (fun vs H Q E h => ?_) (fun cdv A outer s H vs Q E hr h => ?_)
  · obtain ⟨a, b, ps, qs, R, As, rfl, _⟩ := h
    rfl
  obtain ⟨a, b, ps, qs, R, As, rfl, ha, hI, hb, hJ, hR1, hA1, hrep, q⟩ := h
  refine ⟨_, pss_cons (ps_set (i := 2) scTakenB.nd rfl (Or.inl rfl) pe_int)
    (pss_cons (ps_try (px_make M Gi rfl hr rfl T.mgC bi (pa_cons (pv 0) (pa_cons (pv 1) pa_nil)))
      (ph_as (i := 3) rfl S.mgE S.bE scTakenB.nd rfl rfl (fun _ => pss_one (ps_if (pt_val (pe_callB (id := "isinstance") (call_isxK (K := K) rfl) (by rfl) T.inst (by decide +kernel) (pa_cons (pv 3) (pa_cons (pe_bltn (by rfl) S.vE (by decide +kernel) (v := .ty "ValueError") rfl) pa_nil))))
        (pss_one (ps_set (i := 2) scTakenB.nd rfl (Or.inl rfl) pe_int)) pss_nil)) ph_none))
    (pss_one (ps_ret (pv 2)))), ?_⟩
  have cs : ∀ c, H c = Option.none → ∀ H1 H', Same H H1 → (∀ x o, H1 x = some o → x ≠ c → H' x = some o) → Same H H' := fun c hc H1 H' s1 k x o e => k x o (s1 _ _ e) (ne_of_none e hc)
  refine ⟨_, rfl, _, rfl, fun c dx hc hd hdc => ?_⟩
  have nda : ∀ x o, H x = some o → x ≠ c := fun x o e => ne_of_none e hc
  have ndd : ∀ x o, H x = some o → x ≠ dx := fun x o e => ne_of_none e hd
  have s1 : Same H (upd (upd H dx (.own c)) c (.ins C dx [])) := fun x o e => by rw [upd_ne (nda x o e), upd_ne (ndd x o e)]; exact e
  refine ⟨c, dx, a, b, ps, qs, R, As, rfl, upd_same, s1 _ _ ha, hI.same s1, s1 _ _ hb, hJ.same s1, hR1, hA1, hrep, fun H' k => ⟨fun k1 k2 _ => ⟨rfl, ?_⟩, fun k1 => ?_⟩⟩
  · have e : askN R As = 0 := if_pos ⟨k1, k2⟩
    have := q H' (cs c hc _ _ s1 k)
    rw [e] at this
    exact ⟨_, rfl, this⟩
  · have e : askN R As = 3 := if_neg k1
    refine ⟨true, S.kE, ?_⟩
    rw [if_pos rfl]
    intro x hx
    refine ⟨_, rfl, x, .ref CB, Option.none, "ValueError", rfl, upd_same, S.kV, _, rfl, ?_⟩
    refine iteT ?_
    have := q (upd H' x (XO x (.ref CB) Option.none)) (sameUpd (cs c hc _ _ s1 k) (by
      cases z : H x with
      | none => rfl
      | some o => have := (cs c hc _ _ s1 k) _ _ z; rw [hx] at this; cases this) _)
    rw [e] at this
    exact ⟨_, rfl, this⟩

/-! ### _law_taken_by -/
theorem scTaken : FnScope ["rooms", "arrows", "refused"] ["rooms", "arrows"] (defScope sTaken) := ⟨rfl, rfl, rfl, by decide +kernel, rfl, by decide +kernel, by decide +kernel⟩
theorem ok_taken {f C CE CC CT CB fi fb : Addr} {fd fdi fdb : FuncData} (D : DefAt K mg "_law_taken_by" sTaken ["rooms", "arrows"] f fd) (T : Txt K mg C) (S : TakenTxt K mg CE CC CT CB) (M : Mk K C fi) (bi : Binds K fdi ["self", "rooms", "arrows"] []) (Gi : FnOk P w K mg base (CXE P w) 6 fi fdi ["self", "rooms", "arrows"] (spInitX C CB))
    (Db : DefAt K mg "_law_taken_by_base" sTakenB ["rooms", "arrows"] fb fdb) (Gb : FnOk P w K mg base CX0 8 fb fdb ["rooms", "arrows"] spAsk) :
    FnOk P w K mg base CX0 9 f fd ["rooms", "arrows"] spAsk := by
  refine D.fn.ok scTaken (fun vs H Q E h => ?_) (fun cdv A outer s H vs Q E hr h => ?_)
  · obtain ⟨a, b, ps, qs, R, As, rfl, _⟩ := h
    rfl
  obtain ⟨a, b, ps, qs, R, As, rfl, ha, hI, hb, hJ, hR1, hA1, hrep, q⟩ := h
  refine ⟨_, pss_cons (ps_set (i := 2) scTaken.nd rfl (Or.inl rfl) pe_int)
    (pss_cons (ps_try (px_make M Gi rfl (hr.mono (by decide)) rfl T.mgC bi (pa_cons (pv 0) (pa_cons (pv 1) pa_nil)))
      (ph_cons rfl S.mgC S.bC (fun _ => pss_one (ps_set (i := 2) scTaken.nd rfl (Or.inl rfl) pe_int))
      (ph_cons rfl S.mgT S.bT (fun _ => pss_one (ps_set (i := 2) scTaken.nd rfl (Or.inl rfl) pe_int))
      (ph_cons rfl S.mgB S.bB (fun _ => pss_one (ps_set (i := 2) scTaken.nd rfl (Or.inl rfl) pe_int)) ph_none))))
    (pss_cons (ps_if (pt_cmpR op_eq (pv 2) pe_int (nomark _)) (pss_one (ps_set (i := 2) scTaken.nd rfl (Or.inl rfl) (pe_call Gb hr rfl Db.mg Db.fn.kp Db.bd .nil pass0 (pa_cons (pv 0) (pa_cons (pv 1) pa_nil))))) pss_nil)
    (pss_one (ps_ret (pv 2))))), ?_⟩
  have cs : ∀ c, H c = Option.none → ∀ H1 H', Same H H1 → (∀ x o, H1 x = some o → x ≠ c → H' x = some o) → Same H H' := fun c hc H1 H' s1 k x o e => k x o (s1 _ _ e) (ne_of_none e hc)
  refine ⟨_, rfl, _, rfl, fun c dx hc hd hdc => ?_⟩
  have nda : ∀ x o, H x = some o → x ≠ c := fun x o e => ne_of_none e hc
  have ndd : ∀ x o, H x = some o → x ≠ dx := fun x o e => ne_of_none e hd
  have s1 : Same H (upd (upd H dx (.own c)) c (.ins C dx [])) := fun x o e => by rw [upd_ne (nda x o e), upd_ne (ndd x o e)]; exact e
  refine ⟨c, dx, a, b, ps, qs, R, As, rfl, upd_same, s1 _ _ ha, hI.same s1, s1 _ _ hb, hJ.same s1, hR1, hA1, hrep, fun H' k => ⟨fun k1 k2 _ => ⟨rfl, ?_⟩, fun k1 => ?_⟩⟩
  · have e : askN R As = 0 := if_pos ⟨k1, k2⟩
    have := q H' (cs c hc _ _ s1 k)
    rw [e] at this
    refine ⟨_, rfl, rfl, _, rfl, ?_⟩
    refine iteF ?_
    exact ⟨_, rfl, this⟩
  · have sH := cs c hc _ _ s1 k
    refine ⟨false, S.kC, ?_⟩
    refine iteF ?_
    refine ⟨false, S.kT, ?_⟩
    refine iteF ?_
    refine ⟨true, S.kB, ?_⟩
    refine iteT ?_
    refine ⟨_, rfl, rfl, _, rfl, ?_⟩
    refine iteT ?_
    refine ⟨_, rfl, _, rfl, a, b, ps, qs, R, As, rfl, sH _ _ ha, hI.same sH, sH _ _ hb, hJ.same sH, hR1, hA1, hrep, fun H2 s2 => ?_⟩
    exact ⟨_, rfl, q H2 (sH.trans s2)⟩

/-! ### _law_spoiled_rooms -/
def base3 : List Room1 := [(-1, "one"), (0, "all"), (1, "plain"), (1, "plain"), (0, "plain")]
def alt3 : List Room1 := [(-1, "all"), (0, "one"), (0, "keep"), (1, "plain"), (2, "plain")]
def txt6 (i : Int) : Str := (["", "One", "any", "plain ", "keeps"] : List Str).getD i.toNat ""
def txt8 (i : Int) : Str := (["one", "all", "keep"] : List Str).getD i.toNat "one"
def rmAt (R : List Room1) (i : Nat) : Room1 := R.getD i (0, "")
def spoR (way : Nat) (c : Int) : List Room1 := match way with
  | 1 => []
  | 2 => base3 ++ List.replicate (12 + c % 3).toNat ((0, "plain") : Room1)
  | 3 => base3.set 0 (if c / 6 % 2 = 0 then c % 6 else -2 - c % 5, "one")
  | 4 => base3.set (1 + c % 4).toNat (1 + c % 4 + c / 4 % 9, (rmAt base3 (1 + c % 4).toNat).2)
  | 5 => base3.set (1 + c % 4).toNat (-1 - c / 4 % 9, (rmAt base3 (1 + c % 4).toNat).2)
  | 6 => base3.set (c % 5).toNat ((rmAt base3 (c % 5).toNat).1, txt6 (c / 5 % 5))
  | 7 => base3.set (c % 2).toNat ((rmAt base3 (c % 2).toNat).1, "plain")
  | 8 => base3.set (2 + c % 3).toNat ((rmAt base3 (2 + c % 3).toNat).1, txt8 (c / 3 % 3))
  | 9 => base3 ++ List.replicate 11 ((0, "plain") : Room1)
  | 10 => (base3.set 1 (0, "all")).set 0 (-1, "all")
  | 22 => alt3
  | 23 => alt3
  | 24 => base3.set (3 + c % 2).toNat (2, "plain")
  | _ => base3
/-- a list made here, with such tuples in it -/
structure Own3 (H H1 : Hp) (r : Addr) (ps : List Addr) (os : List (List V)) : Prop where
  same : Same H H1
  new : H r = none
  at_ : H1 r = some (.lst (ps.map V.ref))
  its : Items H1 ps os
theorem Own3.more {H H1 H2 : Hp} {r : Addr} {ps : List Addr} {os : List (List V)} (h : Own3 H H1 r ps os) (s : Same H1 H2) : Own3 H H2 r ps os := ⟨h.same.trans s, h.new, s _ _ h.at_, h.its.same s⟩
theorem Own3.set {H H1 : Hp} {r : Addr} {ps : List Addr} {os : List (List V)} (h : Own3 H H1 r ps os) (i : Nat) {t : Addr} (ht : H1 t = none) (o : List V) :
    Own3 H (upd (upd H1 t (.tup o)) r (.lst ((ps.map V.ref).set i (.ref t)))) r (ps.set i t) (os.set i o) := by
  have nrt : r ≠ t := ne_of_none h.at_ ht
  have k : ∀ x u, H1 x = some u → x ≠ r → (upd (upd H1 t (.tup o)) r (.lst ((ps.map V.ref).set i (.ref t)))) x = some u := fun x u e n => by
    rw [upd_ne n, upd_ne (ne_of_none e ht)]; exact e
  refine ⟨fun x u e => k x u (h.same _ _ e) (ne_of_none e h.new), h.new, ?_, ?_, fun j p u a b => ?_⟩
  · rw [upd_same, List.map_set]
  · rw [List.length_set, List.length_set]; exact h.its.1
  · by_cases hj : j = i
    · subst hj
      have l1 : j < ps.length := by
        have := (List.getElem?_eq_some_iff.mp a).1
        rw [List.length_set] at this; exact this
      rw [List.getElem?_set_self l1] at a
      rw [List.getElem?_set_self (by rw [← h.its.1]; exact l1)] at b
      cases a
      cases b
      rw [upd_ne nrt.symm, upd_same]
    · rw [List.getElem?_set_ne (fun z => hj z.symm)] at a b
      have e := h.its.2 j p u a b
      exact k _ _ e (ne_of e h.at_ (by intro z; cases z))
theorem Own3.len {H H1 : Hp} {r : Addr} {ps : List Addr} {os : List (List V)} (h : Own3 H H1 r ps os) : (ps.map V.ref).length = os.length := by rw [List.length_map, h.its.1]
theorem ixN_of {n : Nat} {i : Int} {j : Nat} (e : i = (j : Int)) (h : j < n) : ixN n i = some j := by
  subst e
  unfold ixN
  rw [if_pos (by omega), if_pos (by omega), Int.toNat_natCast]
theorem rm_get {R : List Room1} {i : Nat} (h : i < R.length) : R[i]? = some (rmAt R i) := by
  unfold rmAt
  rw [List.getD_eq_getElem?_getD, List.getElem?_eq_getElem h]; rfl
theorem Own3.rm {H H1 : Hp} {r : Addr} {ps : List Addr} {R : List Room1} (h : Own3 H H1 r ps (R.map rV)) {k : Int} {i : Nat} (e : k = (i : Int)) (hi : i < R.length) : ∃ p, atI (ps.map V.ref) k = some (.ref p) ∧ H1 p = some (.tup (rV (rmAt R i))) := by
  subst e
  have er : (R.map rV)[i]? = some (rV (rmAt R i)) := by rw [List.getElem?_map, rm_get hi]; rfl
  obtain ⟨p, a, b⟩ := h.its.at er
  exact ⟨p, atI_nat a, b⟩
/-- five new tuples in a list -/
theorem own_five {H : Hp} {t1 t2 t3 t4 t5 r : Addr} {o1 o2 o3 o4 o5 : List V} (h1 : H t1 = none) (h2 : (upd H t1 (.tup o1)) t2 = none) (h3 : (upd (upd H t1 (.tup o1)) t2 (.tup o2)) t3 = none) (h4 : (upd (upd (upd H t1 (.tup o1)) t2 (.tup o2)) t3 (.tup o3)) t4 = none)
    (h5 : (upd (upd (upd (upd H t1 (.tup o1)) t2 (.tup o2)) t3 (.tup o3)) t4 (.tup o4)) t5 = none) (h6 : (upd (upd (upd (upd (upd H t1 (.tup o1)) t2 (.tup o2)) t3 (.tup o3)) t4 (.tup o4)) t5 (.tup o5)) r = none) :
    Own3 H (upd (upd (upd (upd (upd (upd H t1 (.tup o1)) t2 (.tup o2)) t3 (.tup o3)) t4 (.tup o4)) t5 (.tup o5)) r (.lst [.ref t1, .ref t2, .ref t3, .ref t4, .ref t5])) r [t1, t2, t3, t4, t5] [o1, o2, o3, o4, o5] := by
  have u1 := same_new h1 (.tup o1)
  have u2 := same_new h2 (.tup o2)
  have u3 := same_new h3 (.tup o3)
  have u4 := same_new h4 (.tup o4)
  have u5 := same_new h5 (.tup o5)
  have u6 := same_new h6 (.lst [.ref t1, .ref t2, .ref t3, .ref t4, .ref t5])
  have s5 := u1.trans (u2.trans (u3.trans (u4.trans u5)))
  refine ⟨s5.trans u6, s5.free h6, upd_same, rfl, fun i p o a b => ?_⟩
  match i with
  | 0 => cases a; cases b; exact u6 _ _ (u5 _ _ (u4 _ _ (u3 _ _ (u2 _ _ upd_same))))
  | 1 => cases a; cases b; exact u6 _ _ (u5 _ _ (u4 _ _ (u3 _ _ upd_same)))
  | 2 => cases a; cases b; exact u6 _ _ (u5 _ _ (u4 _ _ upd_same))
  | 3 => cases a; cases b; exact u6 _ _ (u5 _ _ upd_same)
  | 4 => cases a; cases b; exact u6 _ _ upd_same
  | n + 5 => cases a
/-- rooms + a list of alike ones -/
theorem Own3.cat {H H1 H2 : Hp} {r D p : Addr} {ps qs : List Addr} {os us : List (List V)} (h : Own3 H H1 r ps os) (s : Same H1 H2) (hi : Items H2 qs us) (hp : H2 p = none) :
    Own3 H (upd H2 p (.lst (ps.map V.ref ++ qs.map V.ref))) p (ps ++ qs) (os ++ us) := by
  have s3 := same_new hp (.lst (ps.map V.ref ++ qs.map V.ref))
  refine ⟨h.same.trans (s.trans s3), (h.same.trans s).free hp, by rw [upd_same, List.map_append], by simp [h.its.1, hi.1], fun i q u a b => ?_⟩
  by_cases hl : i < ps.length
  · rw [List.getElem?_append_left hl] at a
    rw [List.getElem?_append_left (by rw [← h.its.1]; exact hl)] at b
    exact s3 _ _ (s _ _ (h.its.2 i q u a b))
  · have l := h.its.1
    rw [List.getElem?_append_right (by omega)] at a
    rw [List.getElem?_append_right (by omega), ← l] at b
    exact s3 _ _ (hi.2 _ q u a b)
/-- [tuple for k in range(n)] -/
theorem comp_alike {H : Hp} {n : Nat} {D : Addr} {te : TE} {o : List V} {Q : VK} {lo : Int} {v0 : Option V} (hn : n ≤ 100) (hD : H D = none) (hte : ∀ v H' Q, (∀ t, H' t = none → Q (.ref t) (upd H' t (.tup o))) → te [some v] H' Q)
    (q : ∀ ps H', Same H H' → H' D = some (.lst (ps.map V.ref)) → Items H' ps (List.replicate n o) → Q (.ref D) H') : tLoop (Itr lo n) (gName 0) tYes te D Q [v0] (upd H D (.lst [])) := by
  refine comp_rangeA (Pv := fun i ys σ H' => ∃ v ps, σ = [v] ∧ ys = ps.map V.ref ∧ Same H H' ∧ Items H' ps (List.replicate i o)) ⟨_, [], rfl, rfl, same_new hD _, ⟨rfl, fun i p o e => by simp at e⟩⟩ ?_ ?_
  · rintro i ys σ H' hi hDi ⟨v, ps, rfl, rfl, (s : Same _ _), hI⟩
    refine hte _ _ _ fun t ht => ?_
    have nDt : D ≠ t := ne_of_none hDi ht
    have lp := hI.1
    rw [List.length_replicate] at lp
    refine ⟨by rw [upd_ne nDt]; exact hDi, by rw [List.length_map, lp]; exact small1000 (by omega), ⟨_, ps ++ [t], rfl, by rw [List.map_append]; rfl, sameUpd (sameUpd s (s.free ht) _) hD _, ?_⟩⟩
    rw [List.replicate_succ']
    refine Items.snoc ⟨hI.1, fun j p u a b => ?_⟩ ?_
    · have e := hI.2 j p u a b
      rw [upd_ne (ne_of e hDi (by intro z; cases z)), upd_ne (ne_of_none e ht)]; exact e
    · rw [upd_ne nDt.symm, upd_same]
  · rintro ys σ H' hDn ⟨v, ps, rfl, rfl, (s : Same _ _), hI⟩
    exact q ps H' s hDn hI
def spSpR : Sp := fun vs H Q _ => ∃ (way : Nat) (c : Int), vs = [.int way, .int c] ∧ way < 25 ∧ 0 ≤ c ∧ ∀ (r : Addr) (ps : List Addr) (H' : Hp), Own3 H H' r ps ((spoR way c).map rV) → Q (.ref r) H'
theorem scSpR : FnScope ["way", "cell", "rooms", "place"] ["way", "cell"] (defScope sSpR) := ⟨rfl, rfl, rfl, by decide +kernel, rfl, by decide +kernel, by decide +kernel⟩
theorem ok_spR {f C : Addr} {fd : FuncData} (D : DefAt K mg "_law_spoiled_rooms" sSpR ["way", "cell"] f fd) (T : Txt K mg C) : FnOk P w K mg base CX0 1 f fd ["way", "cell"] spSpR := by
  refine D.fn.ok scSpR (fun vs H Q E h => ?_) (fun cdv A outer s H vs Q E hr h => ?_)
  · obtain ⟨way, c, rfl, _⟩ := h
    rfl
  obtain ⟨way, c, rfl, hw, hc, q⟩ := h
  refine ⟨_, pss_cons (ps_set (i := 2) scSpR.nd rfl (Or.inl rfl) (pe_lst (pa_cons (pe_tup (pa_cons (pe_un un_neg pe_int) (pa_cons pe_str pa_nil))) (pa_cons (pe_tup (pa_cons pe_int (pa_cons pe_str pa_nil))) (pa_cons (pe_tup (pa_cons pe_int (pa_cons pe_str pa_nil))) (pa_cons (pe_tup (pa_cons pe_int (pa_cons pe_str pa_nil))) (pa_cons (pe_tup (pa_cons pe_int (pa_cons pe_str pa_nil))) pa_nil)))))))
    (pss_cons (ps_set (i := 3) scSpR.nd rfl (Or.inl rfl) (pe_op op_add pe_int (pe_op op_mod (pv 1) pe_int)))
    (pss_cons (ps_if (pt_cmpR op_eq (pv 0) pe_int (nomark _)) (pss_one (ps_set (i := 2) scSpR.nd rfl (Or.inl rfl) (pe_lst pa_nil))) pss_nil)
    (pss_cons (ps_if (pt_cmpR op_eq (pv 0) pe_int (nomark _)) (pss_one (ps_set (i := 2) scSpR.nd rfl (Or.inl rfl) (pe_op op_cat (pv 2) (pe_comp ["k"] [Option.none] rfl (pi_range1 rfl T.range (pa_cons (pe_op op_add pe_int (pe_op op_mod (pv 1) pe_int)) pa_nil)) (fun _ => pg_name (i := 0) (show (["k"] : List Str).Nodup by decide +kernel) rfl (Or.inl rfl)) (fun _ => pts_nil) (fun _ => pe_tup (pa_cons pe_int (pa_cons pe_str pa_nil)))
      (N := ["way", "cell", "rooms", "place"]) (ks := (defScope sSpR).names) rfl rfl (by decide +kernel) (by decide +kernel) (by decide +kernel) (by decide +kernel))))) pss_nil)
    (pss_cons (ps_if (pt_cmpR op_eq (pv 0) pe_int (nomark _)) (pss_one (ps_asg (pe_tup (pa_cons (pe_ix ix_list (pe_lst (pa_cons (pe_op op_mod (pv 1) pe_int) (pa_cons (pe_op op_sub (pe_un un_neg pe_int) (pe_op op_mod (pv 1) pe_int)) pa_nil))) (pe_op op_mod (pe_op op_fdiv (pv 1) pe_int) pe_int) (fun _ _ => rfl)) (pa_cons pe_str pa_nil))) (pg_sub (pv 2) pe_int set_list))) pss_nil)
    (pss_cons (ps_if (pt_cmpR op_eq (pv 0) pe_int (nomark _)) (pss_one (ps_asg (pe_tup (pa_cons (pe_op op_add (pv 3) (pe_op op_mod (pe_op op_fdiv (pv 1) pe_int) pe_int)) (pa_cons (pe_ix ix_tup (pe_ix ix_list (pv 2) (pv 3) (fun _ _ => rfl)) pe_int (fun _ _ => rfl)) pa_nil))) (pg_sub (pv 2) (pv 3) set_list))) pss_nil)
    (pss_cons (ps_if (pt_cmpR op_eq (pv 0) pe_int (nomark _)) (pss_one (ps_asg (pe_tup (pa_cons (pe_op op_sub (pe_un un_neg pe_int) (pe_op op_mod (pe_op op_fdiv (pv 1) pe_int) pe_int)) (pa_cons (pe_ix ix_tup (pe_ix ix_list (pv 2) (pv 3) (fun _ _ => rfl)) pe_int (fun _ _ => rfl)) pa_nil))) (pg_sub (pv 2) (pv 3) set_list))) pss_nil)
    (pss_cons (ps_if (pt_cmpR op_eq (pv 0) pe_int (nomark _)) (pss_one (ps_asg (pe_tup (pa_cons (pe_ix ix_tup (pe_ix ix_list (pv 2) (pe_op op_mod (pv 1) pe_int) (fun _ _ => rfl)) pe_int (fun _ _ => rfl)) (pa_cons (pe_ix ix_list (pe_lst (pa_cons pe_str (pa_cons pe_str (pa_cons pe_str (pa_cons pe_str (pa_cons pe_str pa_nil)))))) (pe_op op_mod (pe_op op_fdiv (pv 1) pe_int) pe_int) (fun _ _ => rfl)) pa_nil))) (pg_sub (pv 2) (pe_op op_mod (pv 1) pe_int) set_list))) pss_nil)
    (pss_cons (ps_if (pt_cmpR op_eq (pv 0) pe_int (nomark _)) (pss_one (ps_asg (pe_tup (pa_cons (pe_ix ix_tup (pe_ix ix_list (pv 2) (pe_op op_mod (pv 1) pe_int) (fun _ _ => rfl)) pe_int (fun _ _ => rfl)) (pa_cons pe_str pa_nil))) (pg_sub (pv 2) (pe_op op_mod (pv 1) pe_int) set_list))) pss_nil)
    (pss_cons (ps_if (pt_cmpR op_eq (pv 0) pe_int (nomark _)) (pss_one (ps_asg (pe_tup (pa_cons (pe_ix ix_tup (pe_ix ix_list (pv 2) (pe_op op_add pe_int (pe_op op_mod (pv 1) pe_int)) (fun _ _ => rfl)) pe_int (fun _ _ => rfl)) (pa_cons (pe_ix ix_list (pe_lst (pa_cons pe_str (pa_cons pe_str (pa_cons pe_str pa_nil)))) (pe_op op_mod (pe_op op_fdiv (pv 1) pe_int) pe_int) (fun _ _ => rfl)) pa_nil))) (pg_sub (pv 2) (pe_op op_add pe_int (pe_op op_mod (pv 1) pe_int)) set_list))) pss_nil)
    (pss_cons (ps_if (pt_cmpR op_eq (pv 0) pe_int (nomark _)) (pss_one (ps_set (i := 2) scSpR.nd rfl (Or.inl rfl) (pe_op op_cat (pv 2) (pe_comp ["k"] [Option.none] rfl (pi_range1 rfl T.range (pa_cons pe_int pa_nil)) (fun _ => pg_name (i := 0) (show (["k"] : List Str).Nodup by decide +kernel) rfl (Or.inl rfl)) (fun _ => pts_nil) (fun _ => pe_tup (pa_cons pe_int (pa_cons pe_str pa_nil)))
      (N := ["way", "cell", "rooms", "place"]) (ks := (defScope sSpR).names) rfl rfl (by decide +kernel) (by decide +kernel) (by decide +kernel) (by decide +kernel))))) pss_nil)
    (pss_cons (ps_if (pt_cmpR op_eq (pv 0) pe_int (nomark _)) (pss_cons (ps_asg (pe_tup (pa_cons pe_int (pa_cons pe_str pa_nil))) (pg_sub (pv 2) pe_int set_list)) (pss_one (ps_asg (pe_tup (pa_cons (pe_un un_neg pe_int) (pa_cons pe_str pa_nil))) (pg_sub (pv 2) pe_int set_list)))) pss_nil)
    (pss_cons (ps_if (PW.pt (pw_or (pt_cmpR op_eq (pv 0) pe_int (nomark _)) (pw_or1 (pt_cmpR op_eq (pv 0) pe_int (nomark _))))) (pss_one (ps_set (i := 2) scSpR.nd rfl (Or.inl rfl) (pe_lst (pa_cons (pe_tup (pa_cons (pe_un un_neg pe_int) (pa_cons pe_str pa_nil))) (pa_cons (pe_tup (pa_cons pe_int (pa_cons pe_str pa_nil))) (pa_cons (pe_tup (pa_cons pe_int (pa_cons pe_str pa_nil))) (pa_cons (pe_tup (pa_cons pe_int (pa_cons pe_str pa_nil))) (pa_cons (pe_tup (pa_cons pe_int (pa_cons pe_str pa_nil))) pa_nil)))))))) pss_nil)
    (pss_cons (ps_if (pt_cmpR op_eq (pv 0) pe_int (nomark _)) (pss_one (ps_asg (pe_tup (pa_cons pe_int (pa_cons pe_str pa_nil))) (pg_sub (pv 2) (pe_op op_add pe_int (pe_op op_mod (pv 1) pe_int)) set_list))) pss_nil)
    (pss_one (ps_ret (pv 2)))))))))))))))), ?_⟩
  -- rooms = [..]
  refine ⟨_, rfl, (by show 2 ≤ sizeLine; decide), fun t1 h1 => ?_⟩
  refine ⟨(by show 2 ≤ sizeLine; decide), fun t2 h2 => ?_⟩
  refine ⟨(by show 2 ≤ sizeLine; decide), fun t3 h3 => ?_⟩
  refine ⟨(by show 2 ≤ sizeLine; decide), fun t4 h4 => ?_⟩
  refine ⟨(by show 2 ≤ sizeLine; decide), fun t5 h5 => ?_⟩
  refine ⟨(by show 5 ≤ sizeLine; decide), fun r h6 => ?_⟩
  have O := own_five h1 h2 h3 h4 h5 h6
  have O' : Own3 H _ r [t1, t2, t3, t4, t5] (base3.map rV) := O
  clear O
  generalize hps : [t1, t2, t3, t4, t5] = ps at O'
  generalize upd (upd (upd (upd (upd (upd H t1 _) t2 _) t3 _) t4 _) t5 _) r _ = H1 at O' ⊢
  have lp : (ps.map V.ref).length = 5 := O'.len
  -- place
  refine ⟨_, rfl, _, _, rfl, rfl, (by show (0 : Int) < _; decide), _, _, rfl, rfl, ?_⟩
  have m4a := Int.emod_nonneg c (show (4 : Int) ≠ 0 by decide)
  have m4b := Int.emod_lt_of_pos c (show (0 : Int) < 4 by decide)
  have m3a := Int.emod_nonneg c (show (3 : Int) ≠ 0 by decide)
  have m3b := Int.emod_lt_of_pos c (show (0 : Int) < 3 by decide)
  have m5a := Int.emod_nonneg c (show (5 : Int) ≠ 0 by decide)
  have m5b := Int.emod_lt_of_pos c (show (0 : Int) < 5 by decide)
  have m2a := Int.emod_nonneg c (show (2 : Int) ≠ 0 by decide)
  have m2b := Int.emod_lt_of_pos c (show (0 : Int) < 2 by decide)
  match way, hw with
  | 0, _ => (refine ⟨_, rfl, rfl, _, rfl, ?_⟩; refine iteF ?_); (refine ⟨_, rfl, rfl, _, rfl, ?_⟩; refine iteF ?_); (refine ⟨_, rfl, rfl, _, rfl, ?_⟩; refine iteF ?_); (refine ⟨_, rfl, rfl, _, rfl, ?_⟩; refine iteF ?_); (refine ⟨_, rfl, rfl, _, rfl, ?_⟩; refine iteF ?_); (refine ⟨_, rfl, rfl, _, rfl, ?_⟩; refine iteF ?_); (refine ⟨_, rfl, rfl, _, rfl, ?_⟩; refine iteF ?_); (refine ⟨_, rfl, rfl, _, rfl, ?_⟩; refine iteF ?_); (refine ⟨_, rfl, rfl, _, rfl, ?_⟩; refine iteF ?_); (refine ⟨_, rfl, rfl, _, rfl, ?_⟩; refine iteF ?_); (refine ⟨_, rfl, rfl, _, rfl, ?_⟩; refine iteF ?_); (refine ⟨_, rfl, rfl, _, rfl, ?_⟩; refine iteF ?_); (refine ⟨_, rfl, rfl, _, rfl, ?_⟩; refine iteF ?_); exact ⟨_, rfl, q r ps H1 O'⟩
  | 1, _ =>
    (refine ⟨_, rfl, rfl, _, rfl, ?_⟩; refine iteT ?_)
    refine ⟨(by show 0 ≤ sizeLine; decide), fun r2 hr2 => ?_⟩
    (refine ⟨_, rfl, rfl, _, rfl, ?_⟩; refine iteF ?_); (refine ⟨_, rfl, rfl, _, rfl, ?_⟩; refine iteF ?_); (refine ⟨_, rfl, rfl, _, rfl, ?_⟩; refine iteF ?_); (refine ⟨_, rfl, rfl, _, rfl, ?_⟩; refine iteF ?_); (refine ⟨_, rfl, rfl, _, rfl, ?_⟩; refine iteF ?_); (refine ⟨_, rfl, rfl, _, rfl, ?_⟩; refine iteF ?_); (refine ⟨_, rfl, rfl, _, rfl, ?_⟩; refine iteF ?_); (refine ⟨_, rfl, rfl, _, rfl, ?_⟩; refine iteF ?_); (refine ⟨_, rfl, rfl, _, rfl, ?_⟩; refine iteF ?_); (refine ⟨_, rfl, rfl, _, rfl, ?_⟩; refine iteF ?_); (refine ⟨_, rfl, rfl, _, rfl, ?_⟩; refine iteF ?_); (refine ⟨_, rfl, rfl, _, rfl, ?_⟩; refine iteF ?_)
    exact ⟨_, rfl, q r2 [] _ ⟨O'.same.trans (same_new hr2 _), O'.same.free hr2, upd_same, ⟨rfl, fun i p o e => by simp at e⟩⟩⟩
  | 2, _ =>
    (refine ⟨_, rfl, rfl, _, rfl, ?_⟩; refine iteF ?_); (refine ⟨_, rfl, rfl, _, rfl, ?_⟩; refine iteT ?_)
    refine ⟨_, rfl, _, rfl, _, _, rfl, rfl, (by show (0 : Int) < _; decide), _, _, rfl, rfl, _, rfl, by omega, by omega, fun bk D hD => ?_⟩
    refine comp_alike (o := rV (0, "plain")) (by omega) hD (fun v H' Q q => ⟨(by show 2 ≤ sizeLine; decide), q⟩) fun qs H2 s2 e2 hI2 => ?_
    refine ⟨r, D, _, _, rfl, rfl, s2 _ _ O'.at_, e2, ?_, fun p hp => ?_⟩
    · have z := hI2.1
      rw [List.length_replicate] at z
      rw [lp, List.length_map]
      exact small (by omega)
    have O2 := O'.cat (D := D) s2 hI2 hp
    (refine ⟨_, rfl, rfl, _, rfl, ?_⟩; refine iteF ?_); (refine ⟨_, rfl, rfl, _, rfl, ?_⟩; refine iteF ?_); (refine ⟨_, rfl, rfl, _, rfl, ?_⟩; refine iteF ?_); (refine ⟨_, rfl, rfl, _, rfl, ?_⟩; refine iteF ?_); (refine ⟨_, rfl, rfl, _, rfl, ?_⟩; refine iteF ?_); (refine ⟨_, rfl, rfl, _, rfl, ?_⟩; refine iteF ?_); (refine ⟨_, rfl, rfl, _, rfl, ?_⟩; refine iteF ?_); (refine ⟨_, rfl, rfl, _, rfl, ?_⟩; refine iteF ?_); (refine ⟨_, rfl, rfl, _, rfl, ?_⟩; refine iteF ?_); (refine ⟨_, rfl, rfl, _, rfl, ?_⟩; refine iteF ?_); (refine ⟨_, rfl, rfl, _, rfl, ?_⟩; refine iteF ?_)
    refine ⟨_, rfl, q p (ps ++ qs) _ ?_⟩
    show Own3 H _ p _ ((base3 ++ List.replicate (12 + c % 3).toNat ((0 : Int), ("plain" : Str))).map rV)
    rw [List.map_append, List.map_replicate]
    exact O2
  | 3, _ =>
    (refine ⟨_, rfl, rfl, _, rfl, ?_⟩; refine iteF ?_); (refine ⟨_, rfl, rfl, _, rfl, ?_⟩; refine iteF ?_); (refine ⟨_, rfl, rfl, _, rfl, ?_⟩; refine iteT ?_)
    refine ⟨_, rfl, _, _, rfl, rfl, (by show (0 : Int) < _; decide), _, rfl, _, rfl, _, _, rfl, rfl, (by show (0 : Int) < _; decide), _, _, rfl, rfl, (by show 2 ≤ sizeLine; decide), fun l hl => ?_⟩
    refine ⟨_, rfl, _, _, rfl, rfl, ⟨by decide, by decide⟩, _, _, rfl, rfl, (by show (0 : Int) < _; decide), l, _, _, .int (if c / 6 % 2 = 0 then c % 6 else -2 - c % 5), rfl, rfl, SqL.of upd_same, ?_, (by show 2 ≤ sizeLine; decide), fun t ht => ?_⟩
    · have z : c / 6 % 2 = 0 ∨ c / 6 % 2 = 1 := by omega
      rcases z with z | z <;> (rw [z]; rfl)
    have O2 := (O'.more (same_new hl _)).set 0 ht (rV (if c / 6 % 2 = 0 then c % 6 else -2 - c % 5, "one"))
    refine ⟨_, rfl, r, _, 0, 0, rfl, rfl, ?_, ixN_of rfl (by rw [lp]; decide), ?_⟩
    · rw [upd_ne (ne_of_none ((O'.more (same_new hl _)).at_) ht)]; exact (O'.more (same_new hl _)).at_
    (refine ⟨_, rfl, rfl, _, rfl, ?_⟩; refine iteF ?_); (refine ⟨_, rfl, rfl, _, rfl, ?_⟩; refine iteF ?_); (refine ⟨_, rfl, rfl, _, rfl, ?_⟩; refine iteF ?_); (refine ⟨_, rfl, rfl, _, rfl, ?_⟩; refine iteF ?_); (refine ⟨_, rfl, rfl, _, rfl, ?_⟩; refine iteF ?_); (refine ⟨_, rfl, rfl, _, rfl, ?_⟩; refine iteF ?_); (refine ⟨_, rfl, rfl, _, rfl, ?_⟩; refine iteF ?_); (refine ⟨_, rfl, rfl, _, rfl, ?_⟩; refine iteF ?_); (refine ⟨_, rfl, rfl, _, rfl, ?_⟩; refine iteF ?_); (refine ⟨_, rfl, rfl, _, rfl, ?_⟩; refine iteF ?_)
    refine ⟨_, rfl, q r (ps.set 0 t) _ ?_⟩
    show Own3 H _ r _ ((base3.set 0 (if c / 6 % 2 = 0 then c % 6 else -2 - c % 5, "one")).map rV)
    rw [List.map_set]
    exact O2
  | 4, _ =>
    (refine ⟨_, rfl, rfl, _, rfl, ?_⟩; refine iteF ?_); (refine ⟨_, rfl, rfl, _, rfl, ?_⟩; refine iteF ?_); (refine ⟨_, rfl, rfl, _, rfl, ?_⟩; refine iteF ?_); (refine ⟨_, rfl, rfl, _, rfl, ?_⟩; refine iteT ?_)
    have ei : 1 + c % 4 = (((1 + c % 4).toNat : Nat) : Int) := by omega
    have hi : (1 + c % 4).toNat < 5 := by omega
    obtain ⟨p, hp, hp2⟩ := O'.rm ei hi
    refine ⟨_, rfl, _, rfl, _, _, rfl, rfl, ⟨by decide, by decide⟩, _, _, rfl, rfl, (by show (0 : Int) < _; decide), _, _, rfl, rfl, _, rfl, _, rfl, r, _, _, _, rfl, rfl, SqL.of O'.at_, hp, p, _, _, _, rfl, rfl, SqT.of hp2, rfl, (by show 2 ≤ sizeLine; decide), fun t ht => ?_⟩
    have O2 := O'.set (1 + c % 4).toNat ht (rV (1 + c % 4 + c / 4 % 9, (rmAt base3 (1 + c % 4).toNat).2))
    refine ⟨_, rfl, _, rfl, r, _, _, (1 + c % 4).toNat, rfl, rfl, ?_, ixN_of ei (by rw [lp]; exact hi), ?_⟩
    · rw [upd_ne (ne_of_none O'.at_ ht)]; exact O'.at_
    (refine ⟨_, rfl, rfl, _, rfl, ?_⟩; refine iteF ?_); (refine ⟨_, rfl, rfl, _, rfl, ?_⟩; refine iteF ?_); (refine ⟨_, rfl, rfl, _, rfl, ?_⟩; refine iteF ?_); (refine ⟨_, rfl, rfl, _, rfl, ?_⟩; refine iteF ?_); (refine ⟨_, rfl, rfl, _, rfl, ?_⟩; refine iteF ?_); (refine ⟨_, rfl, rfl, _, rfl, ?_⟩; refine iteF ?_); (refine ⟨_, rfl, rfl, _, rfl, ?_⟩; refine iteF ?_); (refine ⟨_, rfl, rfl, _, rfl, ?_⟩; refine iteF ?_); (refine ⟨_, rfl, rfl, _, rfl, ?_⟩; refine iteF ?_)
    refine ⟨_, rfl, q r (ps.set (1 + c % 4).toNat t) _ ?_⟩
    show Own3 H _ r _ ((base3.set (1 + c % 4).toNat (1 + c % 4 + c / 4 % 9, (rmAt base3 (1 + c % 4).toNat).2)).map rV)
    rw [List.map_set]
    exact O2
  | 5, _ =>
    (refine ⟨_, rfl, rfl, _, rfl, ?_⟩; refine iteF ?_); (refine ⟨_, rfl, rfl, _, rfl, ?_⟩; refine iteF ?_); (refine ⟨_, rfl, rfl, _, rfl, ?_⟩; refine iteF ?_); (refine ⟨_, rfl, rfl, _, rfl, ?_⟩; refine iteF ?_); (refine ⟨_, rfl, rfl, _, rfl, ?_⟩; refine iteT ?_)
    have ei : 1 + c % 4 = (((1 + c % 4).toNat : Nat) : Int) := by omega
    have hi : (1 + c % 4).toNat < 5 := by omega
    obtain ⟨p, hp, hp2⟩ := O'.rm ei hi
    refine ⟨_, rfl, _, rfl, _, _, rfl, rfl, ⟨by decide, by decide⟩, _, _, rfl, rfl, (by show (0 : Int) < _; decide), _, _, rfl, rfl, _, rfl, _, rfl, r, _, _, _, rfl, rfl, SqL.of O'.at_, hp, p, _, _, _, rfl, rfl, SqT.of hp2, rfl, (by show 2 ≤ sizeLine; decide), fun t ht => ?_⟩
    have O2 := O'.set (1 + c % 4).toNat ht (rV (-1 - c / 4 % 9, (rmAt base3 (1 + c % 4).toNat).2))
    refine ⟨_, rfl, _, rfl, r, _, _, (1 + c % 4).toNat, rfl, rfl, ?_, ixN_of ei (by rw [lp]; exact hi), ?_⟩
    · rw [upd_ne (ne_of_none O'.at_ ht)]; exact O'.at_
    (refine ⟨_, rfl, rfl, _, rfl, ?_⟩; refine iteF ?_); (refine ⟨_, rfl, rfl, _, rfl, ?_⟩; refine iteF ?_); (refine ⟨_, rfl, rfl, _, rfl, ?_⟩; refine iteF ?_); (refine ⟨_, rfl, rfl, _, rfl, ?_⟩; refine iteF ?_); (refine ⟨_, rfl, rfl, _, rfl, ?_⟩; refine iteF ?_); (refine ⟨_, rfl, rfl, _, rfl, ?_⟩; refine iteF ?_); (refine ⟨_, rfl, rfl, _, rfl, ?_⟩; refine iteF ?_); (refine ⟨_, rfl, rfl, _, rfl, ?_⟩; refine iteF ?_)
    refine ⟨_, rfl, q r (ps.set (1 + c % 4).toNat t) _ ?_⟩
    show Own3 H _ r _ ((base3.set (1 + c % 4).toNat (-1 - c / 4 % 9, (rmAt base3 (1 + c % 4).toNat).2)).map rV)
    rw [List.map_set]
    exact O2
  | 6, _ =>
    (refine ⟨_, rfl, rfl, _, rfl, ?_⟩; refine iteF ?_); (refine ⟨_, rfl, rfl, _, rfl, ?_⟩; refine iteF ?_); (refine ⟨_, rfl, rfl, _, rfl, ?_⟩; refine iteF ?_); (refine ⟨_, rfl, rfl, _, rfl, ?_⟩; refine iteF ?_); (refine ⟨_, rfl, rfl, _, rfl, ?_⟩; refine iteF ?_); (refine ⟨_, rfl, rfl, _, rfl, ?_⟩; refine iteT ?_)
    have ei : c % 5 = (((c % 5).toNat : Nat) : Int) := by omega
    have hi : (c % 5).toNat < 5 := by omega
    obtain ⟨p, hp, hp2⟩ := O'.rm ei hi
    refine ⟨_, rfl, _, rfl, _, _, rfl, rfl, (by show (0 : Int) < _; decide), r, _, _, _, rfl, rfl, SqL.of O'.at_, hp, p, _, _, _, rfl, rfl, SqT.of hp2, rfl, (by show 5 ≤ sizeLine; decide), fun l hl => ?_⟩
    refine ⟨_, rfl, _, _, rfl, rfl, ⟨by decide, by decide⟩, _, _, rfl, rfl, (by show (0 : Int) < _; decide), l, _, _, .str (txt6 (c / 5 % 5)), rfl, rfl, SqL.of upd_same, ?_, (by show 2 ≤ sizeLine; decide), fun t ht => ?_⟩
    · have e : c / 5 % 5 = (((c / 5 % 5).toNat : Nat) : Int) := by omega
      have hlt : (c / 5 % 5).toNat < 5 := by omega
      rw [show txt6 (c / 5 % 5) = txt6 (((c / 5 % 5).toNat : Nat) : Int) from by rw [← e], e]
      refine atI_nat ?_
      generalize (c / 5 % 5).toNat = n at hlt
      match n, hlt with
      | 0, _ => rfl
      | 1, _ => rfl
      | 2, _ => rfl
      | 3, _ => rfl
      | 4, _ => rfl
    have O1 := O'.more (same_new hl (.lst [.str "", .str "One", .str "any", .str "plain ", .str "keeps"]))
    have O2 := O1.set (c % 5).toNat ht (rV ((rmAt base3 (c % 5).toNat).1, txt6 (c / 5 % 5)))
    refine ⟨_, rfl, _, rfl, _, _, rfl, rfl, (by show (0 : Int) < _; decide), r, _, _, (c % 5).toNat, rfl, rfl, ?_, ixN_of ei (by rw [lp]; exact hi), ?_⟩
    · rw [upd_ne (ne_of_none O1.at_ ht)]; exact O1.at_
    (refine ⟨_, rfl, rfl, _, rfl, ?_⟩; refine iteF ?_); (refine ⟨_, rfl, rfl, _, rfl, ?_⟩; refine iteF ?_); (refine ⟨_, rfl, rfl, _, rfl, ?_⟩; refine iteF ?_); (refine ⟨_, rfl, rfl, _, rfl, ?_⟩; refine iteF ?_); (refine ⟨_, rfl, rfl, _, rfl, ?_⟩; refine iteF ?_); (refine ⟨_, rfl, rfl, _, rfl, ?_⟩; refine iteF ?_); (refine ⟨_, rfl, rfl, _, rfl, ?_⟩; refine iteF ?_)
    refine ⟨_, rfl, q r (ps.set (c % 5).toNat t) _ ?_⟩
    show Own3 H _ r _ ((base3.set (c % 5).toNat ((rmAt base3 (c % 5).toNat).1, txt6 (c / 5 % 5))).map rV)
    rw [List.map_set]
    exact O2
  | 7, _ =>
    (refine ⟨_, rfl, rfl, _, rfl, ?_⟩; refine iteF ?_); (refine ⟨_, rfl, rfl, _, rfl, ?_⟩; refine iteF ?_); (refine ⟨_, rfl, rfl, _, rfl, ?_⟩; refine iteF ?_); (refine ⟨_, rfl, rfl, _, rfl, ?_⟩; refine iteF ?_); (refine ⟨_, rfl, rfl, _, rfl, ?_⟩; refine iteF ?_); (refine ⟨_, rfl, rfl, _, rfl, ?_⟩; refine iteF ?_); (refine ⟨_, rfl, rfl, _, rfl, ?_⟩; refine iteT ?_)
    have ei : c % 2 = (((c % 2).toNat : Nat) : Int) := by omega
    have hi : (c % 2).toNat < 5 := by omega
    obtain ⟨p, hp, hp2⟩ := O'.rm ei hi
    refine ⟨_, rfl, _, rfl, _, _, rfl, rfl, (by show (0 : Int) < _; decide), r, _, _, _, rfl, rfl, SqL.of O'.at_, hp, p, _, _, _, rfl, rfl, SqT.of hp2, rfl, (by show 2 ≤ sizeLine; decide), fun t ht => ?_⟩
    have O2 := O'.set (c % 2).toNat ht (rV ((rmAt base3 (c % 2).toNat).1, "plain"))
    refine ⟨_, rfl, _, rfl, _, _, rfl, rfl, (by show (0 : Int) < _; decide), r, _, _, (c % 2).toNat, rfl, rfl, ?_, ixN_of ei (by rw [lp]; exact hi), ?_⟩
    · rw [upd_ne (ne_of_none O'.at_ ht)]; exact O'.at_
    (refine ⟨_, rfl, rfl, _, rfl, ?_⟩; refine iteF ?_); (refine ⟨_, rfl, rfl, _, rfl, ?_⟩; refine iteF ?_); (refine ⟨_, rfl, rfl, _, rfl, ?_⟩; refine iteF ?_); (refine ⟨_, rfl, rfl, _, rfl, ?_⟩; refine iteF ?_); (refine ⟨_, rfl, rfl, _, rfl, ?_⟩; refine iteF ?_); (refine ⟨_, rfl, rfl, _, rfl, ?_⟩; refine iteF ?_)
    refine ⟨_, rfl, q r (ps.set (c % 2).toNat t) _ ?_⟩
    show Own3 H _ r _ ((base3.set (c % 2).toNat ((rmAt base3 (c % 2).toNat).1, "plain")).map rV)
    rw [List.map_set]
    exact O2
  | 8, _ =>
    (refine ⟨_, rfl, rfl, _, rfl, ?_⟩; refine iteF ?_); (refine ⟨_, rfl, rfl, _, rfl, ?_⟩; refine iteF ?_); (refine ⟨_, rfl, rfl, _, rfl, ?_⟩; refine iteF ?_); (refine ⟨_, rfl, rfl, _, rfl, ?_⟩; refine iteF ?_); (refine ⟨_, rfl, rfl, _, rfl, ?_⟩; refine iteF ?_); (refine ⟨_, rfl, rfl, _, rfl, ?_⟩; refine iteF ?_); (refine ⟨_, rfl, rfl, _, rfl, ?_⟩; refine iteF ?_); (refine ⟨_, rfl, rfl, _, rfl, ?_⟩; refine iteT ?_)
    have ei : 2 + c % 3 = (((2 + c % 3).toNat : Nat) : Int) := by omega
    have hi : (2 + c % 3).toNat < 5 := by omega
    obtain ⟨p, hp, hp2⟩ := O'.rm ei hi
    refine ⟨_, rfl, _, rfl, _, _, rfl, rfl, (by show (0 : Int) < _; decide), _, _, rfl, rfl, r, _, _, _, rfl, rfl, SqL.of O'.at_, hp, p, _, _, _, rfl, rfl, SqT.of hp2, rfl, (by show 3 ≤ sizeLine; decide), fun l hl => ?_⟩
    refine ⟨_, rfl, _, _, rfl, rfl, ⟨by decide, by decide⟩, _, _, rfl, rfl, (by show (0 : Int) < _; decide), l, _, _, .str (txt8 (c / 3 % 3)), rfl, rfl, SqL.of upd_same, ?_, (by show 2 ≤ sizeLine; decide), fun t ht => ?_⟩
    · have e : c / 3 % 3 = (((c / 3 % 3).toNat : Nat) : Int) := by omega
      have hlt : (c / 3 % 3).toNat < 3 := by omega
      rw [show txt8 (c / 3 % 3) = txt8 (((c / 3 % 3).toNat : Nat) : Int) from by rw [← e], e]
      refine atI_nat ?_
      generalize (c / 3 % 3).toNat = n at hlt
      match n, hlt with
      | 0, _ => rfl
      | 1, _ => rfl
      | 2, _ => rfl
    have O1 := O'.more (same_new hl (.lst [.str "one", .str "all", .str "keep"]))
    have O2 := O1.set (2 + c % 3).toNat ht (rV ((rmAt base3 (2 + c % 3).toNat).1, txt8 (c / 3 % 3)))
    refine ⟨_, rfl, _, rfl, _, _, rfl, rfl, (by show (0 : Int) < _; decide), _, _, rfl, rfl, r, _, _, (2 + c % 3).toNat, rfl, rfl, ?_, ixN_of ei (by rw [lp]; exact hi), ?_⟩
    · rw [upd_ne (ne_of_none O1.at_ ht)]; exact O1.at_
    (refine ⟨_, rfl, rfl, _, rfl, ?_⟩; refine iteF ?_); (refine ⟨_, rfl, rfl, _, rfl, ?_⟩; refine iteF ?_); (refine ⟨_, rfl, rfl, _, rfl, ?_⟩; refine iteF ?_); (refine ⟨_, rfl, rfl, _, rfl, ?_⟩; refine iteF ?_); (refine ⟨_, rfl, rfl, _, rfl, ?_⟩; refine iteF ?_)
    refine ⟨_, rfl, q r (ps.set (2 + c % 3).toNat t) _ ?_⟩
    show Own3 H _ r _ ((base3.set (2 + c % 3).toNat ((rmAt base3 (2 + c % 3).toNat).1, txt8 (c / 3 % 3))).map rV)
    rw [List.map_set]
    exact O2
  | 9, _ =>
    (refine ⟨_, rfl, rfl, _, rfl, ?_⟩; refine iteF ?_); (refine ⟨_, rfl, rfl, _, rfl, ?_⟩; refine iteF ?_); (refine ⟨_, rfl, rfl, _, rfl, ?_⟩; refine iteF ?_); (refine ⟨_, rfl, rfl, _, rfl, ?_⟩; refine iteF ?_); (refine ⟨_, rfl, rfl, _, rfl, ?_⟩; refine iteF ?_); (refine ⟨_, rfl, rfl, _, rfl, ?_⟩; refine iteF ?_); (refine ⟨_, rfl, rfl, _, rfl, ?_⟩; refine iteF ?_); (refine ⟨_, rfl, rfl, _, rfl, ?_⟩; refine iteF ?_); (refine ⟨_, rfl, rfl, _, rfl, ?_⟩; refine iteT ?_)
    refine ⟨_, rfl, 11, rfl, by decide, by decide, fun bk D hD => ?_⟩
    refine comp_alike (n := 11) (o := rV (0, "plain")) (by decide) hD (fun v H' Q q => ⟨(by show 2 ≤ sizeLine; decide), q⟩) fun qs H2 s2 e2 hI2 => ?_
    refine ⟨r, D, _, _, rfl, rfl, s2 _ _ O'.at_, e2, ?_, fun p hp => ?_⟩
    · have z := hI2.1
      rw [List.length_replicate] at z
      rw [lp, List.length_map]
      exact small (by omega)
    have O2 := O'.cat (D := D) s2 hI2 hp
    (refine ⟨_, rfl, rfl, _, rfl, ?_⟩; refine iteF ?_); (refine ⟨_, rfl, rfl, _, rfl, ?_⟩; refine iteF ?_); (refine ⟨_, rfl, rfl, _, rfl, ?_⟩; refine iteF ?_); (refine ⟨_, rfl, rfl, _, rfl, ?_⟩; refine iteF ?_)
    refine ⟨_, rfl, q p (ps ++ qs) _ ?_⟩
    show Own3 H _ p _ ((base3 ++ List.replicate 11 ((0 : Int), ("plain" : Str))).map rV)
    rw [List.map_append, List.map_replicate]
    exact O2
  | 10, _ =>
    (refine ⟨_, rfl, rfl, _, rfl, ?_⟩; refine iteF ?_); (refine ⟨_, rfl, rfl, _, rfl, ?_⟩; refine iteF ?_); (refine ⟨_, rfl, rfl, _, rfl, ?_⟩; refine iteF ?_); (refine ⟨_, rfl, rfl, _, rfl, ?_⟩; refine iteF ?_); (refine ⟨_, rfl, rfl, _, rfl, ?_⟩; refine iteF ?_); (refine ⟨_, rfl, rfl, _, rfl, ?_⟩; refine iteF ?_); (refine ⟨_, rfl, rfl, _, rfl, ?_⟩; refine iteF ?_); (refine ⟨_, rfl, rfl, _, rfl, ?_⟩; refine iteF ?_); (refine ⟨_, rfl, rfl, _, rfl, ?_⟩; refine iteF ?_); (refine ⟨_, rfl, rfl, _, rfl, ?_⟩; refine iteT ?_)
    refine ⟨(by show 2 ≤ sizeLine; decide), fun t ht => ?_⟩
    have O2 := O'.set 1 ht (rV (0, "all"))
    refine ⟨_, rfl, r, _, 1, 1, rfl, rfl, (by rw [upd_ne (ne_of_none O'.at_ ht)]; exact O'.at_), ixN_of rfl (by rw [lp]; decide), ?_⟩
    refine ⟨_, rfl, (by show 2 ≤ sizeLine; decide), fun t' ht' => ?_⟩
    have O3 := O2.set 0 ht' (rV (-1, "all"))
    have z := O2.at_
    rw [List.map_set] at z O3
    refine ⟨_, rfl, r, _, 0, 0, rfl, rfl, (by rw [upd_ne (ne_of_none z ht')]; exact z), ixN_of rfl (by rw [List.length_set, lp]; decide), ?_⟩
    (refine ⟨_, rfl, rfl, _, rfl, ?_⟩; refine iteF ?_); (refine ⟨_, rfl, rfl, _, rfl, ?_⟩; refine iteF ?_); (refine ⟨_, rfl, rfl, _, rfl, ?_⟩; refine iteF ?_)
    exact ⟨_, rfl, q r _ _ O3⟩
  | 11, _ => (refine ⟨_, rfl, rfl, _, rfl, ?_⟩; refine iteF ?_); (refine ⟨_, rfl, rfl, _, rfl, ?_⟩; refine iteF ?_); (refine ⟨_, rfl, rfl, _, rfl, ?_⟩; refine iteF ?_); (refine ⟨_, rfl, rfl, _, rfl, ?_⟩; refine iteF ?_); (refine ⟨_, rfl, rfl, _, rfl, ?_⟩; refine iteF ?_); (refine ⟨_, rfl, rfl, _, rfl, ?_⟩; refine iteF ?_); (refine ⟨_, rfl, rfl, _, rfl, ?_⟩; refine iteF ?_); (refine ⟨_, rfl, rfl, _, rfl, ?_⟩; refine iteF ?_); (refine ⟨_, rfl, rfl, _, rfl, ?_⟩; refine iteF ?_); (refine ⟨_, rfl, rfl, _, rfl, ?_⟩; refine iteF ?_); (refine ⟨_, rfl, rfl, _, rfl, ?_⟩; refine iteF ?_); (refine ⟨_, rfl, rfl, _, rfl, ?_⟩; refine iteF ?_); (refine ⟨_, rfl, rfl, _, rfl, ?_⟩; refine iteF ?_); exact ⟨_, rfl, q r ps H1 O'⟩
  | 12, _ => (refine ⟨_, rfl, rfl, _, rfl, ?_⟩; refine iteF ?_); (refine ⟨_, rfl, rfl, _, rfl, ?_⟩; refine iteF ?_); (refine ⟨_, rfl, rfl, _, rfl, ?_⟩; refine iteF ?_); (refine ⟨_, rfl, rfl, _, rfl, ?_⟩; refine iteF ?_); (refine ⟨_, rfl, rfl, _, rfl, ?_⟩; refine iteF ?_); (refine ⟨_, rfl, rfl, _, rfl, ?_⟩; refine iteF ?_); (refine ⟨_, rfl, rfl, _, rfl, ?_⟩; refine iteF ?_); (refine ⟨_, rfl, rfl, _, rfl, ?_⟩; refine iteF ?_); (refine ⟨_, rfl, rfl, _, rfl, ?_⟩; refine iteF ?_); (refine ⟨_, rfl, rfl, _, rfl, ?_⟩; refine iteF ?_); (refine ⟨_, rfl, rfl, _, rfl, ?_⟩; refine iteF ?_); (refine ⟨_, rfl, rfl, _, rfl, ?_⟩; refine iteF ?_); (refine ⟨_, rfl, rfl, _, rfl, ?_⟩; refine iteF ?_); exact ⟨_, rfl, q r ps H1 O'⟩
  | 13, _ => (refine ⟨_, rfl, rfl, _, rfl, ?_⟩; refine iteF ?_); (refine ⟨_, rfl, rfl, _, rfl, ?_⟩; refine iteF ?_); (refine ⟨_, rfl, rfl, _, rfl, ?_⟩; refine iteF ?_); (refine ⟨_, rfl, rfl, _, rfl, ?_⟩; refine iteF ?_); (refine ⟨_, rfl, rfl, _, rfl, ?_⟩; refine iteF ?_); (refine ⟨_, rfl, rfl, _, rfl, ?_⟩; refine iteF ?_); (refine ⟨_, rfl, rfl, _, rfl, ?_⟩; refine iteF ?_); (refine ⟨_, rfl, rfl, _, rfl, ?_⟩; refine iteF ?_); (refine ⟨_, rfl, rfl, _, rfl, ?_⟩; refine iteF ?_); (refine ⟨_, rfl, rfl, _, rfl, ?_⟩; refine iteF ?_); (refine ⟨_, rfl, rfl, _, rfl, ?_⟩; refine iteF ?_); (refine ⟨_, rfl, rfl, _, rfl, ?_⟩; refine iteF ?_); (refine ⟨_, rfl, rfl, _, rfl, ?_⟩; refine iteF ?_); exact ⟨_, rfl, q r ps H1 O'⟩
  | 14, _ => (refine ⟨_, rfl, rfl, _, rfl, ?_⟩; refine iteF ?_); (refine ⟨_, rfl, rfl, _, rfl, ?_⟩; refine iteF ?_); (refine ⟨_, rfl, rfl, _, rfl, ?_⟩; refine iteF ?_); (refine ⟨_, rfl, rfl, _, rfl, ?_⟩; refine iteF ?_); (refine ⟨_, rfl, rfl, _, rfl, ?_⟩; refine iteF ?_); (refine ⟨_, rfl, rfl, _, rfl, ?_⟩; refine iteF ?_); (refine ⟨_, rfl, rfl, _, rfl, ?_⟩; refine iteF ?_); (refine ⟨_, rfl, rfl, _, rfl, ?_⟩; refine iteF ?_); (refine ⟨_, rfl, rfl, _, rfl, ?_⟩; refine iteF ?_); (refine ⟨_, rfl, rfl, _, rfl, ?_⟩; refine iteF ?_); (refine ⟨_, rfl, rfl, _, rfl, ?_⟩; refine iteF ?_); (refine ⟨_, rfl, rfl, _, rfl, ?_⟩; refine iteF ?_); (refine ⟨_, rfl, rfl, _, rfl, ?_⟩; refine iteF ?_); exact ⟨_, rfl, q r ps H1 O'⟩
  | 15, _ => (refine ⟨_, rfl, rfl, _, rfl, ?_⟩; refine iteF ?_); (refine ⟨_, rfl, rfl, _, rfl, ?_⟩; refine iteF ?_); (refine ⟨_, rfl, rfl, _, rfl, ?_⟩; refine iteF ?_); (refine ⟨_, rfl, rfl, _, rfl, ?_⟩; refine iteF ?_); (refine ⟨_, rfl, rfl, _, rfl, ?_⟩; refine iteF ?_); (refine ⟨_, rfl, rfl, _, rfl, ?_⟩; refine iteF ?_); (refine ⟨_, rfl, rfl, _, rfl, ?_⟩; refine iteF ?_); (refine ⟨_, rfl, rfl, _, rfl, ?_⟩; refine iteF ?_); (refine ⟨_, rfl, rfl, _, rfl, ?_⟩; refine iteF ?_); (refine ⟨_, rfl, rfl, _, rfl, ?_⟩; refine iteF ?_); (refine ⟨_, rfl, rfl, _, rfl, ?_⟩; refine iteF ?_); (refine ⟨_, rfl, rfl, _, rfl, ?_⟩; refine iteF ?_); (refine ⟨_, rfl, rfl, _, rfl, ?_⟩; refine iteF ?_); exact ⟨_, rfl, q r ps H1 O'⟩
  | 16, _ => (refine ⟨_, rfl, rfl, _, rfl, ?_⟩; refine iteF ?_); (refine ⟨_, rfl, rfl, _, rfl, ?_⟩; refine iteF ?_); (refine ⟨_, rfl, rfl, _, rfl, ?_⟩; refine iteF ?_); (refine ⟨_, rfl, rfl, _, rfl, ?_⟩; refine iteF ?_); (refine ⟨_, rfl, rfl, _, rfl, ?_⟩; refine iteF ?_); (refine ⟨_, rfl, rfl, _, rfl, ?_⟩; refine iteF ?_); (refine ⟨_, rfl, rfl, _, rfl, ?_⟩; refine iteF ?_); (refine ⟨_, rfl, rfl, _, rfl, ?_⟩; refine iteF ?_); (refine ⟨_, rfl, rfl, _, rfl, ?_⟩; refine iteF ?_); (refine ⟨_, rfl, rfl, _, rfl, ?_⟩; refine iteF ?_); (refine ⟨_, rfl, rfl, _, rfl, ?_⟩; refine iteF ?_); (refine ⟨_, rfl, rfl, _, rfl, ?_⟩; refine iteF ?_); (refine ⟨_, rfl, rfl, _, rfl, ?_⟩; refine iteF ?_); exact ⟨_, rfl, q r ps H1 O'⟩
  | 17, _ => (refine ⟨_, rfl, rfl, _, rfl, ?_⟩; refine iteF ?_); (refine ⟨_, rfl, rfl, _, rfl, ?_⟩; refine iteF ?_); (refine ⟨_, rfl, rfl, _, rfl, ?_⟩; refine iteF ?_); (refine ⟨_, rfl, rfl, _, rfl, ?_⟩; refine iteF ?_); (refine ⟨_, rfl, rfl, _, rfl, ?_⟩; refine iteF ?_); (refine ⟨_, rfl, rfl, _, rfl, ?_⟩; refine iteF ?_); (refine ⟨_, rfl, rfl, _, rfl, ?_⟩; refine iteF ?_); (refine ⟨_, rfl, rfl, _, rfl, ?_⟩; refine iteF ?_); (refine ⟨_, rfl, rfl, _, rfl, ?_⟩; refine iteF ?_); (refine ⟨_, rfl, rfl, _, rfl, ?_⟩; refine iteF ?_); (refine ⟨_, rfl, rfl, _, rfl, ?_⟩; refine iteF ?_); (refine ⟨_, rfl, rfl, _, rfl, ?_⟩; refine iteF ?_); (refine ⟨_, rfl, rfl, _, rfl, ?_⟩; refine iteF ?_); exact ⟨_, rfl, q r ps H1 O'⟩
  | 18, _ => (refine ⟨_, rfl, rfl, _, rfl, ?_⟩; refine iteF ?_); (refine ⟨_, rfl, rfl, _, rfl, ?_⟩; refine iteF ?_); (refine ⟨_, rfl, rfl, _, rfl, ?_⟩; refine iteF ?_); (refine ⟨_, rfl, rfl, _, rfl, ?_⟩; refine iteF ?_); (refine ⟨_, rfl, rfl, _, rfl, ?_⟩; refine iteF ?_); (refine ⟨_, rfl, rfl, _, rfl, ?_⟩; refine iteF ?_); (refine ⟨_, rfl, rfl, _, rfl, ?_⟩; refine iteF ?_); (refine ⟨_, rfl, rfl, _, rfl, ?_⟩; refine iteF ?_); (refine ⟨_, rfl, rfl, _, rfl, ?_⟩; refine iteF ?_); (refine ⟨_, rfl, rfl, _, rfl, ?_⟩; refine iteF ?_); (refine ⟨_, rfl, rfl, _, rfl, ?_⟩; refine iteF ?_); (refine ⟨_, rfl, rfl, _, rfl, ?_⟩; refine iteF ?_); (refine ⟨_, rfl, rfl, _, rfl, ?_⟩; refine iteF ?_); exact ⟨_, rfl, q r ps H1 O'⟩
  | 19, _ => (refine ⟨_, rfl, rfl, _, rfl, ?_⟩; refine iteF ?_); (refine ⟨_, rfl, rfl, _, rfl, ?_⟩; refine iteF ?_); (refine ⟨_, rfl, rfl, _, rfl, ?_⟩; refine iteF ?_); (refine ⟨_, rfl, rfl, _, rfl, ?_⟩; refine iteF ?_); (refine ⟨_, rfl, rfl, _, rfl, ?_⟩; refine iteF ?_); (refine ⟨_, rfl, rfl, _, rfl, ?_⟩; refine iteF ?_); (refine ⟨_, rfl, rfl, _, rfl, ?_⟩; refine iteF ?_); (refine ⟨_, rfl, rfl, _, rfl, ?_⟩; refine iteF ?_); (refine ⟨_, rfl, rfl, _, rfl, ?_⟩; refine iteF ?_); (refine ⟨_, rfl, rfl, _, rfl, ?_⟩; refine iteF ?_); (refine ⟨_, rfl, rfl, _, rfl, ?_⟩; refine iteF ?_); (refine ⟨_, rfl, rfl, _, rfl, ?_⟩; refine iteF ?_); (refine ⟨_, rfl, rfl, _, rfl, ?_⟩; refine iteF ?_); exact ⟨_, rfl, q r ps H1 O'⟩
  | 20, _ => (refine ⟨_, rfl, rfl, _, rfl, ?_⟩; refine iteF ?_); (refine ⟨_, rfl, rfl, _, rfl, ?_⟩; refine iteF ?_); (refine ⟨_, rfl, rfl, _, rfl, ?_⟩; refine iteF ?_); (refine ⟨_, rfl, rfl, _, rfl, ?_⟩; refine iteF ?_); (refine ⟨_, rfl, rfl, _, rfl, ?_⟩; refine iteF ?_); (refine ⟨_, rfl, rfl, _, rfl, ?_⟩; refine iteF ?_); (refine ⟨_, rfl, rfl, _, rfl, ?_⟩; refine iteF ?_); (refine ⟨_, rfl, rfl, _, rfl, ?_⟩; refine iteF ?_); (refine ⟨_, rfl, rfl, _, rfl, ?_⟩; refine iteF ?_); (refine ⟨_, rfl, rfl, _, rfl, ?_⟩; refine iteF ?_); (refine ⟨_, rfl, rfl, _, rfl, ?_⟩; refine iteF ?_); (refine ⟨_, rfl, rfl, _, rfl, ?_⟩; refine iteF ?_); (refine ⟨_, rfl, rfl, _, rfl, ?_⟩; refine iteF ?_); exact ⟨_, rfl, q r ps H1 O'⟩
  | 21, _ => (refine ⟨_, rfl, rfl, _, rfl, ?_⟩; refine iteF ?_); (refine ⟨_, rfl, rfl, _, rfl, ?_⟩; refine iteF ?_); (refine ⟨_, rfl, rfl, _, rfl, ?_⟩; refine iteF ?_); (refine ⟨_, rfl, rfl, _, rfl, ?_⟩; refine iteF ?_); (refine ⟨_, rfl, rfl, _, rfl, ?_⟩; refine iteF ?_); (refine ⟨_, rfl, rfl, _, rfl, ?_⟩; refine iteF ?_); (refine ⟨_, rfl, rfl, _, rfl, ?_⟩; refine iteF ?_); (refine ⟨_, rfl, rfl, _, rfl, ?_⟩; refine iteF ?_); (refine ⟨_, rfl, rfl, _, rfl, ?_⟩; refine iteF ?_); (refine ⟨_, rfl, rfl, _, rfl, ?_⟩; refine iteF ?_); (refine ⟨_, rfl, rfl, _, rfl, ?_⟩; refine iteF ?_); (refine ⟨_, rfl, rfl, _, rfl, ?_⟩; refine iteF ?_); (refine ⟨_, rfl, rfl, _, rfl, ?_⟩; refine iteF ?_); exact ⟨_, rfl, q r ps H1 O'⟩
  | 22, _ =>
    (refine ⟨_, rfl, rfl, _, rfl, ?_⟩; refine iteF ?_); (refine ⟨_, rfl, rfl, _, rfl, ?_⟩; refine iteF ?_); (refine ⟨_, rfl, rfl, _, rfl, ?_⟩; refine iteF ?_); (refine ⟨_, rfl, rfl, _, rfl, ?_⟩; refine iteF ?_); (refine ⟨_, rfl, rfl, _, rfl, ?_⟩; refine iteF ?_); (refine ⟨_, rfl, rfl, _, rfl, ?_⟩; refine iteF ?_); (refine ⟨_, rfl, rfl, _, rfl, ?_⟩; refine iteF ?_); (refine ⟨_, rfl, rfl, _, rfl, ?_⟩; refine iteF ?_); (refine ⟨_, rfl, rfl, _, rfl, ?_⟩; refine iteF ?_); (refine ⟨_, rfl, rfl, _, rfl, ?_⟩; refine iteF ?_); (refine ⟨_, rfl, rfl, _, rfl, ?_⟩; refine iteT ?_)
    refine iteT ?_
    refine ⟨_, rfl, (by show 2 ≤ sizeLine; decide), fun t1 h1 => ?_⟩
    refine ⟨(by show 2 ≤ sizeLine; decide), fun t2 h2 => ?_⟩
    refine ⟨(by show 2 ≤ sizeLine; decide), fun t3 h3 => ?_⟩
    refine ⟨(by show 2 ≤ sizeLine; decide), fun t4 h4 => ?_⟩
    refine ⟨(by show 2 ≤ sizeLine; decide), fun t5 h5 => ?_⟩
    refine ⟨(by show 5 ≤ sizeLine; decide), fun r h6 => ?_⟩
    have O2 := own_five h1 h2 h3 h4 h5 h6
    (refine ⟨_, rfl, rfl, _, rfl, ?_⟩; refine iteF ?_)
    exact ⟨_, rfl, q r _ _ ⟨O'.same.trans O2.same, O'.same.free O2.new, O2.at_, O2.its⟩⟩
  | 23, _ =>
    (refine ⟨_, rfl, rfl, _, rfl, ?_⟩; refine iteF ?_); (refine ⟨_, rfl, rfl, _, rfl, ?_⟩; refine iteF ?_); (refine ⟨_, rfl, rfl, _, rfl, ?_⟩; refine iteF ?_); (refine ⟨_, rfl, rfl, _, rfl, ?_⟩; refine iteF ?_); (refine ⟨_, rfl, rfl, _, rfl, ?_⟩; refine iteF ?_); (refine ⟨_, rfl, rfl, _, rfl, ?_⟩; refine iteF ?_); (refine ⟨_, rfl, rfl, _, rfl, ?_⟩; refine iteF ?_); (refine ⟨_, rfl, rfl, _, rfl, ?_⟩; refine iteF ?_); (refine ⟨_, rfl, rfl, _, rfl, ?_⟩; refine iteF ?_); (refine ⟨_, rfl, rfl, _, rfl, ?_⟩; refine iteF ?_); (refine ⟨_, rfl, rfl, _, rfl, ?_⟩; refine iteF ?_); (refine ⟨_, rfl, rfl, _, rfl, ?_⟩; refine iteT ?_)
    refine ⟨_, rfl, (by show 2 ≤ sizeLine; decide), fun t1 h1 => ?_⟩
    refine ⟨(by show 2 ≤ sizeLine; decide), fun t2 h2 => ?_⟩
    refine ⟨(by show 2 ≤ sizeLine; decide), fun t3 h3 => ?_⟩
    refine ⟨(by show 2 ≤ sizeLine; decide), fun t4 h4 => ?_⟩
    refine ⟨(by show 2 ≤ sizeLine; decide), fun t5 h5 => ?_⟩
    refine ⟨(by show 5 ≤ sizeLine; decide), fun r h6 => ?_⟩
    have O2 := own_five h1 h2 h3 h4 h5 h6
    (refine ⟨_, rfl, rfl, _, rfl, ?_⟩; refine iteF ?_)
    exact ⟨_, rfl, q r _ _ ⟨O'.same.trans O2.same, O'.same.free O2.new, O2.at_, O2.its⟩⟩
  | 24, _ =>
    (refine ⟨_, rfl, rfl, _, rfl, ?_⟩; refine iteF ?_); (refine ⟨_, rfl, rfl, _, rfl, ?_⟩; refine iteF ?_); (refine ⟨_, rfl, rfl, _, rfl, ?_⟩; refine iteF ?_); (refine ⟨_, rfl, rfl, _, rfl, ?_⟩; refine iteF ?_); (refine ⟨_, rfl, rfl, _, rfl, ?_⟩; refine iteF ?_); (refine ⟨_, rfl, rfl, _, rfl, ?_⟩; refine iteF ?_); (refine ⟨_, rfl, rfl, _, rfl, ?_⟩; refine iteF ?_); (refine ⟨_, rfl, rfl, _, rfl, ?_⟩; refine iteF ?_); (refine ⟨_, rfl, rfl, _, rfl, ?_⟩; refine iteF ?_); (refine ⟨_, rfl, rfl, _, rfl, ?_⟩; refine iteF ?_); (refine ⟨_, rfl, rfl, _, rfl, ?_⟩; refine iteF ?_); (refine ⟨_, rfl, rfl, _, rfl, ?_⟩; refine iteF ?_); (refine ⟨_, rfl, rfl, _, rfl, ?_⟩; refine iteT ?_)
    have ei : 3 + c % 2 = (((3 + c % 2).toNat : Nat) : Int) := by omega
    have hi : (3 + c % 2).toNat < 5 := by omega
    refine ⟨(by show 2 ≤ sizeLine; decide), fun t ht => ?_⟩
    have O2 := O'.set (3 + c % 2).toNat ht (rV (2, "plain"))
    refine ⟨_, rfl, _, rfl, _, _, rfl, rfl, (by show (0 : Int) < _; decide), _, _, rfl, rfl, r, _, _, (3 + c % 2).toNat, rfl, rfl, ?_, ixN_of ei (by rw [lp]; exact hi), ?_⟩
    · rw [upd_ne (ne_of_none O'.at_ ht)]; exact O'.at_
    refine ⟨_, rfl, q r (ps.set (3 + c % 2).toNat t) _ ?_⟩
    show Own3 H _ r _ ((base3.set (3 + c % 2).toNat (2, "plain")).map rV)
    rw [List.map_set]
    exact O2
  | n + 25, h => exact absurd h (by omega)

/-! ### _law_spoiled_arrows -/
def ar0 (c : Int) : Arrow := (2, c % 4, c / 4 % 6 - 1, 4, c / 24 % 100)
def arN (c : Int) : Nat := (1 + c % 20).toNat
def arP (c : Int) : Nat := (c / 20 % (1 + c % 20)).toNat
def far3 (c : Int) : Int := 5 + c / 7 % 20
def low3 (c : Int) : Int := -1 - c / 7 % 20
def pick3 (c x y : Int) : Int := if c % 2 = 0 then x else y
def two3 : List Arrow := [(3, 0, -1, 3, 1), (4, 1, 0, 4, 2)]
def arL (c : Int) : List Arrow := List.replicate (arN c) (ar0 c)
def spoA (way : Nat) (c : Int) : List Arrow := match way with
  | 0 => arL c
  | 9 => arL c
  | 10 => arL c
  | 11 => List.replicate 20 (ar0 c)
  | 12 => List.replicate (21 + c % 5).toNat (ar0 c)
  | 13 => (arL c).set (arP c) (pick3 c (far3 c) (low3 c), c % 4, c / 4 % 6 - 1, 4, c / 24 % 100)
  | 14 => (arL c).set (arP c) (2, pick3 c (far3 c - 1) (low3 c), c / 4 % 6 - 1, 4, c / 24 % 100)
  | 15 => (arL c).set (arP c) (2, c % 4, pick3 c (far3 c) (low3 c - 1), 4, c / 24 % 100)
  | 16 => (arL c).set (arP c) (2, c % 4, c / 4 % 6 - 1, pick3 c (far3 c) (low3 c), c / 24 % 100)
  | 17 => (arL c).set (arP c) (2, c % 4, c / 4 % 6 - 1, 4, pick3 c (95 + far3 c) (low3 c))
  | 18 => (arL c).set (arP c) (0, c % 4, c / 4 % 6 - 1, 4, c / 24 % 100)
  | 19 => (arL c).set (arP c) (2, c % 4, c / 4 % 6 - 1, 0, c / 24 % 100)
  | 20 => if c % 4 = 0 then ((arL c).set (arP c) (c % 4, 3, 4, 4, 99)).set (arP c) (4, 0, 0, 4, 0) else (arL c).set (arP c) (c % 4, 3, 4, 4, 99)
  | 21 => []
  | 22 => two3.take (c % 3).toNat ++ (3 + c % 2, 0, -1, 4 - c % 2, 1) :: two3.drop (c % 3).toNat
  | 23 => two3
  | _ => if c / 97 % 2 = 1 then [] else arL c
def spSpA : Sp := fun vs H Q _ => ∃ (way : Nat) (c : Int), vs = [.int way, .int c] ∧ way < 25 ∧ 0 ≤ c ∧ ∀ (r : Addr) (ps : List Addr) (H' : Hp), Own3 H H' r ps ((spoA way c).map aV) → Q (.ref r) H'
theorem scSpA : FnScope ["way", "cell", "arrow", "arrows", "place", "far", "low"] ["way", "cell"] (defScope sSpA) := ⟨rfl, rfl, rfl, by decide +kernel, rfl, by decide +kernel, by decide +kernel⟩
/-- [arrow for k in range(n)]: the same tuple each time -/
theorem comp_again {H : Hp} {n : Nat} {D t : Addr} {te : TE} {o : List V} {Q : VK} {lo : Int} {v0 : Option V} (hn : n ≤ 100) (hD : H D = none) (ht : H t = some (.tup o)) (hte : ∀ v H' Q, Q (.ref t) H' → te [some v, some (.ref t)] H' Q)
    (q : ∀ ps H', Same H H' → H' D = some (.lst (ps.map V.ref)) → Items H' ps (List.replicate n o) → Q (.ref D) H') : tLoop (Itr lo n) (gName 0) tYes te D Q [v0, some (.ref t)] (upd H D (.lst [])) := by
  refine comp_rangeA (Pv := fun i ys σ H' => ∃ v, σ = [v, some (.ref t)] ∧ ys = (List.replicate i t).map V.ref ∧ Same H H') ⟨_, rfl, rfl, same_new hD _⟩ ?_ ?_
  · rintro i ys σ H' hi hDi ⟨v, rfl, rfl, (s : Same _ _)⟩
    refine hte _ _ _ ⟨hDi, by rw [List.length_map, List.length_replicate]; exact small1000 (by omega), ⟨_, rfl, ?_, sameUpd s hD _⟩⟩
    rw [List.replicate_succ', List.map_append]; rfl
  · rintro ys σ H' hDn ⟨v, rfl, rfl, (s : Same _ _)⟩
    refine q (List.replicate n t) H' s hDn ⟨by simp, fun i p u a b => ?_⟩
    rw [List.getElem?_replicate] at a b
    split at a
    · rename_i hi
      rw [if_pos hi] at b
      cases a
      cases b
      exact s _ _ ht
    · cases a
theorem pick_at (c x y : Int) : atI [V.int x, V.int y] (c % 2) = some (.int (pick3 c x y)) := by
  unfold pick3
  have z : c % 2 = 0 ∨ c % 2 = 1 := by omega
  rcases z with z | z <;> (rw [z]; rfl)
theorem Own3.cut {H H1 : Hp} {r : Addr} {ps : List Addr} {os : List (List V)} (h : Own3 H H1 r ps os) {i : Nat} {o : List V} {t : Addr} (ht : H1 t = some (.tup o)) :
    Own3 H (upd H1 r (.lst ((ps.map V.ref).set i (.ref t)))) r (ps.set i t) (os.set i o) := by
  have k : ∀ x u, H1 x = some u → x ≠ r → (upd H1 r (.lst ((ps.map V.ref).set i (.ref t)))) x = some u := fun x u e n => by
    rw [upd_ne n]; exact e
  have ntr : t ≠ r := ne_of ht h.at_ (by intro z; cases z)
  refine ⟨fun x u e => k x u (h.same _ _ e) (ne_of_none e h.new), h.new, ?_, ?_, fun j p u a b => ?_⟩
  · rw [upd_same, List.map_set]
  · rw [List.length_set, List.length_set]; exact h.its.1
  · by_cases hj : j = i
    · subst hj
      have l1 : j < ps.length := by
        have := (List.getElem?_eq_some_iff.mp a).1
        rw [List.length_set] at this; exact this
      rw [List.getElem?_set_self l1] at a
      rw [List.getElem?_set_self (by rw [← h.its.1]; exact l1)] at b
      cases a
      cases b
      exact k _ _ ht ntr
    · rw [List.getElem?_set_ne (fun z => hj z.symm)] at a b
      have e := h.its.2 j p u a b
      exact k _ _ e (ne_of e h.at_ (by intro z; cases z))

theorem ok_spA {f C : Addr} {fd : FuncData} (D : DefAt K mg "_law_spoiled_arrows" sSpA ["way", "cell"] f fd) (T : Txt K mg C) : FnOk P w K mg base CX0 1 f fd ["way", "cell"] spSpA := by
  refine D.fn.ok scSpA (fun vs H Q E h => ?_) (fun cdv A outer s H vs Q E hr h => ?_)
  · obtain ⟨way, c, rfl, _⟩ := h
    rfl
  obtain ⟨way, c, rfl, hw, hc, q⟩ := h
  refine ⟨_, (pss_cons (ps_set (i := 2) scSpA.nd rfl (Or.inr rfl) (pe_tup (pa_cons pe_int (pa_cons (pe_op op_mod (pv 1) pe_int) (pa_cons (pe_op op_sub (pe_op op_mod (pe_op op_fdiv (pv 1) pe_int) pe_int) pe_int) (pa_cons pe_int (pa_cons (pe_op op_mod (pe_op op_fdiv (pv 1) pe_int) pe_int) pa_nil)))))))
    (pss_cons (ps_comp (i := 3) ["k", "arrow"] [Option.none, some 2] rfl scSpA.nd rfl rfl (pi_range1 rfl T.range (pa_cons (pe_op op_add pe_int (pe_op op_mod (pv 1) pe_int)) pa_nil)) (fun _ => pg_name (i := 0) (show (["k", "arrow"] : List Str).Nodup by decide +kernel) rfl (Or.inl rfl)) (fun _ => pts_nil) (fun _ => pv 1)
      (N := ["way", "cell", "arrow", "arrows", "place", "far", "low"]) (ks := (defScope sSpA).names) rfl rfl (by decide +kernel) (by decide +kernel) (by decide +kernel) (by decide +kernel))
    (pss_cons (ps_set (i := 4) scSpA.nd rfl (Or.inl rfl) (pe_op op_mod (pe_op op_fdiv (pv 1) pe_int) (pe_callB call_len_seq (by rfl) T.len PySem.boot_len (pa_cons (pv 3) pa_nil))))
    (pss_cons (ps_set (i := 5) scSpA.nd rfl (Or.inl rfl) (pe_op op_add pe_int (pe_op op_mod (pe_op op_fdiv (pv 1) pe_int) pe_int)))
    (pss_cons (ps_set (i := 6) scSpA.nd rfl (Or.inl rfl) (pe_op op_sub (pe_un un_neg pe_int) (pe_op op_mod (pe_op op_fdiv (pv 1) pe_int) pe_int)))
    (pss_cons (ps_if (pt_cmpR op_eq (pv 0) pe_int (nomark _)) (pss_one (ps_comp (i := 3) ["k", "arrow"] [Option.none, some 2] rfl scSpA.nd rfl rfl (pi_range1 rfl T.range (pa_cons pe_int pa_nil)) (fun _ => pg_name (i := 0) (show (["k", "arrow"] : List Str).Nodup by decide +kernel) rfl (Or.inl rfl)) (fun _ => pts_nil) (fun _ => pv 1)
      (N := ["way", "cell", "arrow", "arrows", "place", "far", "low"]) (ks := (defScope sSpA).names) rfl rfl (by decide +kernel) (by decide +kernel) (by decide +kernel) (by decide +kernel))) pss_nil)
    (pss_cons (ps_if (pt_cmpR op_eq (pv 0) pe_int (nomark _)) (pss_one (ps_comp (i := 3) ["k", "arrow"] [Option.none, some 2] rfl scSpA.nd rfl rfl (pi_range1 rfl T.range (pa_cons (pe_op op_add pe_int (pe_op op_mod (pv 1) pe_int)) pa_nil)) (fun _ => pg_name (i := 0) (show (["k", "arrow"] : List Str).Nodup by decide +kernel) rfl (Or.inl rfl)) (fun _ => pts_nil) (fun _ => pv 1)
      (N := ["way", "cell", "arrow", "arrows", "place", "far", "low"]) (ks := (defScope sSpA).names) rfl rfl (by decide +kernel) (by decide +kernel) (by decide +kernel) (by decide +kernel))) pss_nil)
    (pss_cons (ps_if (pt_cmpR op_eq (pv 0) pe_int (nomark _)) (pss_one (ps_asg (pe_op op_catT (pe_tup (pa_cons (pe_ix ix_list (pe_lst (pa_cons (pv 5) (pa_cons (pv 6) pa_nil))) (pe_op op_mod (pv 1) pe_int) (fun _ _ => rfl)) pa_nil)) (pe_slice sl_tup (pv 2) (po_some pe_int) po_none)) (pg_sub (pv 3) (pv 4) set_list))) pss_nil)
    (pss_cons (ps_if (pt_cmpR op_eq (pv 0) pe_int (nomark _)) (pss_one (ps_asg (pe_op op_catT (pe_tup (pa_cons pe_int (pa_cons (pe_ix ix_list (pe_lst (pa_cons (pe_op op_sub (pv 5) pe_int) (pa_cons (pv 6) pa_nil))) (pe_op op_mod (pv 1) pe_int) (fun _ _ => rfl)) pa_nil))) (pe_slice sl_tup (pv 2) (po_some pe_int) po_none)) (pg_sub (pv 3) (pv 4) set_list))) pss_nil)
    (pss_cons (ps_if (pt_cmpR op_eq (pv 0) pe_int (nomark _)) (pss_one (ps_asg (pe_op op_catT (pe_op op_catT (pe_slice sl_tup (pv 2) po_none (po_some pe_int)) (pe_tup (pa_cons (pe_ix ix_list (pe_lst (pa_cons (pv 5) (pa_cons (pe_op op_sub (pv 6) pe_int) pa_nil))) (pe_op op_mod (pv 1) pe_int) (fun _ _ => rfl)) pa_nil))) (pe_slice sl_tup (pv 2) (po_some pe_int) po_none)) (pg_sub (pv 3) (pv 4) set_list))) pss_nil)
    (pss_cons (ps_if (pt_cmpR op_eq (pv 0) pe_int (nomark _)) (pss_one (ps_asg (pe_op op_catT (pe_op op_catT (pe_slice sl_tup (pv 2) po_none (po_some pe_int)) (pe_tup (pa_cons (pe_ix ix_list (pe_lst (pa_cons (pv 5) (pa_cons (pv 6) pa_nil))) (pe_op op_mod (pv 1) pe_int) (fun _ _ => rfl)) pa_nil))) (pe_slice sl_tup (pv 2) (po_some pe_int) po_none)) (pg_sub (pv 3) (pv 4) set_list))) pss_nil)
    (pss_cons (ps_if (pt_cmpR op_eq (pv 0) pe_int (nomark _)) (pss_one (ps_asg (pe_op op_catT (pe_slice sl_tup (pv 2) po_none (po_some pe_int)) (pe_tup (pa_cons (pe_ix ix_list (pe_lst (pa_cons (pe_op op_add pe_int (pv 5)) (pa_cons (pv 6) pa_nil))) (pe_op op_mod (pv 1) pe_int) (fun _ _ => rfl)) pa_nil))) (pg_sub (pv 3) (pv 4) set_list))) pss_nil)
    (pss_cons (ps_if (pt_cmpR op_eq (pv 0) pe_int (nomark _)) (pss_one (ps_asg (pe_op op_catT (pe_tup (pa_cons pe_int pa_nil)) (pe_slice sl_tup (pv 2) (po_some pe_int) po_none)) (pg_sub (pv 3) (pv 4) set_list))) pss_nil)
    (pss_cons (ps_if (pt_cmpR op_eq (pv 0) pe_int (nomark _)) (pss_one (ps_asg (pe_op op_catT (pe_op op_catT (pe_slice sl_tup (pv 2) po_none (po_some pe_int)) (pe_tup (pa_cons pe_int pa_nil))) (pe_slice sl_tup (pv 2) (po_some pe_int) po_none)) (pg_sub (pv 3) (pv 4) set_list))) pss_nil)
    (pss_cons (ps_if (pt_cmpR op_eq (pv 0) pe_int (nomark _)) (pss_cons (ps_asg (pe_tup (pa_cons (pe_op op_mod (pv 1) pe_int) (pa_cons pe_int (pa_cons pe_int (pa_cons pe_int (pa_cons pe_int pa_nil)))))) (pg_sub (pv 3) (pv 4) set_list)) (pss_one (ps_if (pt_cmpR op_eq (pe_op op_mod (pv 1) pe_int) pe_int (nomark _)) (pss_one (ps_asg (pe_tup (pa_cons pe_int (pa_cons pe_int (pa_cons pe_int (pa_cons pe_int (pa_cons pe_int pa_nil)))))) (pg_sub (pv 3) (pv 4) set_list))) pss_nil))) pss_nil)
    (pss_cons (ps_if (PW.pt (pw_or (pt_cmpR op_eq (pv 0) pe_int (nomark _)) (pw_or1 (PW.pt (pw_and (PW.pt (pw_or (pt_chain op_lt op_lt pe_int (pv 0) pe_int) (pw_or1 (pt_cmpR op_eq (pv 0) pe_int (nomark _))))) (pw_and1 (pt_cmpR op_eq (pe_op op_mod (pe_op op_fdiv (pv 1) pe_int) pe_int) pe_int (nomark _)))))))) (pss_one (ps_set (i := 3) scSpA.nd rfl (Or.inl rfl) (pe_lst pa_nil))) pss_nil)
    (pss_cons (ps_if (PW.pt (pw_and (pt_cmpR op_gt (pv 0) pe_int (nomark _)) (pw_and1 (pt_cmpR op_lt (pv 0) pe_int (nomark _))))) (pss_one (ps_set (i := 3) scSpA.nd rfl (Or.inl rfl) (pe_lst (pa_cons (pe_tup (pa_cons pe_int (pa_cons pe_int (pa_cons (pe_un un_neg pe_int) (pa_cons pe_int (pa_cons pe_int pa_nil)))))) (pa_cons (pe_tup (pa_cons pe_int (pa_cons pe_int (pa_cons pe_int (pa_cons pe_int (pa_cons pe_int pa_nil)))))) pa_nil))))) pss_nil)
    (pss_cons (ps_if (pt_cmpR op_eq (pv 0) pe_int (nomark _)) (pss_one (ps_expr (pe_bm PySem.F.plainAttrs_list PySem.F.slot_list_insert PySem.F.type_list_insert mt_insert (pv 3) (pa_cons (pe_op op_mod (pv 1) pe_int) (pa_cons (pe_tup (pa_cons (pe_op op_add pe_int (pe_op op_mod (pv 1) pe_int)) (pa_cons pe_int (pa_cons (pe_un un_neg pe_int) (pa_cons (pe_op op_sub pe_int (pe_op op_mod (pv 1) pe_int)) (pa_cons pe_int pa_nil)))))) pa_nil))))) pss_nil)
    (pss_one (ps_ret (pv 3))))))))))))))))))))), ?_⟩
  have m20a := Int.emod_nonneg c (show (20 : Int) ≠ 0 by decide)
  have m20b := Int.emod_lt_of_pos c (show (0 : Int) < 20 by decide)
  have m5a := Int.emod_nonneg c (show (5 : Int) ≠ 0 by decide)
  have m5b := Int.emod_lt_of_pos c (show (0 : Int) < 5 by decide)
  have m3a := Int.emod_nonneg c (show (3 : Int) ≠ 0 by decide)
  have m3b := Int.emod_lt_of_pos c (show (0 : Int) < 3 by decide)
  -- arrow
  refine ⟨_, rfl, _, _, rfl, rfl, (by show (0 : Int) < _; decide), _, rfl, _, _, rfl, rfl, ⟨by decide, by decide⟩, _, _, rfl, rfl, (by show (0 : Int) < _; decide), _, _, rfl, rfl, _, rfl, _, _, rfl, rfl, ⟨by decide, by decide⟩, _, _, rfl, rfl, (by show (0 : Int) < _; decide), (by show 5 ≤ sizeLine; decide), fun ta hta => ?_⟩
  have sa := same_new hta (.tup (aV (ar0 c)))
  have ea : (upd H ta (.tup (aV (ar0 c)))) ta = some (.tup (aV (ar0 c))) := upd_same
  have E0 : (upd H ta (.tup [.int 2, .int (c % 4), .int (c / 4 % 6 - 1), .int 4, .int (c / 24 % 100)])) = upd H ta (.tup (aV (ar0 c))) := rfl
  rw [E0]
  generalize upd H ta (.tup (aV (ar0 c))) = H0 at sa ea ⊢
  -- arrows
  refine ⟨_, rfl, _, _, rfl, rfl, (by show (0 : Int) < _; decide), _, _, rfl, rfl, _, rfl, by omega, by omega, fun bk r hrD => ?_⟩
  refine comp_again (o := aV (ar0 c)) (by omega) hrD ea (fun v H' Q q => ⟨_, rfl, q⟩) fun ps H1 s1 e1 hI1 => ?_
  have O' : Own3 H H1 r ps ((arL c).map aV) := ⟨sa.trans s1, sa.free hrD, e1, by
    unfold arL arN
    rw [List.map_replicate]; exact hI1⟩
  have ea1 := s1 _ _ ea
  have lp : (ps.map V.ref).length = arN c := by rw [O'.len, List.length_map]; simp [arL]
  have lq : ((ps.map V.ref).length : Int) = 1 + c % 20 := by rw [lp]; unfold arN; omega
  clear hI1 e1
  -- place, far, low
  refine ⟨_, rfl, _, _, rfl, rfl, ⟨by decide, by decide⟩, _, rfl, r, _, rfl, .inl (SqL.of O'.at_), _, _, rfl, rfl, by omega, ?_⟩
  rw [lq]
  have ei : c / 20 % (1 + c % 20) = ((arP c : Nat) : Int) := by
    unfold arP
    have := Int.emod_nonneg (c / 20) (show (1 + c % 20) ≠ 0 by omega)
    omega
  have hi : arP c < (ps.map V.ref).length := by
    rw [lp]
    unfold arP arN
    have := Int.emod_nonneg (c / 20) (show (1 + c % 20) ≠ 0 by omega)
    have := Int.emod_lt_of_pos (c / 20) (show 0 < (1 + c % 20) by omega)
    omega
  refine ⟨_, rfl, _, _, rfl, rfl, ⟨by decide, by decide⟩, _, _, rfl, rfl, (by show (0 : Int) < _; decide), _, _, rfl, rfl, ?_⟩
  refine ⟨_, rfl, _, rfl, _, _, rfl, rfl, ⟨by decide, by decide⟩, _, _, rfl, rfl, (by show (0 : Int) < _; decide), _, _, rfl, rfl, ?_⟩
  have ef : 5 + c / 7 % 20 = far3 c := rfl
  have el : -1 - c / 7 % 20 = low3 c := rfl
  match way, hw with
  | 0, _ =>
    (refine ⟨_, rfl, rfl, _, rfl, ?_⟩; refine iteF ?_); (refine ⟨_, rfl, rfl, _, rfl, ?_⟩; refine iteF ?_); (refine ⟨_, rfl, rfl, _, rfl, ?_⟩; refine iteF ?_); (refine ⟨_, rfl, rfl, _, rfl, ?_⟩; refine iteF ?_); (refine ⟨_, rfl, rfl, _, rfl, ?_⟩; refine iteF ?_); (refine ⟨_, rfl, rfl, _, rfl, ?_⟩; refine iteF ?_); (refine ⟨_, rfl, rfl, _, rfl, ?_⟩; refine iteF ?_); (refine ⟨_, rfl, rfl, _, rfl, ?_⟩; refine iteF ?_); (refine ⟨_, rfl, rfl, _, rfl, ?_⟩; refine iteF ?_); (refine ⟨_, rfl, rfl, _, rfl, ?_⟩; refine iteF ?_); (refine ⟨_, rfl, rfl, _, rfl, ?_⟩; refine iteF ?_); (refine ⟨_, rfl, _, _, rfl, rfl, _, rfl, ?_⟩); (refine iteF ?_); (refine ⟨_, rfl, ?_⟩); (refine iteF ?_); (refine ⟨_, rfl, rfl, _, rfl, ?_⟩; refine iteF ?_); (refine iteF ?_); ((refine ⟨_, rfl, _, _, rfl, rfl, _, rfl, ?_⟩); (refine iteF ?_); (refine iteF ?_); (refine ⟨_, rfl, rfl, _, rfl, ?_⟩; refine iteF ?_)); exact ⟨_, rfl, q r _ _ O'⟩
  | 1, _ =>
    (refine ⟨_, rfl, rfl, _, rfl, ?_⟩; refine iteF ?_); (refine ⟨_, rfl, rfl, _, rfl, ?_⟩; refine iteF ?_); (refine ⟨_, rfl, rfl, _, rfl, ?_⟩; refine iteF ?_); (refine ⟨_, rfl, rfl, _, rfl, ?_⟩; refine iteF ?_); (refine ⟨_, rfl, rfl, _, rfl, ?_⟩; refine iteF ?_); (refine ⟨_, rfl, rfl, _, rfl, ?_⟩; refine iteF ?_); (refine ⟨_, rfl, rfl, _, rfl, ?_⟩; refine iteF ?_); (refine ⟨_, rfl, rfl, _, rfl, ?_⟩; refine iteF ?_); (refine ⟨_, rfl, rfl, _, rfl, ?_⟩; refine iteF ?_); (refine ⟨_, rfl, rfl, _, rfl, ?_⟩; refine iteF ?_)
    (refine ⟨_, rfl, rfl, _, rfl, ?_⟩; refine iteF ?_); (refine ⟨_, rfl, _, _, rfl, rfl, _, rfl, ?_⟩); (refine iteT ?_); (refine ⟨_, _, rfl, rfl, _, rfl, ?_⟩); (refine iteT ?_); (refine iteT ?_)
    refine ⟨_, rfl, _, _, rfl, rfl, ⟨by decide, by decide⟩, _, _, rfl, rfl, (by show (0 : Int) < _; decide), rfl, _, rfl, ?_⟩
    refine ite2 (fun z => ?_) (fun z => ?_)
    · have z' : c / 97 % 2 = 1 := by simpa using z
      refine ⟨(by show 0 ≤ sizeLine; decide), fun r2 hr2 => ?_⟩
      ((refine ⟨_, rfl, _, _, rfl, rfl, _, rfl, ?_⟩); (refine iteF ?_); (refine iteF ?_); (refine ⟨_, rfl, rfl, _, rfl, ?_⟩; refine iteF ?_))
      have e : spoA 1 c = [] := if_pos z'
      refine ⟨_, rfl, q r2 [] _ ?_⟩
      rw [e]
      exact ⟨O'.same.trans (same_new hr2 _), O'.same.free hr2, upd_same, ⟨rfl, fun i p o e => by simp at e⟩⟩
    · have z' : ¬ c / 97 % 2 = 1 := by simpa using z
      ((refine ⟨_, rfl, _, _, rfl, rfl, _, rfl, ?_⟩); (refine iteF ?_); (refine iteF ?_); (refine ⟨_, rfl, rfl, _, rfl, ?_⟩; refine iteF ?_))
      have e : spoA 1 c = arL c := if_neg z'
      refine ⟨_, rfl, q r ps _ ?_⟩
      rw [e]
      exact O'
  | 2, _ =>
    (refine ⟨_, rfl, rfl, _, rfl, ?_⟩; refine iteF ?_); (refine ⟨_, rfl, rfl, _, rfl, ?_⟩; refine iteF ?_); (refine ⟨_, rfl, rfl, _, rfl, ?_⟩; refine iteF ?_); (refine ⟨_, rfl, rfl, _, rfl, ?_⟩; refine iteF ?_); (refine ⟨_, rfl, rfl, _, rfl, ?_⟩; refine iteF ?_); (refine ⟨_, rfl, rfl, _, rfl, ?_⟩; refine iteF ?_); (refine ⟨_, rfl, rfl, _, rfl, ?_⟩; refine iteF ?_); (refine ⟨_, rfl, rfl, _, rfl, ?_⟩; refine iteF ?_); (refine ⟨_, rfl, rfl, _, rfl, ?_⟩; refine iteF ?_); (refine ⟨_, rfl, rfl, _, rfl, ?_⟩; refine iteF ?_)
    (refine ⟨_, rfl, rfl, _, rfl, ?_⟩; refine iteF ?_); (refine ⟨_, rfl, _, _, rfl, rfl, _, rfl, ?_⟩); (refine iteT ?_); (refine ⟨_, _, rfl, rfl, _, rfl, ?_⟩); (refine iteT ?_); (refine iteT ?_)
    refine ⟨_, rfl, _, _, rfl, rfl, ⟨by decide, by decide⟩, _, _, rfl, rfl, (by show (0 : Int) < _; decide), rfl, _, rfl, ?_⟩
    refine ite2 (fun z => ?_) (fun z => ?_)
    · have z' : c / 97 % 2 = 1 := by simpa using z
      refine ⟨(by show 0 ≤ sizeLine; decide), fun r2 hr2 => ?_⟩
      ((refine ⟨_, rfl, _, _, rfl, rfl, _, rfl, ?_⟩); (refine iteF ?_); (refine iteF ?_); (refine ⟨_, rfl, rfl, _, rfl, ?_⟩; refine iteF ?_))
      have e : spoA 2 c = [] := if_pos z'
      refine ⟨_, rfl, q r2 [] _ ?_⟩
      rw [e]
      exact ⟨O'.same.trans (same_new hr2 _), O'.same.free hr2, upd_same, ⟨rfl, fun i p o e => by simp at e⟩⟩
    · have z' : ¬ c / 97 % 2 = 1 := by simpa using z
      ((refine ⟨_, rfl, _, _, rfl, rfl, _, rfl, ?_⟩); (refine iteF ?_); (refine iteF ?_); (refine ⟨_, rfl, rfl, _, rfl, ?_⟩; refine iteF ?_))
      have e : spoA 2 c = arL c := if_neg z'
      refine ⟨_, rfl, q r ps _ ?_⟩
      rw [e]
      exact O'
  | 3, _ =>
    (refine ⟨_, rfl, rfl, _, rfl, ?_⟩; refine iteF ?_); (refine ⟨_, rfl, rfl, _, rfl, ?_⟩; refine iteF ?_); (refine ⟨_, rfl, rfl, _, rfl, ?_⟩; refine iteF ?_); (refine ⟨_, rfl, rfl, _, rfl, ?_⟩; refine iteF ?_); (refine ⟨_, rfl, rfl, _, rfl, ?_⟩; refine iteF ?_); (refine ⟨_, rfl, rfl, _, rfl, ?_⟩; refine iteF ?_); (refine ⟨_, rfl, rfl, _, rfl, ?_⟩; refine iteF ?_); (refine ⟨_, rfl, rfl, _, rfl, ?_⟩; refine iteF ?_); (refine ⟨_, rfl, rfl, _, rfl, ?_⟩; refine iteF ?_); (refine ⟨_, rfl, rfl, _, rfl, ?_⟩; refine iteF ?_)
    (refine ⟨_, rfl, rfl, _, rfl, ?_⟩; refine iteF ?_); (refine ⟨_, rfl, _, _, rfl, rfl, _, rfl, ?_⟩); (refine iteT ?_); (refine ⟨_, _, rfl, rfl, _, rfl, ?_⟩); (refine iteT ?_); (refine iteT ?_)
    refine ⟨_, rfl, _, _, rfl, rfl, ⟨by decide, by decide⟩, _, _, rfl, rfl, (by show (0 : Int) < _; decide), rfl, _, rfl, ?_⟩
    refine ite2 (fun z => ?_) (fun z => ?_)
    · have z' : c / 97 % 2 = 1 := by simpa using z
      refine ⟨(by show 0 ≤ sizeLine; decide), fun r2 hr2 => ?_⟩
      ((refine ⟨_, rfl, _, _, rfl, rfl, _, rfl, ?_⟩); (refine iteF ?_); (refine iteF ?_); (refine ⟨_, rfl, rfl, _, rfl, ?_⟩; refine iteF ?_))
      have e : spoA 3 c = [] := if_pos z'
      refine ⟨_, rfl, q r2 [] _ ?_⟩
      rw [e]
      exact ⟨O'.same.trans (same_new hr2 _), O'.same.free hr2, upd_same, ⟨rfl, fun i p o e => by simp at e⟩⟩
    · have z' : ¬ c / 97 % 2 = 1 := by simpa using z
      ((refine ⟨_, rfl, _, _, rfl, rfl, _, rfl, ?_⟩); (refine iteF ?_); (refine iteF ?_); (refine ⟨_, rfl, rfl, _, rfl, ?_⟩; refine iteF ?_))
      have e : spoA 3 c = arL c := if_neg z'
      refine ⟨_, rfl, q r ps _ ?_⟩
      rw [e]
      exact O'
  | 4, _ =>
    (refine ⟨_, rfl, rfl, _, rfl, ?_⟩; refine iteF ?_); (refine ⟨_, rfl, rfl, _, rfl, ?_⟩; refine iteF ?_); (refine ⟨_, rfl, rfl, _, rfl, ?_⟩; refine iteF ?_); (refine ⟨_, rfl, rfl, _, rfl, ?_⟩; refine iteF ?_); (refine ⟨_, rfl, rfl, _, rfl, ?_⟩; refine iteF ?_); (refine ⟨_, rfl, rfl, _, rfl, ?_⟩; refine iteF ?_); (refine ⟨_, rfl, rfl, _, rfl, ?_⟩; refine iteF ?_); (refine ⟨_, rfl, rfl, _, rfl, ?_⟩; refine iteF ?_); (refine ⟨_, rfl, rfl, _, rfl, ?_⟩; refine iteF ?_); (refine ⟨_, rfl, rfl, _, rfl, ?_⟩; refine iteF ?_)
    (refine ⟨_, rfl, rfl, _, rfl, ?_⟩; refine iteF ?_); (refine ⟨_, rfl, _, _, rfl, rfl, _, rfl, ?_⟩); (refine iteT ?_); (refine ⟨_, _, rfl, rfl, _, rfl, ?_⟩); (refine iteT ?_); (refine iteT ?_)
    refine ⟨_, rfl, _, _, rfl, rfl, ⟨by decide, by decide⟩, _, _, rfl, rfl, (by show (0 : Int) < _; decide), rfl, _, rfl, ?_⟩
    refine ite2 (fun z => ?_) (fun z => ?_)
    · have z' : c / 97 % 2 = 1 := by simpa using z
      refine ⟨(by show 0 ≤ sizeLine; decide), fun r2 hr2 => ?_⟩
      ((refine ⟨_, rfl, _, _, rfl, rfl, _, rfl, ?_⟩); (refine iteF ?_); (refine iteF ?_); (refine ⟨_, rfl, rfl, _, rfl, ?_⟩; refine iteF ?_))
      have e : spoA 4 c = [] := if_pos z'
      refine ⟨_, rfl, q r2 [] _ ?_⟩
      rw [e]
      exact ⟨O'.same.trans (same_new hr2 _), O'.same.free hr2, upd_same, ⟨rfl, fun i p o e => by simp at e⟩⟩
    · have z' : ¬ c / 97 % 2 = 1 := by simpa using z
      ((refine ⟨_, rfl, _, _, rfl, rfl, _, rfl, ?_⟩); (refine iteF ?_); (refine iteF ?_); (refine ⟨_, rfl, rfl, _, rfl, ?_⟩; refine iteF ?_))
      have e : spoA 4 c = arL c := if_neg z'
      refine ⟨_, rfl, q r ps _ ?_⟩
      rw [e]
      exact O'
  | 5, _ =>
    (refine ⟨_, rfl, rfl, _, rfl, ?_⟩; refine iteF ?_); (refine ⟨_, rfl, rfl, _, rfl, ?_⟩; refine iteF ?_); (refine ⟨_, rfl, rfl, _, rfl, ?_⟩; refine iteF ?_); (refine ⟨_, rfl, rfl, _, rfl, ?_⟩; refine iteF ?_); (refine ⟨_, rfl, rfl, _, rfl, ?_⟩; refine iteF ?_); (refine ⟨_, rfl, rfl, _, rfl, ?_⟩; refine iteF ?_); (refine ⟨_, rfl, rfl, _, rfl, ?_⟩; refine iteF ?_); (refine ⟨_, rfl, rfl, _, rfl, ?_⟩; refine iteF ?_); (refine ⟨_, rfl, rfl, _, rfl, ?_⟩; refine iteF ?_); (refine ⟨_, rfl, rfl, _, rfl, ?_⟩; refine iteF ?_)
    (refine ⟨_, rfl, rfl, _, rfl, ?_⟩; refine iteF ?_); (refine ⟨_, rfl, _, _, rfl, rfl, _, rfl, ?_⟩); (refine iteT ?_); (refine ⟨_, _, rfl, rfl, _, rfl, ?_⟩); (refine iteT ?_); (refine iteT ?_)
    refine ⟨_, rfl, _, _, rfl, rfl, ⟨by decide, by decide⟩, _, _, rfl, rfl, (by show (0 : Int) < _; decide), rfl, _, rfl, ?_⟩
    refine ite2 (fun z => ?_) (fun z => ?_)
    · have z' : c / 97 % 2 = 1 := by simpa using z
      refine ⟨(by show 0 ≤ sizeLine; decide), fun r2 hr2 => ?_⟩
      ((refine ⟨_, rfl, _, _, rfl, rfl, _, rfl, ?_⟩); (refine iteF ?_); (refine iteF ?_); (refine ⟨_, rfl, rfl, _, rfl, ?_⟩; refine iteF ?_))
      have e : spoA 5 c = [] := if_pos z'
      refine ⟨_, rfl, q r2 [] _ ?_⟩
      rw [e]
      exact ⟨O'.same.trans (same_new hr2 _), O'.same.free hr2, upd_same, ⟨rfl, fun i p o e => by simp at e⟩⟩
    · have z' : ¬ c / 97 % 2 = 1 := by simpa using z
      ((refine ⟨_, rfl, _, _, rfl, rfl, _, rfl, ?_⟩); (refine iteF ?_); (refine iteF ?_); (refine ⟨_, rfl, rfl, _, rfl, ?_⟩; refine iteF ?_))
      have e : spoA 5 c = arL c := if_neg z'
      refine ⟨_, rfl, q r ps _ ?_⟩
      rw [e]
      exact O'
  | 6, _ =>
    (refine ⟨_, rfl, rfl, _, rfl, ?_⟩; refine iteF ?_); (refine ⟨_, rfl, rfl, _, rfl, ?_⟩; refine iteF ?_); (refine ⟨_, rfl, rfl, _, rfl, ?_⟩; refine iteF ?_); (refine ⟨_, rfl, rfl, _, rfl, ?_⟩; refine iteF ?_); (refine ⟨_, rfl, rfl, _, rfl, ?_⟩; refine iteF ?_); (refine ⟨_, rfl, rfl, _, rfl, ?_⟩; refine iteF ?_); (refine ⟨_, rfl, rfl, _, rfl, ?_⟩; refine iteF ?_); (refine ⟨_, rfl, rfl, _, rfl, ?_⟩; refine iteF ?_); (refine ⟨_, rfl, rfl, _, rfl, ?_⟩; refine iteF ?_); (refine ⟨_, rfl, rfl, _, rfl, ?_⟩; refine iteF ?_)
    (refine ⟨_, rfl, rfl, _, rfl, ?_⟩; refine iteF ?_); (refine ⟨_, rfl, _, _, rfl, rfl, _, rfl, ?_⟩); (refine iteT ?_); (refine ⟨_, _, rfl, rfl, _, rfl, ?_⟩); (refine iteT ?_); (refine iteT ?_)
    refine ⟨_, rfl, _, _, rfl, rfl, ⟨by decide, by decide⟩, _, _, rfl, rfl, (by show (0 : Int) < _; decide), rfl, _, rfl, ?_⟩
    refine ite2 (fun z => ?_) (fun z => ?_)
    · have z' : c / 97 % 2 = 1 := by simpa using z
      refine ⟨(by show 0 ≤ sizeLine; decide), fun r2 hr2 => ?_⟩
      ((refine ⟨_, rfl, _, _, rfl, rfl, _, rfl, ?_⟩); (refine iteF ?_); (refine iteF ?_); (refine ⟨_, rfl, rfl, _, rfl, ?_⟩; refine iteF ?_))
      have e : spoA 6 c = [] := if_pos z'
      refine ⟨_, rfl, q r2 [] _ ?_⟩
      rw [e]
      exact ⟨O'.same.trans (same_new hr2 _), O'.same.free hr2, upd_same, ⟨rfl, fun i p o e => by simp at e⟩⟩
    · have z' : ¬ c / 97 % 2 = 1 := by simpa using z
      ((refine ⟨_, rfl, _, _, rfl, rfl, _, rfl, ?_⟩); (refine iteF ?_); (refine iteF ?_); (refine ⟨_, rfl, rfl, _, rfl, ?_⟩; refine iteF ?_))
      have e : spoA 6 c = arL c := if_neg z'
      refine ⟨_, rfl, q r ps _ ?_⟩
      rw [e]
      exact O'
  | 7, _ =>
    (refine ⟨_, rfl, rfl, _, rfl, ?_⟩; refine iteF ?_); (refine ⟨_, rfl, rfl, _, rfl, ?_⟩; refine iteF ?_); (refine ⟨_, rfl, rfl, _, rfl, ?_⟩; refine iteF ?_); (refine ⟨_, rfl, rfl, _, rfl, ?_⟩; refine iteF ?_); (refine ⟨_, rfl, rfl, _, rfl, ?_⟩; refine iteF ?_); (refine ⟨_, rfl, rfl, _, rfl, ?_⟩; refine iteF ?_); (refine ⟨_, rfl, rfl, _, rfl, ?_⟩; refine iteF ?_); (refine ⟨_, rfl, rfl, _, rfl, ?_⟩; refine iteF ?_); (refine ⟨_, rfl, rfl, _, rfl, ?_⟩; refine iteF ?_); (refine ⟨_, rfl, rfl, _, rfl, ?_⟩; refine iteF ?_)
    (refine ⟨_, rfl, rfl, _, rfl, ?_⟩; refine iteF ?_); (refine ⟨_, rfl, _, _, rfl, rfl, _, rfl, ?_⟩); (refine iteT ?_); (refine ⟨_, _, rfl, rfl, _, rfl, ?_⟩); (refine iteT ?_); (refine iteT ?_)
    refine ⟨_, rfl, _, _, rfl, rfl, ⟨by decide, by decide⟩, _, _, rfl, rfl, (by show (0 : Int) < _; decide), rfl, _, rfl, ?_⟩
    refine ite2 (fun z => ?_) (fun z => ?_)
    · have z' : c / 97 % 2 = 1 := by simpa using z
      refine ⟨(by show 0 ≤ sizeLine; decide), fun r2 hr2 => ?_⟩
      ((refine ⟨_, rfl, _, _, rfl, rfl, _, rfl, ?_⟩); (refine iteF ?_); (refine iteF ?_); (refine ⟨_, rfl, rfl, _, rfl, ?_⟩; refine iteF ?_))
      have e : spoA 7 c = [] := if_pos z'
      refine ⟨_, rfl, q r2 [] _ ?_⟩
      rw [e]
      exact ⟨O'.same.trans (same_new hr2 _), O'.same.free hr2, upd_same, ⟨rfl, fun i p o e => by simp at e⟩⟩
    · have z' : ¬ c / 97 % 2 = 1 := by simpa using z
      ((refine ⟨_, rfl, _, _, rfl, rfl, _, rfl, ?_⟩); (refine iteF ?_); (refine iteF ?_); (refine ⟨_, rfl, rfl, _, rfl, ?_⟩; refine iteF ?_))
      have e : spoA 7 c = arL c := if_neg z'
      refine ⟨_, rfl, q r ps _ ?_⟩
      rw [e]
      exact O'
  | 8, _ =>
    (refine ⟨_, rfl, rfl, _, rfl, ?_⟩; refine iteF ?_); (refine ⟨_, rfl, rfl, _, rfl, ?_⟩; refine iteF ?_); (refine ⟨_, rfl, rfl, _, rfl, ?_⟩; refine iteF ?_); (refine ⟨_, rfl, rfl, _, rfl, ?_⟩; refine iteF ?_); (refine ⟨_, rfl, rfl, _, rfl, ?_⟩; refine iteF ?_); (refine ⟨_, rfl, rfl, _, rfl, ?_⟩; refine iteF ?_); (refine ⟨_, rfl, rfl, _, rfl, ?_⟩; refine iteF ?_); (refine ⟨_, rfl, rfl, _, rfl, ?_⟩; refine iteF ?_); (refine ⟨_, rfl, rfl, _, rfl, ?_⟩; refine iteF ?_); (refine ⟨_, rfl, rfl, _, rfl, ?_⟩; refine iteF ?_)
    (refine ⟨_, rfl, rfl, _, rfl, ?_⟩; refine iteF ?_); (refine ⟨_, rfl, _, _, rfl, rfl, _, rfl, ?_⟩); (refine iteT ?_); (refine ⟨_, _, rfl, rfl, _, rfl, ?_⟩); (refine iteT ?_); (refine iteT ?_)
    refine ⟨_, rfl, _, _, rfl, rfl, ⟨by decide, by decide⟩, _, _, rfl, rfl, (by show (0 : Int) < _; decide), rfl, _, rfl, ?_⟩
    refine ite2 (fun z => ?_) (fun z => ?_)
    · have z' : c / 97 % 2 = 1 := by simpa using z
      refine ⟨(by show 0 ≤ sizeLine; decide), fun r2 hr2 => ?_⟩
      ((refine ⟨_, rfl, _, _, rfl, rfl, _, rfl, ?_⟩); (refine iteF ?_); (refine iteF ?_); (refine ⟨_, rfl, rfl, _, rfl, ?_⟩; refine iteF ?_))
      have e : spoA 8 c = [] := if_pos z'
      refine ⟨_, rfl, q r2 [] _ ?_⟩
      rw [e]
      exact ⟨O'.same.trans (same_new hr2 _), O'.same.free hr2, upd_same, ⟨rfl, fun i p o e => by simp at e⟩⟩
    · have z' : ¬ c / 97 % 2 = 1 := by simpa using z
      ((refine ⟨_, rfl, _, _, rfl, rfl, _, rfl, ?_⟩); (refine iteF ?_); (refine iteF ?_); (refine ⟨_, rfl, rfl, _, rfl, ?_⟩; refine iteF ?_))
      have e : spoA 8 c = arL c := if_neg z'
      refine ⟨_, rfl, q r ps _ ?_⟩
      rw [e]
      exact O'
  | 9, _ =>
    (refine ⟨_, rfl, rfl, _, rfl, ?_⟩; refine iteF ?_); (refine ⟨_, rfl, rfl, _, rfl, ?_⟩; refine iteF ?_); (refine ⟨_, rfl, rfl, _, rfl, ?_⟩; refine iteF ?_); (refine ⟨_, rfl, rfl, _, rfl, ?_⟩; refine iteF ?_); (refine ⟨_, rfl, rfl, _, rfl, ?_⟩; refine iteF ?_); (refine ⟨_, rfl, rfl, _, rfl, ?_⟩; refine iteF ?_); (refine ⟨_, rfl, rfl, _, rfl, ?_⟩; refine iteF ?_); (refine ⟨_, rfl, rfl, _, rfl, ?_⟩; refine iteF ?_); (refine ⟨_, rfl, rfl, _, rfl, ?_⟩; refine iteF ?_); (refine ⟨_, rfl, rfl, _, rfl, ?_⟩; refine iteF ?_); ((refine ⟨_, rfl, rfl, _, rfl, ?_⟩; refine iteF ?_); (refine ⟨_, rfl, _, _, rfl, rfl, _, rfl, ?_⟩); (refine iteT ?_); (refine ⟨_, _, rfl, rfl, _, rfl, ?_⟩); (refine iteF ?_); (refine ⟨_, rfl, rfl, _, rfl, ?_⟩; refine iteF ?_); (refine iteF ?_)); ((refine ⟨_, rfl, _, _, rfl, rfl, _, rfl, ?_⟩); (refine iteF ?_); (refine iteF ?_); (refine ⟨_, rfl, rfl, _, rfl, ?_⟩; refine iteF ?_)); exact ⟨_, rfl, q r _ _ O'⟩
  | 10, _ =>
    (refine ⟨_, rfl, rfl, _, rfl, ?_⟩; refine iteF ?_); (refine ⟨_, rfl, rfl, _, rfl, ?_⟩; refine iteF ?_); (refine ⟨_, rfl, rfl, _, rfl, ?_⟩; refine iteF ?_); (refine ⟨_, rfl, rfl, _, rfl, ?_⟩; refine iteF ?_); (refine ⟨_, rfl, rfl, _, rfl, ?_⟩; refine iteF ?_); (refine ⟨_, rfl, rfl, _, rfl, ?_⟩; refine iteF ?_); (refine ⟨_, rfl, rfl, _, rfl, ?_⟩; refine iteF ?_); (refine ⟨_, rfl, rfl, _, rfl, ?_⟩; refine iteF ?_); (refine ⟨_, rfl, rfl, _, rfl, ?_⟩; refine iteF ?_); (refine ⟨_, rfl, rfl, _, rfl, ?_⟩; refine iteF ?_); ((refine ⟨_, rfl, rfl, _, rfl, ?_⟩; refine iteF ?_); (refine ⟨_, rfl, _, _, rfl, rfl, _, rfl, ?_⟩); (refine iteT ?_); (refine ⟨_, _, rfl, rfl, _, rfl, ?_⟩); (refine iteF ?_); (refine ⟨_, rfl, rfl, _, rfl, ?_⟩; refine iteF ?_); (refine iteF ?_)); ((refine ⟨_, rfl, _, _, rfl, rfl, _, rfl, ?_⟩); (refine iteF ?_); (refine iteF ?_); (refine ⟨_, rfl, rfl, _, rfl, ?_⟩; refine iteF ?_)); exact ⟨_, rfl, q r _ _ O'⟩
  | 11, _ =>
    (refine ⟨_, rfl, rfl, _, rfl, ?_⟩; refine iteT ?_)
    refine ⟨20, rfl, by decide, by decide, fun bk D hD => ?_⟩
    refine comp_again (n := 20) (o := aV (ar0 c)) (by omega) hD ea1 (fun v H' Q q => ⟨_, rfl, q⟩) fun qs H2 s2 e2 hI2 => ?_
    (refine ⟨_, rfl, rfl, _, rfl, ?_⟩; refine iteF ?_); (refine ⟨_, rfl, rfl, _, rfl, ?_⟩; refine iteF ?_); (refine ⟨_, rfl, rfl, _, rfl, ?_⟩; refine iteF ?_); (refine ⟨_, rfl, rfl, _, rfl, ?_⟩; refine iteF ?_); (refine ⟨_, rfl, rfl, _, rfl, ?_⟩; refine iteF ?_); (refine ⟨_, rfl, rfl, _, rfl, ?_⟩; refine iteF ?_); (refine ⟨_, rfl, rfl, _, rfl, ?_⟩; refine iteF ?_); (refine ⟨_, rfl, rfl, _, rfl, ?_⟩; refine iteF ?_); (refine ⟨_, rfl, rfl, _, rfl, ?_⟩; refine iteF ?_); ((refine ⟨_, rfl, rfl, _, rfl, ?_⟩; refine iteF ?_); (refine ⟨_, rfl, _, _, rfl, rfl, _, rfl, ?_⟩); (refine iteT ?_); (refine ⟨_, _, rfl, rfl, _, rfl, ?_⟩); (refine iteF ?_); (refine ⟨_, rfl, rfl, _, rfl, ?_⟩; refine iteF ?_); (refine iteF ?_)); ((refine ⟨_, rfl, _, _, rfl, rfl, _, rfl, ?_⟩); (refine iteF ?_); (refine iteF ?_); (refine ⟨_, rfl, rfl, _, rfl, ?_⟩; refine iteF ?_))
    refine ⟨_, rfl, q D qs _ ⟨O'.same.trans s2, O'.same.free hD, e2, ?_⟩⟩
    show Items H2 qs ((List.replicate 20 (ar0 c)).map aV)
    rw [List.map_replicate]; exact hI2
  | 12, _ =>
    (refine ⟨_, rfl, rfl, _, rfl, ?_⟩; refine iteF ?_); (refine ⟨_, rfl, rfl, _, rfl, ?_⟩; refine iteT ?_)
    refine ⟨_, rfl, _, _, rfl, rfl, (by show (0 : Int) < _; decide), _, _, rfl, rfl, _, rfl, by omega, by omega, fun bk D hD => ?_⟩
    refine comp_again (n := (21 + c % 5).toNat) (o := aV (ar0 c)) (by omega) hD ea1 (fun v H' Q q => ⟨_, rfl, q⟩) fun qs H2 s2 e2 hI2 => ?_
    (refine ⟨_, rfl, rfl, _, rfl, ?_⟩; refine iteF ?_); (refine ⟨_, rfl, rfl, _, rfl, ?_⟩; refine iteF ?_); (refine ⟨_, rfl, rfl, _, rfl, ?_⟩; refine iteF ?_); (refine ⟨_, rfl, rfl, _, rfl, ?_⟩; refine iteF ?_); (refine ⟨_, rfl, rfl, _, rfl, ?_⟩; refine iteF ?_); (refine ⟨_, rfl, rfl, _, rfl, ?_⟩; refine iteF ?_); (refine ⟨_, rfl, rfl, _, rfl, ?_⟩; refine iteF ?_); (refine ⟨_, rfl, rfl, _, rfl, ?_⟩; refine iteF ?_); ((refine ⟨_, rfl, rfl, _, rfl, ?_⟩; refine iteF ?_); (refine ⟨_, rfl, _, _, rfl, rfl, _, rfl, ?_⟩); (refine iteT ?_); (refine ⟨_, _, rfl, rfl, _, rfl, ?_⟩); (refine iteF ?_); (refine ⟨_, rfl, rfl, _, rfl, ?_⟩; refine iteF ?_); (refine iteF ?_)); ((refine ⟨_, rfl, _, _, rfl, rfl, _, rfl, ?_⟩); (refine iteF ?_); (refine iteF ?_); (refine ⟨_, rfl, rfl, _, rfl, ?_⟩; refine iteF ?_))
    refine ⟨_, rfl, q D qs _ ⟨O'.same.trans s2, O'.same.free hD, e2, ?_⟩⟩
    show Items H2 qs ((List.replicate (21 + c % 5).toNat (ar0 c)).map aV)
    rw [List.map_replicate]; exact hI2
  | 13, _ =>
    (refine ⟨_, rfl, rfl, _, rfl, ?_⟩; refine iteF ?_); (refine ⟨_, rfl, rfl, _, rfl, ?_⟩; refine iteF ?_); (refine ⟨_, rfl, rfl, _, rfl, ?_⟩; refine iteT ?_)
    refine ⟨_, rfl, _, rfl, (by show 2 ≤ sizeLine; decide), fun l hl => ?_⟩
    have s2 := same_new hl (.lst [.int (5 + c / 7 % 20), .int (-1 - c / 7 % 20)])
    refine ⟨_, rfl, _, _, rfl, rfl, (by show (0 : Int) < _; decide), l, _, _, _, rfl, rfl, SqL.of upd_same, pick_at c _ _, (by show 1 ≤ sizeLine; decide), fun t1 ht1 => ?_⟩
    have s3 := s2.trans (same_new ht1 (.tup [.int (pick3 c (far3 c) (low3 c))]))
    refine ⟨_, rfl, _, rfl, ta, _, rfl, SqT.of (s3 _ _ ea1), (by show ¬ (HT.sIx 5 _ _ = 0 ∧ HT.sIx 5 5 _ = 5); decide), fun t2 ht2 => ?_⟩
    have n12 : t1 ≠ t2 := ne_of_none upd_same ht2
    have s4 := s3.trans (same_new ht2 (.tup (cutV (aV (ar0 c)) (some 1) Option.none)))
    refine ⟨t1, t2, _, _, rfl, rfl, SqT.of (by rw [upd_ne n12]; exact upd_same), SqT.of upd_same, (by intro z; cases z), (by show 5 ≤ sizeLine; decide), fun z => absurd z (by intro y; cases y), fun _ t ht => ?_⟩
    have O1 := O'.more s4
    have O2 := O1.set (arP c) ht (aV (pick3 c (far3 c) (low3 c), c % 4, c / 4 % 6 - 1, 4, c / 24 % 100))
    refine ⟨_, rfl, _, rfl, r, _, _, arP c, rfl, rfl, (by rw [upd_ne (ne_of_none O1.at_ ht)]; exact O1.at_), ixN_of ei hi, ?_⟩
    (refine ⟨_, rfl, rfl, _, rfl, ?_⟩; refine iteF ?_); (refine ⟨_, rfl, rfl, _, rfl, ?_⟩; refine iteF ?_); (refine ⟨_, rfl, rfl, _, rfl, ?_⟩; refine iteF ?_); (refine ⟨_, rfl, rfl, _, rfl, ?_⟩; refine iteF ?_); (refine ⟨_, rfl, rfl, _, rfl, ?_⟩; refine iteF ?_); (refine ⟨_, rfl, rfl, _, rfl, ?_⟩; refine iteF ?_); (refine ⟨_, rfl, rfl, _, rfl, ?_⟩; refine iteF ?_); ((refine ⟨_, rfl, rfl, _, rfl, ?_⟩; refine iteF ?_); (refine ⟨_, rfl, _, _, rfl, rfl, _, rfl, ?_⟩); (refine iteT ?_); (refine ⟨_, _, rfl, rfl, _, rfl, ?_⟩); (refine iteF ?_); (refine ⟨_, rfl, rfl, _, rfl, ?_⟩; refine iteF ?_); (refine iteF ?_)); ((refine ⟨_, rfl, _, _, rfl, rfl, _, rfl, ?_⟩); (refine iteF ?_); (refine iteF ?_); (refine ⟨_, rfl, rfl, _, rfl, ?_⟩; refine iteF ?_))
    refine ⟨_, rfl, q r (ps.set (arP c) t) _ ?_⟩
    show Own3 H _ r _ (((arL c).set (arP c) (pick3 c (far3 c) (low3 c), c % 4, c / 4 % 6 - 1, 4, c / 24 % 100)).map aV)
    rw [List.map_set]
    exact O2
  | 14, _ =>
    (refine ⟨_, rfl, rfl, _, rfl, ?_⟩; refine iteF ?_); (refine ⟨_, rfl, rfl, _, rfl, ?_⟩; refine iteF ?_); (refine ⟨_, rfl, rfl, _, rfl, ?_⟩; refine iteF ?_); (refine ⟨_, rfl, rfl, _, rfl, ?_⟩; refine iteT ?_)
    refine ⟨_, rfl, _, _, rfl, rfl, _, rfl, (by show 2 ≤ sizeLine; decide), fun l hl => ?_⟩
    have s2 := same_new hl (.lst [.int (5 + c / 7 % 20 - 1), .int (-1 - c / 7 % 20)])
    refine ⟨_, rfl, _, _, rfl, rfl, (by show (0 : Int) < _; decide), l, _, _, _, rfl, rfl, SqL.of upd_same, pick_at c _ _, (by show 2 ≤ sizeLine; decide), fun t1 ht1 => ?_⟩
    have s3 := s2.trans (same_new ht1 (.tup [.int 2, .int (pick3 c (far3 c - 1) (low3 c))]))
    refine ⟨_, rfl, _, rfl, ta, _, rfl, SqT.of (s3 _ _ ea1), (by show ¬ (HT.sIx 5 _ _ = 0 ∧ HT.sIx 5 5 _ = 5); decide), fun t2 ht2 => ?_⟩
    have n12 : t1 ≠ t2 := ne_of_none upd_same ht2
    have s4 := s3.trans (same_new ht2 (.tup (cutV (aV (ar0 c)) (some 2) Option.none)))
    refine ⟨t1, t2, _, _, rfl, rfl, SqT.of (by rw [upd_ne n12]; exact upd_same), SqT.of upd_same, (by intro z; cases z), (by show 5 ≤ sizeLine; decide), fun z => absurd z (by intro y; cases y), fun _ t ht => ?_⟩
    have O1 := O'.more s4
    have O2 := O1.set (arP c) ht (aV (2, pick3 c (far3 c - 1) (low3 c), c / 4 % 6 - 1, 4, c / 24 % 100))
    refine ⟨_, rfl, _, rfl, r, _, _, arP c, rfl, rfl, (by rw [upd_ne (ne_of_none O1.at_ ht)]; exact O1.at_), ixN_of ei hi, ?_⟩
    (refine ⟨_, rfl, rfl, _, rfl, ?_⟩; refine iteF ?_); (refine ⟨_, rfl, rfl, _, rfl, ?_⟩; refine iteF ?_); (refine ⟨_, rfl, rfl, _, rfl, ?_⟩; refine iteF ?_); (refine ⟨_, rfl, rfl, _, rfl, ?_⟩; refine iteF ?_); (refine ⟨_, rfl, rfl, _, rfl, ?_⟩; refine iteF ?_); (refine ⟨_, rfl, rfl, _, rfl, ?_⟩; refine iteF ?_); ((refine ⟨_, rfl, rfl, _, rfl, ?_⟩; refine iteF ?_); (refine ⟨_, rfl, _, _, rfl, rfl, _, rfl, ?_⟩); (refine iteT ?_); (refine ⟨_, _, rfl, rfl, _, rfl, ?_⟩); (refine iteF ?_); (refine ⟨_, rfl, rfl, _, rfl, ?_⟩; refine iteF ?_); (refine iteF ?_)); ((refine ⟨_, rfl, _, _, rfl, rfl, _, rfl, ?_⟩); (refine iteF ?_); (refine iteF ?_); (refine ⟨_, rfl, rfl, _, rfl, ?_⟩; refine iteF ?_))
    refine ⟨_, rfl, q r (ps.set (arP c) t) _ ?_⟩
    show Own3 H _ r _ (((arL c).set (arP c) (2, pick3 c (far3 c - 1) (low3 c), c / 4 % 6 - 1, 4, c / 24 % 100)).map aV)
    rw [List.map_set]
    exact O2
  | 15, _ =>
    (refine ⟨_, rfl, rfl, _, rfl, ?_⟩; refine iteF ?_); (refine ⟨_, rfl, rfl, _, rfl, ?_⟩; refine iteF ?_); (refine ⟨_, rfl, rfl, _, rfl, ?_⟩; refine iteF ?_); (refine ⟨_, rfl, rfl, _, rfl, ?_⟩; refine iteF ?_); (refine ⟨_, rfl, rfl, _, rfl, ?_⟩; refine iteT ?_)
    refine ⟨_, rfl, _, rfl, ta, _, rfl, SqT.of ea1, (by show ¬ (HT.sIx 5 _ _ = 0 ∧ HT.sIx 5 5 _ = 5); decide), fun t1 ht1 => ?_⟩
    have s2 := same_new ht1 (.tup (cutV (aV (ar0 c)) Option.none (some 2)))
    refine ⟨_, rfl, _, rfl, _, _, rfl, rfl, (by show 2 ≤ sizeLine; decide), fun l hl => ?_⟩
    have n1l : t1 ≠ l := ne_of_none upd_same hl
    have s3 := s2.trans (same_new hl (.lst [.int (5 + c / 7 % 20), .int (-1 - c / 7 % 20 - 1)]))
    refine ⟨_, rfl, _, _, rfl, rfl, (by show (0 : Int) < _; decide), l, _, _, _, rfl, rfl, SqL.of upd_same, pick_at c _ _, (by show 1 ≤ sizeLine; decide), fun t2 ht2 => ?_⟩
    have e1l := (show _ from by rw [upd_ne n1l]; exact upd_same : (upd (upd H1 t1 (.tup (cutV (aV (ar0 c)) Option.none (some 2)))) l (.lst [.int (5 + c / 7 % 20), .int (-1 - c / 7 % 20 - 1)])) t1 = some (.tup (cutV (aV (ar0 c)) Option.none (some 2))))
    have n12 : t1 ≠ t2 := ne_of_none e1l ht2
    have s4 := s3.trans (same_new ht2 (.tup [.int (pick3 c (far3 c) (low3 c - 1))]))
    refine ⟨t1, t2, _, _, rfl, rfl, SqT.of (by rw [upd_ne n12]; exact e1l), SqT.of upd_same, (by intro z; cases z), (by show 3 ≤ sizeLine; decide), fun z => absurd z (by intro y; cases y), fun _ t3 ht3 => ?_⟩
    have s5 := s4.trans (same_new ht3 (.tup (cutV (aV (ar0 c)) Option.none (some 2) ++ [.int (pick3 c (far3 c) (low3 c - 1))])))
    refine ⟨_, rfl, _, rfl, ta, _, rfl, SqT.of (s5 _ _ ea1), (by show ¬ (HT.sIx 5 _ _ = 0 ∧ HT.sIx 5 5 _ = 5); decide), fun t4 ht4 => ?_⟩
    have n34 : t3 ≠ t4 := ne_of_none upd_same ht4
    have s6 := s5.trans (same_new ht4 (.tup (cutV (aV (ar0 c)) (some 3) Option.none)))
    refine ⟨t3, t4, _, _, rfl, rfl, SqT.of (by rw [upd_ne n34]; exact upd_same), SqT.of upd_same, (by intro z; cases z), (by show 5 ≤ sizeLine; decide), fun z => absurd z (by intro y; cases y), fun _ t ht => ?_⟩
    have O1 := O'.more s6
    have O2 := O1.set (arP c) ht (aV (2, c % 4, pick3 c (far3 c) (low3 c - 1), 4, c / 24 % 100))
    refine ⟨_, rfl, _, rfl, r, _, _, arP c, rfl, rfl, (by rw [upd_ne (ne_of_none O1.at_ ht)]; exact O1.at_), ixN_of ei hi, ?_⟩
    (refine ⟨_, rfl, rfl, _, rfl, ?_⟩; refine iteF ?_); (refine ⟨_, rfl, rfl, _, rfl, ?_⟩; refine iteF ?_); (refine ⟨_, rfl, rfl, _, rfl, ?_⟩; refine iteF ?_); (refine ⟨_, rfl, rfl, _, rfl, ?_⟩; refine iteF ?_); (refine ⟨_, rfl, rfl, _, rfl, ?_⟩; refine iteF ?_); ((refine ⟨_, rfl, rfl, _, rfl, ?_⟩; refine iteF ?_); (refine ⟨_, rfl, _, _, rfl, rfl, _, rfl, ?_⟩); (refine iteT ?_); (refine ⟨_, _, rfl, rfl, _, rfl, ?_⟩); (refine iteF ?_); (refine ⟨_, rfl, rfl, _, rfl, ?_⟩; refine iteF ?_); (refine iteF ?_)); ((refine ⟨_, rfl, _, _, rfl, rfl, _, rfl, ?_⟩); (refine iteF ?_); (refine iteF ?_); (refine ⟨_, rfl, rfl, _, rfl, ?_⟩; refine iteF ?_))
    refine ⟨_, rfl, q r (ps.set (arP c) t) _ ?_⟩
    show Own3 H _ r _ (((arL c).set (arP c) (2, c % 4, pick3 c (far3 c) (low3 c - 1), 4, c / 24 % 100)).map aV)
    rw [List.map_set]
    exact O2
  | 16, _ =>
    (refine ⟨_, rfl, rfl, _, rfl, ?_⟩; refine iteF ?_); (refine ⟨_, rfl, rfl, _, rfl, ?_⟩; refine iteF ?_); (refine ⟨_, rfl, rfl, _, rfl, ?_⟩; refine iteF ?_); (refine ⟨_, rfl, rfl, _, rfl, ?_⟩; refine iteF ?_); (refine ⟨_, rfl, rfl, _, rfl, ?_⟩; refine iteF ?_); (refine ⟨_, rfl, rfl, _, rfl, ?_⟩; refine iteT ?_)
    refine ⟨_, rfl, _, rfl, ta, _, rfl, SqT.of ea1, (by show ¬ (HT.sIx 5 _ _ = 0 ∧ HT.sIx 5 5 _ = 5); decide), fun t1 ht1 => ?_⟩
    have s2 := same_new ht1 (.tup (cutV (aV (ar0 c)) Option.none (some 3)))
    refine ⟨_, rfl, _, rfl, (by show 2 ≤ sizeLine; decide), fun l hl => ?_⟩
    have n1l : t1 ≠ l := ne_of_none upd_same hl
    have s3 := s2.trans (same_new hl (.lst [.int (5 + c / 7 % 20), .int (-1 - c / 7 % 20)]))
    refine ⟨_, rfl, _, _, rfl, rfl, (by show (0 : Int) < _; decide), l, _, _, _, rfl, rfl, SqL.of upd_same, pick_at c _ _, (by show 1 ≤ sizeLine; decide), fun t2 ht2 => ?_⟩
    have e1l := (show _ from by rw [upd_ne n1l]; exact upd_same : (upd (upd H1 t1 (.tup (cutV (aV (ar0 c)) Option.none (some 3)))) l (.lst [.int (5 + c / 7 % 20), .int (-1 - c / 7 % 20)])) t1 = some (.tup (cutV (aV (ar0 c)) Option.none (some 3))))
    have n12 : t1 ≠ t2 := ne_of_none e1l ht2
    have s4 := s3.trans (same_new ht2 (.tup [.int (pick3 c (far3 c) (low3 c))]))
    refine ⟨t1, t2, _, _, rfl, rfl, SqT.of (by rw [upd_ne n12]; exact e1l), SqT.of upd_same, (by intro z; cases z), (by show 4 ≤ sizeLine; decide), fun z => absurd z (by intro y; cases y), fun _ t3 ht3 => ?_⟩
    have s5 := s4.trans (same_new ht3 (.tup (cutV (aV (ar0 c)) Option.none (some 3) ++ [.int (pick3 c (far3 c) (low3 c))])))
    refine ⟨_, rfl, _, rfl, ta, _, rfl, SqT.of (s5 _ _ ea1), (by show ¬ (HT.sIx 5 _ _ = 0 ∧ HT.sIx 5 5 _ = 5); decide), fun t4 ht4 => ?_⟩
    have n34 : t3 ≠ t4 := ne_of_none upd_same ht4
    have s6 := s5.trans (same_new ht4 (.tup (cutV (aV (ar0 c)) (some 4) Option.none)))
    refine ⟨t3, t4, _, _, rfl, rfl, SqT.of (by rw [upd_ne n34]; exact upd_same), SqT.of upd_same, (by intro z; cases z), (by show 5 ≤ sizeLine; decide), fun z => absurd z (by intro y; cases y), fun _ t ht => ?_⟩
    have O1 := O'.more s6
    have O2 := O1.set (arP c) ht (aV (2, c % 4, c / 4 % 6 - 1, pick3 c (far3 c) (low3 c), c / 24 % 100))
    refine ⟨_, rfl, _, rfl, r, _, _, arP c, rfl, rfl, (by rw [upd_ne (ne_of_none O1.at_ ht)]; exact O1.at_), ixN_of ei hi, ?_⟩
    (refine ⟨_, rfl, rfl, _, rfl, ?_⟩; refine iteF ?_); (refine ⟨_, rfl, rfl, _, rfl, ?_⟩; refine iteF ?_); (refine ⟨_, rfl, rfl, _, rfl, ?_⟩; refine iteF ?_); (refine ⟨_, rfl, rfl, _, rfl, ?_⟩; refine iteF ?_); ((refine ⟨_, rfl, rfl, _, rfl, ?_⟩; refine iteF ?_); (refine ⟨_, rfl, _, _, rfl, rfl, _, rfl, ?_⟩); (refine iteT ?_); (refine ⟨_, _, rfl, rfl, _, rfl, ?_⟩); (refine iteF ?_); (refine ⟨_, rfl, rfl, _, rfl, ?_⟩; refine iteF ?_); (refine iteF ?_)); ((refine ⟨_, rfl, _, _, rfl, rfl, _, rfl, ?_⟩); (refine iteF ?_); (refine iteF ?_); (refine ⟨_, rfl, rfl, _, rfl, ?_⟩; refine iteF ?_))
    refine ⟨_, rfl, q r (ps.set (arP c) t) _ ?_⟩
    show Own3 H _ r _ (((arL c).set (arP c) (2, c % 4, c / 4 % 6 - 1, pick3 c (far3 c) (low3 c), c / 24 % 100)).map aV)
    rw [List.map_set]
    exact O2
  | 17, _ =>
    (refine ⟨_, rfl, rfl, _, rfl, ?_⟩; refine iteF ?_); (refine ⟨_, rfl, rfl, _, rfl, ?_⟩; refine iteF ?_); (refine ⟨_, rfl, rfl, _, rfl, ?_⟩; refine iteF ?_); (refine ⟨_, rfl, rfl, _, rfl, ?_⟩; refine iteF ?_); (refine ⟨_, rfl, rfl, _, rfl, ?_⟩; refine iteF ?_); (refine ⟨_, rfl, rfl, _, rfl, ?_⟩; refine iteF ?_); (refine ⟨_, rfl, rfl, _, rfl, ?_⟩; refine iteT ?_)
    refine ⟨_, rfl, _, rfl, ta, _, rfl, SqT.of ea1, (by show ¬ (HT.sIx 5 _ _ = 0 ∧ HT.sIx 5 5 _ = 5); decide), fun t1 ht1 => ?_⟩
    have s2 := same_new ht1 (.tup (cutV (aV (ar0 c)) Option.none (some 4)))
    refine ⟨_, rfl, _, _, rfl, rfl, _, rfl, (by show 2 ≤ sizeLine; decide), fun l hl => ?_⟩
    have n1l : t1 ≠ l := ne_of_none upd_same hl
    have s3 := s2.trans (same_new hl (.lst [.int (95 + (5 + c / 7 % 20)), .int (-1 - c / 7 % 20)]))
    refine ⟨_, rfl, _, _, rfl, rfl, (by show (0 : Int) < _; decide), l, _, _, _, rfl, rfl, SqL.of upd_same, pick_at c _ _, (by show 1 ≤ sizeLine; decide), fun t2 ht2 => ?_⟩
    have e1l := (show _ from by rw [upd_ne n1l]; exact upd_same : (upd (upd H1 t1 (.tup (cutV (aV (ar0 c)) Option.none (some 4)))) l (.lst [.int (95 + (5 + c / 7 % 20)), .int (-1 - c / 7 % 20)])) t1 = some (.tup (cutV (aV (ar0 c)) Option.none (some 4))))
    have n12 : t1 ≠ t2 := ne_of_none e1l ht2
    have s4 := s3.trans (same_new ht2 (.tup [.int (pick3 c (95 + far3 c) (low3 c))]))
    refine ⟨t1, t2, _, _, rfl, rfl, SqT.of (by rw [upd_ne n12]; exact e1l), SqT.of upd_same, (by intro z; cases z), (by show 5 ≤ sizeLine; decide), fun z => absurd z (by intro y; cases y), fun _ t ht => ?_⟩
    have O1 := O'.more s4
    have O2 := O1.set (arP c) ht (aV (2, c % 4, c / 4 % 6 - 1, 4, pick3 c (95 + far3 c) (low3 c)))
    refine ⟨_, rfl, _, rfl, r, _, _, arP c, rfl, rfl, (by rw [upd_ne (ne_of_none O1.at_ ht)]; exact O1.at_), ixN_of ei hi, ?_⟩
    (refine ⟨_, rfl, rfl, _, rfl, ?_⟩; refine iteF ?_); (refine ⟨_, rfl, rfl, _, rfl, ?_⟩; refine iteF ?_); (refine ⟨_, rfl, rfl, _, rfl, ?_⟩; refine iteF ?_); ((refine ⟨_, rfl, rfl, _, rfl, ?_⟩; refine iteF ?_); (refine ⟨_, rfl, _, _, rfl, rfl, _, rfl, ?_⟩); (refine iteT ?_); (refine ⟨_, _, rfl, rfl, _, rfl, ?_⟩); (refine iteF ?_); (refine ⟨_, rfl, rfl, _, rfl, ?_⟩; refine iteF ?_); (refine iteF ?_)); ((refine ⟨_, rfl, _, _, rfl, rfl, _, rfl, ?_⟩); (refine iteF ?_); (refine iteF ?_); (refine ⟨_, rfl, rfl, _, rfl, ?_⟩; refine iteF ?_))
    refine ⟨_, rfl, q r (ps.set (arP c) t) _ ?_⟩
    show Own3 H _ r _ (((arL c).set (arP c) (2, c % 4, c / 4 % 6 - 1, 4, pick3 c (95 + far3 c) (low3 c))).map aV)
    rw [List.map_set]
    exact O2
  | 18, _ =>
    (refine ⟨_, rfl, rfl, _, rfl, ?_⟩; refine iteF ?_); (refine ⟨_, rfl, rfl, _, rfl, ?_⟩; refine iteF ?_); (refine ⟨_, rfl, rfl, _, rfl, ?_⟩; refine iteF ?_); (refine ⟨_, rfl, rfl, _, rfl, ?_⟩; refine iteF ?_); (refine ⟨_, rfl, rfl, _, rfl, ?_⟩; refine iteF ?_); (refine ⟨_, rfl, rfl, _, rfl, ?_⟩; refine iteF ?_); (refine ⟨_, rfl, rfl, _, rfl, ?_⟩; refine iteF ?_); (refine ⟨_, rfl, rfl, _, rfl, ?_⟩; refine iteT ?_)
    refine ⟨(by show 1 ≤ sizeLine; decide), fun t1 ht1 => ?_⟩
    have s3 := same_new ht1 (.tup [.int 0])
    refine ⟨_, rfl, _, rfl, ta, _, rfl, SqT.of (s3 _ _ ea1), (by show ¬ (HT.sIx 5 _ _ = 0 ∧ HT.sIx 5 5 _ = 5); decide), fun t2 ht2 => ?_⟩
    have n12 : t1 ≠ t2 := ne_of_none upd_same ht2
    have s4 := s3.trans (same_new ht2 (.tup (cutV (aV (ar0 c)) (some 1) Option.none)))
    refine ⟨t1, t2, _, _, rfl, rfl, SqT.of (by rw [upd_ne n12]; exact upd_same), SqT.of upd_same, (by intro z; cases z), (by show 5 ≤ sizeLine; decide), fun z => absurd z (by intro y; cases y), fun _ t ht => ?_⟩
    have O1 := O'.more s4
    have O2 := O1.set (arP c) ht (aV (0, c % 4, c / 4 % 6 - 1, 4, c / 24 % 100))
    refine ⟨_, rfl, _, rfl, r, _, _, arP c, rfl, rfl, (by rw [upd_ne (ne_of_none O1.at_ ht)]; exact O1.at_), ixN_of ei hi, ?_⟩
    (refine ⟨_, rfl, rfl, _, rfl, ?_⟩; refine iteF ?_); (refine ⟨_, rfl, rfl, _, rfl, ?_⟩; refine iteF ?_); ((refine ⟨_, rfl, rfl, _, rfl, ?_⟩; refine iteF ?_); (refine ⟨_, rfl, _, _, rfl, rfl, _, rfl, ?_⟩); (refine iteT ?_); (refine ⟨_, _, rfl, rfl, _, rfl, ?_⟩); (refine iteF ?_); (refine ⟨_, rfl, rfl, _, rfl, ?_⟩; refine iteF ?_); (refine iteF ?_)); ((refine ⟨_, rfl, _, _, rfl, rfl, _, rfl, ?_⟩); (refine iteF ?_); (refine iteF ?_); (refine ⟨_, rfl, rfl, _, rfl, ?_⟩; refine iteF ?_))
    refine ⟨_, rfl, q r (ps.set (arP c) t) _ ?_⟩
    show Own3 H _ r _ (((arL c).set (arP c) (0, c % 4, c / 4 % 6 - 1, 4, c / 24 % 100)).map aV)
    rw [List.map_set]
    exact O2
  | 19, _ =>
    (refine ⟨_, rfl, rfl, _, rfl, ?_⟩; refine iteF ?_); (refine ⟨_, rfl, rfl, _, rfl, ?_⟩; refine iteF ?_); (refine ⟨_, rfl, rfl, _, rfl, ?_⟩; refine iteF ?_); (refine ⟨_, rfl, rfl, _, rfl, ?_⟩; refine iteF ?_); (refine ⟨_, rfl, rfl, _, rfl, ?_⟩; refine iteF ?_); (refine ⟨_, rfl, rfl, _, rfl, ?_⟩; refine iteF ?_); (refine ⟨_, rfl, rfl, _, rfl, ?_⟩; refine iteF ?_); (refine ⟨_, rfl, rfl, _, rfl, ?_⟩; refine iteF ?_); (refine ⟨_, rfl, rfl, _, rfl, ?_⟩; refine iteT ?_)
    refine ⟨_, rfl, _, rfl, ta, _, rfl, SqT.of ea1, (by show ¬ (HT.sIx 5 _ _ = 0 ∧ HT.sIx 5 5 _ = 5); decide), fun t1 ht1 => ?_⟩
    have s2 := same_new ht1 (.tup (cutV (aV (ar0 c)) Option.none (some 3)))
    refine ⟨(by show 1 ≤ sizeLine; decide), fun t2 ht2 => ?_⟩
    have n12 : t1 ≠ t2 := ne_of_none upd_same ht2
    have s4 := s2.trans (same_new ht2 (.tup [.int 0]))
    refine ⟨t1, t2, _, _, rfl, rfl, SqT.of (by rw [upd_ne n12]; exact upd_same), SqT.of upd_same, (by intro z; cases z), (by show 4 ≤ sizeLine; decide), fun z => absurd z (by intro y; cases y), fun _ t3 ht3 => ?_⟩
    have s5 := s4.trans (same_new ht3 (.tup (cutV (aV (ar0 c)) Option.none (some 3) ++ [.int (0)])))
    refine ⟨_, rfl, _, rfl, ta, _, rfl, SqT.of (s5 _ _ ea1), (by show ¬ (HT.sIx 5 _ _ = 0 ∧ HT.sIx 5 5 _ = 5); decide), fun t4 ht4 => ?_⟩
    have n34 : t3 ≠ t4 := ne_of_none upd_same ht4
    have s6 := s5.trans (same_new ht4 (.tup (cutV (aV (ar0 c)) (some 4) Option.none)))
    refine ⟨t3, t4, _, _, rfl, rfl, SqT.of (by rw [upd_ne n34]; exact upd_same), SqT.of upd_same, (by intro z; cases z), (by show 5 ≤ sizeLine; decide), fun z => absurd z (by intro y; cases y), fun _ t ht => ?_⟩
    have O1 := O'.more s6
    have O2 := O1.set (arP c) ht (aV (2, c % 4, c / 4 % 6 - 1, 0, c / 24 % 100))
    refine ⟨_, rfl, _, rfl, r, _, _, arP c, rfl, rfl, (by rw [upd_ne (ne_of_none O1.at_ ht)]; exact O1.at_), ixN_of ei hi, ?_⟩
    (refine ⟨_, rfl, rfl, _, rfl, ?_⟩; refine iteF ?_); ((refine ⟨_, rfl, rfl, _, rfl, ?_⟩; refine iteF ?_); (refine ⟨_, rfl, _, _, rfl, rfl, _, rfl, ?_⟩); (refine iteT ?_); (refine ⟨_, _, rfl, rfl, _, rfl, ?_⟩); (refine iteF ?_); (refine ⟨_, rfl, rfl, _, rfl, ?_⟩; refine iteF ?_); (refine iteF ?_)); ((refine ⟨_, rfl, _, _, rfl, rfl, _, rfl, ?_⟩); (refine iteF ?_); (refine iteF ?_); (refine ⟨_, rfl, rfl, _, rfl, ?_⟩; refine iteF ?_))
    refine ⟨_, rfl, q r (ps.set (arP c) t) _ ?_⟩
    show Own3 H _ r _ (((arL c).set (arP c) (2, c % 4, c / 4 % 6 - 1, 0, c / 24 % 100)).map aV)
    rw [List.map_set]
    exact O2
  | 20, _ =>
    (refine ⟨_, rfl, rfl, _, rfl, ?_⟩; refine iteF ?_); (refine ⟨_, rfl, rfl, _, rfl, ?_⟩; refine iteF ?_); (refine ⟨_, rfl, rfl, _, rfl, ?_⟩; refine iteF ?_); (refine ⟨_, rfl, rfl, _, rfl, ?_⟩; refine iteF ?_); (refine ⟨_, rfl, rfl, _, rfl, ?_⟩; refine iteF ?_); (refine ⟨_, rfl, rfl, _, rfl, ?_⟩; refine iteF ?_); (refine ⟨_, rfl, rfl, _, rfl, ?_⟩; refine iteF ?_); (refine ⟨_, rfl, rfl, _, rfl, ?_⟩; refine iteF ?_); (refine ⟨_, rfl, rfl, _, rfl, ?_⟩; refine iteF ?_); (refine ⟨_, rfl, rfl, _, rfl, ?_⟩; refine iteT ?_)
    refine ⟨_, rfl, _, _, rfl, rfl, (by show (0 : Int) < _; decide), (by show 5 ≤ sizeLine; decide), fun t ht => ?_⟩
    have O2 := O'.set (arP c) ht (aV (c % 4, 3, 4, 4, 99))
    refine ⟨_, rfl, _, rfl, r, _, _, arP c, rfl, rfl, (by rw [upd_ne (ne_of_none O'.at_ ht)]; exact O'.at_), ixN_of ei hi, ?_⟩
    refine ⟨_, rfl, _, _, rfl, rfl, (by show (0 : Int) < _; decide), rfl, _, rfl, ?_⟩
    refine ite2 (fun z => ?_) (fun z => ?_)
    · have z' : c % 4 = 0 := by simpa using z
      refine ⟨(by show 5 ≤ sizeLine; decide), fun t' ht' => ?_⟩
      have O3 := O2.set (arP c) ht' (aV (4, 0, 0, 4, 0))
      have y := O2.at_
      rw [List.map_set] at y O3
      refine ⟨_, rfl, _, rfl, r, _, _, arP c, rfl, rfl, (by rw [upd_ne (ne_of_none y ht')]; exact y), ixN_of ei (by rw [List.length_set]; exact hi), ?_⟩
      ((refine ⟨_, rfl, rfl, _, rfl, ?_⟩; refine iteF ?_); (refine ⟨_, rfl, _, _, rfl, rfl, _, rfl, ?_⟩); (refine iteT ?_); (refine ⟨_, _, rfl, rfl, _, rfl, ?_⟩); (refine iteF ?_); (refine ⟨_, rfl, rfl, _, rfl, ?_⟩; refine iteF ?_); (refine iteF ?_)); ((refine ⟨_, rfl, _, _, rfl, rfl, _, rfl, ?_⟩); (refine iteF ?_); (refine iteF ?_); (refine ⟨_, rfl, rfl, _, rfl, ?_⟩; refine iteF ?_))
      refine ⟨_, rfl, q r ((ps.set (arP c) t).set (arP c) t') _ ?_⟩
      have e : spoA 20 c = ((arL c).set (arP c) (c % 4, 3, 4, 4, 99)).set (arP c) (4, 0, 0, 4, 0) := if_pos z'
      rw [e, List.map_set, List.map_set]
      exact O3
    · have z' : ¬ c % 4 = 0 := by simpa using z
      ((refine ⟨_, rfl, rfl, _, rfl, ?_⟩; refine iteF ?_); (refine ⟨_, rfl, _, _, rfl, rfl, _, rfl, ?_⟩); (refine iteT ?_); (refine ⟨_, _, rfl, rfl, _, rfl, ?_⟩); (refine iteF ?_); (refine ⟨_, rfl, rfl, _, rfl, ?_⟩; refine iteF ?_); (refine iteF ?_)); ((refine ⟨_, rfl, _, _, rfl, rfl, _, rfl, ?_⟩); (refine iteF ?_); (refine iteF ?_); (refine ⟨_, rfl, rfl, _, rfl, ?_⟩; refine iteF ?_))
      refine ⟨_, rfl, q r (ps.set (arP c) t) _ ?_⟩
      have e : spoA 20 c = (arL c).set (arP c) (c % 4, 3, 4, 4, 99) := if_neg z'
      rw [e, List.map_set]
      exact O2
  | 21, _ =>
    (refine ⟨_, rfl, rfl, _, rfl, ?_⟩; refine iteF ?_); (refine ⟨_, rfl, rfl, _, rfl, ?_⟩; refine iteF ?_); (refine ⟨_, rfl, rfl, _, rfl, ?_⟩; refine iteF ?_); (refine ⟨_, rfl, rfl, _, rfl, ?_⟩; refine iteF ?_); (refine ⟨_, rfl, rfl, _, rfl, ?_⟩; refine iteF ?_); (refine ⟨_, rfl, rfl, _, rfl, ?_⟩; refine iteF ?_); (refine ⟨_, rfl, rfl, _, rfl, ?_⟩; refine iteF ?_); (refine ⟨_, rfl, rfl, _, rfl, ?_⟩; refine iteF ?_); (refine ⟨_, rfl, rfl, _, rfl, ?_⟩; refine iteF ?_); (refine ⟨_, rfl, rfl, _, rfl, ?_⟩; refine iteF ?_); (refine ⟨_, rfl, rfl, _, rfl, ?_⟩; refine iteT ?_); (refine iteT ?_)
    refine ⟨(by show 0 ≤ sizeLine; decide), fun r2 hr2 => ?_⟩
    ((refine ⟨_, rfl, _, _, rfl, rfl, _, rfl, ?_⟩); (refine iteF ?_); (refine iteF ?_); (refine ⟨_, rfl, rfl, _, rfl, ?_⟩; refine iteF ?_))
    exact ⟨_, rfl, q r2 [] _ ⟨O'.same.trans (same_new hr2 _), O'.same.free hr2, upd_same, ⟨rfl, fun i p o e => by simp at e⟩⟩⟩
  | 22, _ =>
    (refine ⟨_, rfl, rfl, _, rfl, ?_⟩; refine iteF ?_); (refine ⟨_, rfl, rfl, _, rfl, ?_⟩; refine iteF ?_); (refine ⟨_, rfl, rfl, _, rfl, ?_⟩; refine iteF ?_); (refine ⟨_, rfl, rfl, _, rfl, ?_⟩; refine iteF ?_); (refine ⟨_, rfl, rfl, _, rfl, ?_⟩; refine iteF ?_); (refine ⟨_, rfl, rfl, _, rfl, ?_⟩; refine iteF ?_); (refine ⟨_, rfl, rfl, _, rfl, ?_⟩; refine iteF ?_); (refine ⟨_, rfl, rfl, _, rfl, ?_⟩; refine iteF ?_); (refine ⟨_, rfl, rfl, _, rfl, ?_⟩; refine iteF ?_); (refine ⟨_, rfl, rfl, _, rfl, ?_⟩; refine iteF ?_); ((refine ⟨_, rfl, rfl, _, rfl, ?_⟩; refine iteF ?_); (refine ⟨_, rfl, _, _, rfl, rfl, _, rfl, ?_⟩); (refine iteT ?_); (refine ⟨_, _, rfl, rfl, _, rfl, ?_⟩); (refine iteF ?_); (refine ⟨_, rfl, rfl, _, rfl, ?_⟩; refine iteF ?_); (refine iteF ?_))
    refine ⟨_, rfl, _, _, rfl, rfl, _, rfl, ?_⟩
    refine iteT ?_
    refine ⟨_, rfl, _, _, rfl, rfl, _, rfl, ?_⟩
    refine iteT ?_
    refine ⟨_, rfl, (by show 5 ≤ sizeLine; decide), fun t1 h1 => ?_⟩
    refine ⟨(by show 5 ≤ sizeLine; decide), fun t2 h2 => ?_⟩
    refine ⟨(by show 2 ≤ sizeLine; decide), fun r2 h3 => ?_⟩
    have u1 := same_new h1 (.tup (aV (3, 0, -1, 3, 1)))
    have u2 := same_new h2 (.tup (aV (4, 1, 0, 4, 2)))
    have u3 := same_new h3 (.lst [.ref t1, .ref t2])
    have O2 : Own3 H _ r2 [t1, t2] (two3.map aV) := ⟨O'.same.trans (u1.trans (u2.trans u3)), O'.same.free ((u1.trans u2).free h3), upd_same, rfl, fun i p o a b => by
      match i with
      | 0 => cases a; cases b; exact u3 _ _ (u2 _ _ upd_same)
      | 1 => cases a; cases b; exact u3 _ _ upd_same
      | n + 2 => cases a⟩
    generalize upd (upd (upd H1 t1 _) t2 _) r2 _ = H2 at O2 ⊢
    (refine ⟨_, rfl, rfl, _, rfl, ?_⟩; refine iteT ?_)
    have e3 : c % 3 = (((c % 3).toNat : Nat) : Int) := by omega
    refine ⟨_, rfl, .inl ⟨rfl, _, SqL.of O2.at_⟩, _, rfl, _, _, rfl, rfl, (by show (0 : Int) < _; decide), _, rfl, _, _, rfl, rfl, (by show (0 : Int) < _; decide), _, _, rfl, rfl, _, rfl, _, rfl, _, _, rfl, rfl, (by show (0 : Int) < _; decide), _, _, rfl, rfl, (by show 5 ≤ sizeLine; decide), fun t ht => ?_⟩
    have n2t : r2 ≠ t := ne_of_none O2.at_ ht
    have O4 := O2.more (same_new ht (.tup (aV (3 + c % 2, 0, -1, 4 - c % 2, 1))))
    refine ⟨r2, [.ref t1, .ref t2], (c % 3).toNat, .ref t, rfl, by rw [← e3], (by rw [upd_ne n2t]; exact O2.at_), (by show _ ≤ 2; omega), (by show 2 ≤ 1000; decide), ?_⟩
    refine ⟨_, rfl, q r2 ([t1, t2].take (c % 3).toNat ++ t :: [t1, t2].drop (c % 3).toNat) _ ?_⟩
    have kp : ∀ x u, (upd H2 t (.tup (aV (3 + c % 2, 0, -1, 4 - c % 2, 1)))) x = some u → x ≠ r2 → (upd (upd H2 t (.tup (aV (3 + c % 2, 0, -1, 4 - c % 2, 1)))) r2 (.lst ([V.ref t1, .ref t2].take (c % 3).toNat ++ .ref t :: [V.ref t1, .ref t2].drop (c % 3).toNat))) x = some u := fun x u e n => by rw [upd_ne n]; exact e
    have c3 : (c % 3).toNat = 0 ∨ (c % 3).toNat = 1 ∨ (c % 3).toNat = 2 := by omega
    have k1 := kp _ _ (O4.its.2 0 t1 _ rfl rfl) (ne_of (O4.its.2 0 t1 _ rfl rfl) O4.at_ (by intro z; cases z))
    have k2 := kp _ _ (O4.its.2 1 t2 _ rfl rfl) (ne_of (O4.its.2 1 t2 _ rfl rfl) O4.at_ (by intro z; cases z))
    have k3 := kp _ _ upd_same n2t.symm
    change Own3 H (upd (upd H2 t (.tup (aV (3 + c % 2, 0, -1, 4 - c % 2, 1)))) r2 (.lst ([V.ref t1, .ref t2].take (c % 3).toNat ++ .ref t :: [V.ref t1, .ref t2].drop (c % 3).toNat))) r2 _ _
    refine ⟨fun x u e => kp x u (O4.same _ _ e) (ne_of_none e O2.new), O2.new, ?_, ?_⟩
    · rw [upd_same]
      rcases c3 with z | z | z <;> (rw [z]; rfl)
    · show Items _ _ ((two3.take (c % 3).toNat ++ (3 + c % 2, 0, -1, 4 - c % 2, 1) :: two3.drop (c % 3).toNat).map aV)
      generalize upd (upd H2 t (.tup (aV (3 + c % 2, 0, -1, 4 - c % 2, 1)))) r2 _ = HH at k1 k2 k3 ⊢
      rcases c3 with z | z | z
      · rw [z]
        refine ⟨rfl, fun i p o a b => ?_⟩
        match i with
        | 0 => cases a; cases b; exact k3
        | 1 => cases a; cases b; exact k1
        | 2 => cases a; cases b; exact k2
        | n + 3 => cases a
      · rw [z]
        refine ⟨rfl, fun i p o a b => ?_⟩
        match i with
        | 0 => cases a; cases b; exact k1
        | 1 => cases a; cases b; exact k3
        | 2 => cases a; cases b; exact k2
        | n + 3 => cases a
      · rw [z]
        refine ⟨rfl, fun i p o a b => ?_⟩
        match i with
        | 0 => cases a; cases b; exact k1
        | 1 => cases a; cases b; exact k2
        | 2 => cases a; cases b; exact k3
        | n + 3 => cases a
  | 23, _ =>
    (refine ⟨_, rfl, rfl, _, rfl, ?_⟩; refine iteF ?_); (refine ⟨_, rfl, rfl, _, rfl, ?_⟩; refine iteF ?_); (refine ⟨_, rfl, rfl, _, rfl, ?_⟩; refine iteF ?_); (refine ⟨_, rfl, rfl, _, rfl, ?_⟩; refine iteF ?_); (refine ⟨_, rfl, rfl, _, rfl, ?_⟩; refine iteF ?_); (refine ⟨_, rfl, rfl, _, rfl, ?_⟩; refine iteF ?_); (refine ⟨_, rfl, rfl, _, rfl, ?_⟩; refine iteF ?_); (refine ⟨_, rfl, rfl, _, rfl, ?_⟩; refine iteF ?_); (refine ⟨_, rfl, rfl, _, rfl, ?_⟩; refine iteF ?_); (refine ⟨_, rfl, rfl, _, rfl, ?_⟩; refine iteF ?_); ((refine ⟨_, rfl, rfl, _, rfl, ?_⟩; refine iteF ?_); (refine ⟨_, rfl, _, _, rfl, rfl, _, rfl, ?_⟩); (refine iteT ?_); (refine ⟨_, _, rfl, rfl, _, rfl, ?_⟩); (refine iteF ?_); (refine ⟨_, rfl, rfl, _, rfl, ?_⟩; refine iteF ?_); (refine iteF ?_))
    refine ⟨_, rfl, _, _, rfl, rfl, _, rfl, ?_⟩
    refine iteT ?_
    refine ⟨_, rfl, _, _, rfl, rfl, _, rfl, ?_⟩
    refine iteT ?_
    refine ⟨_, rfl, (by show 5 ≤ sizeLine; decide), fun t1 h1 => ?_⟩
    refine ⟨(by show 5 ≤ sizeLine; decide), fun t2 h2 => ?_⟩
    refine ⟨(by show 2 ≤ sizeLine; decide), fun r2 h3 => ?_⟩
    have u1 := same_new h1 (.tup (aV (3, 0, -1, 3, 1)))
    have u2 := same_new h2 (.tup (aV (4, 1, 0, 4, 2)))
    have u3 := same_new h3 (.lst [.ref t1, .ref t2])
    have O2 : Own3 H _ r2 [t1, t2] (two3.map aV) := ⟨O'.same.trans (u1.trans (u2.trans u3)), O'.same.free ((u1.trans u2).free h3), upd_same, rfl, fun i p o a b => by
      match i with
      | 0 => cases a; cases b; exact u3 _ _ (u2 _ _ upd_same)
      | 1 => cases a; cases b; exact u3 _ _ upd_same
      | n + 2 => cases a⟩
    generalize upd (upd (upd H1 t1 _) t2 _) r2 _ = H2 at O2 ⊢
    (refine ⟨_, rfl, rfl, _, rfl, ?_⟩; refine iteF ?_)
    exact ⟨_, rfl, q r2 _ _ O2⟩
  | 24, _ =>
    (refine ⟨_, rfl, rfl, _, rfl, ?_⟩; refine iteF ?_); (refine ⟨_, rfl, rfl, _, rfl, ?_⟩; refine iteF ?_); (refine ⟨_, rfl, rfl, _, rfl, ?_⟩; refine iteF ?_); (refine ⟨_, rfl, rfl, _, rfl, ?_⟩; refine iteF ?_); (refine ⟨_, rfl, rfl, _, rfl, ?_⟩; refine iteF ?_); (refine ⟨_, rfl, rfl, _, rfl, ?_⟩; refine iteF ?_); (refine ⟨_, rfl, rfl, _, rfl, ?_⟩; refine iteF ?_); (refine ⟨_, rfl, rfl, _, rfl, ?_⟩; refine iteF ?_); (refine ⟨_, rfl, rfl, _, rfl, ?_⟩; refine iteF ?_); (refine ⟨_, rfl, rfl, _, rfl, ?_⟩; refine iteF ?_)
    (refine ⟨_, rfl, rfl, _, rfl, ?_⟩; refine iteF ?_); (refine ⟨_, rfl, _, _, rfl, rfl, _, rfl, ?_⟩); (refine iteT ?_); (refine ⟨_, _, rfl, rfl, _, rfl, ?_⟩); (refine iteF ?_); (refine ⟨_, rfl, rfl, _, rfl, ?_⟩; refine iteT ?_)
    refine ⟨_, rfl, _, _, rfl, rfl, ⟨by decide, by decide⟩, _, _, rfl, rfl, (by show (0 : Int) < _; decide), rfl, _, rfl, ?_⟩
    refine ite2 (fun z => ?_) (fun z => ?_)
    · have z' : c / 97 % 2 = 1 := by simpa using z
      refine ⟨(by show 0 ≤ sizeLine; decide), fun r2 hr2 => ?_⟩
      (refine ⟨_, rfl, _, _, rfl, rfl, _, rfl, ?_⟩); (refine iteT ?_); (refine ⟨_, rfl, _, _, rfl, rfl, _, rfl, ?_⟩); (refine iteF ?_); (refine ⟨_, rfl, rfl, _, rfl, ?_⟩; refine iteF ?_)
      have e : spoA 24 c = [] := if_pos z'
      refine ⟨_, rfl, q r2 [] _ ?_⟩
      rw [e]
      exact ⟨O'.same.trans (same_new hr2 _), O'.same.free hr2, upd_same, ⟨rfl, fun i p o e => by simp at e⟩⟩
    · have z' : ¬ c / 97 % 2 = 1 := by simpa using z
      (refine ⟨_, rfl, _, _, rfl, rfl, _, rfl, ?_⟩); (refine iteT ?_); (refine ⟨_, rfl, _, _, rfl, rfl, _, rfl, ?_⟩); (refine iteF ?_); (refine ⟨_, rfl, rfl, _, rfl, ?_⟩; refine iteF ?_)
      have e : spoA 24 c = arL c := if_neg z'
      refine ⟨_, rfl, q r ps _ ?_⟩
      rw [e]
      exact O'
  | n + 25, h => exact absurd h (by omega)

/-! ### data: reading, shapes -/
theorem ints_rd {K : PySem.W.Frag} {H : Hp} : ∀ xs : List Int, RdVs K H (xs.map V.int) (xs.map PyData.int)
  | [] => .nil
  | x :: r => .cons (.int x) (ints_rd r)
def shapes (n : Nat) (ds : List PyData) : Prop := PyData.canLayAll0 ds = true ∧ PyData.depthAll ds ≤ n ∧ PyData.eqvAll ds ds = true
def shape (n : Nat) (d : PyData) : Prop := PyData.canLay0 d = true ∧ PyData.depth d ≤ n ∧ PyData.eqv d d = true
theorem shapes_map {β : Type} {g : β → PyData} {n : Nat} : ∀ bs : List β, (∀ b ∈ bs, shape n (g b)) → shapes n (bs.map g)
  | [], _ => ⟨rfl, by simp [PyData.depthAll], rfl⟩
  | b :: bs, h => by
    obtain ⟨i1, i2, i3⟩ := shapes_map bs fun x hx => h x (List.mem_cons_of_mem _ hx)
    obtain ⟨j1, j2, j3⟩ := h b List.mem_cons_self
    refine ⟨?_, ?_, ?_⟩
    · simp only [List.map_cons, PyData.canLayAll0, i1, j1, Bool.and_true]
    · simp only [List.map_cons, PyData.depthAll]; omega
    · simp only [List.map_cons, PyData.eqvAll, i3, j3, Bool.and_true]
theorem shape_list {n : Nat} {ds : List PyData} (h : shapes n ds) : shape (n + 1) (.list ds) := by
  obtain ⟨a, b, c⟩ := h
  exact ⟨by simpa only [PyData.canLay0] using a, by simp only [PyData.depth]; omega, by simpa only [PyData.eqv] using c⟩
theorem shape_tuple {n : Nat} {ds : List PyData} (h : shapes n ds) : shape (n + 1) (.tuple ds) := by
  obtain ⟨a, b, c⟩ := h
  exact ⟨by simpa only [PyData.canLay0] using a, by simp only [PyData.depth]; omega, by simpa only [PyData.eqv] using c⟩
theorem shape_int (i : Int) : shape 0 (.int i) := ⟨rfl, by simp [PyData.depth], by simp only [PyData.eqv, beq_self_eq_true]⟩
theorem shape_ints (xs : List Int) : shapes 0 (xs.map PyData.int) := shapes_map xs fun i _ => shape_int i
theorem shaped_of {n : Nat} {d : PyData} (h : shape n d) (hn : n ≤ 8) : SeqAt.shaped d = true := by
  obtain ⟨a, b, _⟩ := h
  unfold SeqAt.shaped
  rw [Bool.and_eq_true]
  exact ⟨a, decide_eq_true (by omega)⟩

/-! ### which of the 25 ways are charts -/
def okHb (R : List Room1) (i : Nat) : Bool := if i = 0 then decide (Rm.hold (hsOf R) i = -1) else decide (0 ≤ Rm.hold (hsOf R) i) && decide (Rm.hold (hsOf R) i < (i : Int))
def okKb (R : List Room1) (i : Nat) : Bool := (decide (kindAt R i = "plain") || decide (kindAt R i = "one") || decide (kindAt R i = "all") || decide (kindAt R i = "keep")) && (decide (kindAt R i = "plain") == (Rm.kids (hsOf R) i).isEmpty)
def okRb (R : List Room1) : Bool := decide (1 ≤ R.length) && decide (R.length ≤ 16) && (List.range R.length).all fun i => okHb R i && okKb R i
theorem okHb_iff {R : List Room1} {i : Nat} : okHb R i = true ↔ okHold R i := by
  unfold okHb okHold
  split
  · exact decide_eq_true_iff
  · rw [Bool.and_eq_true, decide_eq_true_iff, decide_eq_true_iff]
theorem okKb_iff {R : List Room1} {i : Nat} : okKb R i = true ↔ okKind R i := by
  unfold okKb okKind
  rw [Bool.and_eq_true, Bool.or_eq_true, Bool.or_eq_true, Bool.or_eq_true, decide_eq_true_iff, decide_eq_true_iff, decide_eq_true_iff, decide_eq_true_iff, beq_iff_eq]
  refine and_congr (by rw [or_assoc, or_assoc]) ⟨fun h => ⟨fun a => ?_, fun a => ?_⟩, fun h => ?_⟩
  · rw [decide_eq_true a] at h
    exact List.isEmpty_iff.mp h.symm
  · rw [a] at h
    exact of_decide_eq_true h
  · by_cases a : kindAt R i = "plain"
    · rw [decide_eq_true a, h.mp a]; rfl
    · rw [decide_eq_false a]
      cases z : Rm.kids (hsOf R) i with
      | nil => exact absurd (h.mpr z) a
      | cons x l => rfl
theorem okRb_iff {R : List Room1} : okRb R = true ↔ okRooms R := by
  unfold okRb okRooms
  rw [Bool.and_eq_true, Bool.and_eq_true, decide_eq_true_iff, decide_eq_true_iff, List.all_eq_true]
  refine and_congr Iff.rfl ⟨fun h i hi => ?_, fun h i hi => ?_⟩
  · have z := h i (List.mem_range.mpr hi)
    rw [Bool.and_eq_true, okHb_iff, okKb_iff] at z
    exact z
  · rw [Bool.and_eq_true, okHb_iff, okKb_iff]
    exact h i (List.mem_range.mp hi)
theorem not_okR {R : List Room1} (h : okRb R = false) : ¬ okRooms R := fun z => by rw [okRb_iff.mpr z] at h; cases h
/-! the chain, by fuel -/
def chF : Nat → List Int → Nat → List Nat
  | 0, _, i => [i]
  | n + 1, hs, i => if 0 ≤ Rm.hold hs i ∧ Rm.hold hs i < (i : Int) then i :: chF n hs (Rm.hold hs i).toNat else [i]
theorem chF_eq (hs : List Int) : ∀ (n i : Nat), i ≤ n → Rm.chain hs i = chF n hs i
  | 0, i, h => by
    have : i = 0 := by omega
    subst this
    rw [Rm.chain, dif_neg (by omega)]; rfl
  | n + 1, i, h => by
    rw [Rm.chain]
    unfold chF
    by_cases z : 0 ≤ Rm.hold hs i ∧ Rm.hold hs i < (i : Int)
    · rw [dif_pos z, if_pos z, chF_eq hs n _ (by omega)]
    · rw [dif_neg z, if_neg z]
def scF (R : List Room1) (s t : Nat) : Option Nat := (chF 20 (hsOf R) s).tail.find? fun p => choosing R p && decide (p ∈ (chF 20 (hsOf R) t).tail)
theorem scF_eq {R : List Room1} {s t : Nat} (hs : s ≤ 20) (ht : t ≤ 20) : scopeOf R s t = scF R s t := by
  unfold scopeOf scF Rm.li
  rw [chF_eq _ 20 s hs, chF_eq _ 20 t ht]
def gdAb (R : List Room1) (a : Arrow) : Bool := decide (0 ≤ a.1) && decide (a.1 < (R.length : Int)) && decide (0 ≤ a.2.1) && decide (a.2.1 ≤ 3) && decide (-1 ≤ a.2.2.1) && decide (a.2.2.1 < (R.length : Int)) &&
  decide (0 ≤ a.2.2.2.1) && decide (a.2.2.2.1 < (R.length : Int)) && decide (0 ≤ a.2.2.2.2) && decide (a.2.2.2.2 ≤ 99) && (scF R a.1.toNat a.2.2.2.1.toNat).isSome
theorem gdAb_iff {R : List Room1} (hR : R.length ≤ 16) {a : Arrow} : gdAb R a = true ↔ GoodA R a := by
  unfold gdAb
  simp only [Bool.and_eq_true, decide_eq_true_iff]
  constructor
  · rintro ⟨⟨⟨⟨⟨⟨⟨⟨⟨⟨a1, a2⟩, a3⟩, a4⟩, a5⟩, a6⟩, a7⟩, a8⟩, a9⟩, a10⟩, a11⟩
    refine ⟨⟨a.1.toNat, by omega, by omega⟩, ⟨a3, a4⟩, ⟨a5, a6⟩, ⟨a.2.2.2.1.toNat, by omega, by omega⟩, ⟨a9, a10⟩, ?_⟩
    rw [scF_eq (by omega) (by omega)]
    exact Option.isSome_iff_exists.mp a11
  · rintro ⟨⟨s, b1, b2⟩, ⟨a3, a4⟩, ⟨a5, a6⟩, ⟨t, b3, b4⟩, ⟨a9, a10⟩, ⟨p, b5⟩⟩
    rw [scF_eq (by omega) (by omega)] at b5
    refine ⟨⟨⟨⟨⟨⟨⟨⟨⟨⟨by omega, by omega⟩, a3⟩, a4⟩, a5⟩, a6⟩, by omega⟩, by omega⟩, a9⟩, a10⟩, ?_⟩
    rw [b5]; rfl
theorem not_gdA {R : List Room1} (hR : R.length ≤ 16) {a : Arrow} (h : gdAb R a = false) : ¬ GoodA R a := fun z => by rw [(gdAb_iff hR).mpr z] at h; cases h
theorem ar0_good {R : List Room1} (hl : 5 ≤ R.length) (hR : R.length ≤ 16) (hs : (scF R 2 4).isSome = true) (c : Int) : GoodA R (ar0 c) := by
  refine ⟨⟨2, rfl, by omega⟩, ⟨?_, ?_⟩, ⟨?_, ?_⟩, ⟨4, rfl, by omega⟩, ⟨?_, ?_⟩, ?_⟩
  · show 0 ≤ c % 4; omega
  · show c % 4 ≤ 3; omega
  · show -1 ≤ c / 4 % 6 - 1; omega
  · show c / 4 % 6 - 1 < _; omega
  · show 0 ≤ c / 24 % 100; omega
  · show c / 24 % 100 ≤ 99; omega
  · show ∃ p, scopeOf R 2 4 = some p
    rw [scF_eq (by decide) (by decide)]
    exact Option.isSome_iff_exists.mp hs
theorem arN_pos (c : Int) : 0 < arN c ∧ arN c ≤ 20 := by unfold arN; omega
theorem arP_lt {c : Int} : arP c < (arL c).length := by
  unfold arL arP arN
  rw [List.length_replicate]
  have := Int.emod_nonneg (c / 20) (show (1 + c % 20) ≠ 0 by omega)
  have := Int.emod_lt_of_pos (c / 20) (show 0 < (1 + c % 20) by omega)
  omega
theorem okA_L {R : List Room1} {c : Int} (h : GoodA R (ar0 c)) : okArrows R (arL c) := by
  refine ⟨by unfold arL; rw [List.length_replicate]; exact (arN_pos c).2, fun a ha => ?_⟩
  rw [List.eq_of_mem_replicate ha]
  exact h
theorem not_set {R : List Room1} {L : List Arrow} {i : Nat} {a : Arrow} (hi : i < L.length) (h : ¬ GoodA R a) : ¬ okArrows R (L.set i a) := fun z => h (z.2 a (List.mem_iff_getElem?.mpr ⟨i, List.getElem?_set_self hi⟩))
theorem ok_set {R : List Room1} {L : List Arrow} {i : Nat} {a : Arrow} (h1 : okArrows R L) (h2 : GoodA R a) : okArrows R (L.set i a) := by
  refine ⟨by rw [List.length_set]; exact h1.1, fun x hx => ?_⟩
  rcases List.mem_or_eq_of_mem_set hx with z | z
  · exact h1.2 x z
  · rw [z]; exact h2
theorem b3_ok : okRooms base3 := okRb_iff.mp (by decide +kernel)
theorem a3_ok : okRooms alt3 := okRb_iff.mp (by decide +kernel)
theorem r9_ok : okRooms (base3 ++ List.replicate 11 ((0, "plain") : Room1)) := okRb_iff.mp (by decide +kernel)
theorem ar_b3 (c : Int) : GoodA base3 (ar0 c) := ar0_good (by decide) (by decide) (by decide +kernel) c
theorem toF {c : Int} {n : Nat} (hn : 0 < n) : ∃ k : Fin n, c % (n : Int) = ((k : Nat) : Int) ∧ (c % (n : Int)).toNat = k := by
  have h1 := Int.emod_nonneg c (show (n : Int) ≠ 0 by omega)
  have h2 := Int.emod_lt_of_pos c (show (0 : Int) < n by omega)
  exact ⟨⟨(c % (n : Int)).toNat, by omega⟩, by simp; omega, rfl⟩
theorem bad2 : ∀ k : Fin 3, okRb (base3 ++ List.replicate (12 + ((k : Nat) : Int)).toNat ((0, "plain") : Room1)) = false := by decide +kernel
theorem bad3 : ∀ k : Fin 6, okRb (base3.set 0 (((k : Nat) : Int), "one")) = false := by decide +kernel
theorem bad3b : ∀ k : Fin 5, okRb (base3.set 0 (-2 - ((k : Nat) : Int), "one")) = false := by decide +kernel
theorem bad4 : ∀ (k : Fin 4) (d : Fin 9), okRb (base3.set (1 + ((k : Nat) : Int)).toNat (1 + ((k : Nat) : Int) + ((d : Nat) : Int), (rmAt base3 (1 + ((k : Nat) : Int)).toNat).2)) = false := by decide +kernel
theorem bad5 : ∀ (k : Fin 4) (d : Fin 9), okRb (base3.set (1 + ((k : Nat) : Int)).toNat (-1 - ((d : Nat) : Int), (rmAt base3 (1 + ((k : Nat) : Int)).toNat).2)) = false := by decide +kernel
theorem bad6 : ∀ (k : Fin 5) (d : Fin 5), okRb (base3.set (((k : Nat) : Int)).toNat ((rmAt base3 (((k : Nat) : Int)).toNat).1, txt6 ((d : Nat) : Int))) = false := by decide +kernel
theorem bad7 : ∀ (k : Fin 2), okRb (base3.set (((k : Nat) : Int)).toNat ((rmAt base3 (((k : Nat) : Int)).toNat).1, "plain")) = false := by decide +kernel
theorem bad8 : ∀ (k : Fin 3) (d : Fin 3), okRb (base3.set (2 + ((k : Nat) : Int)).toNat ((rmAt base3 (2 + ((k : Nat) : Int)).toNat).1, txt8 ((d : Nat) : Int))) = false := by decide +kernel
theorem bad24 : ∀ (k : Fin 2), okRb (base3.set (3 + ((k : Nat) : Int)).toNat (2, "plain")) = false := by decide +kernel
def okWay (w : Nat) : Bool := w == 0 || w == 9 || w == 11 || w == 20 || w == 21 || w == 23
theorem spoil_ok {way : Nat} (hw : way < 25) (c : Int) : okAll (spoR way c) (spoA way c) ↔ okWay way = true := by
  have no : ∀ {p : Prop} {b : Bool}, ¬ p → b = false → (p ↔ b = true) := fun h1 h2 => ⟨fun z => absurd z h1, fun z => by rw [h2] at z; cases z⟩
  have yes : ∀ {p : Prop} {b : Bool}, p → b = true → (p ↔ b = true) := fun h1 h2 => ⟨fun _ => h2, fun _ => h1⟩
  have noR : ∀ {R : List Room1} {A : List Arrow}, okRb R = false → ¬ okAll R A := fun h z => not_okR h z.1
  have pk : ∀ x y, pick3 c x y = x ∨ pick3 c x y = y := fun x y => by unfold pick3; split <;> simp
  have f1 : 5 ≤ far3 c := by unfold far3; omega
  have f2 : low3 c ≤ -1 := by unfold low3; omega
  match way, hw with
  | 0, _ => exact yes ⟨b3_ok, okA_L (ar_b3 c)⟩ rfl
  | 1, _ => exact no (fun z => absurd z.1.1.1 (by show ¬ 1 ≤ ([] : List Room1).length; decide)) rfl
  | 2, _ =>
    refine no (noR ?_) rfl
    obtain ⟨k, e, _⟩ := toF (c := c) (n := 3) (by decide)
    show okRb (base3 ++ List.replicate (12 + c % 3).toNat ((0, "plain") : Room1)) = false
    have e' : c % 3 = ((k : Nat) : Int) := e
    rw [e']; exact bad2 k
  | 3, _ =>
    refine no (noR ?_) rfl
    show okRb (base3.set 0 (if c / 6 % 2 = 0 then c % 6 else -2 - c % 5, "one")) = false
    split
    · obtain ⟨k, e, _⟩ := toF (c := c) (n := 6) (by decide)
      have e' : c % 6 = ((k : Nat) : Int) := e
      rw [e']; exact bad3 k
    · obtain ⟨k, e, _⟩ := toF (c := c) (n := 5) (by decide)
      have e' : c % 5 = ((k : Nat) : Int) := e
      rw [e']; exact bad3b k
  | 4, _ =>
    refine no (noR ?_) rfl
    obtain ⟨k, e, _⟩ := toF (c := c) (n := 4) (by decide)
    obtain ⟨d, e2, _⟩ := toF (c := c / 4) (n := 9) (by decide)
    have e' : c % 4 = ((k : Nat) : Int) := e
    have e2' : c / 4 % 9 = ((d : Nat) : Int) := e2
    show okRb (base3.set (1 + c % 4).toNat (1 + c % 4 + c / 4 % 9, (rmAt base3 (1 + c % 4).toNat).2)) = false
    rw [e', e2']; exact bad4 k d
  | 5, _ =>
    refine no (noR ?_) rfl
    obtain ⟨k, e, _⟩ := toF (c := c) (n := 4) (by decide)
    obtain ⟨d, e2, _⟩ := toF (c := c / 4) (n := 9) (by decide)
    have e' : c % 4 = ((k : Nat) : Int) := e
    have e2' : c / 4 % 9 = ((d : Nat) : Int) := e2
    show okRb (base3.set (1 + c % 4).toNat (-1 - c / 4 % 9, (rmAt base3 (1 + c % 4).toNat).2)) = false
    rw [e', e2']; exact bad5 k d
  | 6, _ =>
    refine no (noR ?_) rfl
    obtain ⟨k, e, _⟩ := toF (c := c) (n := 5) (by decide)
    obtain ⟨d, e2, _⟩ := toF (c := c / 5) (n := 5) (by decide)
    have e' : c % 5 = ((k : Nat) : Int) := e
    have e2' : c / 5 % 5 = ((d : Nat) : Int) := e2
    show okRb (base3.set (c % 5).toNat ((rmAt base3 (c % 5).toNat).1, txt6 (c / 5 % 5))) = false
    rw [e', e2']; exact bad6 k d
  | 7, _ =>
    refine no (noR ?_) rfl
    obtain ⟨k, e, _⟩ := toF (c := c) (n := 2) (by decide)
    have e' : c % 2 = ((k : Nat) : Int) := e
    show okRb (base3.set (c % 2).toNat ((rmAt base3 (c % 2).toNat).1, "plain")) = false
    rw [e']; exact bad7 k
  | 8, _ =>
    refine no (noR ?_) rfl
    obtain ⟨k, e, _⟩ := toF (c := c) (n := 3) (by decide)
    obtain ⟨d, e2, _⟩ := toF (c := c / 3) (n := 3) (by decide)
    have e' : c % 3 = ((k : Nat) : Int) := e
    have e2' : c / 3 % 3 = ((d : Nat) : Int) := e2
    show okRb (base3.set (2 + c % 3).toNat ((rmAt base3 (2 + c % 3).toNat).1, txt8 (c / 3 % 3))) = false
    rw [e', e2']; exact bad8 k d
  | 9, _ => exact yes ⟨r9_ok, okA_L (ar0_good (R := base3 ++ List.replicate 11 ((0, "plain") : Room1)) (by decide) (by decide) (by decide +kernel) c)⟩ rfl
  | 10, _ =>
    refine no (fun z => ?_) rfl
    have hm : ar0 c ∈ arL c := List.mem_replicate.mpr ⟨by have := (arN_pos c).1; omega, rfl⟩
    obtain ⟨p, hp⟩ := (z.2.2 (ar0 c) hm).sc
    have hp' : scopeOf ((base3.set 1 (0, "all")).set 0 (-1, "all")) 2 4 = some p := hp
    rw [scF_eq (by decide) (by decide)] at hp'
    rw [show scF ((base3.set 1 (0, "all")).set 0 (-1, "all")) 2 4 = Option.none from by decide +kernel] at hp'
    cases hp'
  | 11, _ =>
    refine yes ⟨b3_ok, by show (List.replicate 20 (ar0 c)).length ≤ 20; simp, fun a ha => ?_⟩ rfl
    rw [List.eq_of_mem_replicate (show a ∈ List.replicate 20 (ar0 c) from ha)]
    exact ar_b3 c
  | 12, _ =>
    refine no (fun z => ?_) rfl
    have h1 : (List.replicate (21 + c % 5).toNat (ar0 c)).length ≤ 20 := z.2.1
    rw [List.length_replicate] at h1
    omega
  | 13, _ =>
    refine no (fun z => not_set arP_lt (fun g => ?_) z.2) rfl
    obtain ⟨s, b1, b2⟩ := g.src
    have b1' : pick3 c (far3 c) (low3 c) = (s : Int) := b1
    have b2' : s < 5 := b2
    rcases pk (far3 c) (low3 c) with y | y <;> (rw [y] at b1'; omega)
  | 14, _ =>
    refine no (fun z => not_set arP_lt (fun g => ?_) z.2) rfl
    obtain ⟨b1, b2⟩ := g.evt
    have b1' : 0 ≤ pick3 c (far3 c - 1) (low3 c) := b1
    have b2' : pick3 c (far3 c - 1) (low3 c) ≤ 3 := b2
    rcases pk (far3 c - 1) (low3 c) with y | y <;> (rw [y] at b1' b2'; omega)
  | 15, _ =>
    refine no (fun z => not_set arP_lt (fun g => ?_) z.2) rfl
    obtain ⟨b1, b2⟩ := g.grd
    have b1' : -1 ≤ pick3 c (far3 c) (low3 c - 1) := b1
    have b2' : pick3 c (far3 c) (low3 c - 1) < 5 := b2
    rcases pk (far3 c) (low3 c - 1) with y | y <;> (rw [y] at b1' b2'; omega)
  | 16, _ =>
    refine no (fun z => not_set arP_lt (fun g => ?_) z.2) rfl
    obtain ⟨s, b1, b2⟩ := g.tgt
    have b1' : pick3 c (far3 c) (low3 c) = (s : Int) := b1
    have b2' : s < 5 := b2
    rcases pk (far3 c) (low3 c) with y | y <;> (rw [y] at b1'; omega)
  | 17, _ =>
    refine no (fun z => not_set arP_lt (fun g => ?_) z.2) rfl
    obtain ⟨b1, b2⟩ := g.ded
    have b1' : 0 ≤ pick3 c (95 + far3 c) (low3 c) := b1
    have b2' : pick3 c (95 + far3 c) (low3 c) ≤ 99 := b2
    rcases pk (95 + far3 c) (low3 c) with y | y <;> (rw [y] at b1' b2'; omega)
  | 18, _ =>
    refine no (fun z => not_set arP_lt (fun g => ?_) z.2) rfl
    obtain ⟨p, hp⟩ := g.sc
    have hp' : scopeOf base3 0 4 = some p := hp
    rw [scF_eq (by decide) (by decide), show scF base3 0 4 = Option.none from by decide +kernel] at hp'
    cases hp'
  | 19, _ =>
    refine no (fun z => not_set arP_lt (fun g => ?_) z.2) rfl
    obtain ⟨p, hp⟩ := g.sc
    have hp' : scopeOf base3 2 0 = some p := hp
    rw [scF_eq (by decide) (by decide), show scF base3 2 0 = Option.none from by decide +kernel] at hp'
    cases hp'
  | 20, _ =>
    refine yes ⟨b3_ok, ?_⟩ rfl
    have h1 := okA_L (ar_b3 c)
    show okArrows base3 (if c % 4 = 0 then ((arL c).set (arP c) (c % 4, 3, 4, 4, 99)).set (arP c) (4, 0, 0, 4, 0) else (arL c).set (arP c) (c % 4, 3, 4, 4, 99))
    split
    · rw [List.set_set]
      exact ok_set h1 ((gdAb_iff (by decide)).mp (by decide +kernel))
    · rename_i z
      refine ok_set h1 ?_
      have z4 : c % 4 = 1 ∨ c % 4 = 2 ∨ c % 4 = 3 := by omega
      rcases z4 with y | y | y <;> (rw [y]; exact (gdAb_iff (by decide)).mp (by decide +kernel))
  | 21, _ => exact yes ⟨b3_ok, by show ([] : List Arrow).length ≤ 20; decide, fun a ha => absurd ha (by show ¬ a ∈ ([] : List Arrow); simp)⟩ rfl
  | 22, _ =>
    refine no (fun z => ?_) rfl
    have g := z.2.2 (3 + c % 2, 0, -1, 4 - c % 2, 1) (List.mem_append_right _ List.mem_cons_self)
    have z2 : c % 2 = 0 ∨ c % 2 = 1 := by omega
    rcases z2 with y | y
    · rw [y] at g
      exact not_gdA (R := alt3) (by decide) (by decide +kernel) g
    · rw [y] at g
      exact not_gdA (R := alt3) (by decide) (by decide +kernel) g
  | 23, _ =>
    refine yes ⟨a3_ok, by show two3.length ≤ 20; decide, fun a ha => ?_⟩ rfl
    have ha' : a ∈ two3 := ha
    rcases List.mem_cons.mp ha' with y | y
    · rw [y]; exact (gdAb_iff (R := alt3) (by decide)).mp (by decide +kernel)
    · have y' : a = (4, 1, 0, 4, 2) := by simpa using y
      rw [y']; exact (gdAb_iff (R := alt3) (by decide)).mp (by decide +kernel)
  | 24, _ =>
    refine no (noR ?_) rfl
    obtain ⟨k, e, _⟩ := toF (c := c) (n := 2) (by decide)
    have e' : c % 2 = ((k : Nat) : Int) := e
    show okRb (base3.set (3 + c % 2).toNat (2, "plain")) = false
    rw [e']; exact bad24 k
  | n + 25, h => exact absurd h (by omega)
/-! sizes, and the kinds' texts -/
def kinds3 : List Str := ["plain", "one", "all", "keep", "", "One", "any", "plain ", "keeps"]
theorem kinds3_short : ∀ x ∈ kinds3, (PySem.reprText x).length ≤ 3000 ∧ PyData.strOk x = true := by decide +kernel
theorem txt6_in (i : Int) : txt6 i ∈ kinds3 := by
  unfold txt6
  by_cases h : i.toNat < 5
  · generalize i.toNat = n at h
    match n, h with
    | 0, _ => decide +kernel
    | 1, _ => decide +kernel
    | 2, _ => decide +kernel
    | 3, _ => decide +kernel
    | 4, _ => decide +kernel
  · rw [List.getD_eq_getElem?_getD, List.getElem?_eq_none (Nat.le_of_not_lt h)]; decide +kernel
theorem txt8_in (i : Int) : txt8 i ∈ kinds3 := by
  unfold txt8
  by_cases h : i.toNat < 3
  · generalize i.toNat = n at h
    match n, h with
    | 0, _ => decide +kernel
    | 1, _ => decide +kernel
    | 2, _ => decide +kernel
  · rw [List.getD_eq_getElem?_getD, List.getElem?_eq_none (Nat.le_of_not_lt h)]; decide +kernel
theorem b3_kinds : ∀ r ∈ base3, r.2 ∈ kinds3 := by decide +kernel
theorem a3_kinds : ∀ r ∈ alt3, r.2 ∈ kinds3 := by decide +kernel
theorem rm_kinds (i : Nat) : (rmAt base3 i).2 ∈ kinds3 := by
  unfold rmAt
  rw [List.getD_eq_getElem?_getD]
  cases h : base3[i]? with
  | none => decide +kernel
  | some r => exact b3_kinds r (List.mem_of_getElem? h)
theorem set_kinds {R : List Room1} {i : Nat} {x : Room1} (h : ∀ r ∈ R, r.2 ∈ kinds3) (hx : x.2 ∈ kinds3) : ∀ r ∈ R.set i x, r.2 ∈ kinds3 := fun r hr => by
  rcases List.mem_or_eq_of_mem_set hr with z | z
  · exact h r z
  · rw [z]; exact hx
theorem cat_kinds {n : Nat} : ∀ r ∈ base3 ++ List.replicate n (((0 : Int), ("plain" : Str)) : Room1), r.2 ∈ kinds3 := fun r hr => by
  rcases List.mem_append.mp hr with z | z
  · exact b3_kinds r z
  · rw [List.eq_of_mem_replicate z]; decide +kernel
theorem spoR_kinds {way : Nat} (hw : way < 25) (c : Int) : (spoR way c).length ≤ 100 ∧ ∀ r ∈ spoR way c, r.2 ∈ kinds3 := by
  match way, hw with
  | 0, _ => exact ⟨by show base3.length ≤ 100; decide, b3_kinds⟩
  | 1, _ => exact ⟨by show ([] : List Room1).length ≤ 100; decide, fun r hr => absurd hr (by show ¬ r ∈ ([] : List Room1); simp)⟩
  | 2, _ => exact ⟨by show (base3 ++ List.replicate (12 + c % 3).toNat _).length ≤ 100; rw [List.length_append, List.length_replicate]; show 5 + _ ≤ 100; omega, cat_kinds⟩
  | 3, _ => exact ⟨by show (base3.set _ _).length ≤ 100; rw [List.length_set]; decide, set_kinds b3_kinds (show ("one" : Str) ∈ kinds3 by decide +kernel)⟩
  | 4, _ => exact ⟨by show (base3.set _ _).length ≤ 100; rw [List.length_set]; decide, set_kinds b3_kinds (rm_kinds _)⟩
  | 5, _ => exact ⟨by show (base3.set _ _).length ≤ 100; rw [List.length_set]; decide, set_kinds b3_kinds (rm_kinds _)⟩
  | 6, _ => exact ⟨by show (base3.set _ _).length ≤ 100; rw [List.length_set]; decide, set_kinds b3_kinds (txt6_in _)⟩
  | 7, _ => exact ⟨by show (base3.set _ _).length ≤ 100; rw [List.length_set]; decide, set_kinds b3_kinds (show ("plain" : Str) ∈ kinds3 by decide +kernel)⟩
  | 8, _ => exact ⟨by show (base3.set _ _).length ≤ 100; rw [List.length_set]; decide, set_kinds b3_kinds (txt8_in _)⟩
  | 9, _ => exact ⟨by show (base3 ++ List.replicate 11 _).length ≤ 100; rw [List.length_append, List.length_replicate]; decide, cat_kinds⟩
  | 10, _ => exact ⟨by show ((base3.set _ _).set _ _).length ≤ 100; rw [List.length_set, List.length_set]; decide, set_kinds (set_kinds b3_kinds (by decide +kernel)) (by decide +kernel)⟩
  | 11, _ => exact ⟨by show base3.length ≤ 100; decide, b3_kinds⟩
  | 12, _ => exact ⟨by show base3.length ≤ 100; decide, b3_kinds⟩
  | 13, _ => exact ⟨by show base3.length ≤ 100; decide, b3_kinds⟩
  | 14, _ => exact ⟨by show base3.length ≤ 100; decide, b3_kinds⟩
  | 15, _ => exact ⟨by show base3.length ≤ 100; decide, b3_kinds⟩
  | 16, _ => exact ⟨by show base3.length ≤ 100; decide, b3_kinds⟩
  | 17, _ => exact ⟨by show base3.length ≤ 100; decide, b3_kinds⟩
  | 18, _ => exact ⟨by show base3.length ≤ 100; decide, b3_kinds⟩
  | 19, _ => exact ⟨by show base3.length ≤ 100; decide, b3_kinds⟩
  | 20, _ => exact ⟨by show base3.length ≤ 100; decide, b3_kinds⟩
  | 21, _ => exact ⟨by show base3.length ≤ 100; decide, b3_kinds⟩
  | 22, _ => exact ⟨by show alt3.length ≤ 100; decide, a3_kinds⟩
  | 23, _ => exact ⟨by show alt3.length ≤ 100; decide, a3_kinds⟩
  | 24, _ => exact ⟨by show (base3.set _ _).length ≤ 100; rw [List.length_set]; decide, set_kinds b3_kinds (by decide +kernel)⟩
  | n + 25, h => exact absurd h (by omega)
theorem arL_len (c : Int) : (arL c).length ≤ 20 := by unfold arL; rw [List.length_replicate]; exact (arN_pos c).2
theorem spoA_len {way : Nat} (hw : way < 25) (c : Int) : (spoA way c).length ≤ 100 := by
  have h := arL_len c
  have hs : ∀ i x, ((arL c).set i x).length ≤ 100 := fun i x => by rw [List.length_set]; omega
  have hi : (if c / 97 % 2 = 1 then [] else arL c).length ≤ 100 := by
    split
    · decide
    · omega
  match way, hw with
  | 0, _ => show (arL c).length ≤ 100; omega
  | 1, _ => exact hi
  | 2, _ => exact hi
  | 3, _ => exact hi
  | 4, _ => exact hi
  | 5, _ => exact hi
  | 6, _ => exact hi
  | 7, _ => exact hi
  | 8, _ => exact hi
  | 9, _ => show (arL c).length ≤ 100; omega
  | 10, _ => show (arL c).length ≤ 100; omega
  | 11, _ => show (List.replicate 20 (ar0 c)).length ≤ 100; rw [List.length_replicate]; decide
  | 12, _ => show (List.replicate (21 + c % 5).toNat (ar0 c)).length ≤ 100; rw [List.length_replicate]; omega
  | 13, _ => exact hs _ _
  | 14, _ => exact hs _ _
  | 15, _ => exact hs _ _
  | 16, _ => exact hs _ _
  | 17, _ => exact hs _ _
  | 18, _ => exact hs _ _
  | 19, _ => exact hs _ _
  | 20, _ =>
    show (if c % 4 = 0 then ((arL c).set (arP c) (c % 4, 3, 4, 4, 99)).set (arP c) (4, 0, 0, 4, 0) else (arL c).set (arP c) (c % 4, 3, 4, 4, 99)).length ≤ 100
    split
    · rw [List.length_set]; exact hs _ _
    · exact hs _ _
  | 21, _ => show ([] : List Arrow).length ≤ 100; decide
  | 22, _ =>
    show (two3.take (c % 3).toNat ++ _ :: two3.drop (c % 3).toNat).length ≤ 100
    rw [List.length_append, List.length_cons, List.length_take, List.length_drop]
    show min _ 2 + (2 - _ + 1) ≤ 100
    omega
  | 23, _ => show two3.length ≤ 100; decide
  | 24, _ => exact hi
  | n + 25, h => exact absurd h (by omega)

/-! ### k03's law -/
def roomD (r : Room1) : PyData := .tuple [.int r.1, .str r.2]
def arrD (a : Arrow) : PyData := .tuple ([a.1, a.2.1, a.2.2.1, a.2.2.2.1, a.2.2.2.2].map PyData.int)
theorem items_rd {K : PySem.W.Frag} {H : Hp} {β : Type} {g : β → List V} {d : β → PyData} (hb : ∀ b p, H p = some (.tup (g b)) → RdV K H (.ref p) (d b)) : ∀ {ps : List Addr} {bs : List β}, Items H ps (bs.map g) → RdVs K H (ps.map V.ref) (bs.map d)
  | [], [], _ => .nil
  | [], _ :: _, h => by have := h.1; simp at this
  | _ :: _, [], h => by have := h.1; simp at this
  | p :: ps, b :: bs, h => .cons (hb b p (h.2 0 p (g b) rfl rfl)) (items_rd hb ⟨by have := h.1; simpa using this, fun i q o a1 a2 => h.2 (i + 1) q o (by simpa using a1) (by simpa using a2)⟩)
theorem rooms_rd {K : PySem.W.Frag} {H : Hp} {ps : List Addr} {R : List Room1} (h : Items H ps (R.map rV)) : RdVs K H (ps.map V.ref) (R.map roomD) :=
  items_rd (fun b p e => .tup (SqT.of e) (.cons (.int _) (.cons (.str _) .nil))) h
theorem arrs_rd {K : PySem.W.Frag} {H : Hp} {ps : List Addr} {A : List Arrow} (h : Items H ps (A.map aV)) : RdVs K H (ps.map V.ref) (A.map arrD) :=
  items_rd (fun b p e => .tup (SqT.of e) (.cons (.int _) (.cons (.int _) (.cons (.int _) (.cons (.int _) (.cons (.int _) .nil)))))) h
theorem shape_room {r : Room1} (h : PyData.strOk r.2 = true) : shape 1 (roomD r) := by
  refine ⟨?_, ?_, ?_⟩
  · simp only [roomD, PyData.canLay0, PyData.canLayAll0, h, Bool.and_true]
  · simp only [roomD, PyData.depth, PyData.depthAll]; omega
  · simp only [roomD, PyData.eqv, PyData.eqvAll, beq_self_eq_true, Bool.and_true]
theorem shape_R {R : List Room1} (h : ∀ r ∈ R, r.2 ∈ kinds3) : shape 2 (.list (R.map roomD)) := shape_list (shapes_map R fun r hr => shape_room (kinds3_short _ (h r hr)).2)
theorem shape_A (A : List Arrow) : shape 2 (.list (A.map arrD)) := shape_list (shapes_map A fun a _ => shape_tuple (shape_ints _))
theorem kindAt_in {R : List Room1} (h : ∀ r ∈ R, r.2 ∈ kinds3) : ∀ i, i < R.length → (PySem.reprText (kindAt R i)).length ≤ 3000 := fun i hi => by
  rw [kindAt_get hi]
  exact (kinds3_short _ (h _ (List.getElem_mem hi))).1
theorem in_ways {way : Nat} (hw : way < 25) : inV (.int (way : Int)) [.int 0, .int 9, .int 11, .int 20, .int 21, .int 23] = okWay way := by
  have : ∀ k : Fin 25, inV (.int ((k : Nat) : Int)) [.int 0, .int 9, .int 11, .int 20, .int 21, .int 23] = okWay k := by decide +kernel
  exact this ⟨way, hw⟩
def spCell (K : PySem.W.Frag) : Sp := fun vs H Q _ => ∃ (a : Addr) (ns : List Int) (k : Nat), vs = [.ref a, .int k] ∧ SqL K H a (ns.map V.int) ∧ Q (.int (Rm.cell ns k)) H
theorem ints_get {ns : List Int} {k : Nat} (h : k < ns.length) : atI (ns.map V.int) (k : Int) = some (.int ns[k]) := atI_nat (by rw [List.getElem?_map, List.getElem?_eq_getElem h]; rfl)
theorem scCell : FnScope ["script", "k"] ["script", "k"] (defScope sCell) := ⟨rfl, rfl, rfl, by decide +kernel, rfl, by decide +kernel, by decide +kernel⟩
theorem ok_cell {f C : Addr} {fd : FuncData} (D : DefAt K mg "_law_cell_at" sCell ["script", "k"] f fd) (T : Txt K mg C) : FnOk P w K mg base CX0 1 f fd ["script", "k"] (spCell K) := by
  refine D.fn.ok scCell (fun vs H Q E h => ?_) (fun cdv A outer s H vs Q E hr h => ?_)
  · obtain ⟨a, ns, k, rfl, _⟩ := h
    rfl
  obtain ⟨a, ns, k, rfl, hS, q⟩ := h
  refine ⟨_, pss_cons (ps_if (pt_cmpR op_lt (pv 1) (pe_callB call_len_seq (by rfl) T.len PySem.boot_len (pa_cons (pv 0) pa_nil)) (nomark _)) (pss_one (ps_ret (pe_ix ix_list (pv 0) (pv 1) (fun _ _ => rfl)))) pss_nil)
    (pss_one (ps_ret pe_int)), ?_⟩
  refine ⟨_, rfl, _, rfl, a, _, rfl, .inl hS, _, _, rfl, rfl, _, rfl, ?_⟩
  rw [List.length_map]
  refine ite2 (fun z => ?_) (fun z => ?_)
  · have z' : k < ns.length := by
      have : (k : Int) < (ns.length : Int) := by simpa using z
      omega
    refine ⟨_, rfl, _, rfl, a, _, _, _, rfl, rfl, hS, ints_get z', ?_⟩
    have e : Rm.cell ns k = ns[k] := by
      unfold Rm.cell
      rw [List.getD_eq_getElem?_getD, List.getElem?_eq_getElem z']; rfl
    rw [e] at q
    exact q
  · have z' : ¬ k < ns.length := fun y => z (by simpa using y)
    have e : Rm.cell ns k = 0 := by
      unfold Rm.cell
      rw [List.getD_eq_getElem?_getD, List.getElem?_eq_none (by omega)]; rfl
    rw [e] at q
    exact q
def spLaw (K : PySem.W.Frag) : Sp := fun vs H Q _ => ∃ (a : Addr) (ns : List Int), vs = [.ref a] ∧ SqL K H a (ns.map V.int) ∧ ns.length ≤ 63 ∧ ∀ H', Q (.bl true) H'
theorem scLaw : FnScope ["script", "way", "cell", "rooms", "arrows", "handed", "refused", "chart"] ["script"] (defScope sLaw) := ⟨rfl, rfl, rfl, by decide +kernel, rfl, by decide +kernel, by decide +kernel⟩
theorem ok_law {f C fi fcell fsr fsa ft : Addr} {fd fdi fdcell fdsr fdsa fdt : FuncData} (D : DefAt K mg "law" sLaw ["script"] f fd) (T : Txt K mg C) (M : Mk K C fi) (bi : Binds K fdi ["self", "rooms", "arrows"] [])
    (Gi : FnOk P w K mg base CX0 6 fi fdi ["self", "rooms", "arrows"] (spInit C)) (Dc : DefAt K mg "_law_cell_at" sCell ["script", "k"] fcell fdcell) (Dr : DefAt K mg "_law_spoiled_rooms" sSpR ["way", "cell"] fsr fdsr) (Da : DefAt K mg "_law_spoiled_arrows" sSpA ["way", "cell"] fsa fdsa)
    (Dt : DefAt K mg "_law_taken_by" sTaken ["rooms", "arrows"] ft fdt) (Gt : FnOk P w K mg base CX0 9 ft fdt ["rooms", "arrows"] spAsk) : FnOk P w K mg base CX0 10 f fd ["script"] (spLaw K) := by
  have Gc : FnOk P w K mg base CX0 1 fcell fdcell ["script", "k"] (spCell K) := ok_cell Dc T
  have Gr : FnOk P w K mg base CX0 1 fsr fdsr ["way", "cell"] spSpR := ok_spR Dr T
  have Ga : FnOk P w K mg base CX0 1 fsa fdsa ["way", "cell"] spSpA := ok_spA Da T
  refine D.fn.ok scLaw (fun vs H Q E h => ?_) (fun cdv A outer s H vs Q E hr h => ?_)
  · obtain ⟨a, ns, rfl, _⟩ := h
    rfl
  obtain ⟨a, ns, rfl, hS, hn, q⟩ := h
  have hr1 : Room 1 _ := hr.mono (by decide)
  refine ⟨_, pss_cons (ps_set (i := 1) scLaw.nd rfl (Or.inl rfl) (pe_op op_mod (pe_call Gc hr1 rfl Dc.mg Dc.fn.kp Dc.bd .nil pass0 (pa_cons (pv 0) (pa_cons pe_int pa_nil))) pe_int))
    (pss_cons (ps_set (i := 2) scLaw.nd rfl (Or.inl rfl) (pe_op op_mod (pe_call Gc hr1 rfl Dc.mg Dc.fn.kp Dc.bd .nil pass0 (pa_cons (pv 0) (pa_cons pe_int pa_nil))) (pe_op op_pow pe_int pe_int)))
    (pss_cons (ps_set (i := 3) scLaw.nd rfl (Or.inl rfl) (pe_call Gr hr1 rfl Dr.mg Dr.fn.kp Dr.bd .nil pass0 (pa_cons (pv 1) (pa_cons (pv 2) pa_nil))))
    (pss_cons (ps_set (i := 4) scLaw.nd rfl (Or.inl rfl) (pe_call Ga hr1 rfl Da.mg Da.fn.kp Da.bd .nil pass0 (pa_cons (pv 1) (pa_cons (pv 2) pa_nil))))
    (pss_cons (ps_set (i := 5) scLaw.nd rfl (Or.inl rfl) (pe_lst (pa_cons (pe_callTy call_list_of (by rfl) T.list (by decide +kernel) (pa_cons (pv 3) pa_nil)) (pa_cons (pe_callTy call_list_of (by rfl) T.list (by decide +kernel) (pa_cons (pv 4) pa_nil)) pa_nil))))
    (pss_cons (ps_set (i := 6) scLaw.nd rfl (Or.inl rfl) (pe_call Gt hr rfl Dt.mg Dt.fn.kp Dt.bd .nil pass0 (pa_cons (pe_ix ix_list (pv 5) pe_int (fun _ _ => rfl)) (pa_cons (pe_ix ix_list (pv 5) pe_int (fun _ _ => rfl)) pa_nil))))
    (pss_cons (ps_if (PW.pt (pw_or (pt_cmpR (op_neD hr.units) (pe_ix ix_list (pv 5) pe_int (fun _ _ => rfl)) (pv 3) (nomark _)) (pw_or1 (pt_cmpR (op_neD hr.units) (pe_ix ix_list (pv 5) pe_int (fun _ _ => rfl)) (pv 4) (nomark _))))) pss_never pss_nil)
    (pss_cons (ps_if (pt_cmpR op_notIn_seq (pv 1) (pe_tup (pa_cons pe_int (pa_cons pe_int (pa_cons pe_int (pa_cons pe_int (pa_cons pe_int (pa_cons pe_int pa_nil))))))) (by with_unfolding_all rfl)) (pss_one (ps_ret (pe_cmpR op_eq (pv 6) pe_int (nomark _)))) pss_nil)
    (pss_cons (ps_if (pt_cmpR op_ne (pv 6) pe_int (nomark _)) pss_never pss_nil)
    (pss_cons (ps_set (i := 7) scLaw.nd rfl (Or.inl rfl) (pe_make M Gi (hr.mono (by decide)) rfl T.mgC bi .nil pass0 (pa_cons (pe_ix ix_list (pv 5) pe_int (fun _ _ => rfl)) (pa_cons (pe_ix ix_list (pv 5) pe_int (fun _ _ => rfl)) pa_nil))))
    (pss_cons (ps_expr (pe_bm0 PySem.F.plainAttrs_list PySem.F.slot_list_clear PySem.F.type_list_clear mt_clear (pe_ix ix_list (pv 5) pe_int (fun _ _ => rfl))))
    (pss_cons (ps_expr (pe_bm PySem.F.plainAttrs_list PySem.F.slot_list_append PySem.F.type_list_append mt_append (pe_ix ix_list (pv 5) pe_int (fun _ _ => rfl)) (pa_cons (pe_tup (pa_cons pe_int (pa_cons pe_int (pa_cons (pe_un un_neg pe_int) (pa_cons pe_int (pa_cons pe_int pa_nil)))))) pa_nil)))
    (pss_one (ps_ret (pe_and (pe_cmpR (op_eqD hr.units) (pe_fld (pv 7) rfl) (pv 3) (nomark _)) (pe_one (pe_cmpR (op_eqD hr.units) (pe_fld (pv 7) rfl) (pv 4) (nomark _))))))))))))))))), ?_⟩
  -- way, cell
  refine ⟨_, rfl, a, ns, 0, rfl, hS, _, _, rfl, rfl, (by show (0 : Int) < _; decide), ?_⟩
  refine ⟨_, rfl, a, ns, 1, rfl, hS, _, _, rfl, rfl, ⟨by decide, by decide, by decide⟩, _, _, rfl, rfl, (by show (0 : Int) < _; decide), ?_⟩
  have w1 := Int.emod_nonneg (Rm.cell ns 0) (show (25 : Int) ≠ 0 by decide)
  have w2 := Int.emod_lt_of_pos (Rm.cell ns 0) (show (0 : Int) < 25 by decide)
  have c1 : (0 : Int) ≤ Rm.cell ns 1 % (10 : Int) ^ (9 : Int).toNat := Int.emod_nonneg _ (by decide)
  obtain ⟨way, ew, hw⟩ : ∃ way : Nat, Rm.cell ns 0 % 25 = (way : Int) ∧ way < 25 := ⟨(Rm.cell ns 0 % 25).toNat, by omega, by omega⟩
  obtain ⟨c, ec⟩ : ∃ c : Int, Rm.cell ns 1 % (10 : Int) ^ (9 : Int).toNat = c := ⟨_, rfl⟩
  rw [ec] at c1
  have eargs : [V.int (Rm.cell ns 0 % 25), V.int (Rm.cell ns 1 % (10 : Int) ^ (9 : Int).toNat)] = [V.int (way : Int), V.int c] := by rw [ew, ec]
  have iw : inV (V.int (Rm.cell ns 0 % 25)) [.int 0, .int 9, .int 11, .int 20, .int 21, .int 23] = okWay way := by rw [ew]; exact in_ways hw
  -- rooms, arrows
  refine ⟨_, rfl, _, rfl, way, c, eargs, hw, c1, fun r ps H1 O1 => ?_⟩
  refine ⟨_, rfl, _, rfl, way, c, eargs, hw, c1, fun b qs H2 O2 => ?_⟩
  obtain ⟨lR, kR⟩ := spoR_kinds hw c
  have lA := spoA_len hw c
  have hok := spoil_ok hw c
  generalize spoR way c = R at O1 lR kR hok
  generalize spoA way c = As at O2 lA hok
  have s12 := O2.same
  have r2 := s12 _ _ O1.at_
  have I2 := O1.its.same s12
  -- handed
  refine ⟨_, rfl, r, _, rfl, .inl (SqL.of r2), fun h0 hh0 => ?_⟩
  have u1 := same_new hh0 (.lst (ps.map V.ref))
  refine ⟨_, rfl, b, _, rfl, .inl (SqL.of (u1 _ _ O2.at_)), fun h1 hh1 => ?_⟩
  have u2 := same_new hh1 (.lst (qs.map V.ref))
  refine ⟨(by show 2 ≤ sizeLine; decide), fun hd hhd => ?_⟩
  have u3 := same_new hhd (.lst [.ref h0, .ref h1])
  have e0 : (upd (upd (upd H2 h0 (.lst (ps.map V.ref))) h1 (.lst (qs.map V.ref))) hd (.lst [.ref h0, .ref h1])) h0 = some (.lst (ps.map V.ref)) := u3 _ _ (u2 _ _ upd_same)
  have e1 : (upd (upd (upd H2 h0 (.lst (ps.map V.ref))) h1 (.lst (qs.map V.ref))) hd (.lst [.ref h0, .ref h1])) h1 = some (.lst (qs.map V.ref)) := u3 _ _ upd_same
  have ed : (upd (upd (upd H2 h0 (.lst (ps.map V.ref))) h1 (.lst (qs.map V.ref))) hd (.lst [.ref h0, .ref h1])) hd = some (.lst [.ref h0, .ref h1]) := upd_same
  have s23 := u1.trans (u2.trans u3)
  have n01 : h0 ≠ h1 := ne_of_none upd_same hh1
  have nd0 : hd ≠ h0 := (ne_of_none (u2 _ _ upd_same) hhd).symm
  generalize upd (upd (upd H2 h0 (.lst (ps.map V.ref))) h1 (.lst (qs.map V.ref))) hd (.lst [.ref h0, .ref h1]) = H3 at e0 e1 ed s23 ⊢
  have fr0 : H2 h0 = Option.none := hh0
  have fr1 : H2 h1 = Option.none := u1.free hh1
  -- refused
  refine ⟨_, rfl, hd, _, _, _, rfl, rfl, SqL.of ed, rfl, _, rfl, hd, _, _, _, rfl, rfl, SqL.of ed, rfl, h0, h1, ps, qs, R, As, rfl, e0, I2.same s23, e1, O2.its.same s23, lR, lA, kindAt_in kR, fun H4 s34 => ?_⟩
  have s24 := s23.trans s34
  -- handed stays
  have shR := shape_R kR
  have shA := shape_A As
  refine ⟨_, rfl, hd, _, _, _, rfl, rfl, SqL.of (s34 _ _ ed), rfl, _, rfl, _, _, .lst (SqL.of (s34 _ _ e0)) (rooms_rd (I2.same s24)), .lst (SqL.of (s24 _ _ r2)) (rooms_rd (I2.same s24)), shaped_of shR (by decide), shaped_of shR (by decide), _, rfl, ?_⟩
  rw [if_pos rfl, shR.2.2]
  refine iteF ?_
  refine ⟨_, rfl, hd, _, _, _, rfl, rfl, SqL.of (s34 _ _ ed), rfl, _, rfl, _, _, .lst (SqL.of (s34 _ _ e1)) (arrs_rd (O2.its.same s24)), .lst (SqL.of (s24 _ _ O2.at_)) (arrs_rd (O2.its.same s24)), shaped_of shA (by decide), shaped_of shA (by decide), _, rfl, ?_⟩
  rw [if_pos rfl, shA.2.2]
  refine iteF ?_
  -- way not in ..
  refine ⟨_, rfl, (by show 6 ≤ sizeLine; decide), fun tw htw => ?_⟩
  refine ⟨tw, _, rfl, .inr (SqT.of upd_same), rfl, rfl, _, rfl, ?_⟩
  rw [if_pos rfl, iw]
  have s45 := same_new htw (.tup [.int 0, .int 9, .int 11, .int 20, .int 21, .int 23])
  generalize upd H4 tw (.tup [.int 0, .int 9, .int 11, .int 20, .int 21, .int 23]) = H5 at s45 ⊢
  have s25 := s24.trans s45
  have s35 := s34.trans s45
  cases hb : okWay way with
  | false =>
    refine iteT ?_
    have hno : ¬ okAll R As := fun z => by rw [hok.mp z] at hb; cases hb
    have ea : askN R As = 3 := if_neg hno
    rw [ea]
    exact ⟨_, rfl, rfl, q H5⟩
  | true =>
    refine iteF ?_
    have hyes : okAll R As := hok.mpr hb
    have ea : askN R As = 0 := if_pos hyes
    rw [ea]
    refine ⟨_, rfl, rfl, _, rfl, ?_⟩
    refine iteF ?_
    -- chart
    refine ⟨_, rfl, hd, _, _, _, rfl, rfl, SqL.of (s35 _ _ ed), rfl, _, rfl, hd, _, _, _, rfl, rfl, SqL.of (s35 _ _ ed), rfl, fun ch dx hch hdx hne => ?_⟩
    have kc : ∀ x o, H5 x = some o → (upd (upd H5 dx (.own ch)) ch (.ins C dx [])) x = some o := fun x o e => by
      rw [upd_ne (ne_of_none e hch), upd_ne (ne_of_none e hdx)]; exact e
    refine ⟨ch, dx, h0, h1, ps, qs, R, As, rfl, upd_same, kc _ _ (s35 _ _ e0), (I2.same s25).same kc, kc _ _ (s35 _ _ e1), (O2.its.same s25).same kc, good_of hyes.1, hyes.2.1, hyes.2.2, fun H6 k6 hCh => ⟨rfl, ?_⟩⟩
    have s56 : Same H5 H6 := fun x o e => k6 x o (kc x o e) (ne_of_none e hch)
    have s36 := s35.trans s56
    have s26 := s25.trans s56
    -- handed[0].clear()
    refine ⟨_, rfl, hd, _, _, _, rfl, rfl, SqL.of (s36 _ _ ed), rfl, .inl ⟨rfl, _, SqL.of (s36 _ _ e0)⟩, h0, _, rfl, rfl, s36 _ _ e0, ?_⟩
    have k7 : ∀ x o, H6 x = some o → x ≠ h0 → (upd H6 h0 (.lst [])) x = some o := fun x o e n => by rw [upd_ne n]; exact e
    have d7 := k7 _ _ (s36 _ _ ed) nd0
    have e17 := k7 _ _ (s36 _ _ e1) n01.symm
    generalize upd H6 h0 (.lst []) = H7 at k7 d7 e17 ⊢
    -- handed[1].append(..)
    refine ⟨_, rfl, hd, _, _, _, rfl, rfl, SqL.of d7, rfl, .inl ⟨rfl, _, SqL.of e17⟩, _, rfl, (by show 5 ≤ sizeLine; decide), fun t ht => ?_⟩
    have n1t : h1 ≠ t := ne_of_none e17 ht
    refine ⟨h1, _, _, rfl, rfl, (by rw [upd_ne n1t]; exact e17), ?_, ?_⟩
    · have z := O2.its.1
      rw [List.length_map] at z
      rw [List.length_map, z]; exact small1000 (by omega)
    have k8 : ∀ x o, H6 x = some o → x ≠ h0 → x ≠ h1 → (upd (upd H7 t (.tup [.int 2, .int 0, .int (-1), .int 4, .int 0])) h1 (.lst (qs.map V.ref ++ [.ref t]))) x = some o := fun x o e n1 n2 => by
      rw [upd_ne n2, upd_ne (ne_of_none (k7 x o e n1) ht)]; exact k7 x o e n1
    have hC8 := hCh _ k8
    generalize upd (upd H7 t (.tup [.int 2, .int 0, .int (-1), .int 4, .int 0])) h1 (.lst (qs.map V.ref ++ [.ref t])) = H8 at k8 hC8 ⊢
    obtain ⟨dx', l, m, ps', qs', g1, g2, g3, g4, g5⟩ := hC8.ob
    have k28 : ∀ x o, H2 x = some o → H8 x = some o := fun x o e => k8 _ _ (s26 _ _ e) (ne_of_none e fr0) (ne_of_none e fr1)
    refine ⟨_, rfl, ch, C, dx', _, _, rfl, g1, T.cl, T.nR, flds_rooms l m, _, rfl, _, _, .lst (SqL.of g2) (rooms_rd g3), .lst (SqL.of (k28 _ _ r2)) (rooms_rd (I2.same k28)), shaped_of shR (by decide), shaped_of shR (by decide), _, rfl, ?_⟩
    rw [show (if (false : Bool) = true then !PyData.eqv (.list (R.map roomD)) (.list (R.map roomD)) else PyData.eqv (.list (R.map roomD)) (.list (R.map roomD))) = true from shR.2.2]
    refine iteT ?_
    refine ⟨_, rfl, ch, C, dx', _, _, rfl, g1, T.cl, T.nA, flds_arrows l m, _, rfl, _, _, .lst (SqL.of g4) (arrs_rd g5), .lst (SqL.of (k28 _ _ O2.at_)) (arrs_rd (O2.its.same k28)), shaped_of shA (by decide), shaped_of shA (by decide), ?_⟩
    rw [show (if (false : Bool) = true then !PyData.eqv (.list (As.map arrD)) (.list (As.map arrD)) else PyData.eqv (.list (As.map arrD)) (.list (As.map arrD))) = true from shA.2.2]
    exact q H8
end

theorem kitCls_ref {K : PySem.W.Frag} {C : Addr} {d : ClassData} {t : Value} {r : Bool} (a : PySem.W.clsIn K C = some d) (b : PySem.W.typeIn K (.ref C) = some (.type "type")) (c : PySem.W.subIn K t (.ref C) = some r) : PySem.W.kitCls K t (.ref C) = some r := by
  show (if ((PySem.W.clsIn K C).isSome && PySem.W.typeIn K (.ref C) == some (.type "type")) = true then PySem.W.subIn K t (.ref C) else none) = some r
  rw [a, b, if_pos (by rw [beq_self_eq_true]; rfl)]
  exact c
theorem kitCls_type {K : PySem.W.Frag} {T : String} {t : Value} {r : Bool} (m : PySem.W.kitMeta T = true) (c : PySem.W.subIn K t (.type T) = some r) : PySem.W.kitCls K t (.type T) = some r := by
  show (if PySem.W.kitMeta T = true then PySem.W.subIn K t (.type T) else none) = some r
  rw [if_pos m]
  exact c
theorem all_mk {l : PySem.W.OpenLaw} {w : World} {K : PySem.W.Frag} {h : Heap} {mg : Str → Option Value} {fa C CB CE CC CT : Addr} (X : K.In h) (G : h.Ns mainGlobals mg) (hfa : mg "law" = some (.ref fa))
    {cd_BadChart : ClassData}
    {cd_ChartError : ClassData}
    {cd_Clash : ClassData}
    {cd_TooMany : ClassData}
    {f1 : Addr} {od1 an1 : Option Addr} {sl1 : Array (Option Value)} {oc1 kV1 dc1 pm1 cd1 ct1 : Value}
    {f2 : Addr} {od2 an2 : Option Addr} {sl2 : Array (Option Value)} {oc2 kV2 dc2 pm2 cd2 ct2 : Value}
    {f3 : Addr} {od3 an3 : Option Addr} {sl3 : Array (Option Value)} {oc3 kV3 dc3 pm3 cd3 ct3 : Value}
    {f4 : Addr} {od4 an4 : Option Addr} {sl4 : Array (Option Value)} {oc4 kV4 dc4 pm4 cd4 ct4 : Value}
    {f5 : Addr} {od5 an5 : Option Addr} {sl5 : Array (Option Value)} {oc5 kV5 dc5 pm5 cd5 ct5 : Value}
    {f6 : Addr} {od6 an6 : Option Addr} {sl6 : Array (Option Value)} {oc6 kV6 dc6 pm6 cd6 ct6 : Value}
    {f7 : Addr} {od7 an7 : Option Addr} {sl7 : Array (Option Value)} {oc7 kV7 dc7 pm7 cd7 ct7 : Value}
    {f8 : Addr} {od8 an8 : Option Addr} {sl8 : Array (Option Value)} {oc8 kV8 dc8 pm8 cd8 ct8 : Value}
    {f9 : Addr} {od9 an9 : Option Addr} {sl9 : Array (Option Value)} {oc9 kV9 dc9 pm9 cd9 ct9 : Value}
    {f10 : Addr} {od10 an10 : Option Addr} {sl10 : Array (Option Value)} {oc10 kV10 dc10 pm10 cd10 ct10 : Value}
    {f11 : Addr} {od11 an11 : Option Addr} {sl11 : Array (Option Value)} {oc11 kV11 dc11 pm11 cd11 ct11 : Value}
    {f12 : Addr} {od12 an12 : Option Addr} {sl12 : Array (Option Value)} {oc12 kV12 dc12 pm12 cd12 ct12 : Value}
    {f13 : Addr} {od13 an13 : Option Addr} {sl13 : Array (Option Value)} {oc13 kV13 dc13 pm13 cd13 ct13 : Value}
    {f14 : Addr} {od14 an14 : Option Addr} {sl14 : Array (Option Value)} {oc14 kV14 dc14 pm14 cd14 ct14 : Value}
    {f15 : Addr} {od15 an15 : Option Addr} {sl15 : Array (Option Value)} {oc15 kV15 dc15 pm15 cd15 ct15 : Value}
    {f16 : Addr} {od16 an16 : Option Addr} {sl16 : Array (Option Value)} {oc16 kV16 dc16 pm16 cd16 ct16 : Value}
    {f17 : Addr} {od17 an17 : Option Addr} {sl17 : Array (Option Value)} {oc17 kV17 dc17 pm17 cd17 ct17 : Value}
    {t_HOLDER : Tok}
    {t_KIND : Tok}
    {t_NONE : Tok}
    {t_SOURCE : Tok}
    {t_EVENT : Tok}
    {t_GUARD : Tok}
    {t_TARGET : Tok}
    {t_DEED : Tok}
    {t_LAST_EVENT : Tok}
    {t_LAST_DEED : Tok}
    {t_MOST_ROOMS : Tok}
    {t_MOST_ARROWS : Tok}
    {a_CHOOSING : Addr} {d_CHOOSING : Option Addr} {n_CHOOSING : Nat} {s_CHOOSING : Array (Option Value)} {t_CHOOSING_0 : Tok} {t_CHOOSING_1 : Tok}
    {a_KINDS : Addr} {d_KINDS : Option Addr} {n_KINDS : Nat} {s_KINDS : Array (Option Value)} {t_KINDS_0 : Tok} {t_KINDS_1 : Tok} {t_KINDS_2 : Tok} {t_KINDS_3 : Tok}
    (aC : PySem.W.nsIn K mainGlobals "Chart" = some (some (.ref C))) (pg : PySem.W.plainGet K C Str.empty = true) (hd : PySem.W.hasDictIn K C = true) (po : PySem.W.plainOver K C = true) (sa : PySem.W.findIn K (.ref C) "__setattr__" = some (some (.builtin "object.__setattr__"))) (mk : PySem.W.makesIn K C = true) (kc : PySem.W.keepIn K (.ref C) = true)
    (nR : PySem.W.findIn K (.ref C) "rooms" = some none)
    (nA : PySem.W.findIn K (.ref C) "arrows" = some none)
    (aE_BadChart : PySem.W.nsIn K mainGlobals "BadChart" = some (some (.ref CB))) (cc_BadChart : PySem.W.clsIn K CB = some cd_BadChart) (ct_BadChart : PySem.W.typeIn K (.ref CB) = some (.type "type"))
    (aE_ChartError : PySem.W.nsIn K mainGlobals "ChartError" = some (some (.ref CE))) (cc_ChartError : PySem.W.clsIn K CE = some cd_ChartError) (ct_ChartError : PySem.W.typeIn K (.ref CE) = some (.type "type"))
    (aE_Clash : PySem.W.nsIn K mainGlobals "Clash" = some (some (.ref CC))) (cc_Clash : PySem.W.clsIn K CC = some cd_Clash) (ct_Clash : PySem.W.typeIn K (.ref CC) = some (.type "type"))
    (aE_TooMany : PySem.W.nsIn K mainGlobals "TooMany" = some (some (.ref CT))) (cc_TooMany : PySem.W.clsIn K CT = some cd_TooMany) (ct_TooMany : PySem.W.typeIn K (.ref CT) = some (.type "type"))
    (cs_BadChart_ChartError : PySem.W.subIn K (.ref CB) (.ref CE) = some true)
    (cs_BadChart_Clash : PySem.W.subIn K (.ref CB) (.ref CC) = some false)
    (cs_BadChart_TooMany : PySem.W.subIn K (.ref CB) (.ref CT) = some false)
    (cs_BadChart_BadChart : PySem.W.subIn K (.ref CB) (.ref CB) = some true)
    (st_BadChart_BaseException : PySem.W.subIn K (.ref CB) (.type "BaseException") = some true)
    (st_ChartError_BaseException : PySem.W.subIn K (.ref CE) (.type "BaseException") = some true)
    (st_Clash_BaseException : PySem.W.subIn K (.ref CC) (.type "BaseException") = some true)
    (st_TooMany_BaseException : PySem.W.subIn K (.ref CT) (.type "BaseException") = some true)
    (st_BadChart_ValueError : PySem.W.subIn K (.ref CB) (.type "ValueError") = some true)
    (ex_BadChart : PySem.W.excIn K CB bmV "ValueError.__new__" = true)
    (a1 : PySem.W.findIn K (.ref C) "__init__" = some (some (.ref f1))) (i1 : PySem.W.isFn K (.ref f1) = true)
    (l1 : K.lookup f1 = some ⟨oc1, od1, .func (PySem.W.fnOf "__init__" "Chart.__init__" (defArgs sInit) (defBody sInit) (defScope sInit) .none kV1 dc1 pm1 an1 cd1 ct1), sl1⟩) (c1 : PySem.W.codeIn K cd1 "Chart.__init__" = true) (k1 : PySem.W.keepIn K (.ref f1) = true)
    (a2 : PySem.W.nsIn K mainGlobals "check_rooms" = some (some (.ref f2)))
    (l2 : K.lookup f2 = some ⟨oc2, od2, .func (PySem.W.fnOf "check_rooms" "check_rooms" (defArgs sCheckRooms) (defBody sCheckRooms) (defScope sCheckRooms) .none kV2 dc2 pm2 an2 cd2 ct2), sl2⟩) (c2 : PySem.W.codeIn K cd2 "check_rooms" = true) (k2 : PySem.W.keepIn K (.ref f2) = true)
    (a3 : PySem.W.nsIn K mainGlobals "check_holder" = some (some (.ref f3)))
    (l3 : K.lookup f3 = some ⟨oc3, od3, .func (PySem.W.fnOf "check_holder" "check_holder" (defArgs sCheckHolder) (defBody sCheckHolder) (defScope sCheckHolder) .none kV3 dc3 pm3 an3 cd3 ct3), sl3⟩) (c3 : PySem.W.codeIn K cd3 "check_holder" = true) (k3 : PySem.W.keepIn K (.ref f3) = true)
    (a4 : PySem.W.nsIn K mainGlobals "check_kind" = some (some (.ref f4)))
    (l4 : K.lookup f4 = some ⟨oc4, od4, .func (PySem.W.fnOf "check_kind" "check_kind" (defArgs sCheckKind) (defBody sCheckKind) (defScope sCheckKind) .none kV4 dc4 pm4 an4 cd4 ct4), sl4⟩) (c4 : PySem.W.codeIn K cd4 "check_kind" = true) (k4 : PySem.W.keepIn K (.ref f4) = true)
    (a5 : PySem.W.nsIn K mainGlobals "check_arrows" = some (some (.ref f5)))
    (l5 : K.lookup f5 = some ⟨oc5, od5, .func (PySem.W.fnOf "check_arrows" "check_arrows" (defArgs sCheckArrows) (defBody sCheckArrows) (defScope sCheckArrows) .none kV5 dc5 pm5 an5 cd5 ct5), sl5⟩) (c5 : PySem.W.codeIn K cd5 "check_arrows" = true) (k5 : PySem.W.keepIn K (.ref f5) = true)
    (a6 : PySem.W.nsIn K mainGlobals "check_arrow" = some (some (.ref f6)))
    (l6 : K.lookup f6 = some ⟨oc6, od6, .func (PySem.W.fnOf "check_arrow" "check_arrow" (defArgs sCheckArrow) (defBody sCheckArrow) (defScope sCheckArrow) .none kV6 dc6 pm6 an6 cd6 ct6), sl6⟩) (c6 : PySem.W.codeIn K cd6 "check_arrow" = true) (k6 : PySem.W.keepIn K (.ref f6) = true)
    (a7 : PySem.W.nsIn K mainGlobals "check_part" = some (some (.ref f7)))
    (l7 : K.lookup f7 = some ⟨oc7, od7, .func (PySem.W.fnOf "check_part" "check_part" (defArgs sPart) (defBody sPart) (defScope sPart) .none kV7 dc7 pm7 an7 cd7 ct7), sl7⟩) (c7 : PySem.W.codeIn K cd7 "check_part" = true) (k7 : PySem.W.keepIn K (.ref f7) = true)
    (a8 : PySem.W.nsIn K mainGlobals "children" = some (some (.ref f8)))
    (l8 : K.lookup f8 = some ⟨oc8, od8, .func (PySem.W.fnOf "children" "children" (defArgs sChildren) (defBody sChildren) (defScope sChildren) .none kV8 dc8 pm8 an8 cd8 ct8), sl8⟩) (c8 : PySem.W.codeIn K cd8 "children" = true) (k8 : PySem.W.keepIn K (.ref f8) = true)
    (a9 : PySem.W.nsIn K mainGlobals "within" = some (some (.ref f9)))
    (l9 : K.lookup f9 = some ⟨oc9, od9, .func (PySem.W.fnOf "within" "within" (defArgs sWithin) (defBody sWithin) (defScope sWithin) .none kV9 dc9 pm9 an9 cd9 ct9), sl9⟩) (c9 : PySem.W.codeIn K cd9 "within" = true) (k9 : PySem.W.keepIn K (.ref f9) = true)
    (a10 : PySem.W.nsIn K mainGlobals "lies_in" = some (some (.ref f10)))
    (l10 : K.lookup f10 = some ⟨oc10, od10, .func (PySem.W.fnOf "lies_in" "lies_in" (defArgs sLies) (defBody sLies) (defScope sLies) .none kV10 dc10 pm10 an10 cd10 ct10), sl10⟩) (c10 : PySem.W.codeIn K cd10 "lies_in" = true) (k10 : PySem.W.keepIn K (.ref f10) = true)
    (a11 : PySem.W.nsIn K mainGlobals "scope" = some (some (.ref f11)))
    (l11 : K.lookup f11 = some ⟨oc11, od11, .func (PySem.W.fnOf "scope" "scope" (defArgs sScope) (defBody sScope) (defScope sScope) .none kV11 dc11 pm11 an11 cd11 ct11), sl11⟩) (c11 : PySem.W.codeIn K cd11 "scope" = true) (k11 : PySem.W.keepIn K (.ref f11) = true)
    (a12 : PySem.W.nsIn K mainGlobals "_law_cell_at" = some (some (.ref f12)))
    (l12 : K.lookup f12 = some ⟨oc12, od12, .func (PySem.W.fnOf "_law_cell_at" "_law_cell_at" (defArgs sCell) (defBody sCell) (defScope sCell) .none kV12 dc12 pm12 an12 cd12 ct12), sl12⟩) (c12 : PySem.W.codeIn K cd12 "_law_cell_at" = true) (k12 : PySem.W.keepIn K (.ref f12) = true)
    (a13 : PySem.W.nsIn K mainGlobals "_law_spoiled_rooms" = some (some (.ref f13)))
    (l13 : K.lookup f13 = some ⟨oc13, od13, .func (PySem.W.fnOf "_law_spoiled_rooms" "_law_spoiled_rooms" (defArgs sSpR) (defBody sSpR) (defScope sSpR) .none kV13 dc13 pm13 an13 cd13 ct13), sl13⟩) (c13 : PySem.W.codeIn K cd13 "_law_spoiled_rooms" = true) (k13 : PySem.W.keepIn K (.ref f13) = true)
    (a14 : PySem.W.nsIn K mainGlobals "_law_spoiled_arrows" = some (some (.ref f14)))
    (l14 : K.lookup f14 = some ⟨oc14, od14, .func (PySem.W.fnOf "_law_spoiled_arrows" "_law_spoiled_arrows" (defArgs sSpA) (defBody sSpA) (defScope sSpA) .none kV14 dc14 pm14 an14 cd14 ct14), sl14⟩) (c14 : PySem.W.codeIn K cd14 "_law_spoiled_arrows" = true) (k14 : PySem.W.keepIn K (.ref f14) = true)
    (a15 : PySem.W.nsIn K mainGlobals "_law_taken_by" = some (some (.ref f15)))
    (l15 : K.lookup f15 = some ⟨oc15, od15, .func (PySem.W.fnOf "_law_taken_by" "_law_taken_by" (defArgs sTaken) (defBody sTaken) (defScope sTaken) .none kV15 dc15 pm15 an15 cd15 ct15), sl15⟩) (c15 : PySem.W.codeIn K cd15 "_law_taken_by" = true) (k15 : PySem.W.keepIn K (.ref f15) = true)
    (a16 : PySem.W.nsIn K mainGlobals "_law_taken_by_base" = some (some (.ref f16)))
    (l16 : K.lookup f16 = some ⟨oc16, od16, .func (PySem.W.fnOf "_law_taken_by_base" "_law_taken_by_base" (defArgs sTakenB) (defBody sTakenB) (defScope sTakenB) .none kV16 dc16 pm16 an16 cd16 ct16), sl16⟩) (c16 : PySem.W.codeIn K cd16 "_law_taken_by_base" = true) (k16 : PySem.W.keepIn K (.ref f16) = true)
    (a17 : PySem.W.nsIn K mainGlobals "law" = some (some (.ref f17)))
    (l17 : K.lookup f17 = some ⟨oc17, od17, .func (PySem.W.fnOf "law" "law" (defArgs sLaw) (defBody sLaw) (defScope sLaw) .none kV17 dc17 pm17 an17 cd17 ct17), sl17⟩) (c17 : PySem.W.codeIn K cd17 "law" = true) (k17 : PySem.W.keepIn K (.ref f17) = true)
    (z_len : PySem.W.nsIn K mainGlobals "len" = some none)
    (z_range : PySem.W.nsIn K mainGlobals "range" = some none)
    (z_list : PySem.W.nsIn K mainGlobals "list" = some none)
    (z_isinstance : PySem.W.nsIn K mainGlobals "isinstance" = some none)
    (z_bool : PySem.W.nsIn K mainGlobals "bool" = some none)
    (z_int : PySem.W.nsIn K mainGlobals "int" = some none)
    (z_tuple : PySem.W.nsIn K mainGlobals "tuple" = some none)
    (z_sorted : PySem.W.nsIn K mainGlobals "sorted" = some none)
    (z_enumerate : PySem.W.nsIn K mainGlobals "enumerate" = some none)
    (z_ValueError : PySem.W.nsIn K mainGlobals "ValueError" = some none)
    (g_HOLDER : PySem.W.nsIn K mainGlobals "HOLDER" = some (some (.int (0) t_HOLDER)))
    (g_KIND : PySem.W.nsIn K mainGlobals "KIND" = some (some (.int (1) t_KIND)))
    (g_NONE : PySem.W.nsIn K mainGlobals "NONE" = some (some (.int (-1) t_NONE)))
    (g_SOURCE : PySem.W.nsIn K mainGlobals "SOURCE" = some (some (.int (0) t_SOURCE)))
    (g_EVENT : PySem.W.nsIn K mainGlobals "EVENT" = some (some (.int (1) t_EVENT)))
    (g_GUARD : PySem.W.nsIn K mainGlobals "GUARD" = some (some (.int (2) t_GUARD)))
    (g_TARGET : PySem.W.nsIn K mainGlobals "TARGET" = some (some (.int (3) t_TARGET)))
    (g_DEED : PySem.W.nsIn K mainGlobals "DEED" = some (some (.int (4) t_DEED)))
    (g_LAST_EVENT : PySem.W.nsIn K mainGlobals "LAST_EVENT" = some (some (.int (3) t_LAST_EVENT)))
    (g_LAST_DEED : PySem.W.nsIn K mainGlobals "LAST_DEED" = some (some (.int (99) t_LAST_DEED)))
    (g_MOST_ROOMS : PySem.W.nsIn K mainGlobals "MOST_ROOMS" = some (some (.int (16) t_MOST_ROOMS)))
    (g_MOST_ARROWS : PySem.W.nsIn K mainGlobals "MOST_ARROWS" = some (some (.int (20) t_MOST_ARROWS)))
    (g_CHOOSING : PySem.W.nsIn K mainGlobals "CHOOSING" = some (some (.ref a_CHOOSING))) (o_CHOOSING : K.lookup a_CHOOSING = some ⟨.type "tuple", d_CHOOSING, .seq #[.str "one" t_CHOOSING_0, .str "keep" t_CHOOSING_1] n_CHOOSING, s_CHOOSING⟩)
    (g_KINDS : PySem.W.nsIn K mainGlobals "KINDS" = some (some (.ref a_KINDS))) (o_KINDS : K.lookup a_KINDS = some ⟨.type "tuple", d_KINDS, .seq #[.str "plain" t_KINDS_0, .str "one" t_KINDS_1, .str "all" t_KINDS_2, .str "keep" t_KINDS_3] n_KINDS, s_KINDS⟩)
    (kt_list_list : PySem.W.kitOne K (.type "list") (.type "list") = some true)
    (kt_bool_bool : PySem.W.kitOne K (.type "bool") (.type "bool") = some true)
    (kt_int_int : PySem.W.kitOne K (.type "int") (.type "int") = some true)
    (kt_int_bool : PySem.W.kitOne K (.type "int") (.type "bool") = some false)
    (kt_tuple_tuple : PySem.W.kitOne K (.type "tuple") (.type "tuple") = some true)
    : ∃ fd : FuncData, (∀ (s : Shared) (v : Value), BindsTo s fd ⟨[v], []⟩ [("script", v)]) ∧ ∀ base : Heap, K.In base → base.Ns mainGlobals mg → FnOk l.prog w K mg base CX0 10 fa fd ["script"] (spLaw K) := by
  have e := hfa.symm.trans (PySem.W.mg_of X G a17)
  cases e
  have F1 := fun_mk (st := sInit) l1 c1 k1
  have b1 := F1.binds (ps := ["self", "rooms", "arrows"]) fun _ _ _ _ _ _ us hl => match us, hl with | [_, _, _], _ => rfl
  have F2 := fun_mk (st := sCheckRooms) l2 c2 k2
  have b2 := F2.binds (ps := ["chart"]) fun _ _ _ _ _ _ us hl => match us, hl with | [_], _ => rfl
  have D2 : DefAt K mg "check_rooms" sCheckRooms ["chart"] _ _ := ⟨F2, b2, PySem.W.mg_of X G a2⟩
  have F3 := fun_mk (st := sCheckHolder) l3 c3 k3
  have b3 := F3.binds (ps := ["chart", "room"]) fun _ _ _ _ _ _ us hl => match us, hl with | [_, _], _ => rfl
  have D3 : DefAt K mg "check_holder" sCheckHolder ["chart", "room"] _ _ := ⟨F3, b3, PySem.W.mg_of X G a3⟩
  have F4 := fun_mk (st := sCheckKind) l4 c4 k4
  have b4 := F4.binds (ps := ["chart", "room"]) fun _ _ _ _ _ _ us hl => match us, hl with | [_, _], _ => rfl
  have D4 : DefAt K mg "check_kind" sCheckKind ["chart", "room"] _ _ := ⟨F4, b4, PySem.W.mg_of X G a4⟩
  have F5 := fun_mk (st := sCheckArrows) l5 c5 k5
  have b5 := F5.binds (ps := ["chart"]) fun _ _ _ _ _ _ us hl => match us, hl with | [_], _ => rfl
  have D5 : DefAt K mg "check_arrows" sCheckArrows ["chart"] _ _ := ⟨F5, b5, PySem.W.mg_of X G a5⟩
  have F6 := fun_mk (st := sCheckArrow) l6 c6 k6
  have b6 := F6.binds (ps := ["chart", "number"]) fun _ _ _ _ _ _ us hl => match us, hl with | [_, _], _ => rfl
  have D6 : DefAt K mg "check_arrow" sCheckArrow ["chart", "number"] _ _ := ⟨F6, b6, PySem.W.mg_of X G a6⟩
  have F7 := fun_mk (st := sPart) l7 c7 k7
  have b7 := F7.binds (ps := ["number", "name", "part", "least", "most"]) fun _ _ _ _ _ _ us hl => match us, hl with | [_, _, _, _, _], _ => rfl
  have D7 : DefAt K mg "check_part" sPart ["number", "name", "part", "least", "most"] _ _ := ⟨F7, b7, PySem.W.mg_of X G a7⟩
  have F8 := fun_mk (st := sChildren) l8 c8 k8
  have b8 := F8.binds (ps := ["chart", "room"]) fun _ _ _ _ _ _ us hl => match us, hl with | [_, _], _ => rfl
  have D8 : DefAt K mg "children" sChildren ["chart", "room"] _ _ := ⟨F8, b8, PySem.W.mg_of X G a8⟩
  have F9 := fun_mk (st := sWithin) l9 c9 k9
  have b9 := F9.binds (ps := ["chart", "room", "other"]) fun _ _ _ _ _ _ us hl => match us, hl with | [_, _, _], _ => rfl
  have D9 : DefAt K mg "within" sWithin ["chart", "room", "other"] _ _ := ⟨F9, b9, PySem.W.mg_of X G a9⟩
  have F10 := fun_mk (st := sLies) l10 c10 k10
  have b10 := F10.binds (ps := ["chart", "room", "other"]) fun _ _ _ _ _ _ us hl => match us, hl with | [_, _, _], _ => rfl
  have D10 : DefAt K mg "lies_in" sLies ["chart", "room", "other"] _ _ := ⟨F10, b10, PySem.W.mg_of X G a10⟩
  have F11 := fun_mk (st := sScope) l11 c11 k11
  have b11 := F11.binds (ps := ["chart", "source", "target"]) fun _ _ _ _ _ _ us hl => match us, hl with | [_, _, _], _ => rfl
  have D11 : DefAt K mg "scope" sScope ["chart", "source", "target"] _ _ := ⟨F11, b11, PySem.W.mg_of X G a11⟩
  have F12 := fun_mk (st := sCell) l12 c12 k12
  have b12 := F12.binds (ps := ["script", "k"]) fun _ _ _ _ _ _ us hl => match us, hl with | [_, _], _ => rfl
  have D12 : DefAt K mg "_law_cell_at" sCell ["script", "k"] _ _ := ⟨F12, b12, PySem.W.mg_of X G a12⟩
  have F13 := fun_mk (st := sSpR) l13 c13 k13
  have b13 := F13.binds (ps := ["way", "cell"]) fun _ _ _ _ _ _ us hl => match us, hl with | [_, _], _ => rfl
  have D13 : DefAt K mg "_law_spoiled_rooms" sSpR ["way", "cell"] _ _ := ⟨F13, b13, PySem.W.mg_of X G a13⟩
  have F14 := fun_mk (st := sSpA) l14 c14 k14
  have b14 := F14.binds (ps := ["way", "cell"]) fun _ _ _ _ _ _ us hl => match us, hl with | [_, _], _ => rfl
  have D14 : DefAt K mg "_law_spoiled_arrows" sSpA ["way", "cell"] _ _ := ⟨F14, b14, PySem.W.mg_of X G a14⟩
  have F15 := fun_mk (st := sTaken) l15 c15 k15
  have b15 := F15.binds (ps := ["rooms", "arrows"]) fun _ _ _ _ _ _ us hl => match us, hl with | [_, _], _ => rfl
  have D15 : DefAt K mg "_law_taken_by" sTaken ["rooms", "arrows"] _ _ := ⟨F15, b15, PySem.W.mg_of X G a15⟩
  have F16 := fun_mk (st := sTakenB) l16 c16 k16
  have b16 := F16.binds (ps := ["rooms", "arrows"]) fun _ _ _ _ _ _ us hl => match us, hl with | [_, _], _ => rfl
  have D16 : DefAt K mg "_law_taken_by_base" sTakenB ["rooms", "arrows"] _ _ := ⟨F16, b16, PySem.W.mg_of X G a16⟩
  have F17 := fun_mk (st := sLaw) l17 c17 k17
  have b17 := F17.binds (ps := ["script"]) fun _ _ _ _ _ _ us hl => match us, hl with | [_], _ => rfl
  have D17 : DefAt K mg "law" sLaw ["script"] _ _ := ⟨F17, b17, PySem.W.mg_of X G a17⟩
  have T : Txt K mg C := ⟨⟨pg, hd, po, sa⟩, nR, nA, PySem.W.mg_of X G aC, PySem.W.mg_none_of X G z_len, PySem.W.mg_none_of X G z_range, PySem.W.mg_none_of X G z_list, PySem.W.mg_none_of X G z_isinstance, PySem.W.mg_none_of X G z_bool, PySem.W.mg_none_of X G z_int, PySem.W.mg_none_of X G z_tuple, PySem.W.mg_none_of X G z_sorted, PySem.W.mg_none_of X G z_enumerate, ⟨_, PySem.W.mg_of X G g_HOLDER⟩, ⟨_, PySem.W.mg_of X G g_KIND⟩, ⟨_, PySem.W.mg_of X G g_NONE⟩, ⟨_, PySem.W.mg_of X G g_SOURCE⟩, ⟨_, PySem.W.mg_of X G g_EVENT⟩, ⟨_, PySem.W.mg_of X G g_GUARD⟩, ⟨_, PySem.W.mg_of X G g_TARGET⟩, ⟨_, PySem.W.mg_of X G g_DEED⟩, ⟨_, PySem.W.mg_of X G g_LAST_EVENT⟩, ⟨_, PySem.W.mg_of X G g_LAST_DEED⟩, ⟨_, PySem.W.mg_of X G g_MOST_ROOMS⟩, ⟨_, PySem.W.mg_of X G g_MOST_ARROWS⟩, ⟨_, PySem.W.mg_of X G g_CHOOSING, fun H => .inr ⟨_, _, _, o_CHOOSING, rfl, rfl, (by show 2 ≤ sizeLine; decide), .cons ⟨_, rfl⟩ (.cons ⟨_, rfl⟩ .nil)⟩⟩, ⟨_, PySem.W.mg_of X G g_KINDS, fun H => .inr ⟨_, _, _, o_KINDS, rfl, rfl, (by show 4 ≤ sizeLine; decide), .cons ⟨_, rfl⟩ (.cons ⟨_, rfl⟩ (.cons ⟨_, rfl⟩ (.cons ⟨_, rfl⟩ .nil)))⟩⟩, kt_list_list, kt_bool_bool, kt_int_int, kt_int_bool, kt_tuple_tuple⟩
  refine ⟨PySem.W.fnOf "law" "law" (defArgs sLaw) (defBody sLaw) (defScope sLaw) .none kV17 dc17 pm17 an17 cd17 ct17, fun s v => .of_eq rfl, fun base _ _ => ?_⟩
  have B : BadTxt K mg CB := ⟨PySem.W.mg_of X G aE_BadChart, ex_BadChart⟩
  have S : TakenTxt K mg CE CC CT CB := ⟨PySem.W.mg_of X G aE_ChartError, PySem.W.mg_of X G aE_Clash, PySem.W.mg_of X G aE_TooMany, PySem.W.mg_of X G aE_BadChart, PySem.W.mg_none_of X G z_ValueError, st_ChartError_BaseException, st_Clash_BaseException, st_TooMany_BaseException, st_BadChart_BaseException, kitCls_ref cc_ChartError ct_ChartError cs_BadChart_ChartError, kitCls_ref cc_Clash ct_Clash cs_BadChart_Clash, kitCls_ref cc_TooMany ct_TooMany cs_BadChart_TooMany, kitCls_ref cc_BadChart ct_BadChart cs_BadChart_BadChart, kitCls_type (by decide +kernel) st_BadChart_ValueError⟩
  have M : Mk K C _ := ⟨mk, a1, i1, kc⟩
  have GiX := ok_initX (P := l.prog) (w := w) (base := base) F1 T D2 D5 (ok_roomsX D2 T B D8 D3 D4) (ok_arrowsX D5 T B D6 (ok_arrowX D6 T B D7 D11 D10 D9))
  have Gi0 := ok_init (P := l.prog) (w := w) (base := base) F1 T D2 D5 (ok_check_rooms D2 T D8 D3 D4) (ok_check_arrows D5 T D6 (ok_check_arrow D6 T D7 D11 D10 D9))
  exact ok_law D17 T M b1 Gi0 D12 D13 D14 D15 (ok_taken D15 T S M b1 GiX D16 (ok_takenB D16 T S M b1 GiX))
theorem walk {l : PySem.W.OpenLaw} {q : Program} {loose : List Str} {XP : (Str → Option Value) → Heap → Prop} {YP : World → Heap → Prop} {d : DefRec} {K : Params → PySem.W.Frag} (hn : l.most = some 63) (hdf : d.params.defaults = [])
    (hY : ∀ (w : World) (h : Heap), YP w h → (K w.params).In h)
    (F : ∀ (w : World) (mg : Str → Option Value) (fa : Addr) (h : Heap), (K w.params).In h → h.Ns mainGlobals mg → mg d.name = some (.ref fa) →
      ∃ fd : FuncData, (∀ (s : Shared) (u : Value), BindsTo s fd ⟨[u], []⟩ [("script", u)]) ∧ ∀ base : Heap, (K w.params).In base → base.Ns mainGlobals mg → FnOk l.prog w (K w.params) mg base CX0 10 fa fd ["script"] (spLaw (K w.params))) :
    PySem.W.WalkO q loose XP YP l.row.toRowW d [] (fun f vs => PySem.call f vs) :=
  L2.walk_of (n := 63) (k := 10) (x := "script") (CX := fun _ => CX0) (sp := fun w => spLaw (K w.params)) hn (by decide) hdf ⟨rfl, by decide, by decide⟩ hY F (fun _ _ a ns hl _ hS => ⟨a, ns, rfl, hS, hl, fun _ => rfl⟩) fun _ _ _ _ _ z => z
end Toy
open PySem PySem.W PyProof.Rows
set_option maxRecDepth 100000 in
set_option maxHeartbeats 0 in
theorem PySem.Challenge.cw_chartfold_k03_charts_refused_holds : PySem.Challenge.rw_chartfold_k03_charts_refused.Holds := by
  w_on; o_law; k_head; (case hw => w_witness2)
  k_fill
  refine Toy.walk (l := PySem.Challenge.rw_chartfold_k03_charts_refused) rfl rfl (fun w h Y => PySem.W.kIn_of Y) ?F
  case F =>
    intro w mg fa h KX G hmg
    refine' Toy.all_mk KX G hmg ?aC ?pg ?hd ?po ?sa ?mk ?kc ?nR ?nA ?aE_BadChart ?cc_BadChart ?ct_BadChart ?aE_ChartError ?cc_ChartError ?ct_ChartError ?aE_Clash ?cc_Clash ?ct_Clash ?aE_TooMany ?cc_TooMany ?ct_TooMany ?cs_BadChart_ChartError ?cs_BadChart_Clash ?cs_BadChart_TooMany ?cs_BadChart_BadChart ?st_BadChart_BaseException ?st_ChartError_BaseException ?st_Clash_BaseException ?st_TooMany_BaseException ?st_BadChart_ValueError ?ex_BadChart ?a1 ?i1 ?l1 ?c1 ?k1 ?a2 ?l2 ?c2 ?k2 ?a3 ?l3 ?c3 ?k3 ?a4 ?l4 ?c4 ?k4 ?a5 ?l5 ?c5 ?k5 ?a6 ?l6 ?c6 ?k6 ?a7 ?l7 ?c7 ?k7 ?a8 ?l8 ?c8 ?k8 ?a9 ?l9 ?c9 ?k9 ?a10 ?l10 ?c10 ?k10 ?a11 ?l11 ?c11 ?k11 ?a12 ?l12 ?c12 ?k12 ?a13 ?l13 ?c13 ?k13 ?a14 ?l14 ?c14 ?k14 ?a15 ?l15 ?c15 ?k15 ?a16 ?l16 ?c16 ?k16 ?a17 ?l17 ?c17 ?k17 ?z_len ?z_range ?z_list ?z_isinstance ?z_bool ?z_int ?z_tuple ?z_sorted ?z_enumerate ?z_ValueError ?g_HOLDER ?g_KIND ?g_NONE ?g_SOURCE ?g_EVENT ?g_GUARD ?g_TARGET ?g_DEED ?g_LAST_EVENT ?g_LAST_DEED ?g_MOST_ROOMS ?g_MOST_ARROWS ?g_CHOOSING ?o_CHOOSING ?g_KINDS ?o_KINDS ?kt_list_list ?kt_bool_bool ?kt_int_int ?kt_int_bool ?kt_tuple_tuple
    (case aC => k_is)
    (case pg => k_is)
    (case hd => k_is)
    (case po => k_is)
    (case sa => k_is)
    (case mk => k_is)
    (case kc => k_is)
    (case nR => k_is)
    (case nA => k_is)
    (case aE_BadChart => k_is)
    (case cc_BadChart => k_is)
    (case ct_BadChart => k_is)
    (case aE_ChartError => k_is)
    (case cc_ChartError => k_is)
    (case ct_ChartError => k_is)
    (case aE_Clash => k_is)
    (case cc_Clash => k_is)
    (case ct_Clash => k_is)
    (case aE_TooMany => k_is)
    (case cc_TooMany => k_is)
    (case ct_TooMany => k_is)
    (case cs_BadChart_ChartError => k_is)
    (case cs_BadChart_Clash => k_is)
    (case cs_BadChart_TooMany => k_is)
    (case cs_BadChart_BadChart => k_is)
    (case st_BadChart_BaseException => k_is)
    (case st_ChartError_BaseException => k_is)
    (case st_Clash_BaseException => k_is)
    (case st_TooMany_BaseException => k_is)
    (case st_BadChart_ValueError => k_is)
    (case ex_BadChart => k_exc)
    (case a1 => k_is)
    (case i1 => k_is)
    (case l1 => k_is)
    (case c1 => k_is)
    (case k1 => k_is)
    (case a2 => k_is)
    (case l2 => k_is)
    (case c2 => k_is)
    (case k2 => k_is)
    (case a3 => k_is)
    (case l3 => k_is)
    (case c3 => k_is)
    (case k3 => k_is)
    (case a4 => k_is)
    (case l4 => k_is)
    (case c4 => k_is)
    (case k4 => k_is)
    (case a5 => k_is)
    (case l5 => k_is)
    (case c5 => k_is)
    (case k5 => k_is)
    (case a6 => k_is)
    (case l6 => k_is)
    (case c6 => k_is)
    (case k6 => k_is)
    (case a7 => k_is)
    (case l7 => k_is)
    (case c7 => k_is)
    (case k7 => k_is)
    (case a8 => k_is)
    (case l8 => k_is)
    (case c8 => k_is)
    (case k8 => k_is)
    (case a9 => k_is)
    (case l9 => k_is)
    (case c9 => k_is)
    (case k9 => k_is)
    (case a10 => k_is)
    (case l10 => k_is)
    (case c10 => k_is)
    (case k10 => k_is)
    (case a11 => k_is)
    (case l11 => k_is)
    (case c11 => k_is)
    (case k11 => k_is)
    (case a12 => k_is)
    (case l12 => k_is)
    (case c12 => k_is)
    (case k12 => k_is)
    (case a13 => k_is)
    (case l13 => k_is)
    (case c13 => k_is)
    (case k13 => k_is)
    (case a14 => k_is)
    (case l14 => k_is)
    (case c14 => k_is)
    (case k14 => k_is)
    (case a15 => k_is)
    (case l15 => k_is)
    (case c15 => k_is)
    (case k15 => k_is)
    (case a16 => k_is)
    (case l16 => k_is)
    (case c16 => k_is)
    (case k16 => k_is)
    (case a17 => k_is)
    (case l17 => k_is)
    (case c17 => k_is)
    (case k17 => k_is)
    (case z_len => k_is)
    (case z_range => k_is)
    (case z_list => k_is)
    (case z_isinstance => k_is)
    (case z_bool => k_is)
    (case z_int => k_is)
    (case z_tuple => k_is)
    (case z_sorted => k_is)
    (case z_enumerate => k_is)
    (case z_ValueError => k_is)
    (case g_HOLDER => k_is)
    (case g_KIND => k_is)
    (case g_NONE => k_is)
    (case g_SOURCE => k_is)
    (case g_EVENT => k_is)
    (case g_GUARD => k_is)
    (case g_TARGET => k_is)
    (case g_DEED => k_is)
    (case g_LAST_EVENT => k_is)
    (case g_LAST_DEED => k_is)
    (case g_MOST_ROOMS => k_is)
    (case g_MOST_ARROWS => k_is)
    (case g_CHOOSING => k_is)
    (case o_CHOOSING => k_is)
    (case g_KINDS => k_is)
    (case o_KINDS => k_is)
    (case kt_list_list => kit_is)
    (case kt_bool_bool => kit_is)
    (case kt_int_int => kit_is)
    (case kt_int_bool => kit_is)
    (case kt_tuple_tuple => kit_is)
#print axioms PySem.Challenge.cw_chartfold_k03_charts_refused_holds
