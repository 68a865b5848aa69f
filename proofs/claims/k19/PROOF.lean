import PyProof.Rows.All
import Wide.All
import OpenK.AllK
import Wide.FinOn
import Lean
import PyProof.EqAt
import PyProof.EqKinds
import PyProof.TupleCall
import PySem.Challenge.RW_chartfold_k19_texts_refused
set_option Elab.async false
set_option linter.all false
set_option maxRecDepth 100000
namespace L2
open PySem PySem.Spec PyProof.Rows
abbrev Key := Sum Int Str
def keyIs : Key → Value → Bool
  | .inl k, v => Value.isInt k v
  | .inr x, v => Value.isStrOf x v
def keyH (w : World) : Key → Int
  | .inl k => hashInt k
  | .inr x => hashStr w x
theorem keyIs_shape : ∀ {k : Key} {v : Value}, keyIs k v = true → (∃ i t, k = Sum.inl i ∧ v = Value.int i t) ∨ (∃ x t, k = Sum.inr x ∧ v = Value.str x t)
  | .inl i, v, h => by
    obtain ⟨t, e⟩ := Value.isInt_shape (k := i) (v := v) h
    exact .inl ⟨i, t, rfl, e⟩
  | .inr x, v, h => by
    obtain ⟨t, e⟩ := Value.isStrOf_shape (x := x) (v := v) h
    exact .inr ⟨x, t, rfl, e⟩
theorem key_ll (a b : Int) : decide ((Sum.inl a : Key) = Sum.inl b) = (a == b) := by
  by_cases e : a = b
  · subst e; simp
  · have h : ¬ (Sum.inl a : Key) = Sum.inl b := fun q => e (Sum.inl.inj q)
    rw [decide_eq_false h]
    exact (beq_eq_false_iff_ne.mpr e).symm
theorem key_rr (a b : Str) : decide ((Sum.inr a : Key) = Sum.inr b) = decide (a = b) := by
  by_cases e : a = b
  · subst e; simp
  · have h : ¬ (Sum.inr a : Key) = Sum.inr b := fun q => e (Sum.inr.inj q)
    rw [decide_eq_false h, decide_eq_false e]
theorem key_lr (a : Int) (b : Str) : decide ((Sum.inl a : Key) = Sum.inr b) = false := decide_eq_false (fun q => nomatch q)
theorem key_rl (a : Str) (b : Int) : decide ((Sum.inr a : Key) = Sum.inl b) = false := decide_eq_false (fun q => nomatch q)
def mixKind (prog : Program) (w : World) : PySem.KeyKind prog w Key where
  is := keyIs
  hash := keyH w
  inj := fun v a b ha hb => by
    rcases keyIs_shape ha with ⟨i, t, rfl, rfl⟩ | ⟨x, t, rfl, rfl⟩
    · rcases keyIs_shape hb with ⟨j, u, rfl, e⟩ | ⟨y, u, rfl, e⟩
      · injection e with e1 _; rw [e1]
      · exact nomatch e
    · rcases keyIs_shape hb with ⟨j, u, rfl, e⟩ | ⟨y, u, rfl, e⟩
      · exact nomatch e
      · injection e with e1 _; rw [e1]
  byValue := fun k v h => by
    rcases keyIs_shape h with ⟨i, t, rfl, rfl⟩ | ⟨x, t, rfl, rfl⟩ <;> rfl
  pyHash := fun hv h => by
    rcases keyIs_shape hv with ⟨i, t, rfl, rfl⟩ | ⟨x, t, rfl, rfl⟩
    · exact wpAny_pyHash_int h
    · exact wpAny_pyHash_str h
  eqBool := fun hu hv h => by
    rcases keyIs_shape hu with ⟨i, t, rfl, rfl⟩ | ⟨x, t, rfl, rfl⟩
    · rcases keyIs_shape hv with ⟨j, u, rfl, rfl⟩ | ⟨y, u, rfl, rfl⟩
      · rw [key_ll] at h; exact wpAny_eqBool_int h
      · rw [key_lr] at h; exact SeqAt.EqAt.int_str i t y u _ _ _ _ h
    · rcases keyIs_shape hv with ⟨j, u, rfl, rfl⟩ | ⟨y, u, rfl, rfl⟩
      · rw [key_rl] at h; exact SeqAt.EqAt.str_int x t j u _ _ _ _ h
      · rw [key_rr] at h; exact wpAny_eqBool_str h
  «strs» := fun k x t v h => by
    rcases keyIs_shape h with ⟨i, u, rfl, e⟩ | ⟨y, u, rfl, e⟩
    · exact nomatch e
    · injection e with e1 _
      subst e1
      cases v <;> rfl
end L2
namespace L2
open PySem PySem.Spec PyProof.Rows
inductive V where
  | non | bl (b : Bool) | int (i : Int) | str (x : Str) | byt (b : Array UInt8) | flt (b : UInt64) | ref (a : Addr) | ty (n : String)
  deriving DecidableEq
def RelV : V → Value → Prop
  | .non, u => u = Value.none
  | .bl b, u => u = Value.bool b
  | .int i, u => ∃ t, u = Value.int i t
  | .str x, u => ∃ t, u = Value.str x t
  | .byt b, u => ∃ t, u = Value.bytes b t
  | .flt b, u => ∃ t, u = Value.float b t
  | .ref a, u => u = Value.ref a
  | .ty n, u => u = Value.type n
abbrev Vals : List V → List Value → Prop := Paired RelV
theorem Vals.length {xs : List V} {us : List Value} (r : Vals xs us) : xs.length = us.length := Paired.length r
theorem Vals.get : ∀ {xs : List V} {us : List Value} {i : Nat} {x : V}, Vals xs us → xs[i]? = some x → ∃ u, us[i]? = some u ∧ RelV x u
  | _, _, _, _, .nil, e => by simp at e
  | _, _, 0, _, .cons r _, e => by simp at e; subst e; exact ⟨_, rfl, r⟩
  | _, _, i + 1, x, .cons _ t, e => by
    obtain ⟨u, h1, h2⟩ := Vals.get (i := i) (x := x) t (by simpa using e)
    exact ⟨u, by simpa using h1, h2⟩
theorem Vals.set {x : V} {u : Value} (r : RelV x u) : ∀ {xs : List V} {us : List Value} (i : Nat), Vals xs us → Vals (xs.set i x) (us.set i u)
  | _, _, _, .nil => .nil
  | _, _, 0, .cons _ t => .cons r t
  | _, _, i + 1, .cons q t => .cons q (Vals.set r i t)
theorem Vals.append : ∀ {xs ys : List V} {us ws : List Value}, Vals xs us → Vals ys ws → Vals (xs ++ ys) (us ++ ws)
  | _, _, _, _, .nil, s => s
  | _, _, _, _, .cons r t, s => .cons r (Vals.append t s)
theorem Vals.take : ∀ {xs : List V} {us : List Value} (n : Nat), Vals xs us → Vals (xs.take n) (us.take n)
  | _, _, 0, _ => .nil
  | _, _, _ + 1, .nil => .nil
  | _, _, n + 1, .cons r t => .cons r (Vals.take n t)
theorem Vals.drop : ∀ {xs : List V} {us : List Value} (n : Nat), Vals xs us → Vals (xs.drop n) (us.drop n)
  | _, _, 0, r => r
  | _, _, _ + 1, .nil => .nil
  | _, _, n + 1, .cons _ t => Vals.drop n t
def RelO : Option V → Option Value → Prop
  | some v, some u => RelV v u
  | none, none => True
  | _, _ => False
def KV {κ : Type} : List (κ × V) → List (κ × Value) → Prop := Paired fun (p : κ × V) (q : κ × Value) => p.1 = q.1 ∧ RelV p.2 q.2
def kV : Key → V
  | .inl i => .int i
  | .inr x => .str x
inductive HO where
  | lst (xs : List V)
  | tup (xs : List V)
  | dK (kvs : List (Key × V)) | dT (kvs : List (List Key × V))
  | set (S : Int → Bool) (n : Nat)
  | ins (C dx : Addr) (fs : List (Str × V))
  | own (x : Addr)
  | xd (fs : List (Str × V))
  | met (f x : Addr)
  | rng (lo hi : Int)
  | frz (o : Obj) (u : HO)
  | tbl (ps : Array Value)
  | ext (φ : Heap → Prop)
abbrev Hp := Addr → Option HO
def upd (H : Hp) (a : Addr) (o : HO) : Hp := fun b => if b = a then some o else H b
theorem upd_same {H : Hp} {a : Addr} {o : HO} : upd H a o a = some o := by unfold upd; rw [if_pos rfl]
theorem upd_ne {H : Hp} {a b : Addr} {o : HO} (h : b ≠ a) : upd H a o b = H b := by unfold upd; rw [if_neg h]
theorem ne_of {H : Hp} {a b : Addr} {o u : HO} (h : H a = some o) (h' : H b = some u) (d : o ≠ u) : a ≠ b := by
  intro e; subst e; rw [h] at h'; exact d (Option.some.inj h')
theorem ne_of_none {H : Hp} {a b : Addr} {o : HO} (h : H a = some o) (h' : H b = none) : a ≠ b := by
  intro e; subst e; rw [h] at h'; cases h'
section
variable (P : Program) (w : World)
def ObjOk (H : Hp) (h : Heap) (a : Addr) : HO → Prop
  | .lst xs => xs.length ≤ sizeLine ∧ ∃ (its : List Value) (n : Nat), Vals xs its ∧ h.get? a = some { cls := .type "list", data := .seq its.toArray n }
  | .tup xs => xs.length ≤ sizeLine ∧ ∃ its : List Value, Vals xs its ∧ IsTup h a its.toArray
  | .dK kvs => kvs.length ≤ sizeLine ∧ (a == sysModules) = false ∧ ∃ vs, KV kvs vs ∧ h.DictOf (mixKind P w) a vs
  | .dT kvs => kvs.length ≤ sizeLine ∧ (a == sysModules) = false ∧ ∃ xs : List (List Key × Addr × Value),
      Paired (fun (p : List Key × V) (q : List Key × Addr × Value) => p.1 = q.1 ∧ H q.2.1 = some (.tup (p.1.map kV)) ∧ RelV p.2 q.2.2) kvs xs ∧
      ∃ o es ep, h.get? a = some o ∧ o.ExactDict ∧ o.data = .dict es ep ∧ es.toList = xs.map (entryOfKey (tupleKind (mixKind P w))) ∧ (xs.map (·.1)).Nodup
  | .set S n => h.SetOf (intKind P w) a S n
  | .ins C dx fs => H dx = some (.own a) ∧ fs.length ≤ 1000 ∧ dx ≠ a ∧ h.get? a = some (PySem.W.instObj C dx) ∧
      ∃ mA, h.Ns1 dx mA ∧ (∀ f, RelO (fs.lookup f) (mA f)) ∧ PySem.Within mA (fs.map (·.1))
  | .own _ => ∃ o, h.get? a = some o
  | .xd fs => ∃ mA, h.Ns1 a mA ∧ ∀ f, RelO (fs.lookup f) (mA f)
  | .rng lo hi => ∃ t u v, h.get? a = some { cls := .type "range", data := .fields #[.int lo t, .int hi u, .int 1 v] }
  | .frz o u => h.get? a = some o ∧ ObjOk H h a u
  | .tbl ps => h.get? a = some { cls := .none, data := .fields ps }
  | .met f x => h.get? a = some (PySem.W.methodObj (.ref f) (.ref x))
  | .ext φ => φ h ∧ (∃ o, h.get? a = some o) ∧ ∀ h1 h2 : Heap, φ h1 → (∀ o, h1.get? a = some o → h2.get? a = some o) → φ h2
def HOk (H : Hp) (h : Heap) : Prop := ∀ a o, H a = some o → ObjOk P w H h a o
end
section
variable {P : Program} {w : World} {H H' : Hp} {h h' : Heap} {a : Addr} {o : HO}
theorem ObjOk.lt (x : ObjOk P w H h a o) : a < h.objs.size := by
  cases o with
  | lst xs => obtain ⟨_, _, _, _, e⟩ := x; exact Heap.lt_size e
  | tup xs => obtain ⟨_, _, _, p⟩ := x; exact p.lt
  | dK kvs => obtain ⟨_, _, _, _, o, _, _, e, _⟩ := x; exact Heap.lt_size e
  | dT kvs => obtain ⟨_, _, _, _, o, _, _, e, _⟩ := x; exact Heap.lt_size e
  | set S n => obtain ⟨o, _, _, _, e, _⟩ := x; exact Heap.lt_size e
  | ins C dx fs => obtain ⟨_, _, _, e, _⟩ := x; exact Heap.lt_size e
  | own y => obtain ⟨_, e⟩ := x; exact Heap.lt_size e
  | xd fs => obtain ⟨_, ⟨_, _, _, e, _⟩, _⟩ := x; exact Heap.lt_size e
  | rng lo hi => obtain ⟨_, _, _, e⟩ := x; exact Heap.lt_size e
  | frz ob u => obtain ⟨e, _⟩ := x; exact Heap.lt_size e
  | tbl ps => exact Heap.lt_size (show h.get? a = some _ from x)
  | met f y => exact Heap.lt_size (show h.get? a = some _ from x)
  | ext φ => obtain ⟨_, ⟨_, e⟩, _⟩ := x; exact Heap.lt_size e
theorem Paired.mapP {α β : Type} {F G : α → β → Prop} : ∀ {l₁ : List α} {l₂ : List β}, Paired F l₁ l₂ → (∀ a b, F a b → G a b) → Paired G l₁ l₂
  | _, _, .nil, _ => .nil
  | _, _, .cons r t, f => .cons (f _ _ r) (Paired.mapP t f)
theorem ObjOk.stay (x : ObjOk P w H h a o) (k : ∀ b u, (b = a ∨ H b = some (.own a)) → h.get? b = some u → h'.get? b = some u)
    (ho : ∀ b, H b = some (.own a) → H' b = some (.own a)) (ht : ∀ b xs, H b = some (.tup xs) → H' b = some (.tup xs)) : ObjOk P w H' h' a o := by
  induction o with
  | lst xs => obtain ⟨z, its, n, r, e⟩ := x; exact ⟨z, its, n, r, k _ _ (.inl rfl) e⟩
  | tup xs => obtain ⟨z, its, r, ob, e, c⟩ := x; exact ⟨z, its, r, ob, k _ _ (.inl rfl) e, c⟩
  | dK kvs => obtain ⟨z, y, vs, r, ob, es, ep, e, c⟩ := x; exact ⟨z, y, vs, r, ob, es, ep, k _ _ (.inl rfl) e, c⟩
  | dT kvs =>
    obtain ⟨z, y, xs, r, ob, es, ep, e, c⟩ := x
    exact ⟨z, y, xs, Paired.mapP r fun p q z => ⟨z.1, ht _ _ z.2.1, z.2.2⟩, ob, es, ep, k _ _ (.inl rfl) e, c⟩
  | set S n => obtain ⟨ob, es, ep, t, e, c⟩ := x; exact ⟨ob, es, ep, t, k _ _ (.inl rfl) e, c⟩
  | ins C dx fs =>
    obtain ⟨d, z, ne, e, mA, ⟨od, es, ep, e2, c⟩, r⟩ := x
    exact ⟨ho _ d, z, ne, k _ _ (.inl rfl) e, mA, ⟨od, es, ep, k _ _ (.inr d) e2, c⟩, r⟩
  | own y => obtain ⟨ob, e⟩ := x; exact ⟨ob, k _ _ (.inl rfl) e⟩
  | xd fs => obtain ⟨mA, ⟨od, es, ep, e, c⟩, r⟩ := x; exact ⟨mA, ⟨od, es, ep, k _ _ (.inl rfl) e, c⟩, r⟩
  | rng lo hi => obtain ⟨t, u, v, e⟩ := x; exact ⟨t, u, v, k _ _ (.inl rfl) e⟩
  | frz ob u ih => obtain ⟨e, q⟩ := x; exact ⟨k _ _ (.inl rfl) e, ih q⟩
  | tbl ps =>
    have e : h.get? a = some { cls := .none, data := .fields ps } := x
    show h'.get? a = some { cls := .none, data := .fields ps }
    exact k a _ (.inl rfl) e
  | met f y =>
    have e : h.get? a = some (PySem.W.methodObj (.ref f) (.ref y)) := x
    show h'.get? a = some (PySem.W.methodObj (.ref f) (.ref y))
    exact k a _ (.inl rfl) e
  | ext φ => obtain ⟨p, ⟨o, e⟩, st⟩ := x; exact ⟨st _ _ p fun o q => k _ _ (.inl rfl) q, ⟨o, k _ _ (.inl rfl) e⟩, st⟩
theorem HOk.lt (x : HOk P w H h) (e : H a = some o) : a < h.objs.size := (x a o e).lt
theorem HOk.fresh (x : HOk P w H h) (e : h.objs.size ≤ a) : H a = none := by
  cases q : H a with
  | none => rfl
  | some u => exact absurd (Nat.lt_of_lt_of_le (x.lt q) e) (Nat.lt_irrefl _)
theorem HOk.kept (x : HOk P w H h) (k : ∀ b u, h.get? b = some u → h'.get? b = some u) : HOk P w H h' := fun a o e =>
  (x a o e).stay (fun b u _ q => k b u q) (fun _ q => q) fun _ _ q => q
theorem HOk.laid (x : HOk P w H h) (k : ∀ b u, h.get? b = some u → h'.get? b = some u) (hp : h.objs.size ≤ a) (new : ObjOk P w (upd H a o) h' a o) : HOk P w (upd H a o) h' := fun b u e => by
  have hn := x.fresh hp
  by_cases hb : b = a
  · subst hb; rw [upd_same] at e; cases e; exact new
  · rw [upd_ne hb] at e
    exact (x b u e).stay (fun c v _ q => k c v q) (fun c q => by rw [upd_ne (ne_of_none q hn)]; exact q) fun c xs q => by rw [upd_ne (ne_of_none q hn)]; exact q
end
def Rd (H : Hp) (a : Addr) (u : HO) : Prop := H a = some u ∨ ∃ o, H a = some (.frz o u)
theorem Rd.ok {P : Program} {w : World} {H : Hp} {h : Heap} {a : Addr} {u : HO} (r : Rd H a u) (x : HOk P w H h) : ObjOk P w H h a u := by
  rcases r with r | ⟨o, r⟩
  · exact x a u r
  · obtain ⟨_, q⟩ := x a _ r
    exact q
def Mut : Option HO → Prop
  | some (.lst _) => True
  | some (.dK _) => True
  | some (.dT _) => True
  | some (.set _ _) => True
  | some (.ins _ _ _) => True
  | some (.ext _) => True
  | _ => False
section
variable {P : Program} {w : World} {H : Hp} {h h' : Heap} {x e : Addr} {o' : HO}
theorem HOk.write (ok : HOk P w H h) (mu : Mut (H x)) (he : e = x ∨ H e = some (.own x)) (k : ∀ b u, b ≠ e → h.get? b = some u → h'.get? b = some u) (heo : ∃ u, h'.get? e = some u)
    (new : ObjOk P w (upd H x o') h' x o') : HOk P w (upd H x o') h' := fun b u q => by
  have nown : ∀ c y, H c = some (.own y) → c ≠ x := fun c y r z => by subst z; rw [r] at mu; exact mu
  have ntup : ∀ c xs, H c = some (.tup xs) → c ≠ x := fun c xs r z => by subst z; rw [r] at mu; exact mu
  by_cases hb : b = x
  · subst hb; rw [upd_same] at q; cases q; exact new
  · rw [upd_ne hb] at q
    by_cases hbe : b = e
    · have q' : H b = some (.own x) := by
        rcases he with z | z
        · exact absurd (hbe.trans z) hb
        · rw [hbe]; exact z
      rw [q] at q'; cases q'
      obtain ⟨v, hv⟩ := heo
      exact ⟨v, by rw [hbe]; exact hv⟩
    · refine (ok b u q).stay (fun c v hc r => k c v ?_ r) (fun c r => by rw [upd_ne (nown c b r)]; exact r) fun c xs r => by rw [upd_ne (ntup c xs r)]; exact r
      rcases hc with rfl | hc
      · exact hbe
      · rintro rfl
        rcases he with z | z
        · exact nown c b hc z
        · rw [hc] at z; cases z; exact hb rfl
end
structure Un (fs ex : List Addr) (H H' : Hp) (h h' : Heap) : Prop where
  keep : ∀ b o, h.get? b = some o → H b = none → b ∉ fs → b ∉ ex → h'.get? b = some o
  slot : ∀ b o, h.get? b = some o → H b = none → b ∈ fs → b ∉ ex → ∃ sl, h'.get? b = some { o with slots := sl }
  free : ∀ b o, h.get? b = some o → H b = none → b ∉ ex → H' b = none
  there : ∀ b o, h.get? b = some o → b ∉ ex → ∃ o', h'.get? b = some o'
  tups : ∀ b xs, H b = some (.tup xs) → H' b = some (.tup xs)
  frzs : ∀ b o u, H b = some (.frz o u) → H' b = some (.frz o u)
  tbls : ∀ b ps, H b = some (.tbl ps) → ∃ more, H' b = some (.tbl (ps ++ more))
section
variable {fs fs' ex ex' : List Addr} {H H1 H2 : Hp} {h h1 h2 h' : Heap} {a x e : Addr} {o : HO}
theorem Un.any (u : Un fs ex H H1 h h1) {b : Addr} {ob : Obj} (q : h.get? b = some ob) (n : H b = none) (hx : b ∉ ex) : ∃ sl, h1.get? b = some { ob with slots := sl } := by
  by_cases hb : b ∈ fs
  · exact u.slot b ob q n hb hx
  · exact ⟨ob.slots, u.keep b ob q n hb hx⟩
theorem Un.kept (k : ∀ b u, h.get? b = some u → h'.get? b = some u) : Un fs ex H H h h' :=
  ⟨fun b ob q _ _ _ => k b ob q, fun b ob q _ _ _ => ⟨ob.slots, k b ob q⟩, fun _ _ _ n _ => n, fun b ob q _ => ⟨ob, k b ob q⟩, fun _ _ q => q, fun _ _ _ q => q, fun _ ps q => ⟨#[], by rw [q]; simp⟩⟩
theorem Un.refl : Un fs ex H H h h := Un.kept fun _ _ q => q
theorem Un.laid (k : ∀ b u, h.get? b = some u → h'.get? b = some u) (hp : h.objs.size ≤ a) (hn : H a = none) : Un fs ex H (upd H a o) h h' where
  keep := fun b u q _ _ _ => k b u q
  slot := fun b u q _ _ _ => ⟨u.slots, k b u q⟩
  free := fun b u q n _ => by rw [upd_ne (Nat.ne_of_lt (Nat.lt_of_lt_of_le (Heap.lt_size q) hp))]; exact n
  there := fun b u q _ => ⟨u, k b u q⟩
  tups := fun b xs q => by rw [upd_ne (ne_of_none q hn)]; exact q
  frzs := fun b u xs q => by rw [upd_ne (ne_of_none q hn)]; exact q
  tbls := fun b ps q => ⟨#[], by rw [upd_ne (ne_of_none q hn), q]; simp⟩
theorem Un.write (mu : Mut (H x)) (he : e = x ∨ H e = some (.own x)) (k : ∀ b u, b ≠ e → h.get? b = some u → h'.get? b = some u) (heo : ∃ u, h'.get? e = some u) : Un fs ex H (upd H x o) h h' := by
  have hx : ∀ b, H b = none → b ≠ x := fun b n z => by subst z; rw [n] at mu; exact mu
  have hb : ∀ b, H b = none → b ≠ e := fun b n z => by
    subst z
    rcases he with r | r
    · exact hx b n r
    · rw [n] at r; cases r
  have hm : ∀ b u, H b = some u → ¬ Mut (some u) → b ≠ x := fun b u q nm z => by subst z; rw [q] at mu; exact nm mu
  refine ⟨fun b u q n _ _ => k b u (hb b n) q, fun b u q n _ _ => ⟨u.slots, k b u (hb b n) q⟩, fun b u q n _ => by rw [upd_ne (hx b n)]; exact n, fun b u q _ => ?_,
    fun b xs q => by rw [upd_ne (hm b _ q fun z => z)]; exact q, fun b u xs q => by rw [upd_ne (hm b _ q fun z => z)]; exact q, fun b ps q => ⟨#[], by rw [upd_ne (hm b _ q fun z => z), q]; simp⟩⟩
  by_cases hbe : b = e
  · subst hbe; exact heo
  · exact ⟨u, k b u hbe q⟩
end
def trk (h : Heap) (H : Hp) : List Addr := (List.range h.objs.size).filter fun a => (H a).isSome
def hidT (h : Heap) (H : Hp) : Heap := PySem.W.hideAll h (trk h H)
theorem hidT_size (h : Heap) (H : Hp) : (hidT h H).objs.size = h.objs.size := PySem.W.hideAll_size _ _
theorem hidT_get {h : Heap} {H : Hp} {b : Addr} {o : Obj} (e : h.get? b = some o) (n : H b = none) : (hidT h H).get? b = some o :=
  PySem.W.hideAll_get _ e fun hm => by
    have q : (H b).isSome = true := (List.mem_filter.mp hm).2
    rw [n] at q; simp at q
theorem of_hidT {h : Heap} {H : Hp} {b : Addr} {o : Obj} (e : (hidT h H).get? b = some o) : h.get? b = some o ∧ H b = none := by
  have e' : h.get? b = some o := PySem.W.of_hideAll (trk h H) e
  refine ⟨e', ?_⟩
  cases q : H b with
  | none => rfl
  | some x =>
    have hm : b ∈ trk h H := List.mem_filter.mpr ⟨List.mem_range.mpr (Heap.lt_size e'), by simp [q]⟩
    have z : (hidT h H).get? b = none := PySem.W.hideAll_none (trk h H) hm
    rw [z] at e; cases e
def allNews (g h : Heap) (L : Addr) : List (Addr × Obj) := (List.range h.objs.size).filterMap fun a => if a = L ∨ (g.get? a).isSome = true then none else (h.get? a).map fun o => (a, o)
def rest (g h : Heap) (L d : Addr) : List (Addr × Obj) := (allNews g h L).filter fun p => decide (p.1 ≠ d)
end L2
namespace L2
open PySem PySem.Spec PyProof.Rows
structure Mod (K : PySem.W.Frag) (mg : Str → Option Value) (base : Heap) : Prop where
  kin : K.In base
  glob : base.Ns mainGlobals mg
  blt : ∃ mb, base.Ns builtinsNs mb ∧ ∀ x : Str, x ≠ "__name__" → mb x = bootBuiltins x
  nolimit : base.NoLimit
structure Cx where
  prog : Program
  w : World
  K : PySem.W.Frag
  mg : Str → Option Value
  base : Heap
  A : Around
  N : List Str
  s₀ : Shared
  H₀ : Hp
  env : Env
  outer : List Env
  stack : List Env
  ex : List Addr
  fn : Str → Bool
  calm : Bool
  pn : List (Addr × Obj)
  xe : Value → Shared → Prop
def frs (l : List Env) : List Addr := l.filterMap (·.frame)
abbrev Cx.fs (X : Cx) : List Addr := frs X.outer
def Vis (sc : Scope) (x : Str) : Prop := sc.names.lookup x = some .local ∨ sc.names.lookup x = some .cell ∨ sc.names.lookup x = some .free
def Loc (sc : Scope) (x : Str) : Prop := sc.names.lookup x = some .local ∨ sc.names.lookup x = some .cell
def Look (env : Env) (h : Heap) (m : Str → Option Value) (x : Str) (u : Value) : Prop :=
  (env.kindOf x = some .local ∧ m x = some u) ∨ ((env.kindOf x = some .cell ∨ env.kindOf x = some .free) ∧ ∃ c, env.cells.lookup x = some c ∧ h.IsCell c (some u))
structure Cx.Ok (X : Cx) : Prop where
  mod : Mod X.K X.mg X.base
  kind : X.env.scope.kind = .function
  glob : X.env.globals = mainGlobals
  blt : X.env.builtins = builtinsNs
  above : X.s₀.heap.objs.size ≤ X.env.locals
  inj : ∀ x y c, X.env.cells.lookup x = some c → X.env.cells.lookup y = some c → x = y
  has : ∀ x, (X.env.kindOf x = some .cell ∨ X.env.kindOf x = some .free) → ∃ c, X.env.cells.lookup x = some c
  cab : ∀ x c, X.fn x = true → X.env.cells.lookup x = some c → X.s₀.heap.objs.size ≤ c
  hd : X.calm = true → X.A.handled = none
  frames : X.A.frames = some X.stack
  stk : X.stack = X.outer ∨ (X.stack = X.env :: X.outer ∧ X.env.frame = some X.env.locals)
  exf : ∀ b ∈ X.ex, b ≠ X.env.locals ∧ ∀ x c, X.env.cells.lookup x = some c → c ≠ b
  bs : ∀ b o, X.base.get? b = some o → X.s₀.heap.get? b = some o ∧ X.H₀ b = none
  bsz : X.base.objs.size ≤ X.s₀.heap.objs.size
  noex : ∀ b o, X.base.get? b = some o → b ∉ X.ex
  exfs : ∀ b ∈ X.ex, b ∉ X.fs
  funs : X.s₀.heap.FunFrames X.base X.outer
  frf : ∀ b ∈ X.fs, X.H₀ b = none
structure Inv (X : Cx) (pins : List (Addr × Obj)) (σ : List (Option V)) (H : Hp) (s : Shared) : Prop where
  ok : X.Ok
  os : s.os = X.s₀.os
  bare : AllBare s.gens
  base : Un X.fs X.ex X.H₀ H X.s₀.heap s.heap
  loc : ∃ m, s.heap.Ns X.env.locals m ∧ ∀ (i : Nat) (x : Str) (v : V), X.N[i]? = some x → σ[i]? = some (some v) → Vis X.env.scope x → ∃ u, RelV v u ∧ Look X.env s.heap m x u
  cell : ∀ x c, X.env.cells.lookup x = some c → ∃ v, s.heap.IsCell c v
  free : H X.env.locals = none
  freeC : ∀ x c, X.env.cells.lookup x = some c → H c = none
  pin : ∀ p ∈ X.pn ++ pins, s.heap.get? p.1 = some p.2 ∧ H p.1 = none ∧ p.1 ≠ X.env.locals ∧ p.1 ∉ X.fs ∧ ∀ v, p.2.data ≠ .cell v
  hok : HOk X.prog X.w H s.heap
  len : σ.length = X.N.length
section
variable {X : Cx} {pins : List (Addr × Obj)} {σ : List (Option V)} {H H' : Hp} {s : Shared} {h' : Heap}
theorem Cx.Ok.nofr (ok : X.Ok) {b : Addr} {o : Obj} (e : X.base.get? b = some o) : b ∉ X.fs := fun hb => by
  have := (ok.funs.mem hb).1
  rw [e] at this; cases this
theorem Inv.bs (I : Inv X pins σ H s) : ∀ b o, X.base.get? b = some o → s.heap.get? b = some o ∧ H b = none := fun b o e =>
  ⟨I.base.keep b o (I.ok.bs b o e).1 (I.ok.bs b o e).2 (I.ok.nofr e) (I.ok.noex b o e), I.base.free b o (I.ok.bs b o e).1 (I.ok.bs b o e).2 (I.ok.noex b o e)⟩
theorem Inv.bk (I : Inv X pins σ H s) : ∀ b o, X.base.get? b = some o → s.heap.get? b = some o := fun b o e => (I.bs b o e).1
theorem Inv.mod (I : Inv X pins σ H s) : Mod X.K X.mg X.base := I.ok.mod
theorem Inv.kIn (I : Inv X pins σ H s) : X.K.In s.heap := I.ok.mod.kin.keeps I.bk
theorem Inv.lt (I : Inv X pins σ H s) : X.env.locals < s.heap.objs.size := let ⟨_, hn, _⟩ := I.loc; hn.lt
theorem Inv.sz (I : Inv X pins σ H s) : X.s₀.heap.objs.size ≤ s.heap.objs.size := Nat.le_trans I.ok.above (Nat.le_of_lt I.lt)
theorem Inv.nofs (I : Inv X pins σ H s) {a : Addr} (h : s.heap.objs.size ≤ a) : a ∉ X.fs := fun hb => by
  obtain ⟨_, o, ho, _⟩ := I.ok.funs.mem hb
  exact absurd (Nat.lt_of_lt_of_le (Heap.lt_size ho) (Nat.le_trans I.sz h)) (Nat.lt_irrefl _)
theorem Inv.cne (I : Inv X pins σ H s) : ∀ x c, X.env.cells.lookup x = some c → c ≠ X.env.locals := fun x c e z => by
  obtain ⟨v, o, ho, hd⟩ := I.cell x c e
  obtain ⟨m, ⟨o', es, ep, ho', hd', _⟩, _⟩ := I.loc
  rw [z, ho'] at ho; cases ho; rw [hd'] at hd; cases hd
theorem Inv.funs (I : Inv X pins σ H s) : s.heap.FunFrames X.base X.outer := by
  have all : ∀ (l : List Env), (∀ b ∈ frs l, b ∈ X.fs) → X.s₀.heap.FunFrames X.base l → s.heap.FunFrames X.base l := by
    intro l
    induction l with
    | nil => intro _ _; trivial
    | cons env r ih =>
      intro hs hl
      obtain ⟨hk, ⟨L, o, hf, hn, ho, hd⟩, hr⟩ := hl
      have hL : L ∈ X.fs := hs L (by unfold frs; rw [List.filterMap_cons, hf]; exact List.mem_cons_self)
      obtain ⟨sl, e⟩ := I.base.slot L o ho (I.ok.frf L hL) hL fun z => I.ok.exfs L z hL
      exact ⟨hk, ⟨L, _, hf, hn, e, hd⟩, ih (fun b hb => hs b (by unfold frs; rw [List.filterMap_cons, hf]; exact List.mem_cons_of_mem _ hb)) hr⟩
  exact all X.outer (fun _ hb => hb) I.ok.funs
theorem Inv.stack (I : Inv X pins σ H s) : s.heap.FunFrames X.base X.stack := by
  rcases I.ok.stk with e | ⟨e, hf⟩
  · rw [e]; exact I.funs
  · rw [e]
    obtain ⟨m, hn, _⟩ := I.loc
    refine .cons (by rw [I.ok.kind]; decide) hf hn ?_ I.funs
    exact Heap.get?_none_of_le (Nat.le_trans I.ok.bsz I.ok.above)
theorem Inv.stkSub (I : Inv X pins σ H s) : ∀ b ∈ frs X.stack, b ∈ X.env.locals :: X.fs := fun b hb => by
  rcases I.ok.stk with e | ⟨e, hf⟩
  · rw [e] at hb; exact List.mem_cons_of_mem _ hb
  · rw [e] at hb
    unfold frs at hb
    rw [List.filterMap_cons, hf] at hb
    exact hb
theorem Inv.stkFree (I : Inv X pins σ H s) : ∀ b ∈ frs X.stack, H b = none := fun b hb => by
  rcases List.mem_cons.mp (I.stkSub b hb) with e | hb
  · rw [e]; exact I.free
  · obtain ⟨_, o, ho, _⟩ := I.ok.funs.mem hb
    exact I.base.free b o ho (I.ok.frf b hb) fun z => I.ok.exfs b z hb
theorem Inv.step {g' : Array GenState} {t' : Nat} {d' : Drawn} {ch : List Addr} (I : Inv X pins σ H s)
    (hch : ∀ b ∈ ch, (b ∈ X.ex ∨ X.s₀.heap.objs.size ≤ b) ∧ b ≠ X.env.locals ∧ (∀ x c, X.env.cells.lookup x = some c → c ≠ b) ∧ ∀ p ∈ X.pn ++ pins, p.1 ≠ b)
    (keep : ∀ b o, b ≠ X.env.locals → b ∉ X.fs → b ∉ ch → s.heap.get? b = some o → H b = none → h'.get? b = some o)
    (slot : ∀ b o, b ≠ X.env.locals → b ∈ X.fs → b ∉ ch → s.heap.get? b = some o → H b = none → ∃ sl, h'.get? b = some { o with slots := sl }) (free : ∀ b o, b ∉ ch → s.heap.get? b = some o → H b = none → H' b = none)
    (there : ∀ b o, b ∉ ch → s.heap.get? b = some o → ∃ o', h'.get? b = some o')
    (tups : ∀ b xs, H b = some (.tup xs) → H' b = some (.tup xs)) (frzs : ∀ b o u, H b = some (.frz o u) → H' b = some (.frz o u)) (tbls : ∀ b ps, H b = some (.tbl ps) → ∃ more, H' b = some (.tbl (ps ++ more)))
    (ns : ∀ m, s.heap.Ns X.env.locals m → h'.Ns X.env.locals m) (hok : HOk X.prog X.w H' h') (hg : AllBare g') :
    Inv X pins σ H' { s with heap := h', gens := g', drawn := d', toks := t' } := by
  have neL : ∀ b o, X.s₀.heap.get? b = some o → b ≠ X.env.locals := fun b o e => Nat.ne_of_lt (Nat.lt_of_lt_of_le (Heap.lt_size e) I.ok.above)
  have neC : ∀ b o, X.s₀.heap.get? b = some o → b ∉ X.ex → b ∉ ch := fun b o e hx hb => by
    rcases (hch b hb).1 with z | z
    · exact hx z
    · exact absurd (Nat.lt_of_lt_of_le (Heap.lt_size e) z) (Nat.lt_irrefl _)
  have cellK : ∀ x c, X.env.cells.lookup x = some c → ∀ v, s.heap.IsCell c v → h'.IsCell c v := fun x c e v ⟨o, ho, hd⟩ => by
    have nch : c ∉ ch := fun z => (hch c z).2.2.1 x c e rfl
    by_cases hc : c ∈ X.fs
    · obtain ⟨sl, q⟩ := slot c o (I.cne x c e) hc nch ho (I.freeC x c e)
      exact ⟨_, q, hd⟩
    · exact ⟨o, keep c o (I.cne x c e) hc nch ho (I.freeC x c e), hd⟩
  refine ⟨I.ok, I.os, hg, ⟨fun b o e n hb hx => ?_, fun b o e n hb hx => ?_, fun b o e n hx => ?_, fun b o e hx => ?_, fun b xs e => tups b xs (I.base.tups b xs e), fun b o xs e => frzs b o xs (I.base.frzs b o xs e), fun b ps e => ?_⟩, ?_, fun x c e => ?_, ?_, fun x c e => ?_, fun p hp => ?_, hok, I.len⟩
  · exact keep b o (neL b o e) hb (neC b o e hx) (I.base.keep b o e n hb hx) (I.base.free b o e n hx)
  · obtain ⟨sl, e1⟩ := I.base.slot b o e n hb hx
    obtain ⟨sl', e2⟩ := slot b _ (neL b o e) hb (neC b o e hx) e1 (I.base.free b o e n hx)
    exact ⟨sl', e2⟩
  · obtain ⟨o', e1⟩ := I.base.there b o e hx
    exact free b o' (neC b o e hx) e1 (I.base.free b o e n hx)
  · obtain ⟨o', e1⟩ := I.base.there b o e hx
    exact there b o' (neC b o e hx) e1
  · obtain ⟨m1, e1⟩ := I.base.tbls b ps e
    obtain ⟨m2, e2⟩ := tbls b _ e1
    exact ⟨m1 ++ m2, by rw [e2, Array.append_assoc]⟩
  · obtain ⟨m, hn, hl⟩ := I.loc
    refine ⟨m, ns m hn, fun i x v e1 e2 e3 => ?_⟩
    obtain ⟨u, r, l⟩ := hl i x v e1 e2 e3
    refine ⟨u, r, ?_⟩
    rcases l with l | ⟨k, c, e, z⟩
    · exact .inl l
    · exact .inr ⟨k, c, e, cellK x c e _ z⟩
  · obtain ⟨v, z⟩ := I.cell x c e
    exact ⟨v, cellK x c e v z⟩
  · obtain ⟨m, ⟨o, _, _, ho, _⟩, _⟩ := I.loc
    exact free _ o (fun z => (hch _ z).2.1 rfl) ho I.free
  · obtain ⟨v, o, ho, hd⟩ := I.cell x c e
    exact free c o (fun z => (hch c z).2.2.1 x c e rfl) ho (I.freeC x c e)
  · obtain ⟨e, n, ne, nf, d⟩ := I.pin p hp
    have nch : p.1 ∉ ch := fun z => (hch p.1 z).2.2.2 p hp rfl
    exact ⟨keep p.1 p.2 ne nf nch e n, free p.1 p.2 nch e n, ne, nf, d⟩
theorem Inv.un {t' : Nat} (I : Inv X pins σ H s) (u : Un X.fs [] H H' s.heap h') (hok : HOk X.prog X.w H' h') : Inv X pins σ H' { s with heap := h', toks := t' } := by
  obtain ⟨m, ⟨o, es, ep, ho, r⟩, _⟩ := id I.loc
  obtain ⟨sl, hL⟩ := u.any ho I.free (by simp)
  exact I.step (g' := s.gens) (d' := s.drawn) (ch := []) (fun _ z => nomatch z) (fun b o _ hb _ e n => u.keep b o e n hb (by simp)) (fun b o _ hb _ e n => u.slot b o e n hb (by simp)) (fun b o _ e n => u.free b o e n (by simp)) (fun b o _ e => u.there b o e (by simp)) u.tups u.frzs u.tbls (fun m' hm => by
    obtain ⟨o', es', ep', ho', r'⟩ := hm
    rw [ho] at ho'; cases ho'
    exact ⟨_, es', ep', hL, r'⟩) hok I.bare
theorem Inv.call {g' : Array GenState} {t' : Nat} {d' : Drawn} {ch : List Addr} (I : Inv X pins σ H s) (u : Un (frs X.stack) ch H H' s.heap h') (hok : HOk X.prog X.w H' h') (hg : AllBare g')
    (hch : ∀ b ∈ ch, (b ∈ X.ex ∨ X.s₀.heap.objs.size ≤ b) ∧ b ≠ X.env.locals ∧ (∀ x c, X.env.cells.lookup x = some c → c ≠ b) ∧ ∀ p ∈ X.pn ++ pins, p.1 ≠ b) :
    Inv X pins σ H' { s with heap := h', gens := g', drawn := d', toks := t' } := by
  obtain ⟨m, ⟨o, es, ep, ho, r⟩, _⟩ := id I.loc
  obtain ⟨sl, hL⟩ := u.any ho I.free fun z => (hch _ z).2.1 rfl
  exact I.step (ch := ch) hch (fun b o hL hb hc e n => u.keep b o e n (fun z => (List.mem_cons.mp (I.stkSub b z)).elim hL hb) hc) (fun b o _ _ hc e n => u.any e n hc) (fun b o hc e n => u.free b o e n hc) (fun b o hc e => u.there b o e hc) u.tups u.frzs u.tbls (fun m' hm => by
    obtain ⟨o', es', ep', ho', r'⟩ := hm
    rw [ho] at ho'; cases ho'
    exact ⟨_, es', ep', hL, r'⟩) hok hg
theorem Inv.turned {t' : Nat} {it : Addr} (I : Inv X pins σ H s) (k : ∀ b o, b ≠ it → s.heap.get? b = some o → h'.get? b = some o) (hn : H it = none) (hL : it ≠ X.env.locals)
    (h1 : it ∈ X.ex ∨ X.s₀.heap.objs.size ≤ it) (h2 : ∀ x c, X.env.cells.lookup x = some c → c ≠ it) (h3 : ∀ p ∈ X.pn ++ pins, p.1 ≠ it) : Inv X pins σ H { s with heap := h', toks := t' } := by
  have nit : ∀ b u, H b = some u → b ≠ it := fun b u e z => by rw [z, hn] at e; cases e
  refine I.step (g' := s.gens) (d' := s.drawn) (ch := [it]) (fun b hb => ?_) (fun b o _ _ hc e _ => k b o (fun z => hc (by simp [z])) e) (fun b o _ _ hc e _ => ⟨o.slots, k b o (fun z => hc (by simp [z])) e⟩) (fun _ _ _ _ n => n)
    (fun b o hc e => ⟨o, k b o (fun z => hc (by simp [z])) e⟩) (fun _ _ e => e) (fun _ _ _ e => e) (fun b ps e => ⟨#[], by rw [e]; simp⟩) (fun m hm => ?_) (fun b u e => ?_) I.bare
  · have e : b = it := by simpa using hb
    subst e
    exact ⟨h1, hL, h2, h3⟩
  · obtain ⟨o, es, ep, ho, r⟩ := hm
    exact ⟨o, es, ep, k _ o (Ne.symm hL) ho, r⟩
  · refine (I.hok b u e).stay (fun c v hc q => k c v ?_ q) (fun _ q => q) fun _ _ q => q
    rcases hc with z | z
    · rw [z]; exact nit b u e
    · exact nit c _ z
theorem Inv.tok (I : Inv X pins σ H s) (t : Nat) : Inv X pins σ H { s with toks := t } := I.un (h' := s.heap) (t' := t) Un.refl I.hok
theorem Inv.kept {t' : Nat} (I : Inv X pins σ H s) (k : ∀ b u, s.heap.get? b = some u → h'.get? b = some u) : Inv X pins σ H { s with heap := h', toks := t' } := I.un (Un.kept k) (I.hok.kept k)
theorem Inv.laid {a : Addr} {o : HO} {t' : Nat} (I : Inv X pins σ H s) (k : ∀ b u, s.heap.get? b = some u → h'.get? b = some u) (hp : s.heap.objs.size ≤ a) (new : ObjOk X.prog X.w (upd H a o) h' a o) :
    Inv X pins σ (upd H a o) { s with heap := h', toks := t' } := I.un (Un.laid k hp (I.hok.fresh hp)) (I.hok.laid k hp new)
theorem Inv.write {x e : Addr} {o : HO} {t' : Nat} (I : Inv X pins σ H s) (mu : Mut (H x)) (he : e = x ∨ H e = some (.own x)) (k : ∀ b u, b ≠ e → s.heap.get? b = some u → h'.get? b = some u) (heo : ∃ u, h'.get? e = some u)
    (new : ObjOk X.prog X.w (upd H x o) h' x o) : Inv X pins σ (upd H x o) { s with heap := h', toks := t' } := I.un (Un.write mu he k heo) (I.hok.write mu he k heo new)
theorem Inv.pins_of {pins' : List (Addr × Obj)} (I : Inv X pins σ H s) (h : ∀ p ∈ pins', s.heap.get? p.1 = some p.2 ∧ H p.1 = none ∧ p.1 ≠ X.env.locals ∧ p.1 ∉ X.fs ∧ ∀ v, p.2.data ≠ .cell v) : Inv X pins' σ H s :=
  ⟨I.ok, I.os, I.bare, I.base, I.loc, I.cell, I.free, I.freeC, fun p hp => (List.mem_append.mp hp).elim (fun z => I.pin p (List.mem_append_left _ z)) (h p), I.hok, I.len⟩
theorem nodup_ix {N : List Str} (hN : N.Nodup) {i j : Nat} {x : Str} (a : N[i]? = some x) (b : N[j]? = some x) : i = j := by
  obtain ⟨h1, e1⟩ := List.getElem?_eq_some_iff.mp a
  obtain ⟨h2, e2⟩ := List.getElem?_eq_some_iff.mp b
  exact (List.getElem_inj hN).mp (e1.trans e2.symm)
theorem store_ok2 {M : Model} {A : Around} {E : Value → Shared → Prop} {i : Nat} {x : Str} {v : V} {u : Value} {Q : Unit → Shared → Prop} (I : Inv X pins σ H s) (hN : X.N.Nodup) (hi : X.N[i]? = some x) (hx : Loc X.env.scope x) (r : RelV v u)
    (h : ∀ s', Inv X pins (σ.set i (some v)) H s' → (∃ a, Heap.SameBut a s.heap s'.heap ∧ (a = X.env.locals ∨ X.env.cells.lookup x = some a)) → Q () s') (hf : X.fn x = true ∨ X.env.scope.names.lookup x = some .local := by first | exact .inl rfl | exact .inr rfl | assumption) : wpAny M A (storeName X.env x u) Q E s := by
  obtain ⟨m, hn, hl⟩ := id I.loc
  have hcls : (X.env.scope.kind == .class || (X.env.scope.kind == .module && X.env.locals != X.env.globals)) = false := by rw [I.ok.kind]; rfl
  have hiσ : i < σ.length := by rw [I.len]; exact (List.getElem?_eq_some_iff.mp hi).1
  have cne := I.cne
  have tracked : ∀ {a : Addr} {h' : Heap}, (∃ o, s.heap.get? a = some o ∧ H a = none) → Heap.SameBut a s.heap h' → HOk X.prog X.w H h' := fun {a h'} ha hs b ob e => by
    obtain ⟨_, _, hfree⟩ := ha
    refine (I.hok b ob e).stay (fun c w' hc q => (hs.2 c ?_).trans q) (fun _ q => q) fun _ _ q => q
    rintro rfl
    rcases hc with rfl | hc
    · rw [hfree] at e; cases e
    · rw [hfree] at hc; cases hc
  rcases hx with hk | hk
  · refine wpAny_storeName_local hk hn (fun h' hn' hs => ?_) hcls
    obtain ⟨oL, _, _, hoL, _⟩ := id hn
    refine h _ ⟨I.ok, I.os, I.bare, ⟨fun b o e n hb hx => ?_, fun b o e n hb hx => ?_, I.base.free, fun b o e hx => ?_, I.base.tups, I.base.frzs, I.base.tbls⟩, ⟨_, hn', fun j y v' e1 e2 e3 => ?_⟩, fun y c e => ?_, I.free, I.freeC, fun p hp => ?_, tracked ⟨oL, hoL, I.free⟩ hs, by simpa using I.len⟩ ⟨_, hs, .inl rfl⟩
    · exact (hs.2 b (Nat.ne_of_lt (Nat.lt_of_lt_of_le (Heap.lt_size e) I.ok.above))).trans (I.base.keep b o e n hb hx)
    · obtain ⟨sl, e1⟩ := I.base.slot b o e n hb hx
      exact ⟨sl, (hs.2 b (Nat.ne_of_lt (Nat.lt_of_lt_of_le (Heap.lt_size e) I.ok.above))).trans e1⟩
    · obtain ⟨o', e1⟩ := I.base.there b o e hx
      exact ⟨o', (hs.2 b (Nat.ne_of_lt (Nat.lt_of_lt_of_le (Heap.lt_size e) I.ok.above))).trans e1⟩
    · by_cases hj : j = i
      · subst hj
        rw [hi] at e1; cases e1
        rw [List.getElem?_set_self hiσ] at e2
        cases e2
        exact ⟨u, r, .inl ⟨hk, by simp⟩⟩
      · rw [List.getElem?_set_ne (Ne.symm hj)] at e2
        obtain ⟨u', r', q⟩ := hl j y v' e1 e2 e3
        refine ⟨u', r', ?_⟩
        rcases q with ⟨k, e⟩ | ⟨k, c, e, z⟩
        · refine .inl ⟨k, ?_⟩
          have : y ≠ x := fun e => hj (nodup_ix hN e1 (e ▸ hi))
          simp [this, e]
        · exact .inr ⟨k, c, e, z.sameBut hs (cne y c e)⟩
    · obtain ⟨w', z⟩ := I.cell y c e
      exact ⟨w', z.sameBut hs (cne y c e)⟩
    · obtain ⟨e, n, ne, nf, d⟩ := I.pin p hp
      exact ⟨(hs.2 p.1 ne).trans e, n, ne, nf, d⟩
  · have hfn : X.fn x = true := by
      rcases hf with z | z
      · exact z
      · rw [z] at hk; cases hk
    obtain ⟨c, hc⟩ := I.ok.has x (.inl hk)
    obtain ⟨w', z⟩ := I.cell x c hc
    refine wpAny_storeName_cell I.ok.kind hk hc z (fun h' hc' hs => ?_)
    obtain ⟨oc, hoc, hocd⟩ := id z
    refine h { s with heap := h' } ⟨I.ok, I.os, I.bare, ⟨fun b o e n hb hx => ?_, fun b o e n hb hx => ?_, I.base.free, fun b o e hx => ?_, I.base.tups, I.base.frzs, I.base.tbls⟩, ⟨m, hn.sameBut hs (Ne.symm (cne x c hc)), fun j y v' e1 e2 e3 => ?_⟩, fun y c' e => ?_, I.free, I.freeC, fun p hp => ?_, tracked ⟨oc, hoc, I.freeC x c hc⟩ hs, by simpa using I.len⟩ ⟨c, hs, .inr hc⟩
    · exact (hs.2 b (Nat.ne_of_lt (Nat.lt_of_lt_of_le (Heap.lt_size e) (I.ok.cab x c hfn hc)))).trans (I.base.keep b o e n hb hx)
    · obtain ⟨sl, e1⟩ := I.base.slot b o e n hb hx
      exact ⟨sl, (hs.2 b (Nat.ne_of_lt (Nat.lt_of_lt_of_le (Heap.lt_size e) (I.ok.cab x c hfn hc)))).trans e1⟩
    · obtain ⟨o', e1⟩ := I.base.there b o e hx
      exact ⟨o', (hs.2 b (Nat.ne_of_lt (Nat.lt_of_lt_of_le (Heap.lt_size e) (I.ok.cab x c hfn hc)))).trans e1⟩
    · by_cases hj : j = i
      · subst hj
        rw [hi] at e1; cases e1
        rw [List.getElem?_set_self hiσ] at e2
        cases e2
        exact ⟨u, r, .inr ⟨.inl hk, c, hc, hc'⟩⟩
      · rw [List.getElem?_set_ne (Ne.symm hj)] at e2
        obtain ⟨u', r', q⟩ := hl j y v' e1 e2 e3
        refine ⟨u', r', ?_⟩
        rcases q with q | ⟨k, c', e, z'⟩
        · exact .inl q
        · refine .inr ⟨k, c', e, z'.sameBut hs ?_⟩
          rintro rfl
          exact hj (nodup_ix hN e1 (I.ok.inj _ _ _ e hc ▸ hi))
    · by_cases hcc : c' = c
      · subst hcc; exact ⟨_, hc'⟩
      · obtain ⟨w2, z2⟩ := I.cell y c' e
        exact ⟨w2, z2.sameBut hs hcc⟩
    · obtain ⟨e, n, ne, nf, d⟩ := I.pin p hp
      refine ⟨(hs.2 p.1 ?_).trans e, n, ne, nf, d⟩
      intro q
      rw [q, hoc] at e
      have q' : oc = p.2 := Option.some.inj e
      exact d w' (by rw [← q']; exact hocd)
theorem store_ok {M : Model} {A : Around} {E : Value → Shared → Prop} {i : Nat} {x : Str} {v : V} {u : Value} {Q : Unit → Shared → Prop} (I : Inv X pins σ H s) (hN : X.N.Nodup) (hi : X.N[i]? = some x) (hx : Loc X.env.scope x) (r : RelV v u)
    (h : ∀ s', Inv X pins (σ.set i (some v)) H s' → Q () s') (hf : X.fn x = true ∨ X.env.scope.names.lookup x = some .local := by first | exact .inl rfl | exact .inr rfl | assumption) : wpAny M A (storeName X.env x u) Q E s :=
  store_ok2 I hN hi hx r (fun s' I' _ => h s' I') hf
theorem Inv.call' {s' : Shared} {ch : List Addr} (I : Inv X pins σ H s) (ho : s'.os = s.os) (u : Un (frs X.stack) ch H H' s.heap s'.heap) (hok : HOk X.prog X.w H' s'.heap) (hg : AllBare s'.gens)
    (hch : ∀ b ∈ ch, (b ∈ X.ex ∨ X.s₀.heap.objs.size ≤ b) ∧ b ≠ X.env.locals ∧ (∀ x c, X.env.cells.lookup x = some c → c ≠ b) ∧ ∀ p ∈ X.pn ++ pins, p.1 ≠ b) : Inv X pins σ H' s' := by
  obtain ⟨h', g', d', t', o'⟩ := s'
  have e : o' = s.os := ho
  subst e
  exact I.call (g' := g') (t' := t') (d' := d') u hok hg hch
end
abbrev XK := Value → Option Addr → Hp → Prop
abbrev St := List (Option V)
abbrev VK := V → Hp → Prop
abbrev TE := St → Hp → VK → Prop
abbrev TT := St → Hp → (Bool → Hp → Prop) → Prop
abbrev TA := St → Hp → (List V → Hp → Prop) → Prop
structure Ends where
  nx : St → Hp → Prop
  rt : VK
  bk : St → Hp → Prop := fun _ _ => False
  ct : St → Hp → Prop := fun _ _ => False
abbrev TS := Ends → St → Hp → Prop
def EP (X : Cx) (pins : List (Addr × Obj)) (σ : St) (Q : VK) (u : Value) (s' : Shared) : Prop := ∃ v H', Inv X pins σ H' s' ∧ RelV v u ∧ Q v H'
def TP (X : Cx) (pins : List (Addr × Obj)) (σ : St) (Q : Bool → Hp → Prop) (b : Bool) (s' : Shared) : Prop := ∃ H', Inv X pins σ H' s' ∧ Q b H'
def AP (X : Cx) (pins : List (Addr × Obj)) (σ : St) (Q : List V → Hp → Prop) (us : List Value) (s' : Shared) : Prop := ∃ vs H', Inv X pins σ H' s' ∧ Vals vs us ∧ Q vs H'
def SP (X : Cx) (pins : List (Addr × Obj)) (D : Ends) (f : Flow) (s' : Shared) : Prop :=
  match f with
  | .next => ∃ σ' H', Inv X pins σ' H' s' ∧ D.nx σ' H'
  | .brk => ∃ σ' H', Inv X pins σ' H' s' ∧ D.bk σ' H'
  | .cont => ∃ σ' H', Inv X pins σ' H' s' ∧ D.ct σ' H'
  | .ret u => ∃ v σ' H', Inv X pins σ' H' s' ∧ RelV v u ∧ D.rt v H'
def PE (X : Cx) (e : Expr) (t : TE) : Prop :=
  ∀ (pins : List (Addr × Obj)) (s : Shared) (σ : St) (H : Hp) (Q : VK), Inv X pins σ H s → t σ H Q → wpAny (model X.prog X.w) X.A (eval e X.env) (EP X pins σ Q) X.xe s
def PT (X : Cx) (e : Expr) (t : TT) : Prop :=
  ∀ (pins : List (Addr × Obj)) (s : Shared) (σ : St) (H : Hp) (Q : Bool → Hp → Prop), Inv X pins σ H s → t σ H Q → wpAny (model X.prog X.w) X.A (isTrue e X.env (eval e X.env)) (TP X pins σ Q) X.xe s
def PW (X : Cx) (e : Expr) (t : TT) : Prop :=
  ∀ (whole : Sem Value) (pins : List (Addr × Obj)) (s : Shared) (σ : St) (H : Hp) (Q : Bool → Hp → Prop), Inv X pins σ H s → t σ H Q → wpAny (model X.prog X.w) X.A (isTrue e X.env whole) (TP X pins σ Q) X.xe s
theorem PW.pt {X : Cx} {e : Expr} {t : TT} (h : PW X e t) : PT X e t := h _
def PA (X : Cx) (es : List Expr) (t : TA) : Prop :=
  ∀ (pos : Pos) (pins : List (Addr × Obj)) (s : Shared) (σ : St) (H : Hp) (Q : List V → Hp → Prop), Inv X pins σ H s → t σ H Q → wpAny (model X.prog X.w) X.A (spliced (backTo pos (starEach es X.env))) (AP X pins σ Q) X.xe s
def PS (X : Cx) (st : Stmt) (t : TS) : Prop :=
  ∀ (pins : List (Addr × Obj)) (s : Shared) (σ : St) (H : Hp) (D : Ends), Inv X pins σ H s → t D σ H → wpAny (model X.prog X.w) X.A (exec st X.env) (SP X pins D) X.xe s
def PSs (X : Cx) (st : List Stmt) (t : TS) : Prop :=
  ∀ (pins : List (Addr × Obj)) (s : Shared) (σ : St) (H : Hp) (D : Ends), Inv X pins σ H s → t D σ H → wpAny (model X.prog X.w) X.A (execs st X.env) (SP X pins D) X.xe s
theorem thn {α : Type} {t : Sem α} {Q Q' : α → Shared → Prop} {M : Model} {A : Around} {E : Value → Shared → Prop} {s : Shared} (h : wpAny M A t Q E s) (hQ : ∀ a s, Q a s → Q' a s) : wpAny M A t Q' E s := wpAny_mono h hQ fun _ _ x => x
end L2
namespace L2
open PySem PySem.Spec PyProof.Rows
section
variable {X : Cx}
def tVar (i : Nat) : TE := fun σ H Q => ∃ v, σ[i]? = some (some v) ∧ Q v H
def tC (v : V) : TE := fun _ H Q => Q v H
theorem pe_var {i : Nat} {x : Str} {pos : Pos} (hN : X.N[i]? = some x) (hv : Vis X.env.scope x) (hd : (x == ("__debug__" : Str)) = false := by decide) (hcd : (x == ("__classdict__" : Str)) = false := by decide) : PE X (.Name x pos) (tVar i) := by
  intro pins s σ H Q I h
  obtain ⟨v, e, h⟩ := h
  obtain ⟨m, hn, hl⟩ := I.loc
  obtain ⟨u, r, l⟩ := hl i x v hN e hv
  have fin : EP X pins σ Q u s := ⟨v, H, I, r, h⟩
  rcases l with ⟨hk, hm⟩ | ⟨hk, c, hc, hcell⟩
  · exact wpAny_Name (wpAny_loadName_local I.ok.kind hk hn hm fin) hd
  · rcases hk with hk | hk
    · exact wpAny_Name (wpAny_loadName_cell I.ok.kind hk hc hcell fin) hd
    · exact wpAny_Name (wpAny_loadName_free I.ok.kind hk hc hcell fin hcd) hd
theorem pe_int {i j pos} : PE X (.Constant (.int i) j pos) (tC (.int i)) := fun _ _ _ H _ I h => wpAny_Constant_int ⟨.int i, H, I.tok _, ⟨_, rfl⟩, h⟩
theorem pe_bl {b j pos} : PE X (.Constant (.bool b) j pos) (tC (.bl b)) := fun _ _ _ H _ I h => Constant_bool ⟨.bl b, H, I, rfl, h⟩
theorem pe_non {j pos} : PE X (.Constant .none j pos) (tC .non) := fun _ _ _ H _ I h => Constant_none ⟨.non, H, I, rfl, h⟩
theorem pe_str {x j pos} : PE X (.Constant (.str x) j pos) (tC (.str x)) := fun _ _ _ H _ I h => Calls.Constant_str ⟨.str x, H, I.tok _, ⟨_, rfl⟩, h⟩
def Gl (X : Cx) (x : Str) : Prop := X.env.kindOf x = some .globalImplicit
theorem ld_glob {E : Value → Shared → Prop} {pins : List (Addr × Obj)} {s : Shared} {σ : St} {H : Hp} {x : Str} {u : Value} {pos : Pos} {Q : Value → Shared → Prop} (I : Inv X pins σ H s) (hg : Gl X x) (hm : X.mg x = some u) (h : Q u s)
    (hd : (x == ("__debug__" : Str)) = false := by decide) : wpAny (model X.prog X.w) X.A (eval (.Name x pos) X.env) Q E s :=
  Calls.Name_function_global I.ok.kind hg (Calls.loadGlobal_global (by rw [I.ok.glob]; exact I.mod.glob.keeps I.bk) hm h) hd
theorem ld_blt {E : Value → Shared → Prop} {pins : List (Addr × Obj)} {s : Shared} {σ : St} {H : Hp} {x : Str} {u : Value} {pos : Pos} {Q : Value → Shared → Prop} (I : Inv X pins σ H s) (hg : Gl X x) (hm : X.mg x = none) (hv : bootBuiltins x = some u) (h : Q u s)
    (hn : x ≠ "__name__" := by decide) (hd : (x == ("__debug__" : Str)) = false := by decide) : wpAny (model X.prog X.w) X.A (eval (.Name x pos) X.env) Q E s := by
  obtain ⟨mb, h1, h2⟩ := I.mod.blt
  exact Calls.Name_function_global I.ok.kind hg (Calls.loadGlobal_builtin (by rw [I.ok.glob]; exact I.mod.glob.keeps I.bk) hm (by rw [I.ok.blt]; exact h1.keeps I.bk) ((h2 x hn).trans hv) h) hd
theorem pe_glob {x : Str} {v : V} {u : Value} {pos : Pos} (hg : Gl X x) (hm : X.mg x = some u) (r : RelV v u) (hd : (x == ("__debug__" : Str)) = false := by decide) : PE X (.Name x pos) (tC v) :=
  fun _ _ _ H _ I h => ld_glob I hg hm ⟨v, H, I, r, h⟩ hd
theorem pe_bltn {x : Str} {v : V} {u : Value} {pos : Pos} (hg : Gl X x) (hm : X.mg x = none) (hv : bootBuiltins x = some u) (r : RelV v u) (hn : x ≠ "__name__" := by decide) (hd : (x == ("__debug__" : Str)) = false := by decide) : PE X (.Name x pos) (tC v) :=
  fun _ _ _ H _ I h => ld_blt I hg hm hv ⟨v, H, I, r, h⟩ hn hd
variable {a b : Expr} {ta tb : TE} {pos : Pos}
def PC (X : Cx) (op : CmpOp) (a b : Expr) (t : TE) : Prop :=
  ∀ (pins : List (Addr × Obj)) (s : Shared) (σ : St) (H : Hp) (Q : VK), Inv X pins σ H s → t σ H Q →
    wpAny (model X.prog X.w) X.A (eval a X.env) (fun v s₁ => wpAny (model X.prog X.w) X.A (eval b X.env) (fun u s₂ => wpAny (model X.prog X.w) X.A (compareOp op v u) (EP X pins σ Q) X.xe s₂) X.xe s₁) X.xe s
theorem nobehind (b : Expr) {op : CmpOp} (h : op ≠ .In) (h2 : op ≠ .NotIn) : behindInMarks op b = false := by
  have e1 : (op == CmpOp.In) = false := by cases op <;> first | rfl | exact absurd rfl h
  have e2 : (op == CmpOp.NotIn) = false := by cases op <;> first | rfl | exact absurd rfl h2
  cases b <;> simp [behindInMarks, e1, e2]
def tIsN (ta : TE) : TE := fun σ H Q => ta σ H fun x H1 => Q (.bl (decide (x = .non))) H1
theorem RelV.none_iff {x : V} {v : Value} (r : RelV x v) : (v == Value.none) = decide (x = .non) := by
  cases x with
  | non => cases r; rfl
  | bl _ => cases r; rfl
  | int _ => obtain ⟨t, rfl⟩ := r; rfl
  | str _ => obtain ⟨t, rfl⟩ := r; rfl
  | byt _ => obtain ⟨t, rfl⟩ := r; rfl
  | flt _ => obtain ⟨t, rfl⟩ := r; rfl
  | ref _ => cases r; rfl
  | ty _ => cases r; rfl
theorem pc_isN {j pos'} (ha : PE X a ta) : PC X .Is a (.Constant .none j pos') (tIsN ta) := by
  intro pins s σ H Q I h
  refine thn (ha pins s σ H _ I h) fun v s1 ⟨x, H1, I1, r1, q1⟩ => ?_
  exact Constant_none (is_none_gen ⟨.bl _, H1, I1, by rw [r1.none_iff]; rfl, q1⟩)
def tB (t : TE) : TT := fun σ H Q => t σ H fun x H1 => ∃ c, x = .bl c ∧ Q c H1
theorem pt_cmp {op : CmpOp} {t : TE} (h : PC X op a b t) (h1 : behindInMarks op b = false := by first | exact nobehind _ (by decide) (by decide) | rfl) : PT X (.Compare a [op] [b] pos) (tB t) := by
  intro pins s σ H Q I hw
  refine wpAny_isTrue_Compare1 (thn (h pins s σ H _ I hw) fun v s1 h1 => thn h1 fun u s2 h2 => thn h2 fun c s3 ⟨x, H1, I1, r1, q1⟩ => ?_) h1
  obtain ⟨d, rfl, q⟩ := q1
  cases r1
  exact wpAny_truthy_bool ⟨H1, I1, q⟩
theorem pt_val {e : Expr} {t : TE} (h : PE X e t) (he : ∀ whole, isTrue e X.env whole = (do let v ← whole; standAt e.pos; holding [v] (truthy v)) := by intro _; rfl) : PT X e (tB t) := by
  intro pins s σ H Q I hw
  refine isTrue_plain (thn (h pins s σ H _ I hw) fun v s1 ⟨x, H1, I1, r1, q1⟩ => ?_) (he _)
  obtain ⟨d, rfl, q⟩ := q1
  cases r1
  exact wpAny_truthy_bool ⟨H1, I1, q⟩
variable {tA tB' : TT} {rest : List Expr}
def tAnd (t u : TT) : TT := fun σ H Q => t σ H fun c H1 => if c = true then u σ H1 Q else Q false H1
def tOr (t u : TT) : TT := fun σ H Q => t σ H fun c H1 => if c = true then Q true H1 else u σ H1 Q
def tNot (t : TT) : TT := fun σ H Q => t σ H fun c H1 => Q (!c) H1
theorem pw_and1 (ha : PT X a tA) : PW X (.BoolOp .And [a] pos) tA := by
  intro wh pins s σ H Q I h
  refine isTrue_and (thn (ha pins s σ H Q I h) fun c s1 e => ?_)
  cases c with
  | true => exact isTrue_and_nil e
  | false => exact e
theorem pw_or1 (ha : PT X a tA) : PW X (.BoolOp .Or [a] pos) tA := by
  intro wh pins s σ H Q I h
  refine isTrue_or (thn (ha pins s σ H Q I h) fun c s1 e => ?_)
  cases c with
  | false => exact isTrue_or_nil e
  | true => exact e
theorem pw_and (ha : PT X a tA) (hb : PW X (.BoolOp .And (b :: rest) pos) tB') : PW X (.BoolOp .And (a :: b :: rest) pos) (tAnd tA tB') := by
  intro wh pins s σ H Q I h
  refine isTrue_and (thn (ha pins s σ H _ I h) fun c s1 ⟨H1, I1, q1⟩ => ?_)
  cases c with
  | true => exact hb wh pins s1 σ H1 Q I1 q1
  | false => exact ⟨H1, I1, q1⟩
theorem pw_or (ha : PT X a tA) (hb : PW X (.BoolOp .Or (b :: rest) pos) tB') : PW X (.BoolOp .Or (a :: b :: rest) pos) (tOr tA tB') := by
  intro wh pins s σ H Q I h
  refine isTrue_or (thn (ha pins s σ H _ I h) fun c s1 ⟨H1, I1, q1⟩ => ?_)
  cases c with
  | true => exact ⟨H1, I1, q1⟩
  | false => exact hb wh pins s1 σ H1 Q I1 q1
theorem pt_not (ha : PT X a tA) : PT X (.UnaryOp .Not a pos) (tNot tA) := by
  intro pins s σ H Q I h
  exact isTrue_not (ha pins s σ H (fun c H1 => Q (!c) H1) I h)
def tAndV (ta tb : TE) : TE := fun σ H Q => ta σ H fun x H1 => ∃ c, x = .bl c ∧ if c = true then tb σ H1 Q else Q (.bl false) H1
theorem pe_one {op} {t : TE} (h : PE X a t) : PE X (.BoolOp op [a] pos) t := fun pins s σ H Q I hw => BoolOp_one (h pins s σ H Q I hw)
theorem pe_and (ha : PE X a ta) (hb : PE X (.BoolOp .And (b :: rest) pos) tb) : PE X (.BoolOp .And (a :: b :: rest) pos) (tAndV ta tb) := by
  intro pins s σ H Q I h
  refine BoolOp_and (thn (ha pins s σ H _ I h) fun v s1 ⟨x, H1, I1, r1, q1⟩ => ?_)
  obtain ⟨c, rfl, q1⟩ := q1
  cases r1
  refine wpAny_truthy_bool ?_
  cases c with
  | true => exact hb pins s1 σ H1 Q I1 q1
  | false => exact ⟨.bl false, H1, I1, rfl, q1⟩
end
end L2
namespace L2
open PySem PySem.Spec PyProof.Rows
def SqL (K : PySem.W.Frag) (H : Hp) (a : Addr) (xs : List V) : Prop :=
  Rd H a (.lst xs) ∨
    ∃ (o : Obj) (its : Array Value) (n : Nat), K.lookup a = some o ∧ o.cls = .type "list" ∧ o.dict = none ∧ o.data = .seq its n ∧ its.size ≤ sizeLine ∧ Vals xs its.toList
def SqT (K : PySem.W.Frag) (H : Hp) (a : Addr) (xs : List V) : Prop :=
  Rd H a (.tup xs) ∨
    ∃ (o : Obj) (its : Array Value) (n : Nat), K.lookup a = some o ∧ o.cls = .type "tuple" ∧ o.data = .seq its n ∧ its.size ≤ sizeLine ∧ Vals xs its.toList
def absV : Value → Option V
  | .none => some .non
  | .bool b => some (.bl b)
  | .int i _ => some (.int i)
  | .str x _ => some (.str x)
  | .bytes b _ => some (.byt b)
  | .float b _ => some (.flt b)
  | .ref a => some (.ref a)
  | .type n => some (.ty n)
  | _ => none
theorem RelV.abs {x : V} {u : Value} (r : RelV x u) : absV u = some x := by
  cases x with
  | non => cases r; rfl
  | bl _ => cases r; rfl
  | int _ => obtain ⟨t, rfl⟩ := r; rfl
  | str _ => obtain ⟨t, rfl⟩ := r; rfl
  | byt _ => obtain ⟨t, rfl⟩ := r; rfl
  | flt _ => obtain ⟨t, rfl⟩ := r; rfl
  | ref _ => cases r; rfl
  | ty _ => cases r; rfl
theorem RelV.inj {x y : V} {u : Value} (r : RelV x u) (q : RelV y u) : x = y := Option.some.inj (r.abs.symm.trans q.abs)
theorem Vals.inj : ∀ {xs ys : List V} {us : List Value}, Vals xs us → Vals ys us → xs = ys
  | _, _, _, .nil, .nil => rfl
  | _, _, _, .cons r t, .cons r' t' => by rw [r.inj r', Vals.inj t t']
section
variable {X : Cx} {pins : List (Addr × Obj)} {σ : St} {H : Hp} {s : Shared} {a : Addr} {xs ys : List V}
theorem SqL.of {K : PySem.W.Frag} (h : H a = some (.lst xs)) : SqL K H a xs := .inl (.inl h)
theorem SqT.of {K : PySem.W.Frag} (h : H a = some (.tup xs)) : SqT K H a xs := .inl (.inl h)
theorem Inv.list (I : Inv X pins σ H s) (h : SqL X.K H a xs) : ∃ its : List Value, Vals xs its ∧ PlainL s.heap a its.toArray ∧ xs.length ≤ sizeLine := by
  rcases h with h | ⟨o, its, n, hk, hc, hd, hs, hz, r⟩
  · obtain ⟨z, its, n, r, e⟩ := h.ok I.hok
    exact ⟨its, r, ⟨_, n, e, rfl, rfl, rfl⟩, z⟩
  · refine ⟨its.toList, r, ⟨o, n, I.kIn a o hk, hc, hd, by simpa using hs⟩, ?_⟩
    have e := r.length
    simp only [Array.length_toList] at e
    omega
theorem Inv.tuple (I : Inv X pins σ H s) (h : SqT X.K H a xs) : ∃ its : List Value, Vals xs its ∧ IsTup s.heap a its.toArray ∧ xs.length ≤ sizeLine := by
  rcases h with h | ⟨o, its, n, hk, hc, hs, hz, r⟩
  · obtain ⟨z, its, r, p⟩ := h.ok I.hok
    exact ⟨its, r, p, z⟩
  · refine ⟨its.toList, r, ⟨o, I.kIn a o hk, hc, n, by simpa using hs⟩, ?_⟩
    have e := r.length
    simp only [Array.length_toList] at e
    omega
theorem Inv.list_inj (I : Inv X pins σ H s) (h : SqL X.K H a xs) (h' : SqL X.K H a ys) : xs = ys := by
  obtain ⟨its, r, ⟨o, n, e, _, _, d⟩, _⟩ := I.list h
  obtain ⟨its', r', ⟨o', n', e', _, _, d'⟩, _⟩ := I.list h'
  rw [e] at e'; cases e'
  rw [d] at d'
  injection d' with d1 _
  have : its = its' := by simpa using congrArg Array.toList d1
  subst this
  exact r.inj r'
theorem Inv.tuple_inj (I : Inv X pins σ H s) (h : SqT X.K H a xs) (h' : SqT X.K H a ys) : xs = ys := by
  obtain ⟨its, r, ⟨o, e, _, n, d⟩, _⟩ := I.tuple h
  obtain ⟨its', r', ⟨o', e', _, n', d'⟩, _⟩ := I.tuple h'
  rw [e] at e'; cases e'
  rw [d] at d'
  injection d' with d1 _
  have : its = its' := by simpa using congrArg Array.toList d1
  subst this
  exact r.inj r'
end
abbrev Cx.wish (X : Cx) (E : Value → Shared → Prop) : Cx := { X with xe := E }
abbrev Cx.nox (X : Cx) : Cx := X.wish fun _ _ => False
theorem Cx.Ok.wish {X : Cx} (ok : X.Ok) (E : Value → Shared → Prop) : (X.wish E).Ok :=
  ⟨ok.mod, ok.kind, ok.glob, ok.blt, ok.above, ok.inj, ok.has, ok.cab, ok.hd, ok.frames, ok.stk, ok.exf, ok.bs, ok.bsz, ok.noex, ok.exfs, ok.funs, ok.frf⟩
theorem Cx.Ok.unwish {X : Cx} {E : Value → Shared → Prop} (ok : (X.wish E).Ok) : X.Ok :=
  ⟨ok.mod, ok.kind, ok.glob, ok.blt, ok.above, ok.inj, ok.has, ok.cab, ok.hd, ok.frames, ok.stk, ok.exf, ok.bs, ok.bsz, ok.noex, ok.exfs, ok.funs, ok.frf⟩
section
variable {X : Cx} {pins : List (Addr × Obj)} {σ : St} {H : Hp} {s : Shared} {E : Value → Shared → Prop}
theorem Inv.wish (I : Inv X pins σ H s) (E : Value → Shared → Prop) : Inv (X.wish E) pins σ H s := ⟨I.ok.wish E, I.os, I.bare, I.base, I.loc, I.cell, I.free, I.freeC, I.pin, I.hok, I.len⟩
theorem Inv.unwish (I : Inv (X.wish E) pins σ H s) : Inv X pins σ H s := ⟨I.ok.unwish, I.os, I.bare, I.base, I.loc, I.cell, I.free, I.freeC, I.pin, I.hok, I.len⟩
theorem SP.unwish {D : Ends} {f : Flow} {s' : Shared} (h : SP (X.wish E) pins D f s') : SP X pins D f s' := by
  cases f with
  | next => obtain ⟨σ', H', I, q⟩ := h; exact ⟨σ', H', I.unwish, q⟩
  | brk => obtain ⟨σ', H', I, q⟩ := h; exact ⟨σ', H', I.unwish, q⟩
  | cont => obtain ⟨σ', H', I, q⟩ := h; exact ⟨σ', H', I.unwish, q⟩
  | ret u => obtain ⟨v, σ', H', I, r, q⟩ := h; exact ⟨v, σ', H', I.unwish, r, q⟩
theorem PSs.nox {st : List Stmt} {t : TS} (h : PSs X.nox st t) : PSs X st t := fun pins s σ H D I hw =>
  wpAny_mono (h pins s σ H D (I.wish _) hw) (fun _ _ q => q.unwish) fun _ _ z => False.elim z
end
section
variable {X : Cx} {st : Stmt} {rest : List Stmt} {t u : TS} {e : Expr} {te : TE} {pos : Pos}
def tNext : TS := fun D σ H => D.nx σ H
def tSeq (t u : TS) : TS := fun D σ H => t { D with nx := u D } σ H
theorem pss_nil : PSs X [] tNext := fun _ _ σ H _ I h => wpAny_execs_nil ⟨σ, H, I, h⟩
theorem pss_cons (h1 : PS X st t) (h2 : PSs X rest u) : PSs X (st :: rest) (tSeq t u) := by
  intro pins s σ H D I h
  refine wpAny_execs_cons (thn (h1 pins s σ H { D with nx := u D } I h) fun f s1 q => ?_)
  cases f with
  | next =>
    obtain ⟨σ', H', I', q⟩ := q
    exact h2 pins s1 σ' H' D I' q
  | ret v => exact q
  | brk => exact q
  | cont => exact q
theorem pss_one (h1 : PS X st t) : PSs X [st] t := by
  intro pins s σ H D I h
  refine wpAny_execs_cons (thn (h1 pins s σ H D I h) fun f s1 q => ?_)
  cases f with
  | next => exact wpAny_execs_nil q
  | ret v => exact q
  | brk => exact q
  | cont => exact q
theorem Inv.quiet {pins : List (Addr × Obj)} {σ : St} {H : Hp} {s : Shared} (I : Inv X pins σ H s) : interactive X.env = false := by simp [interactive, I.ok.kind]
def tDrop (te : TE) : TS := fun D σ H => te σ H fun _ H1 => D.nx σ H1
theorem ps_expr (he : PE X e te) (hs : swapsWith e none pos.line X.env = pure false := by rfl) : PS X (.Expr e pos) (tDrop te) := by
  intro pins s σ H D I h
  exact wpAny_Expr_any (thn (he pins s σ H _ I h) fun v s1 ⟨x, H1, I1, r1, q1⟩ => ⟨σ, H1, I1, q1⟩) I.quiet hs
def tRet (te : TE) : TS := fun D σ H => te σ H D.rt
theorem ps_ret (he : PE X e te) : PS X (.Return (some e) pos) (tRet te) := by
  intro pins s σ H D I h
  exact wpAny_Return_some (thn (he pins s σ H _ I h) fun v s1 ⟨x, H1, I1, r1, q1⟩ => ⟨x, σ, H1, I1, r1, q1⟩)
def tRetN : TS := fun D _ H => D.rt .non H
theorem ps_retN : PS X (.Return none pos) tRetN := fun _ _ σ H _ I h => wpAny_Return_none ⟨.non, σ, H, I, rfl, h⟩
def tIfS (c : TT) (t u : TS) : TS := fun D σ H => c σ H fun b H1 => if b = true then t D σ H1 else u D σ H1
theorem ps_if {c : Expr} {a b : List Stmt} {tc : TT} (hc : PT X c tc) (ha : PSs X a t) (hb : PSs X b u) : PS X (.If c a b pos) (tIfS tc t u) := by
  intro pins s σ H D I h
  refine wpAny_If (thn (hc pins s σ H _ I h) fun d s1 ⟨H1, I1, q1⟩ => ?_)
  cases d with
  | true => exact ha pins s1 σ H1 D I1 q1
  | false => exact hb pins s1 σ H1 D I1 q1
def tNever : TS := fun _ _ _ => False
theorem pss_never {sts : List Stmt} : PSs X sts tNever := fun _ _ _ _ _ _ h => h.elim
end
abbrev TG := V → St → Hp → (St → Hp → Prop) → Prop
def PG (X : Cx) (target : Expr) (t : TG) : Prop :=
  ∀ (pins : List (Addr × Obj)) (s : Shared) (σ : St) (H : Hp) (v : V) (u : Value) (Q : St → Hp → Prop), Inv X pins σ H s → RelV v u → t v σ H Q →
    wpAny (model X.prog X.w) X.A (assign target X.env u) (fun _ s' => ∃ σ' H', Inv X pins σ' H' s' ∧ Q σ' H') X.xe s
abbrev TSet := V → V → V → Hp → (Hp → Prop) → Prop
def PSet (X : Cx) (t : TSet) : Prop :=
  ∀ (pins : List (Addr × Obj)) (s : Shared) (σ : St) (H : Hp) (o i v : V) (ov iv u : Value) (Q : Hp → Prop), Inv X pins σ H s → RelV o ov → RelV i iv → RelV v u → t o i v H Q →
    wpAny (model X.prog X.w) X.A (setItem ov iv u) (fun _ s' => ∃ H', Inv X pins σ H' s' ∧ Q H') X.xe s
section
variable {X : Cx} {pos : Pos}
def gName (i : Nat) : TG := fun v σ H Q => Q (σ.set i (some v)) H
theorem pg_name {i : Nat} {x : Str} (hN : X.N.Nodup) (hi : X.N[i]? = some x) (hx : Loc X.env.scope x) (hf : X.fn x = true ∨ X.env.scope.names.lookup x = some .local := by first | exact .inl rfl | exact .inr rfl | assumption) : PG X (.Name x pos) (gName i) := by
  intro pins s σ H v u Q I r h
  exact wpAny_assign_Name (store_ok I hN hi hx r (fun s' I' => ⟨_, H, I', h⟩) hf)
def gSub (to ti : TE) (t : TSet) : TG := fun v σ H Q => to σ H fun o H1 => ti σ H1 fun i H2 => t o i v H2 fun H3 => Q σ H3
theorem pg_sub {o i : Expr} {to ti : TE} {t : TSet} (ho : PE X o to) (hi : PE X i ti) (hs : PSet X t)
    (ha : ∀ v, assign (.Subscript o i pos) X.env v = (do
      let ov ← holding [v] (eval o X.env)
      let iv ← holding [v, ov] (eval i X.env)
      standAt pos
      holding [v, ov, iv] (setItem ov iv v)
      release [v, ov, iv] []) := by intro _; rfl) : PG X (.Subscript o i pos) (gSub to ti t) := by
  intro pins s σ H v u Q I r h
  rw [ha]
  refine wpAny_bind (wpAny_holding (thn (ho pins s σ H _ I h) fun ov s1 ⟨x, H1, I1, r1, q1⟩ => ?_))
  refine wpAny_bind (wpAny_holding (thn (hi pins s1 σ H1 _ I1 q1) fun iv s2 ⟨y, H2, I2, r2, q2⟩ => ?_))
  refine wpAny_bind (wpAny_standAt (wpAny_bind (wpAny_holding (thn (hs pins s2 σ H2 x y v ov iv u _ I2 r1 r2 r q2) fun _ s3 ⟨H3, I3, q3⟩ => ?_))))
  exact wpAny_release ⟨σ, H3, I3, q3⟩
def tAsg (te : TE) (g : TG) : TS := fun D σ H => te σ H fun x H1 => g x σ H1 D.nx
theorem ps_asg {tg e : Expr} {te : TE} {g : TG} (he : PE X e te) (hg : PG X tg g) (hs : swapsWithSole [tg] e pos.line X.env = pure false := by rfl) (hw : swappedStores [tg] e X.env = pure none := by rfl)
    (h1 : (assignEach [tg] X.env).map (·.2) = [assign tg X.env] := by rfl) : PS X (.Assign [tg] e pos) (tAsg te g) := by
  intro pins s σ H D I h
  refine wpAny_Assign_stores (thn (he pins s σ H _ I h) fun v s1 ⟨x, H1, I1, r1, q1⟩ => ?_) hs hw
  rw [h1]
  exact thn (hg pins s1 σ H1 x v _ I1 r1 q1) fun _ s2 q => q
theorem ps_set {i : Nat} {x : Str} {e : Expr} {te : TE} {pos' : Pos} (hN : X.N.Nodup) (hi : X.N[i]? = some x) (hx : Loc X.env.scope x) (he : PE X e te) (hs : swapsWith e (some (.Name x pos')) pos.line X.env = pure false := by rfl) (hf : X.fn x = true ∨ X.env.scope.names.lookup x = some .local := by first | exact .inl rfl | exact .inr rfl | assumption) :
    PS X (.Assign [.Name x pos'] e pos) (tAsg te (gName i)) := by
  intro pins s σ H D I h
  refine wpAny_Assign_Name (thn (he pins s σ H _ I h) fun v s1 ⟨y, H1, I1, r1, q1⟩ => ?_) hs
  exact store_ok I1 hN hi hx r1 (fun s2 I2 => ⟨_, H1, I2, q1⟩) hf
end
section
variable {X : Cx} {pos : Pos}
def tWhile (c : TT) (tb : TS) : TS := fun D σ H => ∃ W : Nat → St → Hp → Prop, (∃ m, W m σ H) ∧ ∀ m σ H, W m σ H →
  c σ H fun b H1 => if b = true then ∃ N : St → Hp → Prop, (∀ σ' H', N σ' H' → ∃ m', m' < m ∧ W m' σ' H') ∧ tb { D with nx := N, ct := N, bk := D.nx } σ H1 else D.nx σ H1
theorem ps_while {c : Expr} {body : List Stmt} {tc : TT} {tb : TS} (hp : PassesOwn (model X.prog X.w) X.A X.env X.xe) (hc : PT X c tc) (hb : PSs X body tb) : PS X (.While c body [] pos) (tWhile tc tb) := by
  intro pins s σ H D I h
  obtain ⟨W, ⟨m0, w0⟩, turn⟩ := h
  refine wpAny_While (codeAny_whileLoop (fun n s' => ∃ σ' H', Inv X pins σ' H' s' ∧ W n σ' H') ?_ m0 ⟨σ, H, I, w0⟩)
  rintro n s1 ⟨σ1, H1, I1, w1⟩
  refine wpAny_passesOwn hp (thn (hc pins s1 σ1 H1 _ I1 (turn n σ1 H1 w1)) fun b s2 ⟨H2, I2, q2⟩ => ?_)
  cases b with
  | true =>
    obtain ⟨N, hN, q2⟩ := q2
    rw [if_pos rfl]
    refine wpAny_passesOwn hp (thn (hb pins s2 σ1 H2 _ I2 q2) fun f s3 q3 => ?_)
    cases f with
    | next =>
      obtain ⟨σ3, H3, I3, n3⟩ := q3
      obtain ⟨m', hm, w3⟩ := hN σ3 H3 n3
      exact ⟨m', hm, σ3, H3, I3, w3⟩
    | cont =>
      obtain ⟨σ3, H3, I3, n3⟩ := q3
      obtain ⟨m', hm, w3⟩ := hN σ3 H3 n3
      exact ⟨m', hm, σ3, H3, I3, w3⟩
    | brk => exact q3
    | ret v => exact q3
  | false =>
    rw [if_neg Bool.false_ne_true]
    exact wpAny_execs_nil ⟨σ1, H2, I2, q2⟩
end
structure It where
  go : Nat → Hp → Prop
  yld : Nat → Hp → V → Hp → Prop
  stop : Nat → Hp → Prop
def FpOk (X : Cx) (pins : List (Addr × Obj)) (H : Hp) (b : Addr) : Prop :=
  H b = none ∧ b ≠ X.env.locals ∧ b ∉ X.fs ∧ (b ∈ X.ex ∨ X.s₀.heap.objs.size ≤ b) ∧ (∀ x c, X.env.cells.lookup x = some c → c ≠ b) ∧ ∀ p ∈ X.pn ++ pins, p.1 ≠ b
theorem Inv.fpOk {X : Cx} {pins : List (Addr × Obj)} {σ : St} {H H' : Hp} {s : Shared} {b : Addr} (I : Inv X pins σ H s) (hb : s.heap.objs.size ≤ b) (hn : H' b = none) : FpOk X pins H' b := by
  refine ⟨hn, Nat.ne_of_gt (Nat.lt_of_lt_of_le I.lt hb), I.nofs hb, .inr (Nat.le_trans I.sz hb), fun x c e z => ?_, fun p hp z => ?_⟩
  · obtain ⟨v, q⟩ := I.cell x c e
    exact absurd (Nat.lt_of_lt_of_le q.lt (by rw [z]; exact hb)) (Nat.lt_irrefl _)
  · exact absurd (Nat.lt_of_lt_of_le (Heap.lt_size (I.pin p hp).1) (by rw [z]; exact hb)) (Nat.lt_irrefl _)
structure Turn (P : Program) (w : World) (K : PySem.W.Frag) (tg : Expr) (J : It) (fp : List Addr) (it : Addr) (tn : Nat → Heap → Prop) : Prop where
  mem : it ∈ fp
  obj : ∀ i h, tn i h → ∀ b ∈ fp, ∃ o, h.get? b = some o ∧ ∀ v, o.data ≠ .cell v
  keep : ∀ i h h', tn i h → (∀ b ∈ fp, ∀ o, h.get? b = some o → h'.get? b = some o) → tn i h'
  item : ∀ (X : Cx), X.prog = P → X.w = w → X.K = K → X.calm = true → ∀ (i : Nat) (pins : List (Addr × Obj)) (s : Shared) (σ : St) (H : Hp) (E : Value → Shared → Prop), Inv X pins σ H s → (∀ b ∈ fp, FpOk X pins H b) → tn i s.heap → J.go i H →
    wpAny (model P w) X.A (pyNext (.ref it)) (fun r s1 => ∃ u, r = some u ∧
      wpAny (model P w) X.A (letOwnedTupleGo tg (.ref it) u) (fun _ s2 => ∃ x H', Inv X pins σ H' s2 ∧ RelV x u ∧ J.yld i H x H' ∧ tn (i + 1) s2.heap ∧ ∀ b ∈ fp, H' b = none) E s1) E s
  done : ∀ (X : Cx), X.prog = P → X.w = w → X.K = K → X.calm = true → ∀ (i : Nat) (pins : List (Addr × Obj)) (s : Shared) (σ : St) (H : Hp) (E : Value → Shared → Prop), Inv X pins σ H s → (∀ b ∈ fp, FpOk X pins H b) → tn i s.heap → J.stop i H →
    wpAny (model P w) X.A (pyNext (.ref it)) (fun r s1 => r = none ∧ Inv X pins σ H s1) E s
  self : ∀ (A : Around) (i : Nat) (s : Shared) (Q : Value → Shared → Prop) (E : Value → Shared → Prop), tn i s.heap → Q (.ref it) s → wpAny (model P w) A (pyIter (.ref it)) Q E s
abbrev TI := St → Hp → (It → Hp → Prop) → Prop
def PIE (X : Cx) (pins : List (Addr × Obj)) (σ : St) (tg : Expr) (R : It → Hp → Prop) (itv : Value) (s2 : Shared) : Prop :=
  ∃ (it : Addr) (fp : List Addr) (tn : Nat → Heap → Prop) (J : It) (H' : Hp), itv = .ref it ∧ Inv X pins σ H' s2 ∧ Turn X.prog X.w X.K tg J fp it tn ∧ tn 0 s2.heap ∧ (∀ b ∈ fp, FpOk X pins H' b) ∧ R J H'
def PI (X : Cx) (tg iter : Expr) (wi : TI) : Prop :=
  ∀ (pins : List (Addr × Obj)) (s : Shared) (σ : St) (H : Hp) (R : It → Hp → Prop), Inv X pins σ H s → wi σ H R →
    wpAny (model X.prog X.w) X.A (eval iter X.env) (fun v s1 => wpAny (model X.prog X.w) X.A (pyIter v) (PIE X pins σ tg R) X.xe s1) X.xe s
theorem go_of {M : Model} {A : Around} {E : Value → Shared → Prop} {s : Shared} {tg : Expr} {it : Addr} {u : Value} {o : Obj} {n : String} {vs : Array Value} {Q : Unit → Shared → Prop} (ho : s.heap.get? it = some o) (hc : o.cls = .type n) (hd : o.data = .fields vs)
    (hn : ["enumerate", "zip", "dict_itemiterator", "dict_reverseitemiterator", "odict_iterator", "itertools.zip_longest", "itertools.pairwise"].contains n = false) (hQ : Q () s) : wpAny M A (letOwnedTupleGo tg (.ref it) u) Q E s := by
  unfold letOwnedTupleGo
  cases tg <;> first
    | exact wpAny_pure hQ
    | (cases u <;> first
        | exact wpAny_pure hQ
        | (refine wpAny_bind (wpAny_load ho ?_)
           rw [hc, hd]
           show wpAny M A (if (["enumerate", "zip", "dict_itemiterator", "dict_reverseitemiterator", "odict_iterator", "itertools.zip_longest", "itertools.pairwise"].contains n && vs[0]? == some (rawInt _)) = true then _ else _) Q E s
           rw [if_neg (by intro h; rw [hn, Bool.false_and] at h; cases h)]
           exact wpAny_pure hQ))
def Itl (K : PySem.W.Frag) (a : Addr) : It :=
  ⟨fun i H => ∃ xs x, SqL K H a xs ∧ xs[i]? = some x, fun i H x H' => H' = H ∧ ∀ xs, SqL K H a xs → xs[i]? = some x, fun i H => ∃ xs, SqL K H a xs ∧ xs.length ≤ i⟩
def Itt (K : PySem.W.Frag) (a : Addr) : It :=
  ⟨fun i H => ∃ xs x, SqT K H a xs ∧ xs[i]? = some x, fun i H x H' => H' = H ∧ ∀ xs, SqT K H a xs → xs[i]? = some x, fun i H => ∃ xs, SqT K H a xs ∧ xs.length ≤ i⟩
def Itr (lo : Int) (n : Nat) : It := ⟨fun i _ => i < n, fun i H x H' => H' = H ∧ x = .int (lo + i), fun i _ => n ≤ i⟩
theorem turn_list {P : Program} {w : World} {K : PySem.W.Frag} {tg : Expr} (a it : Addr) : Turn P w K tg (Itl K a) [it] it (fun i h => h.IsListIter it a i) where
  mem := by simp
  obj := fun i h st b hb => by
    have e : b = it := by simpa using hb
    subst e
    obtain ⟨o, e, c, d⟩ := st
    exact ⟨o, e, fun v z => by rw [d] at z; cases z⟩
  keep := fun i h h' st k => st.at fun o e => k it (by simp) o e
  item := by
    intro X hP hw hK hc i pins s σ H E I hf st hg
    subst hP hw hK
    obtain ⟨xs, x, hq, hx⟩ := hg
    obtain ⟨its, rv, p, hz⟩ := I.list hq
    obtain ⟨u, hu, ru⟩ := rv.get hx
    obtain ⟨f0, f1, f2, f3, f4, f5⟩ := hf it (by simp)
    refine wpAny_pyNext_list_item st p.isList (x := u) (by simpa using hu) fun h' st' sb => ?_
    have I1 : Inv X pins σ H { s with heap := h' } := I.turned (t' := s.toks) (fun b o hb e => (sb.2 b hb).trans e) f0 f1 f3 f4 f5
    obtain ⟨o, e, c, d⟩ := id st'
    exact ⟨u, rfl, go_of (s := { s with heap := h' }) e c d (by decide) ⟨x, H, I1, ru, ⟨rfl, fun ys hy => by rw [I.list_inj hy hq]; exact hx⟩, st', fun b hb => (hf b hb).1⟩⟩
  done := by
    intro X hP hw hK hc i pins s σ H E I hf st hg
    subst hP hw hK
    obtain ⟨xs, hq, hx⟩ := hg
    obtain ⟨its, rv, p, hz⟩ := I.list hq
    obtain ⟨f0, f1, f2, f3, f4, f5⟩ := hf it (by simp)
    have hl := rv.length
    exact wpAny_pyNext_list_end (I.ok.hd hc) st p.isList (by simp; omega) fun h' eb => ⟨rfl, I.turned (t' := s.toks) (fun b o hb e => eb b o hb e) f0 f1 f3 f4 f5⟩
  self := fun _ _ _ _ _ st h => wpAny_pyIter_listiter st h
theorem turn_tuple {P : Program} {w : World} {K : PySem.W.Frag} {tg : Expr} (a it : Addr) : Turn P w K tg (Itt K a) [it] it (fun i h => h.IsTupleIter it a i) where
  mem := by simp
  obj := fun i h st b hb => by
    have e : b = it := by simpa using hb
    subst e
    obtain ⟨o, e, c, d⟩ := st
    exact ⟨o, e, fun v z => by rw [d] at z; cases z⟩
  keep := fun i h h' st k => st.at fun o e => k it (by simp) o e
  item := by
    intro X hP hw hK hc i pins s σ H E I hf st hg
    subst hP hw hK
    obtain ⟨xs, x, hq, hx⟩ := hg
    obtain ⟨its, rv, p, hz⟩ := I.tuple hq
    obtain ⟨u, hu, ru⟩ := rv.get hx
    obtain ⟨f0, f1, f2, f3, f4, f5⟩ := hf it (by simp)
    refine wpAny_pyNext_tuple_item st (show s.heap.IsTuple a its.toArray from p) (x := u) (by simpa using hu) fun h' st' sb => ?_
    have I1 : Inv X pins σ H { s with heap := h' } := I.turned (t' := s.toks) (fun b o hb e => (sb.2 b hb).trans e) f0 f1 f3 f4 f5
    obtain ⟨o, e, c, d⟩ := id st'
    exact ⟨u, rfl, go_of (s := { s with heap := h' }) e c d (by decide) ⟨x, H, I1, ru, ⟨rfl, fun ys hy => by rw [I.tuple_inj hy hq]; exact hx⟩, st', fun b hb => (hf b hb).1⟩⟩
  done := by
    intro X hP hw hK hc i pins s σ H E I hf st hg
    subst hP hw hK
    obtain ⟨xs, hq, hx⟩ := hg
    obtain ⟨its, rv, p, hz⟩ := I.tuple hq
    obtain ⟨f0, f1, f2, f3, f4, f5⟩ := hf it (by simp)
    have hl := rv.length
    exact wpAny_pyNext_tuple_end (I.ok.hd hc) st (show s.heap.IsTuple a its.toArray from p) (by simp; omega) fun h' eb => ⟨rfl, I.turned (t' := s.toks) (fun b o hb e => eb b o hb e) f0 f1 f3 f4 f5⟩
  self := fun _ _ _ _ _ st h => wpAny_pyIter_tupleiter st h
theorem turn_range {P : Program} {w : World} {K : PySem.W.Frag} {tg : Expr} (it : Addr) (lo : Int) (n : Nat) : Turn P w K tg (Itr lo n) [it] it (fun i h => IsRangeIter h it (lo + (i : Nat) * 1) ((n : Int) - (i : Nat)) 1) where
  mem := by simp
  obj := fun i h st b hb => by
    have e : b = it := by simpa using hb
    subst e
    exact ⟨_, st, fun v z => by
      have z' : Data.fields _ = Data.cell v := z
      cases z'⟩
  keep := fun i h h' st k => k it (by simp) _ st
  item := by
    intro X hP hw hK hc i pins s σ H E I hf st hg
    subst hP hw hK
    obtain ⟨f0, f1, f2, f3, f4, f5⟩ := hf it (by simp)
    have W := Walks.range (prog := X.prog) (w := X.w) (I.ok.hd hc) it lo 1 n
    refine W.item i s _ _ hg st fun v h' tk hv st' kk => ?_
    obtain ⟨t, rfl⟩ := hv
    have I1 : Inv X pins σ H { s with heap := h', toks := tk } := I.turned (fun b o hb e => kk b o (by simpa using hb) e) f0 f1 f3 f4 f5
    refine ⟨_, rfl, go_of (s := { s with heap := h', toks := tk }) (n := "range_iterator") st' rfl rfl (by decide) ⟨.int (lo + i), H, I1, ⟨t, ?_⟩, ⟨rfl, rfl⟩, st', fun b hb => (hf b hb).1⟩⟩
    rw [Int.mul_one]
  done := by
    intro X hP hw hK hc i pins s σ H E I hf st hg
    subst hP hw hK
    obtain ⟨f0, f1, f2, f3, f4, f5⟩ := hf it (by simp)
    exact wpAny_pyNext_range_end (I.ok.hd hc) st (by have : n ≤ i := hg; omega) fun h' eb => ⟨rfl, I.turned (t' := s.toks) (fun b o hb e => eb b o hb e) f0 f1 f3 f4 f5⟩
  self := fun _ _ _ _ _ st h => wpAny_pyIter_rangeiter st h
end L2
namespace L2
open PySem PySem.Spec PyProof.Rows
section
variable {X : Cx} {tg : Expr}
def iList (K : PySem.W.Frag) (tl : TE) : TI := fun σ H R => tl σ H fun x H1 => ∃ a, x = .ref a ∧ (∃ xs, SqL K H1 a xs) ∧ R (Itl K a) H1
def iTup (K : PySem.W.Frag) (tl : TE) : TI := fun σ H R => tl σ H fun x H1 => ∃ a, x = .ref a ∧ (∃ xs, SqT K H1 a xs) ∧ R (Itt K a) H1
theorem pi_list {l : Expr} {tl : TE} (hl : PE X l tl) : PI X tg l (iList X.K tl) := by
  intro pins s σ H R I h
  refine thn (hl pins s σ H _ I h) fun v s1 ⟨x, H1, I1, r1, q1⟩ => ?_
  obtain ⟨a, e, ⟨xs, hq⟩, q⟩ := q1
  subst e
  cases r1
  obtain ⟨its, rv, p, hz⟩ := I1.list hq
  refine wpAny_pyIter_list p.isList ?_
  refine ⟨s1.heap.objs.size, [s1.heap.objs.size], _, _, H1, rfl, I1.kept (t' := s1.toks) fun b o e => Heap.get?_push_of_some _ e, turn_list a _, ⟨_, Heap.get?_push_size _ rfl, rfl, rfl⟩, fun b hb => ?_, q⟩
  have e : b = s1.heap.objs.size := by simpa using hb
  subst e
  exact I1.fpOk (Nat.le_refl _) (I1.hok.fresh (Nat.le_refl _))
theorem pi_tup {l : Expr} {tl : TE} (hl : PE X l tl) : PI X tg l (iTup X.K tl) := by
  intro pins s σ H R I h
  refine thn (hl pins s σ H _ I h) fun v s1 ⟨x, H1, I1, r1, q1⟩ => ?_
  obtain ⟨a, e, ⟨xs, hq⟩, q⟩ := q1
  subst e
  cases r1
  obtain ⟨its, rv, p, hz⟩ := I1.tuple hq
  refine wpAny_pyIter_tuple (show s1.heap.IsTuple a its.toArray from p) ?_
  refine ⟨s1.heap.objs.size, [s1.heap.objs.size], _, _, H1, rfl, I1.kept (t' := s1.toks) fun b o e => Heap.get?_push_of_some _ e, turn_tuple a _, ⟨_, Heap.get?_push_size _ rfl, rfl, rfl⟩, fun b hb => ?_, q⟩
  have e : b = s1.heap.objs.size := by simpa using hb
  subst e
  exact I1.fpOk (Nat.le_refl _) (I1.hok.fresh (Nat.le_refl _))
theorem range_it {pins : List (Addr × Obj)} {σ : St} {H : Hp} {s : Shared} {R : It → Hp → Prop} {E : Value → Shared → Prop} {lo hi : Int} {t u v : Tok} {tk : Nat} (I : Inv X pins σ H s) (h1 : -(2 ^ 62) ≤ lo) (h2 : lo < 2 ^ 62) (h3 : -(2 ^ 62) ≤ hi) (h4 : hi < 2 ^ 62)
    (q : R (Itr lo (hi - lo).toNat) H) : wpAny (model X.prog X.w) X.A (pyIter (.ref s.heap.objs.size)) (PIE X pins σ tg R) E { s with heap := s.heap.push { cls := .type "range", data := .fields #[.int lo t, .int hi u, .int 1 v] }, toks := tk } := by
  refine wpAny_pyIter_range (IsRange.new ..) (small_one h1 h2 h3 h4) ?_
  have I1 : Inv X pins σ H { s with heap := s.heap.push { cls := .type "range", data := .fields #[.int lo t, .int hi u, .int 1 v] }, toks := tk } := I.kept fun b o e => Heap.get?_push_of_some _ e
  refine ⟨(s.heap.push { cls := .type "range", data := .fields #[.int lo t, .int hi u, .int 1 v] }).objs.size, [(s.heap.push { cls := .type "range", data := .fields #[.int lo t, .int hi u, .int 1 v] }).objs.size], _, _, H, rfl,
    I1.kept (t' := tk) fun b o e => Heap.get?_push_of_some _ e, turn_range _ lo (hi - lo).toNat, ?_, fun b hb => ?_, q⟩
  · have e1 : lo + ((0 : Nat) : Int) * 1 = lo := by simp
    have e2 : (((hi - lo).toNat : Nat) : Int) - ((0 : Nat) : Int) = Builtin.Range.rangeSize lo hi 1 := by rw [rangeSize_one]; split <;> omega
    show IsRangeIter _ _ (lo + ((0 : Nat) : Int) * 1) ((((hi - lo).toNat : Nat) : Int) - ((0 : Nat) : Int)) 1
    rw [e1, e2]
    exact Heap.get?_push_size _ rfl
  · have e : b = (s.heap.push { cls := .type "range", data := .fields #[.int lo t, .int hi u, .int 1 v] }).objs.size := by simpa using hb
    subst e
    exact I1.fpOk (Nat.le_refl _) (I1.hok.fresh (Nat.le_refl _))
def iRng1 (ta : TA) : TI := fun σ H R => ta σ H fun vs H1 => ∃ j : Int, vs = [.int j] ∧ -(2 ^ 62) ≤ j ∧ j < 2 ^ 62 ∧ R (Itr 0 j.toNat) H1
theorem pi_range1 {a : Expr} {ta : TA} {p pos : Pos} (hg : Gl X "range") (hm : X.mg "range" = none) (ha : PA X [a] ta) (hs : starEach [a] X.env = [(false, eval a X.env)] := by rfl) : PI X tg (.Call (.Name "range" p) [a] [] pos) (iRng1 ta) := by
  intro pins s σ H R I h
  refine Call_ (ld_blt I hg hm boot_range (PyProof.Rows.callWith_type1 (thn (ha pos pins s σ H _ I h) fun us s1 ⟨vs, H1, I1, r1, q1⟩ => ?_) hs rfl))
  obtain ⟨j, e, q1, q2, q⟩ := q1
  subst e
  cases r1 with
  | cons r rr =>
    cases rr
    obtain ⟨t, rfl⟩ := r
    exact call_range_1 (range_it I1 (by omega) (by omega) q1 q2 (by simpa using q))
def tFor (wi : TI) (g : TG) (tb : TS) : TS := fun D σ H => wi σ H fun J H1 => ∃ W : Nat → Nat → St → Hp → Prop, (∃ m, W 0 m σ H1) ∧ ∀ i m σ H, W i m σ H →
  (J.stop i H ∧ D.nx σ H) ∨ (J.go i H ∧ ∃ N : St → Hp → Prop, (∀ σ' H', N σ' H' → ∃ m', m' < m ∧ W (i + 1) m' σ' H') ∧ ∀ x H', J.yld i H x H' → g x σ H' fun σ2 H2 => tb { D with nx := N, ct := N, bk := D.nx } σ2 H2)
def pinsAt (fp : List Addr) (h : Heap) : List (Addr × Obj) := fp.filterMap fun b => (h.get? b).map fun o => (b, o)
theorem mem_pinsAt {fp : List Addr} {h : Heap} {b : Addr} {o : Obj} (hb : b ∈ fp) (e : h.get? b = some o) : (b, o) ∈ pinsAt fp h := List.mem_filterMap.mpr ⟨b, hb, by rw [e]; rfl⟩
theorem of_pinsAt {fp : List Addr} {h : Heap} {p : Addr × Obj} (hp : p ∈ pinsAt fp h) : p.1 ∈ fp ∧ h.get? p.1 = some p.2 := by
  obtain ⟨b, hb, e⟩ := List.mem_filterMap.mp hp
  cases q : h.get? b with
  | none => rw [q] at e; cases e
  | some o =>
    rw [q] at e
    have e' : (b, o) = p := Option.some.inj e
    subst e'
    exact ⟨hb, q⟩
theorem Inv.pinned {pins : List (Addr × Obj)} {σ : St} {H : Hp} {s : Shared} {fp : List Addr} (I : Inv X pins σ H s) (hf : ∀ b ∈ fp, FpOk X pins H b) (ho : ∀ b ∈ fp, ∃ o, s.heap.get? b = some o ∧ ∀ v, o.data ≠ .cell v) : Inv X (pins ++ pinsAt fp s.heap) σ H s :=
  I.pins_of fun p hp => (List.mem_append.mp hp).elim (fun z => I.pin p (List.mem_append_right _ z)) fun z => by
    obtain ⟨hb, e⟩ := of_pinsAt z
    obtain ⟨f0, f1, f2, _⟩ := hf p.1 hb
    obtain ⟨o, e', d⟩ := ho p.1 hb
    rw [e] at e'; cases e'
    exact ⟨e, f0, f1, f2, d⟩
theorem Inv.unpinned {pins pl : List (Addr × Obj)} {σ : St} {H : Hp} {s : Shared} (I : Inv X (pins ++ pl) σ H s) : Inv X pins σ H s := I.pins_of fun p hp => I.pin p (List.mem_append_right _ (List.mem_append_left _ hp))
theorem ps_for {iter : Expr} {body : List Stmt} {wi : TI} {g : TG} {tb : TS} {pos : Pos} (hp : PassesOwn (model X.prog X.w) X.A X.env X.xe) (hc : X.calm = true) (hi : PI X tg iter wi) (hg : PG X tg g) (hb : PSs X body tb)
    (hs : ∀ x, foldedSetIterable iter X.env x = pure x := by intro _; rfl) : PS X (.For tg iter body [] pos) (tFor wi g tb) := by
  intro pins s σ H D I h
  refine wpAny_For (thn (hi pins s σ H _ I h) fun v s1 h1 => thn h1 fun itv s2 h2 => ?_) hs
  obtain ⟨it, fp, tn, J, H2, e, I2, T, st2, f2, W, ⟨m0, w0⟩, turn⟩ := h2
  subst e
  have stat : ∀ {H' : Hp}, (∀ b ∈ fp, H' b = none) → ∀ b ∈ fp, FpOk X pins H' b := fun hn b hb => ⟨hn b hb, (f2 b hb).2⟩
  refine codeAny_forLoop_any (fun n s' => ∃ i σ' H', Inv X pins σ' H' s' ∧ tn i s'.heap ∧ (∀ b ∈ fp, H' b = none) ∧ W i n σ' H') ?_ m0 ⟨0, σ, H2, I2, st2, fun b hb => (f2 b hb).1, w0⟩
  rintro n s3 ⟨i, σ3, H3, I3, st3, fr3, w3⟩
  rcases turn i n σ3 H3 w3 with ⟨stop, qn⟩ | ⟨go, N, hN, step⟩
  · refine wpAny_passesOwn hp (thn (T.done X rfl rfl rfl hc i pins s3 σ3 H3 X.xe I3 (stat fr3) st3 stop) fun r s4 ⟨hr, I4⟩ => ?_)
    subst hr
    exact wpAny_execs_nil ⟨σ3, H3, I4, qn⟩
  · refine wpAny_passesOwn hp (thn (T.item X rfl rfl rfl hc i pins s3 σ3 H3 X.xe I3 (stat fr3) st3 go) fun r s4 ⟨u, hr, h4⟩ => ?_)
    subst hr
    refine wpAny_passesOwn hp (thn h4 fun _ s5 ⟨x, H5, I5, r5, y5, st5, fr5⟩ => ?_)
    have I5' := I5.pinned (stat fr5) (T.obj _ _ st5)
    refine wpAny_passesOwn hp (thn (hg _ s5 σ3 H5 x u _ I5' r5 (step x H5 y5)) fun _ s6 ⟨σ6, H6, I6, q6⟩ => ?_)
    refine wpAny_passesOwn hp (thn (hb _ s6 σ6 H6 _ I6 q6) fun f s7 q7 => ?_)
    have again : ∀ {σ7 : St} {H7 : Hp}, Inv X (pins ++ pinsAt fp s5.heap) σ7 H7 s7 → N σ7 H7 → ∃ m, m < n ∧ ∃ i σ' H', Inv X pins σ' H' s7 ∧ tn i s7.heap ∧ (∀ b ∈ fp, H' b = none) ∧ W i m σ' H' := fun {σ7 H7} I7 n7 => by
      obtain ⟨m', hm, w7⟩ := hN σ7 H7 n7
      refine ⟨m', hm, i + 1, σ7, H7, I7.unpinned, T.keep _ _ _ st5 fun b hb o e => (I7.pin (b, o) (List.mem_append_right _ (List.mem_append_right _ (mem_pinsAt hb e)))).1, fun b hb => ?_, w7⟩
      obtain ⟨o, e, d⟩ := T.obj _ _ st5 b hb
      exact (I7.pin (b, o) (List.mem_append_right _ (List.mem_append_right _ (mem_pinsAt hb e)))).2.1
    cases f with
    | next => obtain ⟨σ7, H7, I7, n7⟩ := q7; exact again I7 n7
    | cont => obtain ⟨σ7, H7, I7, n7⟩ := q7; exact again I7 n7
    | brk => obtain ⟨σ7, H7, I7, q7⟩ := q7; exact ⟨σ7, H7, I7.unpinned, q7⟩
    | ret v => obtain ⟨x7, σ7, H7, I7, r7, q7⟩ := q7; exact ⟨x7, σ7, H7, I7.unpinned, r7, q7⟩
end
theorem for_list {K : PySem.W.Frag} {a : Addr} {xs : List V} {g : TG} {tb : TS} {D : Ends} {σ : St} {H : Hp} (Pv : Nat → St → Hp → Prop) (h0 : Pv 0 σ H) (hl : ∀ i σ H, i ≤ xs.length → Pv i σ H → SqL K H a xs)
    (hs : ∀ i x σ H, xs[i]? = some x → Pv i σ H → g x σ H fun σ2 H2 => tb { D with nx := Pv (i + 1), ct := Pv (i + 1), bk := D.nx } σ2 H2) (hd : ∀ σ H, Pv xs.length σ H → D.nx σ H) :
    ∃ W : Nat → Nat → St → Hp → Prop, (∃ m, W 0 m σ H) ∧ ∀ i m σ H, W i m σ H →
      ((Itl K a).stop i H ∧ D.nx σ H) ∨ ((Itl K a).go i H ∧ ∃ N : St → Hp → Prop, (∀ σ' H', N σ' H' → ∃ m', m' < m ∧ W (i + 1) m' σ' H') ∧ ∀ x H', (Itl K a).yld i H x H' → g x σ H' fun σ2 H2 => tb { D with nx := N, ct := N, bk := D.nx } σ2 H2) := by
  refine ⟨fun i m σ H => m = xs.length - i ∧ i ≤ xs.length ∧ Pv i σ H, ⟨xs.length, by simp, Nat.zero_le _, h0⟩, ?_⟩
  rintro i m σ H ⟨rfl, hi, p⟩
  have q := hl i σ H hi p
  by_cases hlt : i < xs.length
  · refine .inr ⟨⟨xs, xs[i], q, by simp [hlt]⟩, Pv (i + 1), fun σ' H' p' => ⟨xs.length - (i + 1), by omega, rfl, hlt, p'⟩, fun x H' y => ?_⟩
    obtain ⟨e, y⟩ := y
    subst e
    exact hs i x σ _ (y xs q) p
  · have e : i = xs.length := by omega
    subst e
    exact .inl ⟨⟨xs, q, Nat.le_refl _⟩, hd σ H p⟩
theorem for_range {lo : Int} {n : Nat} {g : TG} {tb : TS} {D : Ends} {σ : St} {H : Hp} (Pv : Nat → St → Hp → Prop) (h0 : Pv 0 σ H)
    (hs : ∀ i σ H, i < n → Pv i σ H → g (.int (lo + i)) σ H fun σ2 H2 => tb { D with nx := Pv (i + 1), ct := Pv (i + 1), bk := D.nx } σ2 H2) (hd : ∀ σ H, Pv n σ H → D.nx σ H) :
    ∃ W : Nat → Nat → St → Hp → Prop, (∃ m, W 0 m σ H) ∧ ∀ i m σ H, W i m σ H →
      ((Itr lo n).stop i H ∧ D.nx σ H) ∨ ((Itr lo n).go i H ∧ ∃ N : St → Hp → Prop, (∀ σ' H', N σ' H' → ∃ m', m' < m ∧ W (i + 1) m' σ' H') ∧ ∀ x H', (Itr lo n).yld i H x H' → g x σ H' fun σ2 H2 => tb { D with nx := N, ct := N, bk := D.nx } σ2 H2) := by
  refine ⟨fun i m σ H => m = n - i ∧ i ≤ n ∧ Pv i σ H, ⟨n, by simp, Nat.zero_le _, h0⟩, ?_⟩
  rintro i m σ H ⟨rfl, hi, p⟩
  by_cases hlt : i < n
  · refine .inr ⟨hlt, Pv (i + 1), fun σ' H' p' => ⟨n - (i + 1), by omega, rfl, hlt, p'⟩, fun x H' y => ?_⟩
    obtain ⟨e, y⟩ := y
    subst e y
    exact hs i σ _ hlt p
  · have e : i = n := by omega
    subst e
    exact .inl ⟨Nat.le_refl _, hd σ H p⟩
end L2
namespace L2
open PySem PySem.Spec PyProof.Rows
abbrev R2 := V → V → Hp → VK → Prop
def OpR (X : Cx) (f : Value → Value → Sem Value) (r : R2) : Prop :=
  ∀ (pins : List (Addr × Obj)) (s : Shared) (σ : St) (H : Hp) (x y : V) (v u : Value) (Q : VK), Inv X pins σ H s → RelV x v → RelV y u → r x y H Q →
    wpAny (model X.prog X.w) X.A (f v u) (EP X pins σ Q) X.xe s
def UnR (X : Cx) (f : Value → Sem Value) (r : V → Hp → VK → Prop) : Prop :=
  ∀ (pins : List (Addr × Obj)) (s : Shared) (σ : St) (H : Hp) (x : V) (v : Value) (Q : VK), Inv X pins σ H s → RelV x v → r x H Q →
    wpAny (model X.prog X.w) X.A (f v) (EP X pins σ Q) X.xe s
def CallR (X : Cx) (f : Value) (r : List V → Hp → VK → Prop) : Prop :=
  ∀ (pins : List (Addr × Obj)) (s : Shared) (σ : St) (H : Hp) (xs : List V) (us : List Value) (Q : VK), Inv X pins σ H s → Vals xs us → r xs H Q →
    wpAny (model X.prog X.w) X.A (call f us) (EP X pins σ Q) X.xe s
def tOp (r : R2) (ta tb : TE) : TE := fun σ H Q => ta σ H fun x H1 => tb σ H1 fun y H2 => r x y H2 Q
def tUn (r : V → Hp → VK → Prop) (ta : TE) : TE := fun σ H Q => ta σ H fun x H1 => r x H1 Q
def rI (C : Int → Int → Prop) (g : Int → Int → V) : R2 := fun x y H Q => ∃ i j, x = .int i ∧ y = .int j ∧ C i j ∧ Q (g i j) H
def rI0 (g : Int → Int → V) : R2 := fun x y H Q => ∃ i j, x = .int i ∧ y = .int j ∧ Q (g i j) H
def rU (g : Int → V) : V → Hp → VK → Prop := fun x H Q => ∃ i, x = .int i ∧ Q (g i) H
section
variable {X : Cx} {a b c : Expr} {ta tb tc : TE} {pos : Pos}
theorem binT (ha : PE X a ta) (hb : PE X b tb) {pins : List (Addr × Obj)} {s : Shared} {σ : St} {H : Hp} {R : V → V → Hp → Prop} (I : Inv X pins σ H s)
    (h : ta σ H fun x H1 => tb σ H1 fun y H2 => R x y H2) {Q : Value → Shared → Prop} {f : Value → Value → Sem Value}
    (hf : ∀ v u s2 x y H2, Inv X pins σ H2 s2 → RelV x v → RelV y u → R x y H2 → wpAny (model X.prog X.w) X.A (f v u) Q X.xe s2) :
    wpAny (model X.prog X.w) X.A (eval a X.env) (fun v s₁ => wpAny (model X.prog X.w) X.A (eval b X.env) (fun u s₂ => wpAny (model X.prog X.w) X.A (f v u) Q X.xe s₂) X.xe s₁) X.xe s := by
  refine thn (ha pins s σ H _ I h) fun v s1 ⟨x, H1, I1, r1, q1⟩ => ?_
  refine thn (hb pins s1 σ H1 _ I1 q1) fun u s2 ⟨y, H2, I2, r2, q2⟩ => ?_
  exact hf v u s2 x y H2 I2 r1 r2 q2
theorem pe_op {op : Operator} {r : R2} (ho : OpR X (binaryOp op) r) (ha : PE X a ta) (hb : PE X b tb) : PE X (.BinOp a op b pos) (tOp r ta tb) := by
  intro pins s σ H Q I h
  exact wpAny_BinOp (binT ha hb I h fun v u s2 x y H2 I2 rx ry q => ho pins s2 σ H2 x y v u Q I2 rx ry q)
theorem pe_un {op : UnaryOp} {r : V → Hp → VK → Prop} (ho : UnR X (unaryOp op) r) (ha : PE X a ta) : PE X (.UnaryOp op a pos) (tUn r ta) := by
  intro pins s σ H Q I h
  exact UnaryOp_ (thn (ha pins s σ H _ I h) fun v s1 ⟨x, H1, I1, r1, q1⟩ => ho pins s1 σ H1 x v Q I1 r1 q1)
theorem opI {f : Value → Value → Sem Value} {C : Int → Int → Prop} {g : Int → Int → Int}
    (rule : ∀ (i j : Int) (t u : Tok) (s : Shared) (Q : Value → Shared → Prop) (E : Value → Shared → Prop), C i j → Q (.int (g i j) s.toks) { s with toks := s.toks + 1 } → wpAny (model X.prog X.w) X.A (f (.int i t) (.int j u)) Q E s) :
    OpR X f (rI C fun i j => .int (g i j)) := by
  intro pins s σ H x y v u Q I rx ry h
  obtain ⟨i, j, rfl, rfl, hc, q⟩ := h
  obtain ⟨t, rfl⟩ := rx
  obtain ⟨t', rfl⟩ := ry
  exact rule i j t t' s _ _ hc ⟨.int (g i j), H, I.tok _, ⟨_, rfl⟩, q⟩
theorem opI0 {f : Value → Value → Sem Value} {g : Int → Int → Int}
    (rule : ∀ (i j : Int) (t u : Tok) (s : Shared) (Q : Value → Shared → Prop) (E : Value → Shared → Prop), Q (.int (g i j) s.toks) { s with toks := s.toks + 1 } → wpAny (model X.prog X.w) X.A (f (.int i t) (.int j u)) Q E s) :
    OpR X f (rI0 fun i j => .int (g i j)) := by
  intro pins s σ H x y v u Q I rx ry h
  obtain ⟨i, j, rfl, rfl, q⟩ := h
  obtain ⟨t, rfl⟩ := rx
  obtain ⟨t', rfl⟩ := ry
  exact rule i j t t' s _ _ ⟨.int (g i j), H, I.tok _, ⟨_, rfl⟩, q⟩
theorem opB0 {f : Value → Value → Sem Value} {g : Int → Int → Bool}
    (rule : ∀ (i j : Int) (t u : Tok) (s : Shared) (Q : Value → Shared → Prop) (E : Value → Shared → Prop), Q (.bool (g i j)) s → wpAny (model X.prog X.w) X.A (f (.int i t) (.int j u)) Q E s) :
    OpR X f (rI0 fun i j => .bl (g i j)) := by
  intro pins s σ H x y v u Q I rx ry h
  obtain ⟨i, j, rfl, rfl, q⟩ := h
  obtain ⟨t, rfl⟩ := rx
  obtain ⟨t', rfl⟩ := ry
  exact rule i j t t' s _ _ ⟨.bl (g i j), H, I, rfl, q⟩
def CDiv (i j : Int) : Prop := 0 < j ∧ j < 1073741824
def CPow (i j : Int) : Prop := 0 ≤ j ∧ j ≤ 1000000 ∧ i.natAbs < 2 ^ 64
theorem op_add : OpR X (binaryOp .Add) (rI0 fun i j => .int (i + j)) := opI0 fun _ _ _ _ _ _ _ q => add_int q
theorem op_sub : OpR X (binaryOp .Sub) (rI0 fun i j => .int (i - j)) := opI0 fun _ _ _ _ _ _ _ q => sub_int q
theorem op_fdiv : OpR X (binaryOp .FloorDiv) (rI CDiv fun i j => .int (i / j)) := opI fun i j _ _ _ _ _ hc q => by
  have h1 : (0 : Int) < j := hc.1
  have h2 : j < 1073741824 := hc.2
  exact floordiv_int (by omega) (by rw [Int.fdiv_eq_ediv_of_nonneg i (by omega)]; exact q) (.inl (PyProof.noPylong_small (by omega)))
theorem op_mod : OpR X (binaryOp .Mod) (rI (fun _ j => 0 < j) fun i j => .int (i % j)) := opI fun i j _ _ _ _ _ hc q => by
  have h1 : (0 : Int) < j := hc
  exact mod_int' (by omega) (by rw [Int.fmod_eq_emod_of_nonneg i (by omega)]; exact q)
theorem op_pow : OpR X (binaryOp .Pow) (rI CPow fun i j => .int (i ^ j.toNat)) := opI fun _ _ _ _ _ _ _ hc q => pow_int_small hc.1 hc.2.1 hc.2.2 q
theorem unI {f : Value → Sem Value} {g : Int → Int}
    (rule : ∀ (i : Int) (t : Tok) (s : Shared) (Q : Value → Shared → Prop) (E : Value → Shared → Prop), Q (.int (g i) s.toks) { s with toks := s.toks + 1 } → wpAny (model X.prog X.w) X.A (f (.int i t)) Q E s) :
    UnR X f (rU fun i => .int (g i)) := by
  intro pins s σ H x v Q I rx h
  obtain ⟨i, rfl, q⟩ := h
  obtain ⟨t, rfl⟩ := rx
  exact rule i t s _ _ ⟨.int (g i), H, I.tok _, ⟨_, rfl⟩, q⟩
theorem un_neg : UnR X (unaryOp .USub) (rU fun i => .int (-i)) := unI fun _ _ _ _ _ q => neg_int q
end
def scal : V → V → Bool
  | .non, .non => true | .non, .int _ => true | .int _, .non => true | .non, .bl _ => true | .bl _, .non => true | .non, .str _ => true | .str _, .non => true
  | .int _, .int _ => true | .bl _, .bl _ => true | .str _, .str _ => true | .byt _, .byt _ => true
  | .int _, .str _ => true | .str _, .int _ => true | .bl _, .str _ => true | .str _, .bl _ => true
  | _, _ => false
def rEq : R2 := fun x y H Q => scal x y = true ∧ Q (.bl (decide (x = y))) H
def rNe : R2 := fun x y H Q => scal x y = true ∧ Q (.bl (!decide (x = y))) H
theorem dec_int {i j : Int} : decide (V.int i = V.int j) = (i == j) := by
  rw [Bool.eq_iff_iff]
  simp
theorem dec_bl {i j : Bool} : decide (V.bl i = V.bl j) = (i == j) := by
  rw [Bool.eq_iff_iff]
  simp
theorem dec_str {i j : Str} : decide (V.str i = V.str j) = (i == j) := by
  rw [Bool.eq_iff_iff]
  simp
theorem dec_byt {i j : Array UInt8} : decide (V.byt i = V.byt j) = (i.toList == j.toList) := by
  rw [Bool.eq_iff_iff]
  cases i
  cases j
  simp
section
variable {X : Cx} {a b c : Expr} {ta tb tc : TE} {pos : Pos}
theorem fin_bl {pins : List (Addr × Obj)} {σ : St} {H : Hp} {s : Shared} {Q : VK} {k k' : Bool} (I : Inv X pins σ H s) (q : Q (.bl k) H) (e : k = k') : EP X pins σ Q (.bool k') s := by
  subst e
  exact ⟨.bl k, H, I, rfl, q⟩
theorem op_eq : OpR X (compareOp .Eq) rEq := by
  intro pins s σ H x y v u Q I rx ry h
  obtain ⟨hs, q⟩ := h
  cases x with
  | non =>
    cases rx
    cases y with
    | non => cases ry; exact PySem.EqNone.eq_none_none (fin_bl I q (by simp))
    | bl j => cases ry; exact PySem.EqNone.eq_none_bool (fin_bl I q (by simp))
    | int j => obtain ⟨t', rfl⟩ := ry; exact PySem.EqNone.eq_none_int (fin_bl I q (by simp))
    | str j => obtain ⟨t', rfl⟩ := ry; exact PySem.EqNone.eq_none_str (fin_bl I q (by simp))
    | _ => exact absurd (show false = true from hs) Bool.false_ne_true
  | bl i =>
    cases rx
    cases y with
    | non => cases ry; exact PySem.EqNone.eq_bool_none (fin_bl I q (by simp))
    | bl j => cases ry; exact eq_bool (fin_bl I q dec_bl)
    | str j => obtain ⟨t', rfl⟩ := ry; exact PySem.EqMixed.eq_bool_str (fin_bl I q (by simp))
    | _ => exact absurd (show false = true from hs) Bool.false_ne_true
  | int i =>
    obtain ⟨t, rfl⟩ := rx
    cases y with
    | non => cases ry; exact PySem.EqNone.eq_int_none (fin_bl I q (by simp))
    | int j => obtain ⟨t', rfl⟩ := ry; exact eq_int (fin_bl I q dec_int)
    | str j => obtain ⟨t', rfl⟩ := ry; exact PySem.EqMixed.eq_int_str (fin_bl I q (by simp))
    | _ => exact absurd (show false = true from hs) Bool.false_ne_true
  | str i =>
    obtain ⟨t, rfl⟩ := rx
    cases y with
    | non => cases ry; exact PySem.EqNone.eq_str_none (fin_bl I q (by simp))
    | bl j => cases ry; exact PySem.EqMixed.eq_str_bool (fin_bl I q (by simp))
    | int j => obtain ⟨t', rfl⟩ := ry; exact PySem.EqMixed.eq_str_int (fin_bl I q (by simp))
    | str j => obtain ⟨t', rfl⟩ := ry; exact eq_str (fin_bl I q dec_str)
    | _ => exact absurd (show false = true from hs) Bool.false_ne_true
  | byt i =>
    obtain ⟨t, rfl⟩ := rx
    cases y with
    | byt j => obtain ⟨t', rfl⟩ := ry; exact PySem.W.eq_bytes (fin_bl I q dec_byt)
    | _ => exact absurd (show false = true from hs) Bool.false_ne_true
  | _ => cases y <;> exact absurd (show false = true from hs) Bool.false_ne_true
theorem op_ne : OpR X (compareOp .NotEq) rNe := by
  intro pins s σ H x y v u Q I rx ry h
  obtain ⟨hs, q⟩ := h
  cases x with
  | non =>
    cases rx
    cases y with
    | non => cases ry; exact PySem.EqNone.ne_none_none (fin_bl I q (by simp))
    | bl j => cases ry; exact PySem.EqNone.ne_none_bool (fin_bl I q (by simp))
    | int j => obtain ⟨t', rfl⟩ := ry; exact PySem.EqNone.ne_none_int (fin_bl I q (by simp))
    | str j => obtain ⟨t', rfl⟩ := ry; exact PySem.EqNone.ne_none_str (fin_bl I q (by simp))
    | _ => exact absurd (show false = true from hs) Bool.false_ne_true
  | bl i =>
    cases rx
    cases y with
    | non => cases ry; exact PySem.EqNone.ne_bool_none (fin_bl I q (by simp))
    | bl j => cases ry; exact ne_bool (fin_bl I q (congrArg not dec_bl))
    | str j => obtain ⟨t', rfl⟩ := ry; exact PySem.EqMixed.ne_bool_str (fin_bl I q (by simp))
    | _ => exact absurd (show false = true from hs) Bool.false_ne_true
  | int i =>
    obtain ⟨t, rfl⟩ := rx
    cases y with
    | non => cases ry; exact PySem.EqNone.ne_int_none (fin_bl I q (by simp))
    | int j => obtain ⟨t', rfl⟩ := ry; exact ne_int (fin_bl I q (congrArg not dec_int))
    | str j => obtain ⟨t', rfl⟩ := ry; exact PySem.EqMixed.ne_int_str (fin_bl I q (by simp))
    | _ => exact absurd (show false = true from hs) Bool.false_ne_true
  | str i =>
    obtain ⟨t, rfl⟩ := rx
    cases y with
    | non => cases ry; exact PySem.EqNone.ne_str_none (fin_bl I q (by simp))
    | bl j => cases ry; exact PySem.EqMixed.ne_str_bool (fin_bl I q (by simp))
    | int j => obtain ⟨t', rfl⟩ := ry; exact PySem.EqMixed.ne_str_int (fin_bl I q (by simp))
    | str j => obtain ⟨t', rfl⟩ := ry; exact ne_str (fin_bl I q (congrArg not dec_str))
    | _ => exact absurd (show false = true from hs) Bool.false_ne_true
  | byt i =>
    obtain ⟨t, rfl⟩ := rx
    cases y with
    | byt j => obtain ⟨t', rfl⟩ := ry; exact PySem.W.ne_bytes (fin_bl I q (congrArg not dec_byt))
    | _ => exact absurd (show false = true from hs) Bool.false_ne_true
  | _ => cases y <;> exact absurd (show false = true from hs) Bool.false_ne_true
theorem op_lt : OpR X (compareOp .Lt) (rI0 fun i j => .bl (decide (i < j))) := opB0 fun _ _ _ _ _ _ _ q => lt_int q
theorem op_le : OpR X (compareOp .LtE) (rI0 fun i j => .bl (decide (i ≤ j))) := opB0 fun _ _ _ _ _ _ _ q => le_int q
theorem op_gt : OpR X (compareOp .Gt) (rI0 fun i j => .bl (decide (j < i))) := opB0 fun _ _ _ _ _ _ _ q => gt_int q
theorem op_in_str : OpR X (compareOp .In) (fun x y H Q => ∃ i j, x = .str i ∧ y = .str j ∧ Q (.bl (!(Builtin.Str.occurrences j i 0 j.length 1).isEmpty)) H) := by
  intro pins s σ H x y v u Q I rx ry h
  obtain ⟨i, j, rfl, rfl, q⟩ := h
  obtain ⟨t, rfl⟩ := rx
  obtain ⟨t', rfl⟩ := ry
  exact in_str (fin_bl I q rfl)
theorem nomark (b : Expr) {op : CmpOp} (h : op ≠ .In := by decide) (h2 : op ≠ .NotIn := by decide) : behindInMarks op b = false := by
  have e1 : (op == CmpOp.In) = false := by cases op <;> first | rfl | exact absurd rfl h
  have e2 : (op == CmpOp.NotIn) = false := by cases op <;> first | rfl | exact absurd rfl h2
  cases b <;> simp [behindInMarks, e1, e2]
theorem pe_cmpR {op : CmpOp} {r : R2} (ho : OpR X (compareOp op) r) (ha : PE X a ta) (hb : PE X b tb) (hm : behindInMarks op b = false) : PE X (.Compare a [op] [b] pos) (tOp r ta tb) := by
  intro pins s σ H Q I h
  exact wpAny_Compare1 (binT ha hb I h fun v u s2 x y H2 I2 rx ry q => ho pins s2 σ H2 x y v u Q I2 rx ry q) hm
def tTest (t : TE) : TT := fun σ H Q => t σ H fun x H' => ∃ k, x = .bl k ∧ Q k H'
theorem pt_cmpR {op : CmpOp} {r : R2} (ho : OpR X (compareOp op) r) (ha : PE X a ta) (hb : PE X b tb) (hm : behindInMarks op b = false) : PT X (.Compare a [op] [b] pos) (tTest (tOp r ta tb)) := by
  intro pins s σ H Q I h
  refine wpAny_isTrue_Compare1 (thn (ha pins s σ H _ I h) fun v s1 ⟨x, H1, I1, r1, q1⟩ => thn (hb pins s1 σ H1 _ I1 q1) fun u s2 ⟨y, H2, I2, r2, q2⟩ =>
    thn (ho pins s2 σ H2 x y v u _ I2 r1 r2 q2) fun c s3 ⟨z, H3, I3, r3, k, e, q3⟩ => ?_) hm
  subst e
  cases r3
  exact wpAny_truthy_bool ⟨H3, I3, q3⟩
def tChain (r r' : R2) (ta tb tc : TE) : TE := fun σ H Q => ta σ H fun x H1 => tb σ H1 fun y H2 => r x y H2 fun z H3 => ∃ k, z = .bl k ∧
  (if k = true then tc σ H3 fun w' H4 => r' y w' H4 Q else Q (.bl false) H3)
theorem pt_chain {op op' : CmpOp} {r r' : R2} (ho : OpR X (compareOp op) r) (ho' : OpR X (compareOp op') r') (ha : PE X a ta) (hb : PE X b tb) (hc : PE X c tc)
    (hm : lastMarks [op, op'] [b, c] = false := by with_unfolding_all rfl) : PT X (.Compare a [op, op'] [b, c] pos) (tTest (tChain r r' ta tb tc)) := by
  intro pins s σ H Q I h
  refine isTrue_chain (thn (ha pins s σ H _ I h) fun v s1 ⟨x, H1, I1, r1, q1⟩ => test_link (thn (hb pins s1 σ H1 _ I1 q1) fun u s2 ⟨y, H2, I2, r2, q2⟩ =>
    thn (ho pins s2 σ H2 x y v u _ I2 r1 r2 q2) fun d s3 ⟨z, H3, I3, r3, k, e, q3⟩ => ?_)) hm
  subst e
  cases r3
  refine wpAny_truthy_bool ?_
  cases k with
  | false =>
    obtain ⟨k', e', q'⟩ := q3
    cases e'
    exact ite_ff ⟨H3, I3, q'⟩
  | true =>
    refine ite_tt (test_last (thn (hc pins s3 σ H3 _ I3 q3) fun w' s4 ⟨z', H4, I4, r4, q4⟩ => thn (ho' pins s4 σ H4 y z' u w' _ I4 r2 r4 q4) fun d' s5 ⟨z2, H5, I5, r5, k2, e2, q5⟩ => ?_))
    subst e2
    cases r5
    exact wpAny_truthy_bool ⟨H5, I5, q5⟩
theorem line63 : (sizeLine : Nat) < 2 ^ 63 := by rw [sizeLine_eq]; decide
theorem op_add_str : OpR X (binaryOp .Add) (fun x y H Q => ∃ i j, x = .str i ∧ y = .str j ∧ i.length + j.length ≤ sizeLine ∧ Q (.str (i ++ j)) H) := by
  intro pins s σ H x y v u Q I rx ry h
  obtain ⟨i, j, rfl, rfl, hz, q⟩ := h
  obtain ⟨t, rfl⟩ := rx
  obtain ⟨t', rfl⟩ := ry
  exact add_str (fun t' tk => ⟨.str (i ++ j), H, I.tok _, ⟨_, rfl⟩, q⟩) hz
theorem vals1 {x : V} {us : List Value} (r : Vals [x] us) : ∃ u, us = [u] ∧ RelV x u := by
  cases r with
  | cons r1 r2 => cases r2; exact ⟨_, rfl, r1⟩
theorem call_str_int : CallR X (.type "str") (fun xs H Q => ∃ i, xs = [.int i] ∧ i.natAbs.log2 < 1920 ∧ Q (.str (toString i)) H) := by
  intro pins s σ H xs us Q I r h
  obtain ⟨i, rfl, hz, q⟩ := h
  obtain ⟨u, rfl, t, rfl⟩ := vals1 r
  exact PySem.P.str_of_int hz ⟨.str _, H, I.tok _, ⟨_, rfl⟩, q⟩
end
end L2
namespace L2
open PySem PySem.Spec PyProof.Rows
structure ObjM (h : Heap) (x dx C : Addr) (mA : Str → Option Value) : Prop where
  obj : h.get? x = some (PySem.W.instObj C dx)
  ns : h.Ns1 dx mA
  ne : dx ≠ x
theorem lookIn_ns {h : Heap} {dx : Addr} {mA : Str → Option Value} (n : h.Ns1 dx mA) : ∃ od, h.get? dx = some od ∧ ∀ name, PySem.W.lookIn name od = some (mA name) := by
  obtain ⟨o, es, ep, ho, hd, hk, _, hm⟩ := n
  refine ⟨o, ho, fun name => ?_⟩
  have e := hm name
  unfold nsFind findBy at e
  rw [← Array.find?_toList] at e
  unfold PySem.W.lookIn
  rw [hd]
  dsimp only
  split
  · rename_i y q
    rw [q] at e
    exact congrArg some e
  · rename_i q
    rw [q] at e
    have a : es.toList.any (·.refKey) = false := by
      rw [List.any_eq_false]
      intro y hy
      obtain ⟨z, t, hkey⟩ := hk y (Array.mem_toList_iff.mp hy)
      simp [DictEntry.refKey, hkey]
    have a' : ¬ es.toList.any (·.refKey) = true := by rw [a]; exact Bool.false_ne_true
    rw [if_neg a']
    exact congrArg some e
theorem ObjM.look {h : Heap} {x dx C : Addr} {mA : Str → Option Value} (I : ObjM h x dx C mA) : ∃ od, PySem.W.InstAt h x (PySem.W.instObj C dx) C (some od) ∧ ∀ name, PySem.W.lookIn name od = some (mA name) :=
  let ⟨od, ho, hl⟩ := lookIn_ns I.ns
  ⟨od, ⟨I.obj, rfl, rfl, ho⟩, hl⟩
section
variable {prog : Program} {w : World} {A : Around} {E : Value → Shared → Prop} {s : Shared} {K : PySem.W.Frag} {x dx C f : Addr} {mA : Str → Option Value} {name : Str} {v : Value}
theorem get_map {expr : Bool} {Q : Value → Shared → Prop} (X : K.In s.heap) (I : ObjM s.heap x dx C mA) (hg : PySem.W.plainGet K C name = true) (hh : PySem.W.hasDictIn K C = true)
    (ha : PySem.W.findIn K (.ref C) name = some none) (hv : mA name = some v) (hv' : PySem.W.handedIn v = true) (h : Q v { s with toks := s.toks + 1 }) :
    wpAny (model prog w) A (getAttr (.ref x) name expr) Q E s := by
  obtain ⟨od, J, hl⟩ := I.look
  exact PySem.W.get_value X J (PySem.W.plainGet_of hg).1 (PySem.W.findObj_own hh ha rfl (by rw [hl, hv])) hv' h
theorem set_map {ns : List Str} {Q : Unit → Shared → Prop} (X : K.In s.heap) (I : ObjM s.heap x dx C mA)
    (hs : PySem.W.findIn K (.ref C) "__setattr__" = some (some (.builtin "object.__setattr__"))) (hp : PySem.W.plainOver K C = true) (ht : PySem.W.takerIn K C name = some none) (hh : PySem.W.hasDictIn K C = true)
    (hw : PySem.Within mA ns) (hsz : ns.length ≤ sizeLine)
    (h : ∀ h', ObjM h' x dx C (fun y => if y = name then some v else mA y) → Heap.SameBut dx s.heap h' → Q () { s with heap := h', toks := s.toks + 2 }) :
    wpAny (model prog w) A (setAttr (.ref x) name v) Q E s := by
  obtain ⟨od, J, hl⟩ := I.look
  refine PySem.W.set_plain X J hs (PySem.W.osa_open (s := { s with toks := s.toks + 1 }) (r := none) X J hp ht fun b => ?_)
  obtain ⟨cd, hc, hd'⟩ := PySem.W.any_some hh
  have hx : s.heap.get? x = some ⟨.ref C, some dx, .plain, #[]⟩ := I.obj
  refine wpAny_bind (wpAny_pure (wpAny_bind (wpAny_bind (wpAny_loadPart hx (wpAny_bind (PySem.W.Looks.here (s := { s with toks := s.toks + 1 }) (PySem.W.looks_clsIn X hc) ?_))))))
  rw [hd']
  refine wpAny_pure (a := some dx) (wpAny_bind (wpAny_pure (wpAny_bind ?_)))
  refine wpAny_nsSet1 (s := { s with toks := s.toks + 1 }) I.ns fun h' hn2 hs2 => ?_
  obtain ⟨oD, esD, epD, hoD, hdD, hcD⟩ := hn2.count (PySem.Within.cons name v hw)
  refine wpAny_bind (wpAny_lookBehind hoD (by rw [hdD]; exact pastItsLine_dict (Nat.le_trans hcD (by rw [List.length_cons]; omega))) ?_)
  exact wpAny_pure (h _ ⟨(hs2.2 _ (Ne.symm I.ne)).trans I.obj, hn2, I.ne⟩ hs2)
theorem make_map {R : Result → Shared → Prop} {vs : List Value} {kw : List (Str × Value)} (X : K.In s.heap) (hm : PySem.W.makesIn K C = true)
    (hi : PySem.W.findIn K (.ref C) "__init__" = some (some (.ref f))) (hf : PySem.W.typeIn K (.ref f) = some (.type "function"))
    (h : codeAny (model prog w) (A.under (.builtin "type.__call__" ⟨.ref C :: vs, kw⟩)) (.call (.ref f) ⟨.ref (s.heap.objs.size + 1) :: vs, kw⟩) (PySem.W.InitBack (s.heap.objs.size + 1) R)
      { s with heap := (s.heap.push PySem.W.emptyDict).push (PySem.W.instObj C s.heap.objs.size) }) :
    codeAny (model prog w) A (.call (.ref C) ⟨vs, kw⟩) R s := by
  obtain ⟨hh, g, d, t, os⟩ := s
  exact PySem.W.make_core (PySem.W.makes_of X hm) (PySem.W.looks_findIn X hi) (fun self => PySem.W.bind_fn X self hf) (.inl rfl) h
end
def putF (f : Str) (v : V) : List (Str × V) → List (Str × V)
  | [] => [(f, v)]
  | (g, x) :: r => if g = f then (g, v) :: r else (g, x) :: putF f v r
theorem lookup_putF (f g : Str) (v : V) : ∀ fs : List (Str × V), (putF f v fs).lookup g = if g = f then some v else fs.lookup g
  | [] => by
    show List.lookup g [(f, v)] = _
    by_cases h : g = f
    · have hb : (g == f) = true := beq_iff_eq.mpr h
      simp only [List.lookup, hb, if_pos h]
    · have hb : (g == f) = false := beq_eq_false_iff_ne.mpr h
      simp only [List.lookup, hb, if_neg h]
  | (k, x) :: r => by
    have ih := lookup_putF f g v r
    rw [show putF f v ((k, x) :: r) = (if k = f then (k, v) :: r else (k, x) :: putF f v r) from rfl]
    by_cases hk : k = f
    · rw [if_pos hk]
      by_cases h : g = k
      · have hb : (g == k) = true := beq_iff_eq.mpr h
        simp only [List.lookup, hb, if_pos (h.trans hk)]
      · have hb : (g == k) = false := beq_eq_false_iff_ne.mpr h
        simp only [List.lookup, hb, if_neg (fun e : g = f => h (e.trans hk.symm))]
    · rw [if_neg hk]
      by_cases h : g = k
      · have hb : (g == k) = true := beq_iff_eq.mpr h
        simp only [List.lookup, hb, if_neg (fun e : g = f => hk (h.symm.trans e))]
      · have hb : (g == k) = false := beq_eq_false_iff_ne.mpr h
        simp only [List.lookup, hb]
        exact ih
theorem keys_putF (f : Str) (v : V) : ∀ fs : List (Str × V), f ∈ (putF f v fs).map (·.1) ∧ ∀ g, g ∈ fs.map (·.1) → g ∈ (putF f v fs).map (·.1)
  | [] => ⟨by simp [putF], fun g h => by simp at h⟩
  | (k, x) :: r => by
    obtain ⟨i1, i2⟩ := keys_putF f v r
    rw [show putF f v ((k, x) :: r) = (if k = f then (k, v) :: r else (k, x) :: putF f v r) from rfl]
    by_cases hk : k = f
    · rw [if_pos hk]
      subst hk
      exact ⟨by simp, fun g h => by simpa using h⟩
    · rw [if_neg hk]
      refine ⟨?_, fun g h => ?_⟩
      · rw [List.map_cons]
        exact List.mem_cons_of_mem _ i1
      · rw [List.map_cons] at h ⊢
        rcases List.mem_cons.mp h with e | e
        · exact List.mem_cons.mpr (.inl e)
        · exact List.mem_cons_of_mem _ (i2 g e)
theorem length_putF (f : Str) (v : V) : ∀ fs : List (Str × V), (putF f v fs).length ≤ fs.length + 1
  | [] => by simp [putF]
  | (k, x) :: r => by
    have ih := length_putF f v r
    rw [show putF f v ((k, x) :: r) = (if k = f then (k, v) :: r else (k, x) :: putF f v r) from rfl]
    by_cases hk : k = f
    · rw [if_pos hk, List.length_cons, List.length_cons]; omega
    · rw [if_neg hk, List.length_cons, List.length_cons]; omega
theorem RelO.some_of {v : V} {o : Option Value} (r : RelO (some v) o) : ∃ u, o = some u ∧ RelV v u := by
  cases o with
  | none => exact (show False from r).elim
  | some u => exact ⟨u, rfl, r⟩
theorem handed_of {v : V} {u : Value} (r : RelV v u) : PySem.W.handedIn u = true := by
  cases v with
  | non => cases (show u = Value.none from r); rfl
  | bl b => cases (show u = Value.bool b from r); rfl
  | int i => obtain ⟨t, e⟩ := (show ∃ t, u = Value.int i t from r); cases e; rfl
  | str x => obtain ⟨t, e⟩ := (show ∃ t, u = Value.str x t from r); cases e; rfl
  | byt b => obtain ⟨t, e⟩ := (show ∃ t, u = Value.bytes b t from r); cases e; rfl
  | flt b => obtain ⟨t, e⟩ := (show ∃ t, u = Value.float b t from r); cases e; rfl
  | ref a => cases (show u = Value.ref a from r); rfl
  | ty n => cases (show u = Value.type n from r); rfl
section
variable {P : Program} {w : World} {H H' : Hp} {h h' : Heap} {a C dx : Addr} {fs fs' : List (Str × V)}
theorem ins_get (hok : HOk P w H h) (e : H a = some (.ins C dx fs)) : ∃ mA, ObjM h a dx C mA ∧ (∀ f, RelO (fs.lookup f) (mA f)) ∧ PySem.Within mA (fs.map (·.1)) ∧ fs.length ≤ 1000 ∧ H dx = some (.own a) := by
  obtain ⟨d, z, ne, ob, mA, n, r, q⟩ := (show ObjOk P w H h a (.ins C dx fs) from hok a _ e)
  exact ⟨mA, ⟨ob, n, ne⟩, r, q, z, d⟩
end
structure Cls (K : PySem.W.Frag) (C : Addr) : Prop where
  pg : PySem.W.plainGet K C Str.empty = true
  hd : PySem.W.hasDictIn K C = true
  po : PySem.W.plainOver K C = true
  sa : PySem.W.findIn K (.ref C) "__setattr__" = some (some (.builtin "object.__setattr__"))
theorem Cls.get {K : PySem.W.Frag} {C : Addr} (c : Cls K C) (f : Str) : PySem.W.plainGet K C f = true := c.pg
def NoAttr (K : PySem.W.Frag) (C : Addr) (f : Str) : Prop := PySem.W.findIn K (.ref C) f = some none
theorem NoAttr.taker {K : PySem.W.Frag} {C : Addr} {f : Str} (n : NoAttr K C f) : PySem.W.takerIn K C f = some none := by
  unfold PySem.W.takerIn
  rw [show PySem.W.findIn K (.ref C) f = some none from n]
  rfl
section
variable {X : Cx} {pins : List (Addr × Obj)} {σ : St} {H : Hp} {s : Shared} {a C dx : Addr} {fs : List (Str × V)} {f : Str} {v : V} {A : Around} {E : Value → Shared → Prop}
theorem getattr_ok {b : Bool} {Q : Value → Shared → Prop} (I : Inv X pins σ H s) (e : H a = some (.ins C dx fs)) (c : Cls X.K C) (n : NoAttr X.K C f) (l : fs.lookup f = some v)
    (h : ∀ u s', Inv X pins σ H s' → RelV v u → Q u s') : wpAny (model X.prog X.w) A (getAttr (.ref a) f b) Q E s := by
  obtain ⟨mA, O, r, _, _, _⟩ := ins_get I.hok e
  obtain ⟨u, hu, ru⟩ := RelO.some_of (v := v) (o := mA f) (by rw [← l]; exact r f)
  exact get_map I.kIn O (c.get f) c.hd n hu (handed_of ru) (h u _ (I.tok _) ru)
theorem setattr_ok {y : V} {u : Value} {Q : Unit → Shared → Prop} (I : Inv X pins σ H s) (e : H a = some (.ins C dx fs)) (c : Cls X.K C) (n : NoAttr X.K C f) (hl : fs.length < 1000) (ry : RelV y u)
    (h : ∀ s', Inv X pins σ (upd H a (.ins C dx (putF f y fs))) s' → Q () s') : wpAny (model X.prog X.w) A (setAttr (.ref a) f u) Q E s := by
  obtain ⟨mA, O, r, wi, _, ho⟩ := ins_get I.hok e
  have hz : (fs.map (·.1)).length ≤ sizeLine := by rw [List.length_map, sizeLine_eq]; omega
  refine set_map I.kIn O c.sa c.po n.taker c.hd wi hz fun h' O' sb => h _ ?_
  have hd : ∃ o, h'.get? dx = some o := let ⟨o, _, _, e', _⟩ := O'.ns; ⟨o, e'⟩
  refine I.write (x := a) (e := dx) (by rw [e]; exact True.intro) (.inr ho) (fun b q hb z => (sb.2 b hb).trans z) hd ?_
  refine ⟨by rw [upd_ne O.ne]; exact ho, ?_, O.ne, O'.obj, _, O'.ns, fun g => ?_, fun g hg => ?_⟩
  · have := length_putF f y fs; omega
  · show RelO ((putF f y fs).lookup g) (if g = f then some u else mA g)
    rw [lookup_putF]
    by_cases q : g = f
    · rw [if_pos q, if_pos q]; exact ry
    · rw [if_neg q, if_neg q]; exact r g
  · by_cases q : g = f
    · rw [q]; exact (keys_putF f y fs).1
    · refine (keys_putF f y fs).2 g (wi g fun z => hg ?_)
      show (if g = f then some u else mA g) = none
      rw [if_neg q]; exact z
theorem Inv.made (I : Inv X pins σ H s) : Inv X pins σ (upd (upd H s.heap.objs.size (.own (s.heap.objs.size + 1))) (s.heap.objs.size + 1) (.ins C s.heap.objs.size []))
    { s with heap := (s.heap.push PySem.W.emptyDict).push (PySem.W.instObj C s.heap.objs.size) } := by
  have e1 : (s.heap.push PySem.W.emptyDict).get? s.heap.objs.size = some PySem.W.emptyDict := Heap.get?_push_size s.heap rfl
  have e2 : ((s.heap.push PySem.W.emptyDict).push (PySem.W.instObj C s.heap.objs.size)).get? (s.heap.objs.size + 1) = some (PySem.W.instObj C s.heap.objs.size) := by
    have := Heap.get?_push_size (s.heap.push PySem.W.emptyDict) (o := PySem.W.instObj C s.heap.objs.size) rfl
    rwa [Heap.size_push] at this
  have e3 : (s.heap.push PySem.W.emptyDict).Ns s.heap.objs.size (fun _ => none) := ⟨PySem.W.emptyDict, #[], _, e1, rfl, (fun e he => absurd he (by simp)), fun _ => rfl⟩
  have I1 := I.laid (a := s.heap.objs.size) (o := .own (s.heap.objs.size + 1)) (h' := s.heap.push PySem.W.emptyDict) (t' := s.toks) (fun b u q => Heap.get?_push_of_some _ q) (Nat.le_refl _) ⟨_, e1⟩
  refine I1.laid (a := s.heap.objs.size + 1) (o := .ins C s.heap.objs.size []) (t' := s.toks) (fun b u q => Heap.get?_push_of_some _ q) (Nat.le_of_eq (Heap.size_push _ _)) ?_
  have ne : s.heap.objs.size ≠ s.heap.objs.size + 1 := Nat.ne_of_lt (Nat.lt_succ_self _)
  refine ⟨by rw [upd_ne ne, upd_same], Nat.zero_le _, ne, e2, fun _ => none, (Heap.Ns1.of_empty e3).at fun o q => Heap.get?_push_of_some _ q, fun _ => True.intro, fun y hy => absurd rfl hy⟩
theorem attr_of {prog : Program} {w : World} {env : Env} {e : Expr} {f : Str} {pos : Pos} {s : Shared} {Q : Value → Shared → Prop} (hb : attributeBase e f env (eval e env) = eval e env)
    (h : wpAny (model prog w) A (eval e env) (fun o s₁ => wpAny (model prog w) A (getAttr o f true) Q E s₁) E s) : wpAny (model prog w) A (eval (.Attribute e f pos) env) Q E s :=
  Attribute_any_ h (by rw [arm_eval_Attribute, hb])
end
def tFld (K : PySem.W.Frag) (ta : TE) (f : Str) : TE := fun σ H Q => ta σ H fun x H1 => ∃ a C dx fs v, x = .ref a ∧ H1 a = some (.ins C dx fs) ∧ Cls K C ∧ NoAttr K C f ∧ fs.lookup f = some v ∧ Q v H1
def sFld (K : PySem.W.Frag) (ta tv : TE) (f : Str) : TS := fun D σ H => tv σ H fun y H1 => ta σ H1 fun x H2 => ∃ a C dx fs, x = .ref a ∧ H2 a = some (.ins C dx fs) ∧ Cls K C ∧ NoAttr K C f ∧ fs.length < 1000 ∧
  D.nx σ (upd H2 a (.ins C dx (putF f y fs)))
section
variable {X : Cx} {o e value : Expr} {f : Str} {pos pos' tpos : Pos} {ta tv : TE}
theorem pe_fld (he : PE X e ta) (hb : attributeBase e f X.env (eval e X.env) = eval e X.env) : PE X (.Attribute e f pos) (tFld X.K ta f) := by
  intro pins s σ H Q I h
  refine attr_of hb (thn (he pins s σ H _ I h) fun u s1 ⟨x, H1, I1, rx, a, C, dx, fs, v, ex, ea, c, n, l, q⟩ => ?_)
  subst ex
  obtain rfl : u = Value.ref a := rx
  exact getattr_ok I1 ea c n l fun u' s2 I2 ru => ⟨v, H1, I2, ru, q⟩
theorem ps_fld (ha : PE X o ta) (hv : PE X value tv) (hs : swapsWith value (some (.Attribute o f pos')) pos.line X.env = pure false) : PS X (.Assign [.Attribute o f pos'] value pos) (sFld X.K ta tv f) := by
  intro pins s σ H D I h
  refine plainObj_wpAny_Assign_Attribute (thn (hv pins s σ H _ I h) fun u s1 ⟨y, H1, I1, ry, q⟩ => thn (ha pins s1 σ H1 _ I1 q) fun ov s2 ⟨x, H2, I2, rx, a, C, dx, fs, ex, ea, c, n, l, q2⟩ => ?_) hs
  subst ex
  obtain rfl : ov = Value.ref a := rx
  exact setattr_ok I2 ea c n l ry fun s3 I3 => ⟨σ, _, I3, q2⟩
end
section
variable {X : Cx} {pins : List (Addr × Obj)} {σ : St} {H : Hp} {s : Shared} {A : Around} {E : Value → Shared → Prop} {Q : Value → Shared → Prop} {c : Value} {b : Bool}
end
end L2
namespace L2
open PySem PySem.Spec PyProof.Rows
structure Room (k : Nat) (A : Around) : Prop where
  hd : A.handled = none
  dp : A.depth + 3 * k + 5 < recursionLimit
  un : A.units + 16 * k + 200 < cLine
theorem Room.mono {j k : Nat} {A : Around} (r : Room k A) (h : j ≤ k) : Room j A := ⟨r.hd, by have := r.dp; omega, by have := r.un; omega⟩
theorem Room.deeper {k : Nat} {A : Around} (r : Room (k + 1) A) (env : Env) : Room k (A.deeper env) :=
  ⟨r.hd, by have := r.dp; show A.depth + 1 + 3 * k + 5 < _; omega, by have := r.un; show A.units + 3 + 16 * k + 200 < _; omega⟩
theorem make_depth {A : Around} {C : Addr} {us : List Value} {kw : List (Str × Value)} : (A.under (.builtin "type.__call__" ⟨.ref C :: us, kw⟩)).depth = A.depth + 1 := by
  first | rfl | simp [Around.under, Code.weight, Code.isCreation, Code.isGuard, Code.isCaller, Code.frames, Code.isFrame, guardIds]
theorem make_units {A : Around} {C : Addr} {us : List Value} {kw : List (Str × Value)} : (A.under (.builtin "type.__call__" ⟨.ref C :: us, kw⟩)).units = A.units + 1 := by
  first | rfl | simp [Around.under, Code.cUnits, Code.frames, Code.isFrame]
theorem Room.make {k : Nat} {A : Around} (r : Room (k + 1) A) (C : Addr) (us : List Value) (kw : List (Str × Value)) : Room k (A.under (.builtin "type.__call__" ⟨.ref C :: us, kw⟩)) :=
  ⟨r.hd, by have := r.dp; rw [make_depth]; omega, by have := r.un; rw [make_units]; omega⟩
theorem Room.depth {k : Nat} {A : Around} (r : Room k A) : A.depth < recursionLimit := by have := r.dp; omega
theorem Room.units {k : Nat} {A : Around} (r : Room k A) : A.units + 64 < cLine := by have := r.un; omega
def tNil : TA := fun _ H Q => Q [] H
def tCons (ta : TE) (tr : TA) : TA := fun σ H Q => ta σ H fun x H1 => tr σ H1 fun xs H2 => Q (x :: xs) H2
section
variable {X : Cx} {e : Expr} {es : List Expr} {te : TE} {t : TA} {pos : Pos}
theorem pa_nil : PA X [] tNil := fun _ _ _ _ H Q I h => Calls.spliced_nil ⟨[], H, I, .nil, h⟩
theorem pa_cons (ha : PE X e te) (hr : PA X es t) (hs : starEach (e :: es) X.env = (false, eval e X.env) :: starEach es X.env := by rfl) : PA X (e :: es) (tCons te t) := by
  intro pos pins s σ H Q I h
  rw [hs]
  show wpAny _ _ (spliced ((false, eval e X.env) :: backTo pos (starEach es X.env))) _ _ s
  refine Calls.spliced_cons (thn (ha pins s σ H _ I h) fun u s1 ⟨x, H1, I1, r1, q1⟩ => ?_)
  exact thn (hr pos pins s1 σ H1 _ I1 q1) fun us s2 ⟨xs, H2, I2, r2, q2⟩ => ⟨x :: xs, H2, I2, .cons r1 r2, q2⟩
def tTup (t : TA) : TE := fun σ H Q => t σ H fun xs H1 => xs.length ≤ sizeLine ∧ ∀ p, H1 p = none → Q (.ref p) (upd H1 p (.tup xs))
def tLst (t : TA) : TE := fun σ H Q => t σ H fun xs H1 => xs.length ≤ sizeLine ∧ ∀ p, H1 p = none → Q (.ref p) (upd H1 p (.lst xs))
theorem pe_tup {x1} (h : PA X es t) : PE X (.Tuple es x1 pos) (tTup t) := by
  intro pins s σ H Q I hq
  refine wpAny_Tuple_spliced (thn (h pos pins s σ H _ I hq) fun us s1 ⟨xs, H1, I1, r, z, q⟩ => ⟨by rw [← r.length]; exact z, ?_⟩)
  have hf : H1 s1.heap.objs.size = none := I1.hok.fresh (Nat.le_refl _)
  refine ⟨.ref s1.heap.objs.size, upd H1 s1.heap.objs.size (.tup xs), I1.laid (t' := s1.toks) (fun b u e => Heap.get?_push_of_some _ e) (Nat.le_refl _) ?_, rfl, q _ hf⟩
  exact ⟨z, us, r, ⟨_, Heap.get?_push_size _ rfl, rfl, _, rfl⟩⟩
theorem pe_lst (h : PA X es t) : PE X (.List es pos) (tLst t) := by
  intro pins s σ H Q I hq
  refine wpAny_List_spliced (thn (h pos pins s σ H _ I hq) fun us s1 ⟨xs, H1, I1, r, z, q⟩ => ⟨by rw [← r.length]; exact z, ?_⟩)
  have hf : H1 s1.heap.objs.size = none := I1.hok.fresh (Nat.le_refl _)
  refine ⟨.ref s1.heap.objs.size, upd H1 s1.heap.objs.size (.lst xs), I1.laid (t' := s1.toks) (fun b u e => Heap.get?_push_of_some _ e) (Nat.le_refl _) ?_, rfl, q _ hf⟩
  exact ⟨z, us, 0, r, Heap.get?_push_size _ rfl⟩
end
abbrev Sp := List V → Hp → VK → XK → Prop
abbrev CXT := List Env → Hp → Shared → XK → Value → Shared → Prop
structure Env0 (P : Program) (w : World) (K : PySem.W.Frag) (mg : Str → Option Value) (base : Heap) (A : Around) (outer : List Env) (s : Shared) (H : Hp) : Prop where
  frames : A.frames = some outer
  mod : Mod K mg base
  bs : ∀ b o, base.get? b = some o → s.heap.get? b = some o ∧ H b = none
  bsz : base.objs.size ≤ s.heap.objs.size
  funs : s.heap.FunFrames base outer
  frf : ∀ b ∈ frs outer, H b = none
  hok : HOk P w H s.heap
  bare : AllBare s.gens
def CE (outer : List Env) (P : Program) (w : World) (H : Hp) (s : Shared) (Q : VK) (u : Value) (s' : Shared) : Prop :=
  ∃ v H', s'.os = s.os ∧ AllBare s'.gens ∧ Un (frs outer) [] H H' s.heap s'.heap ∧ HOk P w H' s'.heap ∧ RelV v u ∧ Q v H'
def CR (CX : CXT) (outer : List Env) (P : Program) (w : World) (H : Hp) (s : Shared) (Q : VK) (E : XK) (r : Result) (s' : Shared) : Prop :=
  match r with
  | .ok (.ret u) => CE outer P w H s Q u s'
  | .ok _ => False
  | .error e => CX outer H s E e s'
structure FnOk (P : Program) (w : World) (K : PySem.W.Frag) (mg : Str → Option Value) (base : Heap) (CX : CXT) (k : Nat) (f : Addr) (fd : FuncData) (ps : List Str) (sp : Sp) : Prop where
  len : ∀ vs H Q E, sp vs H Q E → vs.length = ps.length
  run : ∀ (A : Around) (outer : List Env) (s : Shared) (H : Hp) (args : Args) (us : List Value) (vs : List V) (Q : VK) (E : XK), Room k A → Env0 P w K mg base A outer s H → BindsTo s fd args (ps.zip us) → Vals vs us → sp vs H Q E →
    codeAny (model P w) A (.call (.ref f) args) (CR CX outer P w H s Q E) s
theorem Env0.make {P : Program} {w : World} {K : PySem.W.Frag} {mg : Str → Option Value} {base : Heap} {A : Around} {outer : List Env} {s : Shared} {H : Hp} (e : Env0 P w K mg base A outer s H) (C : Addr) (us : List Value) (kw : List (Str × Value)) :
    Env0 P w K mg base (A.under (.builtin "type.__call__" ⟨.ref C :: us, kw⟩)) outer s H := ⟨by first | exact e.frames | (simpa [Around.under, Code.envs, Code.isFrame, pushEnvs] using e.frames), e.mod, e.bs, e.bsz, e.funs, e.frf, e.hok, e.bare⟩
section
variable {X : Cx} {pins : List (Addr × Obj)} {σ : St} {H : Hp} {s s' : Shared}
theorem Inv.env0 (I : Inv X pins σ H s) : Env0 X.prog X.w X.K X.mg X.base X.A X.stack s H :=
  ⟨I.ok.frames, I.ok.mod, I.bs, Nat.le_trans I.ok.bsz I.sz, I.stack, I.stkFree, I.hok, I.bare⟩
theorem Inv.after {Q : VK} {u : Value} (I : Inv X pins σ H s) (h : CE X.stack X.prog X.w H s Q u s') : EP X pins σ Q u s' := by
  obtain ⟨v, H', os, bare, un, hok, r, q⟩ := h
  obtain ⟨hh, g, d, t, os'⟩ := s'
  obtain rfl : os' = s.os := os
  exact ⟨v, H', I.call (h' := hh) (g' := g) (d' := d) (t' := t) (ch := []) un hok bare (fun b z => absurd z (by simp)), r, q⟩
end
def tCall (sp : Sp) (dvs : List V) (E : XK) (t : TA) : TE := fun σ H Q => t σ H fun vs H1 => sp (vs ++ dvs) H1 Q E
def tMake (C : Addr) (sp : Sp) (dvs : List V) (E : XK) (t : TA) : TE := fun σ H Q => t σ H fun vs H1 => ∀ x dx, H1 x = none → H1 dx = none → dx ≠ x →
  sp (.ref x :: (vs ++ dvs)) (upd (upd H1 dx (.own x)) x (.ins C dx [])) (fun v H2 => v = .non ∧ Q (.ref x) H2) E
def Binds (K : PySem.W.Frag) (fd : FuncData) (ps : List Str) (ds : List Value) : Prop :=
  ∀ (s : Shared) (us : List Value), K.In s.heap → (us ++ ds).length = ps.length → BindsTo s fd ⟨us, []⟩ (ps.zip (us ++ ds))
theorem Binds.all {K : PySem.W.Frag} {fd : FuncData} {ps : List Str} (h : ∀ us : List Value, us.length = ps.length → bindArgs fd ⟨us, []⟩ = pure (ps.zip us)) : Binds K fd ps [] := fun s us _ hl => by
  rw [List.append_nil] at hl ⊢
  exact .of_eq (h us hl)
def Passes (CX : CXT) (X : Cx) (E : XK) : Prop := ∀ (pins : List (Addr × Obj)) (σ : St) (H : Hp) (s : Shared) (e : Value) (s' : Shared), Inv X pins σ H s → CX X.stack H s E e s' → X.xe e s'
section
variable {X : Cx} {CX : CXT} {k : Nat} {f C : Addr} {fd : FuncData} {ps : List Str} {sp : Sp} {dvs : List V} {ds : List Value} {E : XK} {x m : Str} {p pos apos : Pos} {e o : Expr} {es : List Expr} {ta : TE} {t : TA}
theorem run_fn {pins : List (Addr × Obj)} {σ : St} {H : Hp} {s : Shared} {Q : VK} {us : List Value} {vs : List V} (F : FnOk X.prog X.w X.K X.mg X.base CX k f fd ps sp) (hr : Room k X.A) (hb : Binds X.K fd ps ds) (hd : Vals dvs ds) (hx : Passes CX X E)
    (I : Inv X pins σ H s) (r : Vals vs us) (h : sp (vs ++ dvs) H Q E) : wpAny (model X.prog X.w) X.A (call (.ref f) us) (EP X pins σ Q) X.xe s := by
  have r2 : Vals (vs ++ dvs) (us ++ ds) := r.append hd
  have hl : (us ++ ds).length = ps.length := by rw [← r2.length]; exact F.len _ _ _ _ h
  refine wpAny_call (codeAny_mono (F.run X.A X.stack s H ⟨us, []⟩ (us ++ ds) (vs ++ dvs) Q E hr I.env0 (hb s us I.kIn hl) r2 h) fun r s' hq => ?_)
  cases r with
  | error e => exact hx pins σ H s e s' I hq
  | ok fl =>
    cases fl with
    | ret u => exact I.after hq
    | next => exact False.elim hq
    | brk => exact False.elim hq
    | cont => exact False.elim hq
theorem pe_call (F : FnOk X.prog X.w X.K X.mg X.base CX k f fd ps sp) (hr : Room k X.A) (hg : Gl X x) (hm : X.mg x = some (.ref f)) (hk : PySem.W.keepIn X.K (.ref f) = true) (hb : Binds X.K fd ps ds) (hd : Vals dvs ds) (hx : Passes CX X E)
    (ha : PA X (e :: es) t) (hdb : (x == ("__debug__" : Str)) = false := by decide) (he : starEach (e :: es) X.env = (false, eval e X.env) :: starEach es X.env := by rfl) (hpl : (backTo pos (starEach es X.env)).any (·.1) = false := by rfl) :
    PE X (.Call (.Name x p) (e :: es) [] pos) (tCall sp dvs E t) := by
  intro pins s σ H Q I h
  refine wpAny_Call_Name_kw (ld_glob I hg hm ?_ hdb)
  refine PySem.W.callWith_K (h₀ := X.base) I.ok.mod.kin hk (thn (ha pos pins s σ H _ I h) fun us s1 ⟨vs, H1, I1, r, q⟩ => ⟨I1.kIn, ?_⟩) he hpl
  exact run_fn F hr hb hd hx I1 r q
structure Mk (K : PySem.W.Frag) (C f : Addr) : Prop where
  makes : PySem.W.makesIn K C = true
  init : PySem.W.findIn K (.ref C) "__init__" = some (some (.ref f))
  fn : PySem.W.isFn K (.ref f) = true
  kp : PySem.W.keepIn K (.ref C) = true
theorem run_make {pins : List (Addr × Obj)} {σ : St} {H : Hp} {s : Shared} {Q : VK} {us : List Value} {vs : List V} (M : Mk X.K C f) (F : FnOk X.prog X.w X.K X.mg X.base CX k f fd ps sp) (hr : Room (k + 1) X.A) (hb : Binds X.K fd ps ds) (hd : Vals dvs ds)
    (hx : Passes CX X E) (I : Inv X pins σ H s) (r : Vals vs us)
    (h : ∀ x dx, H x = none → H dx = none → dx ≠ x → sp (.ref x :: (vs ++ dvs)) (upd (upd H dx (.own x)) x (.ins C dx [])) (fun v H2 => v = .non ∧ Q (.ref x) H2) E) :
    wpAny (model X.prog X.w) X.A (call (.ref C) us) (EP X pins σ Q) X.xe s := by
  have hq := h (s.heap.objs.size + 1) s.heap.objs.size (I.hok.fresh (Nat.le_succ _)) (I.hok.fresh (Nat.le_refl _)) (Nat.ne_of_lt (Nat.lt_succ_self _))
  have I2 := Inv.made (C := C) I
  have r2 : Vals (V.ref (s.heap.objs.size + 1) :: (vs ++ dvs)) (Value.ref (s.heap.objs.size + 1) :: (us ++ ds)) := .cons rfl (r.append hd)
  have hl : (Value.ref (s.heap.objs.size + 1) :: us ++ ds).length = ps.length := by
    have e := r2.length
    rw [F.len _ _ _ _ hq] at e
    exact e.symm
  refine wpAny_call (make_map (f := f) I.kIn M.makes M.init (beq_iff_eq.mp M.fn) (codeAny_mono (F.run _ X.stack _ _ ⟨Value.ref (s.heap.objs.size + 1) :: us, []⟩ (Value.ref (s.heap.objs.size + 1) :: (us ++ ds)) _ _ E (hr.make C us [])
    (I2.env0.make C us []) (hb _ (Value.ref (s.heap.objs.size + 1) :: us) I2.kIn hl) r2 hq) fun r s' hq' => ?_))
  cases r with
  | error e => exact hx pins σ _ _ e s' I2 hq'
  | ok fl =>
    cases fl with
    | ret u =>
      obtain ⟨v, H', I3, rv, ev, q3⟩ := I2.after hq'
      subst ev
      exact ⟨rv, ⟨V.ref (s.heap.objs.size + 1), H', I3, rfl, q3⟩⟩
    | next => exact False.elim hq'
    | brk => exact False.elim hq'
    | cont => exact False.elim hq'
theorem pe_make (M : Mk X.K C f) (F : FnOk X.prog X.w X.K X.mg X.base CX k f fd ps sp) (hr : Room (k + 1) X.A) (hg : Gl X x) (hm : X.mg x = some (.ref C)) (hb : Binds X.K fd ps ds) (hd : Vals dvs ds) (hx : Passes CX X E)
    (ha : PA X (e :: es) t) (hdb : (x == ("__debug__" : Str)) = false := by decide) (he : starEach (e :: es) X.env = (false, eval e X.env) :: starEach es X.env := by rfl) (hpl : (backTo pos (starEach es X.env)).any (·.1) = false := by rfl) :
    PE X (.Call (.Name x p) (e :: es) [] pos) (tMake C sp dvs E t) := by
  intro pins s σ H Q I h
  refine wpAny_Call_Name_kw (ld_glob I hg hm ?_ hdb)
  refine PySem.W.callWith_K (h₀ := X.base) I.ok.mod.kin M.kp (thn (ha pos pins s σ H _ I h) fun us s1 ⟨vs, H1, I1, r, q⟩ => ⟨I1.kIn, ?_⟩) he hpl
  exact run_make M F hr hb hd hx I1 r q
end
section
variable {X : Cx} {CX : CXT} {k : Nat} {f C : Addr} {fd : FuncData} {ps ks : List Str} {sp : Sp} {E : XK} {x m : Str} {p pos apos kpos : Pos} {e o : Expr} {es : List Expr} {kws : List Keyword} {te ta : TE} {t tk : TA} {nm : Option Str}
variable {g : List Value → List Value → List Value} {gV : List V → List V → List V}
end
structure FnScope (N P : List Str) (sc : Scope) : Prop where
  kind : sc.kind = .function
  co : sc.isCoroutine = false
  gen : sc.isGenerator = false
  nd : N.Nodup
  pre : N.take P.length = P
  par : ∀ x ∈ P, sc.names.lookup x = some .local ∨ sc.names.lookup x = some .cell
  nofree : ∀ y ∈ sc.names, y.2 ≠ .free
theorem bindL_out {kindOf : Str → Option NameKind} {x : Str} : ∀ {binds : List (Str × Value)} {m : Str → Option Value}, (∀ v, (x, v) ∉ binds) → bindL kindOf binds m x = m x
  | [], _, _ => rfl
  | (n, v) :: r, m, h => by
    unfold bindL
    rw [bindL_out fun w hw => h w (List.mem_cons_of_mem _ hw)]
    split
    · have : x ≠ n := by rintro rfl; exact h v List.mem_cons_self
      simp [this]
    · rfl
theorem bindC_out {kindOf : Str → Option NameKind} {x : Str} : ∀ {binds : List (Str × Value)} {m : Str → Option Value}, (∀ v, (x, v) ∉ binds) → bindC kindOf binds m x = m x
  | [], _, _ => rfl
  | (n, v) :: r, m, h => by
    unfold bindC
    rw [bindC_out fun w hw => h w (List.mem_cons_of_mem _ hw)]
    split
    · rfl
    · have : x ≠ n := by rintro rfl; exact h v List.mem_cons_self
      simp [this]
theorem bindL_get {kindOf : Str → Option NameKind} {x : Str} {v : Value} : ∀ {P : List Str} {vs : List Value} {i : Nat} {m : Str → Option Value}, P.Nodup → P[i]? = some x → vs[i]? = some v → kindOf x = some .local →
    bindL kindOf (P.zip vs) m x = some v
  | [], _, _, _, _, h, _, _ => by simp at h
  | _ :: _, [], _, _, _, _, h, _ => by simp at h
  | p :: P, w :: vs, 0, m, nd, h1, h2, hk => by
    simp at h1 h2; subst h1; subst h2
    show bindL kindOf ((p, w) :: P.zip vs) m p = _
    unfold bindL
    rw [bindL_out fun v hv => (List.nodup_cons.mp nd).1 (List.of_mem_zip hv).1, if_pos hk]
    simp
  | p :: P, w :: vs, i + 1, m, nd, h1, h2, hk => by
    show bindL kindOf ((p, w) :: P.zip vs) m x = _
    unfold bindL
    exact bindL_get (i := i) (List.nodup_cons.mp nd).2 (by simpa using h1) (by simpa using h2) hk
theorem bindC_get {kindOf : Str → Option NameKind} {x : Str} {v : Value} : ∀ {P : List Str} {vs : List Value} {i : Nat} {m : Str → Option Value}, P.Nodup → P[i]? = some x → vs[i]? = some v → kindOf x ≠ some .local →
    bindC kindOf (P.zip vs) m x = some v
  | [], _, _, _, _, h, _, _ => by simp at h
  | _ :: _, [], _, _, _, _, h, _ => by simp at h
  | p :: P, w :: vs, 0, m, nd, h1, h2, hk => by
    simp at h1 h2; subst h1; subst h2
    show bindC kindOf ((p, w) :: P.zip vs) m p = _
    unfold bindC
    rw [bindC_out fun v hv => (List.nodup_cons.mp nd).1 (List.of_mem_zip hv).1, if_neg hk]
    simp
  | p :: P, w :: vs, i + 1, m, nd, h1, h2, hk => by
    show bindC kindOf ((p, w) :: P.zip vs) m x = _
    unfold bindC
    exact bindC_get (i := i) (List.nodup_cons.mp nd).2 (by simpa using h1) (by simpa using h2) hk
def start (N : List Str) (vs : List V) : St := vs.map some ++ List.replicate (N.length - vs.length) none
def cxOf (CX : CXT) (P : Program) (w : World) (K : PySem.W.Frag) (mg : Str → Option Value) (base : Heap) (N : List Str) (qual : Str) (scope : Scope) (f : Addr) (cd : Value) (A : Around) (outer : List Env) (s : Shared) (H : Hp) (E : XK) : Cx where
  prog := P
  w := w
  K := K
  mg := mg
  base := base
  A := A.deeper (envOfC qual scope s.heap.objs.size f cd)
  N := N
  s₀ := s
  H₀ := H
  env := envOfC qual scope s.heap.objs.size f cd
  outer := outer
  stack := envOfC qual scope s.heap.objs.size f cd :: outer
  ex := []
  calm := true
  fn := fun _ => true
  pn := []
  xe := fun e s' => wpAny (model P w) (A.deeper (envOfC qual scope s.heap.objs.size f cd)) (leaving (envOfC qual scope s.heap.objs.size f cd) e) (fun _ s'' => CX outer H s E e s'') (fun e' s'' => CX outer H s E e' s'') s'
theorem cell_has {sc : Scope} {n : Nat} {x : Str} (h : sc.names.lookup x = some .cell) : ∃ c, (cellsFrom n sc.names []).lookup x = some c := by
  have q := PySem.W.cellsFrom_some sc.names n [] (.inl h)
  exact Option.isSome_iff_exists.mp q
theorem inv_start {CX : CXT} {P : Program} {w : World} {K : PySem.W.Frag} {mg : Str → Option Value} {base : Heap} {N ps : List Str} {qual : Str} {scope : Scope} {f : Addr} {cd : Value} {A : Around} {outer : List Env} {s s1 : Shared} {H : Hp} {E : XK} {us : List Value} {vs : List V}
    (S : FnScope N ps scope) (hd : A.handled = none) (e0 : Env0 P w K mg base A outer s H) (hl : vs.length = ps.length) (r : Vals vs us)
    (x : InCallC s s.heap.objs.size (bindL (envOfC qual scope s.heap.objs.size f cd).kindOf (ps.zip us) fun _ => none) (cellsFrom (s.heap.objs.size + 1) scope.names []) (bindC (envOfC qual scope s.heap.objs.size f cd).kindOf (ps.zip us) fun _ => none) s1) :
    Inv (cxOf CX P w K mg base N qual scope f cd A outer s H E) [] (start N vs) H s1 := by
  have hpl : ps.length ≤ N.length := by have := congrArg List.length S.pre; rw [List.length_take] at this; omega
  obtain ⟨h1, tk, rfl, hk⟩ := x.done
  have noA : ∀ b : Addr, b ∉ (cxOf CX P w K mg base N qual scope f cd A outer s H E).ex := fun b z => absurd (show b ∈ ([] : List Addr) from z) (by simp)
  refine ⟨⟨e0.mod, S.kind, rfl, rfl, Nat.le_refl _, fun y z c h1 h2 => ?_, fun y hy => ?_, fun y c _ h => ?_, fun _ => hd, Around.frames_deeper e0.frames, .inr ⟨rfl, rfl⟩, fun b z => absurd z (noA b), e0.bs, e0.bsz, fun b _ _ => noA b, fun b z => absurd z (noA b), e0.funs, e0.frf⟩,
    rfl, e0.bare, Un.kept hk, ⟨_, x.toInCall.ns, fun i y v h1 h2 h3 => ?_⟩, fun y c h => ⟨_, x.cell y c h⟩, e0.hok.fresh (Nat.le_refl _), fun y c h => ?_, fun p hp => absurd (show p ∈ ([] : List (Addr × Obj)) from hp) (by simp), e0.hok.kept hk, ?_⟩
  · exact name_of_addr x.apart (PySem.mem_of_lookup h1) (PySem.mem_of_lookup h2)
  · have hy : scope.names.lookup y = some .cell ∨ scope.names.lookup y = some .free := hy
    rcases hy with hy | hy
    · exact cell_has hy
    · exact absurd rfl (S.nofree _ (PySem.mem_of_lookup hy))
  · exact Nat.le_of_lt (x.above y c (PySem.mem_of_lookup h))
  · have hi : i < vs.length := by
      unfold start at h2
      by_cases hi : i < vs.length
      · exact hi
      · rw [List.getElem?_append_right (by simpa using hi)] at h2
        rw [List.getElem?_replicate] at h2
        split at h2 <;> cases h2
    have ha : vs[i]? = some v := by
      unfold start at h2
      rw [List.getElem?_append_left (by simpa using hi), List.getElem?_map] at h2
      cases e : vs[i]? with
      | none => rw [e] at h2; cases h2
      | some a => rw [e] at h2; cases h2; rfl
    obtain ⟨u, hu, rv⟩ := r.get ha
    have hp : ps[i]? = some y := by
      rw [← S.pre, List.getElem?_take_of_lt (by omega)]; exact h1
    have ndP : ps.Nodup := by rw [← S.pre]; exact S.nd.sublist (List.take_sublist _ _)
    refine ⟨u, rv, ?_⟩
    rcases S.par y (List.mem_of_getElem? hp) with k | k
    · exact .inl ⟨k, bindL_get ndP hp hu k⟩
    · obtain ⟨c, e⟩ := cell_has (n := s.heap.objs.size + 1) k
      refine .inr ⟨.inl k, c, e, ?_⟩
      have q := x.cell y c e
      rw [bindC_get ndP hp hu (by show scope.names.lookup y ≠ _; rw [k]; decide)] at q
      exact q
  · exact e0.hok.fresh (Nat.le_of_lt (x.above y c (PySem.mem_of_lookup h)))
  · unfold start
    show _ = N.length
    rw [List.length_append, List.length_map, List.length_replicate]
    omega
theorem fn_of {CX : CXT} {P : Program} {w : World} {K : PySem.W.Frag} {mg : Str → Option Value} {base : Heap} {k : Nat} {f : Addr} {name qual : Str} {params : Arguments} {body : List Stmt} {scope : Scope} {dV kV doc pm cdv ct oc : Value} {an od : Option Addr}
    {osl : Array (Option Value)} {N ps : List Str} {sp : Sp} (lk : K.lookup f = some ⟨oc, od, .func (PySem.W.fnOf name qual params body scope dV kV doc pm an cdv ct), osl⟩) (hcd : PySem.W.codeIn K cdv qual = true) (S : FnScope N ps scope)
    (len : ∀ vs H Q E, sp vs H Q E → vs.length = ps.length)
    (hbody : ∀ (A : Around) (outer : List Env) (s : Shared) (H : Hp) (vs : List V) (Q : VK) (E : XK), Room k (A.deeper (envOfC qual scope s.heap.objs.size f cdv)) → sp vs H Q E →
      ∃ t, PSs (cxOf CX P w K mg base N qual scope f cdv A outer s H E) body t ∧ t { nx := fun _ H' => Q .non H', rt := Q } (start N vs) H) :
    FnOk P w K mg base CX (k + 1) f (PySem.W.fnOf name qual params body scope dV kV doc pm an cdv ct) ps sp := by
  refine ⟨len, fun A outer s H args us vs Q E hr e0 hb r hsp => ?_⟩
  have hl := len _ _ _ _ hsp
  have KX : K.In s.heap := e0.mod.kin.keeps fun b o e => (e0.bs b o e).1
  have lim : s.heap.NoLimit := e0.mod.nolimit.keeps fun b o e => (e0.bs b o e).1
  have hkind : ∀ y ∈ ps.zip us, scope.names.lookup y.1 = some .local ∨ (scope.names.lookup y.1 = some .cell ∧ ((cellsFrom (s.heap.objs.size + 1) scope.names []).lookup y.1).isSome = true) := fun ⟨n, v⟩ hy => by
    rcases S.par n (List.of_mem_zip hy).1 with q | q
    · exact .inl q
    · exact .inr ⟨q, PySem.W.cellsFrom_some _ _ _ (.inl q)⟩
  refine codeAny_call_function hr.depth (KX _ _ lk) rfl S.co S.gen rfl (PySem.W.codeRec_of KX hcd) (hb _ _ _ _ ?_)
  refine wpAny_newFunctionEnv_cells S.kind hkind fun env he s1 x => ?_
  subst he
  refine ⟨lim.keeps x.toInCall.keep, codeAny_func ?_⟩
  obtain ⟨t, ht, hq⟩ := hbody A outer s H vs Q E (hr.deeper _) hsp
  have I : Inv (cxOf CX P w K mg base N qual scope f cdv A outer s H E) [] (start N vs) H s1 := inv_start S hr.hd e0 hl r x
  refine wpAny_mono (ht [] s1 (start N vs) H _ I hq) (fun fl s' hs => ?_) fun e s' hs => hs
  have fin : ∀ {σ' : St} {H' : Hp} {v : V} {u : Value}, Inv (cxOf CX P w K mg base N qual scope f cdv A outer s H E) [] σ' H' s' → RelV v u → Q v H' → CE outer P w H s Q u s' :=
    fun {σ' H' v u} J rv q => ⟨v, H', J.os, J.bare, J.base, J.hok, rv, q⟩
  cases fl with
  | ret u =>
    obtain ⟨v, σ', H', J, rv, q⟩ := hs
    exact fin J rv q
  | next =>
    obtain ⟨σ', H', J, q⟩ := hs
    exact fin (v := V.non) (u := Value.none) J rfl q
  | brk =>
    obtain ⟨_, _, _, q⟩ := hs
    exact False.elim q
  | cont =>
    obtain ⟨_, _, _, q⟩ := hs
    exact False.elim q
end L2
namespace L2
open PySem PySem.Spec PyProof.Rows
section
variable {X : Cx} {x : Str} {p pos : Pos} {e : Expr} {es : List Expr} {t : TA} {id T : String} {r : List V → Hp → VK → Prop}
def tCB (r : List V → Hp → VK → Prop) (t : TA) : TE := fun σ H Q => t σ H fun vs H1 => r vs H1 Q
theorem pe_callB (hc : CallR X (.builtin id) r) (hg : Gl X x) (hm : X.mg x = none) (hv : bootBuiltins x = some (.builtin id)) (ha : PA X (e :: es) t) (hn : x ≠ "__name__" := by decide) (hdb : (x == ("__debug__" : Str)) = false := by decide)
    (he : starEach (e :: es) X.env = (false, eval e X.env) :: starEach es X.env := by rfl) (hpl : (backTo pos (starEach es X.env)).any (·.1) = false := by rfl) : PE X (.Call (.Name x p) (e :: es) [] pos) (tCB r t) := by
  intro pins s σ H Q I h
  refine wpAny_Call_Name_kw (ld_blt I hg hm hv ?_ hn hdb)
  exact PyProof.Rows.callWith_builtin1 (thn (ha pos pins s σ H _ I h) fun us s1 ⟨vs, H1, I1, r1, q1⟩ => hc pins s1 σ H1 vs us Q I1 r1 q1) he hpl
theorem pe_callTy (hc : CallR X (.type T) r) (hg : Gl X x) (hm : X.mg x = none) (hv : bootBuiltins x = some (.type T)) (ha : PA X (e :: es) t) (hn : x ≠ "__name__" := by decide) (hdb : (x == ("__debug__" : Str)) = false := by decide)
    (he : starEach (e :: es) X.env = (false, eval e X.env) :: starEach es X.env := by rfl) (hpl : (backTo pos (starEach es X.env)).any (·.1) = false := by rfl) : PE X (.Call (.Name x p) (e :: es) [] pos) (tCB r t) := by
  intro pins s σ H Q I h
  refine wpAny_Call_Name_kw (ld_blt I hg hm hv ?_ hn hdb)
  exact PyProof.Rows.callWith_type1 (thn (ha pos pins s σ H _ I h) fun us s1 ⟨vs, H1, I1, r1, q1⟩ => hc pins s1 σ H1 vs us Q I1 r1 q1) he hpl
end
end L2
namespace HT
open PySem PyProof.Rows
section
open PySem.SeqAt
open PySem.AutoSeq1 (wpAny_loadPart')
open PySem.MeetsSeq PySem.MeetsSeq2 PySem.MeetsSeq3
end
section
variable {prog : Program} {w : World} {A : Around} {E : Value → Shared → Prop} {s : Shared}
def sIx (n d : Nat) : Option Int → Nat
  | none => d
  | some v => if v < 0 then (v + (n : Int)).toNat else min v.toNat n
theorem sIx_none (n d : Nat) : sIx n d none = d := rfl
theorem sIx_nat (n d k : Nat) : sIx n d (some (k : Int)) = min k n := by
  show (if (k : Int) < 0 then ((k : Int) + (n : Int)).toNat else min (k : Int).toNat n) = min k n
  rw [if_neg (by omega), Int.toNat_natCast]
end
end HT
namespace L2
open PySem PySem.Spec PyProof.Rows
abbrev TO := St → Hp → (Option Int → Hp → Prop) → Prop
def PO (X : Cx) (e : Option Expr) (t : TO) : Prop :=
  ∀ (pins : List (Addr × Obj)) (s : Shared) (σ : St) (H : Hp) (Q : Option Int → Hp → Prop), Inv X pins σ H s → t σ H Q →
    wpAny (model X.prog X.w) X.A (evalPart e X.env) (fun u s' => ∃ o H', Inv X pins σ H' s' ∧ IsPart u o ∧ Q o H') X.xe s
def tNoPart : TO := fun _ H Q => Q none H
def tPart (t : TE) : TO := fun σ H Q => t σ H fun x H1 => ∃ i, x = .int i ∧ Q (some i) H1
section
variable {X : Cx} {e : Expr} {te : TE} {lo hi : Option Expr} {tl th : TO} {pos p2 : Pos}
theorem po_none : PO X none tNoPart := by
  intro pins s σ H Q I h
  rw [evalPart_none]
  exact wpAny_pure ⟨none, H, I, .none, h⟩
theorem po_some (h : PE X e te) : PO X (some e) (tPart te) := by
  intro pins s σ H Q I hw
  rw [evalPart_some]
  refine thn (h pins s σ H _ I hw) fun u s1 ⟨x, H1, I1, r1, q1⟩ => ?_
  obtain ⟨i, rfl, q⟩ := q1
  obtain ⟨t, rfl⟩ := r1
  exact ⟨some i, H1, I1, .int i t, q⟩
def SlR (X : Cx) (r : V → Option Int → Option Int → Hp → VK → Prop) : Prop :=
  ∀ (pins : List (Addr × Obj)) (s : Shared) (σ : St) (H : Hp) (x : V) (v vl vu : Value) (lo hi : Option Int) (sl : Addr) (Q : VK), Inv X pins σ H s → RelV x v → s.heap.IsSliceOf sl vl vu .none → IsPart vl lo → IsPart vu hi → r x lo hi H Q →
    ∃ T id, typeLookup (.type T) "__getitem__" = pure (some (.builtin id)) ∧ s.TypeIs v T ∧ wpAny (model X.prog X.w) X.A (getItem v (.ref sl)) (EP X pins σ Q) X.xe s
def tSl (r : V → Option Int → Option Int → Hp → VK → Prop) (te : TE) (tl th : TO) : TE := fun σ H Q => te σ H fun x H1 => tl σ H1 fun l H2 => th σ H2 fun u H3 => r x l u H3 Q
theorem pe_slice {r : V → Option Int → Option Int → Hp → VK → Prop} (hr : SlR X r) (he : PE X e te) (hl : PO X lo tl) (hu : PO X hi th) : PE X (.Subscript e (.Slice lo hi none p2) pos) (tSl r te tl th) := by
  intro pins s σ H Q I h
  refine Subscript_ (thn (he pins s σ H _ I h) fun v s1 ⟨x, H1, I1, r1, q1⟩ => ?_)
  refine wpAny_Slice (thn (hl pins s1 σ H1 _ I1 q1) fun vl s2 ⟨l, H2, I2, pl, q2⟩ => thn (hu pins s2 σ H2 _ I2 q2) fun vu s3 ⟨u, H3, I3, pu, q3⟩ => ?_)
  rw [evalPart_none]
  refine wpAny_pure ?_
  have I4 : Inv X pins σ H3 { s3 with heap := s3.heap.push { cls := .type "slice", data := .fields #[vl, vu, .none] } } := I3.kept (t' := s3.toks) fun b ob q => Heap.get?_push_of_some _ q
  obtain ⟨T, id, hT, ht, hg⟩ := hr pins { s3 with heap := s3.heap.push { cls := .type "slice", data := .fields #[vl, vu, .none] } } σ H3 x v vl vu l u s3.heap.objs.size Q I4 r1 (Heap.IsSliceOf.new ..) pl pu q3
  show wpAny (model X.prog X.w) X.A (subscriptTail e (.Slice lo hi none p2) v (.ref s3.heap.objs.size)) (EP X pins σ Q) X.xe { s3 with heap := s3.heap.push { cls := .type "slice", data := .fields #[vl, vu, .none] } }
  exact tail_any (ops := [.ref s3.heap.objs.size, v]) ht hT hg (by with_unfolding_all rfl)
def cutV (xs : List V) (lo hi : Option Int) : List V := (xs.drop (HT.sIx xs.length 0 lo)).take (HT.sIx xs.length xs.length hi - HT.sIx xs.length 0 lo)
theorem cutV_length (xs : List V) (lo hi : Option Int) : (cutV xs lo hi).length ≤ xs.length := by
  unfold cutV
  rw [List.length_take, List.length_drop]
  omega
end
end L2
namespace L2
open PySem PySem.Spec PyProof.Rows
def ixN (n : Nat) (i : Int) : Option Nat := if 0 ≤ i then (if i < n then some i.toNat else none) else if -(n : Int) ≤ i then some (i + n).toNat else none
def atI {α : Type} (xs : List α) (i : Int) : Option α := (ixN xs.length i).bind fun j => xs[j]?
theorem ixN_seq {n : Nat} {i : Int} {j : Nat} (h : ixN n i = some j) : seqIndex? i n = some j ∧ j < n ∧ -(n : Int) ≤ i ∧ i < n := by
  unfold ixN at h
  by_cases h0 : 0 ≤ i
  · rw [if_pos h0] at h
    by_cases h1 : i < n
    · rw [if_pos h1] at h
      have e : i.toNat = j := Option.some.inj h
      exact ⟨by rw [seqIndex_of h0 h1, e], by omega, by omega, h1⟩
    · rw [if_neg h1] at h; cases h
  · rw [if_neg h0] at h
    by_cases h1 : -(n : Int) ≤ i
    · rw [if_pos h1] at h
      have e : (i + n).toNat = j := Option.some.inj h
      exact ⟨by rw [seqIndex_neg (by omega) h1, e], by omega, h1, by omega⟩
    · rw [if_neg h1] at h; cases h
theorem atI_get {α : Type} {xs : List α} {i : Int} {v : α} (h : atI xs i = some v) : ∃ j, seqIndex? i xs.length = some j ∧ xs[j]? = some v ∧ j < xs.length ∧ -(xs.length : Int) ≤ i ∧ i < xs.length := by
  unfold atI at h
  cases e : ixN xs.length i with
  | none => rw [e] at h; cases h
  | some j =>
    rw [e] at h
    obtain ⟨h1, h2, h3, h4⟩ := ixN_seq e
    exact ⟨j, h1, h, h2, h3, h4⟩
theorem atI_nat {α : Type} {xs : List α} {j : Nat} {v : α} (h : xs[j]? = some v) : atI xs (j : Int) = some v := by
  have hj : j < xs.length := (List.getElem?_eq_some_iff.mp h).1
  have e : ixN xs.length (j : Int) = some j := by
    unfold ixN
    rw [if_pos (by omega), if_pos (by omega)]; simp
  unfold atI; rw [e]; exact h
def PlainIx (b : Expr) : Prop := ∀ o i, subscripted b false o i = operate [o, i] (getItem o i)
def IxR (X : Cx) (r : R2) : Prop :=
  ∀ (value slice : Expr) (pins : List (Addr × Obj)) (s : Shared) (σ : St) (H : Hp) (x y : V) (v u : Value) (Q : VK), Inv X pins σ H s → RelV x v → RelV y u → r x y H Q →
    subscripted slice false v u = operate [v, u] (getItem v u) → wpAny (model X.prog X.w) X.A (subscriptTail value slice v u) (EP X pins σ Q) X.xe s
def MtR (X : Cx) (id : String) (r : V → List V → Hp → VK → Prop) : Prop :=
  ∀ (pins : List (Addr × Obj)) (s : Shared) (σ : St) (H : Hp) (x : V) (xs : List V) (v : Value) (us : List Value) (Q : VK), Inv X pins σ H s → RelV x v → Vals xs us → r x xs H Q →
    wpAny (model X.prog X.w) X.A (call (.builtin id) (v :: us)) (EP X pins σ Q) X.xe s
section
variable {X : Cx} {a b : Expr} {ta tb : TE} {pos : Pos}
theorem pe_ix {r : R2} (hr : IxR X r) (ha : PE X a ta) (hb : PE X b tb) (hs : PlainIx b) : PE X (.Subscript a b pos) (tOp r ta tb) := by
  intro pins s σ H Q I h
  exact Subscript_ (binT ha hb I h fun v u s2 x y H2 I2 rx ry q => hr a b pins s2 σ H2 x y v u Q I2 rx ry q (hs _ _))
def rIxL (K : PySem.W.Frag) : R2 := fun x y H Q => ∃ p xs i v, x = .ref p ∧ y = .int i ∧ SqL K H p xs ∧ atI xs i = some v ∧ Q v H
def rIxT (K : PySem.W.Frag) : R2 := fun x y H Q => ∃ p xs i v, x = .ref p ∧ y = .int i ∧ SqT K H p xs ∧ atI xs i = some v ∧ Q v H
theorem ix_list : IxR X (rIxL X.K) := by
  intro value slice pins s σ H x y v u Q I rx ry h hs
  obtain ⟨p, xs, i, z, rfl, rfl, hq, he, q⟩ := h
  cases rx
  obtain ⟨t, rfl⟩ := ry
  obtain ⟨its, r, pl, hz⟩ := I.list hq
  obtain ⟨j, h1, h2, h3, h4, h5⟩ := atI_get he
  obtain ⟨w, ew, rw'⟩ := r.get h2
  have hl := r.length
  have hn := line63
  have fin : EP X pins σ Q w s := ⟨z, H, I, rw', q⟩
  by_cases h0 : 0 ≤ i
  · have hj : i.toNat = j := by
      rw [seqIndex_of h0 h5] at h1
      exact Option.some.inj h1
    exact item_listR pl.isList h0 (by omega) (by rw [hj]; simpa using ew) fin hs
  · have hj : (i + (its.toArray.size : Int)).toNat = j := by
      rw [seqIndex_neg (by omega) h4] at h1
      rw [List.size_toArray, ← hl]
      exact Option.some.inj h1
    exact subscriptTail_builtinR (x := w) pl.isList.typeIs slot_list_getitem.lookup
      (wpAny_getItem_list_neg (Q := fun r s' => r = w ∧ EP X pins σ Q r s') pl.isList (by omega) (by rw [List.size_toArray] <;> omega) (by omega) (by rw [hj]; simpa using ew) ⟨rfl, fin⟩) hs
theorem ix_tup : IxR X (rIxT X.K) := by
  intro value slice pins s σ H x y v u Q I rx ry h hs
  obtain ⟨p, xs, i, z, rfl, rfl, hq, he, q⟩ := h
  cases rx
  obtain ⟨t, rfl⟩ := ry
  obtain ⟨its, r, pl, hz⟩ := I.tuple hq
  obtain ⟨j, h1, h2, h3, h4, h5⟩ := atI_get he
  obtain ⟨w, ew, rw'⟩ := r.get h2
  have hl := r.length
  have hn := line63
  have fin : EP X pins σ Q w s := ⟨z, H, I, rw', q⟩
  exact subscriptTail_builtinR (x := w) pl.typeIs slot_tuple_getitem.lookup
    (getItem_tuple (j := j) (Q := fun r s' => r = w ∧ EP X pins σ Q r s') pl (by omega) (by omega) (by rw [List.size_toArray, ← hl]; exact h1) (by simpa using ew) ⟨rfl, fin⟩) hs
theorem mapSeq_set (its : List Value) (n j : Nat) (u : Value) : Obj.mapSeq (·.setIfInBounds j u) { cls := .type "list", data := .seq its.toArray n } = { cls := .type "list", data := .seq (its.set j u).toArray n } := by
  simp [Obj.mapSeq]
theorem Inv.lst {pins : List (Addr × Obj)} {σ : St} {H : Hp} {s : Shared} {p : Addr} {xs : List V} (I : Inv X pins σ H s) (h : H p = some (.lst xs)) :
    ∃ (its : List Value) (n : Nat), Vals xs its ∧ s.heap.get? p = some { cls := .type "list", data := .seq its.toArray n } ∧ xs.length ≤ sizeLine := by
  obtain ⟨z, its, n, r, e⟩ := I.hok p _ h
  exact ⟨its, n, r, e, z⟩
theorem Inv.lstUpd {pins : List (Addr × Obj)} {σ : St} {H : Hp} {s : Shared} {p : Addr} {xs ys : List V} {its its' : List Value} {n n' : Nat} {f : Obj → Obj} (I : Inv X pins σ H s) (h : H p = some (.lst xs))
    (ho : s.heap.get? p = some { cls := .type "list", data := .seq its.toArray n }) (hf : f { cls := .type "list", data := .seq its.toArray n } = { cls := .type "list", data := .seq its'.toArray n' }) (r : Vals ys its') (hz : ys.length ≤ sizeLine) (t : Nat) :
    Inv X pins σ (upd H p (.lst ys)) { s with heap := s.heap.update p f, toks := t } := by
  have e : (s.heap.update p f).get? p = some { cls := .type "list", data := .seq its'.toArray n' } := by
    rw [Heap.get?_update_self f ho (by rw [hf] <;> rfl), hf]
  refine I.write (x := p) (e := p) (by rw [h]; trivial) (.inl rfl) (fun b u hb q => (Heap.get?_update_other _ _ (Ne.symm hb)).trans q) ⟨_, e⟩ ?_
  exact ⟨hz, its', n', r, e⟩
def rSetL : V → V → V → Hp → (Hp → Prop) → Prop := fun o i v H Q => ∃ p xs k j, o = .ref p ∧ i = .int k ∧ H p = some (.lst xs) ∧ ixN xs.length k = some j ∧ Q (upd H p (.lst (xs.set j v)))
theorem set_list : PSet X rSetL := by
  intro pins s σ H o i v ov iv u Q I ro ri rv h
  obtain ⟨p, xs, k, j, rfl, rfl, hp, hj, q⟩ := h
  cases ro
  obtain ⟨t, rfl⟩ := ri
  obtain ⟨its, n, r, ho, hz⟩ := I.lst hp
  obtain ⟨h1, h2, h3, h4⟩ := ixN_seq hj
  have hl := r.length
  have hn := line63
  have I' : Inv X pins σ (upd H p (.lst (xs.set j v))) { s with heap := s.heap.update p (Obj.mapSeq (·.setIfInBounds j u)) } :=
    I.lstUpd hp ho (mapSeq_set its n j u) (r.set rv j) (by rw [List.length_set]; exact hz) s.toks
  by_cases h0 : 0 ≤ k
  · have hk : k.toNat = j := by
      rw [seqIndex_of h0 h4] at h1
      exact Option.some.inj h1
    exact PySem.W.ki_setAt ho h0 (by omega) (by rw [List.size_toArray, ← hl]; exact h4) (by rw [hk]; exact ⟨_, I', q⟩)
  · have hk : (k + (its.toArray.size : Int)).toNat = j := by
      rw [seqIndex_neg (by omega) h3] at h1
      rw [List.size_toArray, ← hl]
      exact Option.some.inj h1
    exact PySem.W.ki_setBack ho (by omega) (by rw [List.size_toArray, ← hl]; exact h3) (by omega) (by rw [hk]; exact ⟨_, I', q⟩)
theorem slice_bounds (lo hi : Option Int) (n : Nat) : (sliceBounds lo hi none n).1 = ((HT.sIx n 0 lo : Nat) : Int) ∧ (sliceBounds lo hi none n).2.1 = ((HT.sIx n n hi : Nat) : Int) ∧ (sliceBounds lo hi none n).2.2 = 1 := by
  refine ⟨?_, ?_, rfl⟩
  · cases lo with
    | none => simp [sliceBounds, HT.sIx]
    | some i =>
      simp only [sliceBounds, HT.sIx, Option.getD_none, show (1 : Int) > 0 by decide, if_true]
      by_cases h : i < 0
      · simp only [h, if_true] <;> omega
      · simp only [h, if_false] <;> omega
  · cases hi with
    | none => simp [sliceBounds, HT.sIx]
    | some i =>
      simp only [sliceBounds, HT.sIx, Option.getD_none, show (1 : Int) > 0 by decide, if_true]
      by_cases h : i < 0
      · simp only [h, if_true] <;> omega
      · simp only [h, if_false] <;> omega
theorem slicePick_cut (its : List Value) (lo hi : Option Int) : slicePick its.toArray lo hi none = ((its.drop (HT.sIx its.length 0 lo)).take (HT.sIx its.length its.length hi - HT.sIx its.length 0 lo)).toArray := by
  obtain ⟨h1, h2, h3⟩ := slice_bounds lo hi its.toArray.size
  unfold slicePick
  rw [h1, h2, h3]
  simp only [sliceRange_one, pick_run, List.size_toArray] <;> rfl
def rSlL (K : PySem.W.Frag) : V → Option Int → Option Int → Hp → VK → Prop := fun x lo hi H Q => ∃ a xs, x = .ref a ∧ SqL K H a xs ∧ ∀ p, H p = none → Q (.ref p) (upd H p (.lst (cutV xs lo hi)))
theorem sl_list : SlR X (rSlL X.K) := by
  intro pins s σ H x v vl vu lo hi sl Q I rx hs pl pu h
  obtain ⟨a, xs, rfl, hx, q⟩ := h
  cases rx
  obtain ⟨its, r, ht, hz⟩ := I.list hx
  have hlen := r.length
  refine ⟨"list", _, slot_list_getitem.lookup, ht.isList.typeIs, ?_⟩
  refine wpAny_getItem_list_slice ht.isList hs pl pu .none (by simp) ?_ (by rw [List.size_toArray] <;> omega)
  rw [slicePick_cut, ← hlen]
  refine ⟨.ref s.heap.objs.size, _, I.laid (t' := s.toks) (o := .lst (cutV xs lo hi)) (fun b ob q => Heap.get?_push_of_some _ q) (Nat.le_refl _) ?_, rfl, q _ (I.hok.fresh (Nat.le_refl _))⟩
  exact ⟨Nat.le_trans (cutV_length xs lo hi) hz, _, 0, (r.drop (HT.sIx xs.length 0 lo)).take (HT.sIx xs.length xs.length hi - HT.sIx xs.length 0 lo), Heap.get?_push_size _ rfl⟩
def flatV : V → Bool
  | .non => true
  | .bl _ => true
  | .int _ => true
  | .str _ => true
  | _ => false
def eqV : V → V → Bool
  | .non, .non => true
  | .bl a, .bl b => a == b
  | .bl a, .int b => (if a then 1 else 0) == b
  | .int a, .bl b => a == (if b then 1 else 0)
  | .int a, .int b => a == b
  | .str a, .str b => a == b
  | _, _ => false
theorem eqAt_V {A : Around} {s : Shared} {y x : V} {u v : Value} (ry : RelV y u) (rx : RelV x v) (fy : flatV y = true) (fx : flatV x = true) : SeqAt.EqAt A s u v (eqV y x) := by
  cases y with
  | non =>
    cases ry
    cases x with
    | non => cases rx; exact SeqAt.EqAt.same _
    | bl b => cases rx; exact SeqAt.EqAt.none_bool b
    | int b => obtain ⟨t, rfl⟩ := rx; exact SeqAt.EqAt.none_int b t
    | str b => obtain ⟨t, rfl⟩ := rx; exact SeqAt.EqAt.none_str b t
    | _ => exact absurd (show false = true from fx) Bool.false_ne_true
  | bl a =>
    cases ry
    cases x with
    | non => cases rx; exact SeqAt.EqAt.bool_none a
    | bl b => cases rx; exact SeqAt.EqAt.bool_bool a b
    | int b => obtain ⟨t, rfl⟩ := rx; exact SeqAt.EqAt.bool_int a b t
    | str b => obtain ⟨t, rfl⟩ := rx; exact SeqAt.EqAt.bool_str a b t
    | _ => exact absurd (show false = true from fx) Bool.false_ne_true
  | int a =>
    obtain ⟨t', rfl⟩ := ry
    cases x with
    | non => cases rx; exact SeqAt.EqAt.int_none a t'
    | bl b => cases rx; exact SeqAt.EqAt.int_bool a t' b
    | int b => obtain ⟨t, rfl⟩ := rx; exact SeqAt.EqAt.int_int a t' b t
    | str b => obtain ⟨t, rfl⟩ := rx; exact SeqAt.EqAt.int_str a t' b t
    | _ => exact absurd (show false = true from fx) Bool.false_ne_true
  | str a =>
    obtain ⟨t', rfl⟩ := ry
    cases x with
    | non => cases rx; exact SeqAt.EqAt.str_none a t'
    | bl b => cases rx; exact SeqAt.EqAt.str_bool a t' b
    | int b => obtain ⟨t, rfl⟩ := rx; exact SeqAt.EqAt.str_int a t' b t
    | str b => obtain ⟨t, rfl⟩ := rx; exact SeqAt.EqAt.str_str a t' b t
    | _ => exact absurd (show false = true from fx) Bool.false_ne_true
  | _ => exact absurd (show false = true from fy) Bool.false_ne_true
def eqU (x : V) (u : Value) : Bool := match u with
  | .none => eqV .non x
  | .bool b => eqV (.bl b) x
  | .int i _ => eqV (.int i) x
  | .str z _ => eqV (.str z) x
  | _ => false
theorem eqU_of {x y : V} {u : Value} (r : RelV y u) (f : flatV y = true) : eqU x u = eqV y x := by
  cases y with
  | non => cases r; rfl
  | bl b => cases r; rfl
  | int i => obtain ⟨t, rfl⟩ := r; rfl
  | str z => obtain ⟨t, rfl⟩ := r; rfl
  | _ => exact absurd (show false = true from f) Bool.false_ne_true
theorem any_eqU {x : V} : ∀ {xs : List V} {us : List Value}, Vals xs us → xs.all flatV = true → us.any (eqU x) = xs.any fun y => eqV y x
  | _, _, .nil, _ => rfl
  | y :: xs, u :: us, .cons r t, f => by
    rw [List.all_cons, Bool.and_eq_true] at f
    rw [List.any_cons, List.any_cons, eqU_of r f.1, any_eqU t f.2]
theorem mem_eqAt {A : Around} {s : Shared} {x : V} {v : Value} (rx : RelV x v) (fx : flatV x = true) : ∀ {xs : List V} {us : List Value}, Vals xs us → xs.all flatV = true → ∀ u ∈ us, SeqAt.EqAt A s u v (eqU x u)
  | _, _, .nil, _ => fun u hu => by cases hu
  | y :: xs, u :: us, .cons r t, f => fun u' hu => by
    rw [List.all_cons, Bool.and_eq_true] at f
    rcases List.mem_cons.mp hu with rfl | hu
    · rw [eqU_of r f.1]; exact eqAt_V r rx f.1 fx
    · exact mem_eqAt rx fx t f.2 u' hu
def inV (x : V) (xs : List V) : Bool := xs.any fun y => eqV y x
def rIn (K : PySem.W.Frag) (neg : Bool) : R2 := fun x y H Q => ∃ p xs, y = .ref p ∧ (SqL K H p xs ∨ SqT K H p xs) ∧ flatV x = true ∧ xs.all flatV = true ∧ Q (.bl (if neg then !inV x xs else inV x xs)) H
theorem op_in_seq : OpR X (compareOp .In) (rIn X.K false) := by
  intro pins s σ H x y v u Q I rx ry h
  obtain ⟨p, xs, rfl, hq, fx, fs, q⟩ := h
  cases ry
  rcases hq with hq | hq
  · obtain ⟨its, r, pl, hz⟩ := I.list hq
    refine SeqAt.in_listAt (eqU x) pl.isList (fun w hw => mem_eqAt rx fx r fs w (by simpa using hw)) ⟨.bl _, H, I, rfl, ?_⟩
    rw [show its.toArray.any (eqU x) = its.any (eqU x) by simp, any_eqU r fs]
    exact q
  · obtain ⟨its, r, pl, hz⟩ := I.tuple hq
    refine SeqAt.in_tupleAt (eqU x) pl (fun w hw => mem_eqAt rx fx r fs w (by simpa using hw)) ⟨.bl _, H, I, rfl, ?_⟩
    rw [show its.toArray.any (eqU x) = its.any (eqU x) by simp, any_eqU r fs]
    exact q
theorem op_notIn_seq : OpR X (compareOp .NotIn) (rIn X.K true) := by
  intro pins s σ H x y v u Q I rx ry h
  obtain ⟨p, xs, rfl, hq, fx, fs, q⟩ := h
  cases ry
  rcases hq with hq | hq
  · obtain ⟨its, r, pl, hz⟩ := I.list hq
    refine SeqAt.notIn_listAt (eqU x) pl.isList (fun w hw => mem_eqAt rx fx r fs w (by simpa using hw)) ⟨.bl _, H, I, rfl, ?_⟩
    rw [show its.toArray.any (eqU x) = its.any (eqU x) by simp, any_eqU r fs]
    exact q
  · obtain ⟨its, r, pl, hz⟩ := I.tuple hq
    refine SeqAt.notIn_tupleAt (eqU x) pl (fun w hw => mem_eqAt rx fx r fs w (by simpa using hw)) ⟨.bl _, H, I, rfl, ?_⟩
    rw [show its.toArray.any (eqU x) = its.any (eqU x) by simp, any_eqU r fs]
    exact q
theorem call_len_seq : CallR X (.builtin "len") (fun xs H Q => ∃ p ys, xs = [.ref p] ∧ (SqL X.K H p ys ∨ SqT X.K H p ys) ∧ Q (.int ys.length) H) := by
  intro pins s σ H xs us Q I r h
  obtain ⟨p, ys, rfl, hq, q⟩ := h
  obtain ⟨u, rfl, rx⟩ := vals1 r
  cases rx
  have hn := line63
  rcases hq with hq | hq
  · obtain ⟨its, r', pl, hz⟩ := I.list hq
    have hlen := r'.length
    exact Calls.call_len_list pl.isList (by simp only [List.size_toArray] <;> omega) ⟨.int ys.length, H, I.tok _, ⟨s.toks + 1, by rw [List.size_toArray, hlen]⟩, q⟩
  · obtain ⟨its, r', pl, hz⟩ := I.tuple hq
    have hlen := r'.length
    exact len_tuple pl (by simp only [List.size_toArray] <;> omega) ⟨.int ys.length, H, I.tok _, ⟨s.toks + 1, by rw [List.size_toArray, hlen]⟩, q⟩
theorem call_len_str : CallR X (.builtin "len") (fun xs H Q => ∃ z, xs = [.str z] ∧ z.length ≤ sizeLine ∧ Q (.int z.length) H) := by
  intro pins s σ H xs us Q I r h
  obtain ⟨z, rfl, hz, q⟩ := h
  obtain ⟨u, rfl, t, rfl⟩ := vals1 r
  have hn := line63
  exact len_str (by omega) ⟨.int z.length, H, I.tok _, ⟨_, rfl⟩, q⟩
theorem call_list_of : CallR X (.type "list") (fun xs H Q => ∃ p ys, xs = [.ref p] ∧ (SqL X.K H p ys ∨ SqT X.K H p ys) ∧ ∀ l, H l = none → Q (.ref l) (upd H l (.lst ys))) := by
  intro pins s σ H xs us Q I r h
  obtain ⟨p, ys, rfl, hq, q⟩ := h
  obtain ⟨u, rfl, rx⟩ := vals1 r
  cases rx
  have fin : ∀ (its : List Value), Vals ys its → ys.length ≤ sizeLine → ∀ (h' : Heap) (c' : Nat), (∀ b o', s.heap.get? b = some o' → h'.get? b = some o') →
      h'.get? s.heap.objs.size = some { cls := .type "list", dict := none, data := .seq its.toArray c', slots := #[] } → EP X pins σ Q (.ref s.heap.objs.size) { s with heap := h' } := fun its r' hz h' c' kp e =>
    ⟨.ref s.heap.objs.size, _, I.laid (t' := s.toks) kp (Nat.le_refl _) (show ObjOk X.prog X.w _ h' _ (.lst ys) from ⟨hz, its, c', r', e⟩), rfl, q _ (I.hok.fresh (Nat.le_refl _))⟩
  rcases hq with hq | hq
  · obtain ⟨its, r', pl, hz⟩ := I.list hq
    have hlen := r'.length
    obtain ⟨o, ho, hc, n, hd⟩ := pl.isList
    exact call_list_seq p (.inl rfl) ho hc hd (fun h' c' kp e => fin its r' hz h' c' kp e) (by simp only [List.size_toArray] <;> omega)
  · obtain ⟨its, r', pl, hz⟩ := I.tuple hq
    have hlen := r'.length
    obtain ⟨o, ho, hc, n, hd⟩ := pl
    exact call_list_seq p (.inr rfl) ho hc hd (fun h' c' kp e => fin its r' hz h' c' kp e) (by simp only [List.size_toArray] <;> omega)
theorem call_tuple_of : CallR X (.type "tuple") (fun xs H Q => ∃ p ys, xs = [.ref p] ∧ ((SqL X.K H p ys ∧ ∀ l, H l = none → Q (.ref l) (upd H l (.tup ys))) ∨ (SqT X.K H p ys ∧ Q (.ref p) H))) := by
  intro pins s σ H xs us Q I r h
  obtain ⟨p, ys, rfl, h⟩ := h
  obtain ⟨u, rfl, rx⟩ := vals1 r
  cases rx
  rcases h with ⟨hq, q⟩ | ⟨hq, q⟩
  · obtain ⟨its, r', pl, hz⟩ := I.list hq
    have hlen := r'.length
    refine call_tuple_list pl.isList (fun h' kp => ?_) (by simp only [List.size_toArray] <;> omega)
    have I1 : Inv X pins σ H { s with heap := h' } := I.kept (t' := s.toks) kp
    have I2 : Inv X pins σ (upd H h'.objs.size (.tup ys)) { s with heap := h'.push { cls := .type "tuple", data := .seq its.toArray } } :=
      I1.laid (t' := s.toks) (fun b o e => Heap.get?_push_of_some _ e) (Nat.le_refl _) (show ObjOk X.prog X.w _ _ _ (.tup ys) from ⟨hz, its, r', IsTup.new _ _⟩)
    exact ⟨.ref h'.objs.size, _, I2, rfl, q _ (I1.hok.fresh (Nat.le_refl _))⟩
  · obtain ⟨its, r', pl, hz⟩ := I.tuple hq
    exact call_tuple_same pl ⟨.ref p, H, I, rfl, q⟩
def tyV (K : PySem.W.Frag) (T : String) (x : V) (H : Hp) : Prop := match x with
  | .str _ => T = "str"
  | .int _ => T = "int"
  | .ref p => (T = "list" ∧ ∃ xs, SqL K H p xs) ∨ (T = "tuple" ∧ ∃ o, K.lookup p = some o ∧ o.cls = .type "tuple" ∧ o.dict = none) ∨
      (T = "dict" ∧ ((∃ kvs, H p = some (.dK kvs)) ∨ ∃ kvs, H p = some (.dT kvs))) ∨ (T = "set" ∧ ∃ S n, H p = some (.set S n))
  | _ => False
theorem tyV_is {pins : List (Addr × Obj)} {σ : St} {H : Hp} {s : Shared} {T : String} {x : V} {v : Value} (I : Inv X pins σ H s) (r : RelV x v) (ty : tyV X.K T x H) :
    s.TypeIs v T ∧ ∀ a, v = .ref a → ∃ ob, s.heap.get? a = some ob ∧ ob.dict = none := by
  cases x with
  | str z =>
    obtain ⟨t, rfl⟩ := r
    cases (show T = "str" from ty)
    exact ⟨typeIs_str s z t, fun _ e => nomatch e⟩
  | int i =>
    obtain ⟨t, rfl⟩ := r
    cases (show T = "int" from ty)
    exact ⟨typeIs_int s i t, fun _ e => nomatch e⟩
  | ref p =>
    cases r
    rcases ty with ⟨rfl, xs, hq⟩ | ⟨rfl, o, hk, hc, hd⟩ | ⟨rfl, hk⟩ | ⟨rfl, S, n, hk⟩
    · obtain ⟨its, _, pl, _⟩ := I.list hq
      refine ⟨pl.isList.typeIs, fun a e => ?_⟩
      cases e
      obtain ⟨o, n, e, c, hd, _⟩ := pl
      exact ⟨o, e, hd⟩
    · refine ⟨⟨o, I.kIn p o hk, hc⟩, fun a e => ?_⟩
      cases e
      exact ⟨o, I.kIn _ o hk, hd⟩
    · have z : ∃ o, s.heap.get? p = some o ∧ o.ExactDict := by
        rcases hk with ⟨kvs, hk⟩ | ⟨kvs, hk⟩
        · obtain ⟨_, _, _, _, o, _, _, e, ex, _⟩ := I.hok p _ hk
          exact ⟨o, e, ex⟩
        · obtain ⟨_, _, _, _, o, _, _, e, ex, _⟩ := I.hok p _ hk
          exact ⟨o, e, ex⟩
      obtain ⟨o, e, ex⟩ := z
      refine ⟨⟨o, e, ex.1⟩, fun a e2 => ?_⟩
      cases e2
      exact ⟨o, e, ex.2.1⟩
    · obtain ⟨o, _, _, _, e, ex, _⟩ := I.hok p _ hk
      refine ⟨⟨o, e, ex.1⟩, fun a e2 => ?_⟩
      cases e2
      exact ⟨o, e, ex.2.1⟩
  | _ => exact False.elim ty
def tBM0 (K : PySem.W.Frag) (T : String) (r : V → List V → Hp → VK → Prop) (to : TE) : TE := fun σ H Q => to σ H fun x H1 => tyV K T x H1 ∧ r x [] H1 Q
def tBM (K : PySem.W.Frag) (T : String) (r : V → List V → Hp → VK → Prop) (to : TE) (t : TA) : TE := fun σ H Q => to σ H fun x H1 => tyV K T x H1 ∧ t σ H1 fun xs H2 => r x xs H2 Q
variable {o e : Expr} {es : List Expr} {to : TE} {t : TA} {name : Str} {apos cpos : Pos} {T id : String} {r : V → List V → Hp → VK → Prop}
theorem pe_bm0 (pa : PlainAttrs T) (slot : Slot T name id) (hty : typeOf (.builtin id) = pure (.type "method_descriptor")) (hm : MtR X id r) (ho : PE X o to)
    (hbase : attributeBase o name X.env (eval o X.env) = eval o X.env := by rfl) (hline : (apos.endLine == cpos.line) = true := by rfl) : PE X (.Call (.Attribute o name apos) [] [] cpos) (tBM0 X.K T r to) := by
  intro pins s σ H Q I h
  refine wpAny_Call_method0_late hbase hline (thn (ho pins s σ H _ I h) fun v s1 ⟨x, H1, I1, r1, ty, q1⟩ => ?_)
  obtain ⟨h1, h2⟩ := tyV_is I1 r1 ty
  exact ⟨T, id, pa, slot, hty, h1, h2, Calls.callWith_builtin rfl (PySem.evalArgs_none (hm pins s1 σ H1 x [] v [] Q I1 r1 .nil q1))⟩
theorem pe_bm (pa : PlainAttrs T) (slot : Slot T name id) (hty : typeOf (.builtin id) = pure (.type "method_descriptor")) (hm : MtR X id r) (ho : PE X o to) (ha : PA X (e :: es) t)
    (hbase : attributeBase o name X.env (eval o X.env) = eval o X.env := by rfl)
    (hfew : ((backTo cpos (starEach (e :: es) X.env)).all (fun x => !x.1) && (backToKw cpos (keywordEach [] X.env)).all (fun x => x.1.isSome)
      && decide ((e :: es).length + ([] : List Keyword).length + (if ([] : List Keyword).isEmpty then 0 else 1) < 30)) = true := by rfl)
    (hline : (apos.endLine == cpos.line) = true := by rfl) (hs : starEach (e :: es) X.env = (false, eval e X.env) :: starEach es X.env := by rfl) (hplain : (backTo cpos (starEach es X.env)).any (·.1) = false := by rfl) :
    PE X (.Call (.Attribute o name apos) (e :: es) [] cpos) (tBM X.K T r to t) := by
  intro pins s σ H Q I h
  refine wpAny_Call_method_late hbase hfew hline rfl (thn (ho pins s σ H _ I h) fun v s1 ⟨x, H1, I1, r1, ty, q1⟩ => ?_)
  obtain ⟨h1, h2⟩ := tyV_is I1 r1 ty
  refine ⟨T, id, pa, slot, hty, h1, h2, ?_⟩
  have hA := ha cpos pins s1 σ H1 _ I1 q1
  rw [hs] at hA ⊢
  refine Calls.callWith_builtin (by show (false || (backTo cpos (starEach es X.env)).any (·.1)) = false; rw [hplain] <;> rfl) (Calls.evalArgs_plain ?_)
  exact thn hA fun us s2 ⟨vs, H2, I2, r2, q2⟩ => hm pins s2 σ H2 x vs v us Q I2 r1 r2 q2
end
end L2
namespace L2
open PySem PySem.Spec PyProof.Rows
def MtM (X : Cx) (id : String) (r : V → List V → Hp → VK → Prop) : Prop :=
  ∀ (pins : List (Addr × Obj)) (s : Shared) (σ : St) (H : Hp) (x : V) (xs : List V) (v : Value) (us : List Value) (Q : VK), Inv X pins σ H s → RelV x v → Vals xs us → r x xs H Q →
    wpAny (model X.prog X.w) X.A (call (.builtin id) (v :: us)) (EP X pins σ Q) X.xe s
theorem Vals.one : ∀ {x : V} {us : List Value}, Vals [x] us → ∃ u, us = [u] ∧ RelV x u
  | _, _, .cons r .nil => ⟨_, rfl, r⟩
theorem Vals.two : ∀ {x y : V} {us : List Value}, Vals [x, y] us → ∃ u v, us = [u, v] ∧ RelV x u ∧ RelV y v
  | _, _, _, .cons r (.cons q .nil) => ⟨_, _, rfl, r, q⟩
section
variable {X : Cx} {pins : List (Addr × Obj)} {σ : St} {H : Hp} {s : Shared} {l b : Addr} {xs ys zs : List V}
theorem Inv.lset {its its' : List Value} {n : Nat} {f : Array Value → Array Value} {t' : Nat} (I : Inv X pins σ H s) (hH : H l = some (.lst xs))
    (e : s.heap.get? l = some { cls := .type "list", data := .seq its.toArray n }) (hf : f its.toArray = its'.toArray) (hv : Vals ys its') (hz : ys.length ≤ sizeLine) :
    Inv X pins σ (upd H l (.lst ys)) { s with heap := s.heap.update l (Obj.mapSeq f), toks := t' } := by
  have q := PySem.IsL.update e f
  rw [hf] at q
  refine I.write (x := l) (e := l) (by rw [hH]; exact trivial) (.inl rfl) (fun b' u hb hu => (Heap.get?_update_other s.heap (Obj.mapSeq f) (Ne.symm hb)).trans hu) ⟨_, q⟩ ?_
  exact ⟨hz, its', _, hv, q⟩
theorem Inv.lnew {its : List Value} {t' : Nat} (I : Inv X pins σ H s) (hv : Vals ys its) (hz : ys.length ≤ sizeLine) :
    Inv X pins σ (upd H s.heap.objs.size (.lst ys)) { s with heap := s.heap.push { cls := .type "list", data := .seq its.toArray }, toks := t' } :=
  I.laid (fun _ _ q => Heap.get?_push_of_some _ q) (Nat.le_refl _) ⟨hz, its, 0, hv, Heap.get?_push_size _ rfl⟩
theorem Inv.fresh (I : Inv X pins σ H s) : H s.heap.objs.size = none := I.hok.fresh (Nat.le_refl _)
theorem Inv.lstM (I : Inv X pins σ H s) (hH : H l = some (.lst xs)) : xs.length ≤ sizeLine ∧ ∃ (its : List Value) (n : Nat), Vals xs its ∧ xs.length = its.length ∧ s.heap.get? l = some { cls := .type "list", data := .seq its.toArray n } := by
  obtain ⟨z, its, n, r, e⟩ := I.hok l _ hH
  exact ⟨z, its, n, r, r.length, e⟩
theorem notLongL {n : Nat} (h : n ≤ sizeLine) : Builtin.List.listTooLong n = false := by
  unfold Builtin.List.listTooLong
  exact decide_eq_false (by omega)
end
section
variable {X : Cx}
def rAppend : V → List V → Hp → VK → Prop := fun x vs H Q => ∃ l xs y, x = .ref l ∧ vs = [y] ∧ H l = some (.lst xs) ∧ xs.length < sizeLine ∧ Q .non (upd H l (.lst (xs ++ [y])))
theorem mt_append : MtM X "list.append" rAppend := by
  intro pins s σ H x vs v us Q I rx rv h
  obtain ⟨l, xs, y, rfl, rfl, hH, hz, q⟩ := h
  cases rx
  obtain ⟨u, rfl, ru⟩ := rv.one
  obtain ⟨z, its, n, r, hl, e⟩ := I.lstM hH
  refine call_meets F.slot_list_append ⟨_, e, rfl⟩ F.entry_list_append (F.args_list_append_2 _ _) (PySem.list_append l its.toArray n u (by rw [List.size_toArray]; omega)) ⟨e, ?_⟩
  refine ⟨.non, _, I.lset (its' := its ++ [u]) hH e (by simp) (r.append (.cons ru .nil)) ?_, rfl, q⟩
  rw [List.length_append, List.length_singleton]
  omega
def rExtend : V → List V → Hp → VK → Prop := fun x vs H Q => ∃ l b xs zs, x = .ref l ∧ vs = [.ref b] ∧ H l = some (.lst xs) ∧ H b = some (.lst zs) ∧ xs.length + zs.length ≤ sizeLine ∧ Q .non (upd H l (.lst (xs ++ zs)))
theorem mt_extend : MtM X "list.extend" rExtend := by
  intro pins s σ H x vs v us Q I rx rv h
  obtain ⟨l, b, xs, zs, rfl, rfl, hH, hB, hz, q⟩ := h
  cases rx
  obtain ⟨u, rfl, ru⟩ := rv.one
  cases ru
  obtain ⟨z, its, n, r, hl, e⟩ := I.lstM hH
  obtain ⟨z2, its2, n2, r2, hl2, e2⟩ := I.lstM hB
  have hsz : its.toArray.size + its2.toArray.size ≤ sizeLine := by rw [List.size_toArray, List.size_toArray]; omega
  have hlong : ¬ (!its.toArray.isEmpty && Builtin.List.listTooLong (its.toArray.size + its2.toArray.size)) = true := by
    rw [notLongL hsz, Bool.and_false]
    exact Bool.false_ne_true
  refine call_meets F.slot_list_extend ⟨_, e, rfl⟩ F.entry_list_extend (F.args_list_extend_2 _ _)
    (AutoSeq1.list_extend_list_list_0 l its.toArray n b its2.toArray n2 hlong (by rw [List.size_toArray]; omega) (by omega)) ⟨e, e2, ?_⟩
  refine ⟨.non, _, I.lset (its' := its ++ its2) hH e (by simp) (r.append r2) ?_, rfl, q⟩
  rw [List.length_append]
  omega
def rCat : R2 := fun x y H Q => ∃ l b xs zs, x = .ref l ∧ y = .ref b ∧ H l = some (.lst xs) ∧ H b = some (.lst zs) ∧ xs.length + zs.length ≤ sizeLine ∧ ∀ p, H p = none → Q (.ref p) (upd H p (.lst (xs ++ zs)))
theorem op_cat : OpR X (binaryOp .Add) rCat := by
  intro pins s σ H x y v u Q I rx ry h
  obtain ⟨l, b, xs, zs, rfl, rfl, hH, hB, hz, q⟩ := h
  cases rx
  cases ry
  obtain ⟨z, its, n, r, hl, e⟩ := I.lstM hH
  obtain ⟨z2, its2, n2, r2, hl2, e2⟩ := I.lstM hB
  refine PySem.P.add_list e e2 ?_ (by rw [List.size_toArray, List.size_toArray]; omega)
  have ea : its.toArray ++ its2.toArray = (its ++ its2).toArray := by simp
  rw [ea]
  exact ⟨.ref _, _, I.lnew (t' := s.toks) (r.append r2) (by rw [List.length_append]; omega), rfl, q _ I.fresh⟩
end
section
variable {prog : Program} {w : World} {A : Around} {E : Value → Shared → Prop} {s : Shared}
end
section
variable {X : Cx}
end
end L2
namespace Att
open PySem PySem.W PySem.Calls PyProof.Rows
theorem ints_of_wellAll {P : Params} {h : Heap} : ∀ (ns : List Int) (vs : List Value), WellAll P h vs (ns.map WData.int) → IntsAre vs ns := by
  intro ns
  induction ns with
  | nil =>
    intro vs w
    rw [List.map_nil] at w
    cases w
    exact .nil
  | cons n ns ih =>
    intro vs w
    rw [List.map_cons] at w
    cases w with
    | cons a b =>
      cases a
      exact .cons _ _ (ih _ b)
theorem script_of {l : OpenLaw} {n : Nat} (hn : l.most = some n) {P : Params} {h : Heap} {args : List WData} {vals : List Value}
    (hpre : l.row.toRowW.claim.pre args = true) (hwl : WellAll P h vals args) :
    ∃ a vs ns, vals = [Value.ref a] ∧ args = [WData.list (ns.map WData.int)] ∧ h.get? a = some { cls := .type "list", data := .seq vs.toArray } ∧ IntsAre vs ns ∧ ns.length ≤ n := by
  have hsh : WShape.hasAll [] args [.list .int] = true := (pre_splitW hpre).1
  have hc : l.pre.holds [] { args := args } = true := (pre_splitW hpre).2
  obtain ⟨d, r, rfl, h1, h2⟩ := hasAllW_cons hsh
  obtain rfl := hasAllW_nil h2
  obtain ⟨xs, rfl, h3⟩ := hasW_list h1
  obtain ⟨ns, rfl⟩ := items_int h3
  have hlen : ns.length ≤ n := by
    unfold OpenLaw.pre at hc
    have h4 : (WTm.not (.lt (.lit (.int (n : Int))) (.len (.arg 0)))).holds [] { args := [.list (ns.map .int)] } = true := by
      have h4 := (holds_andW hc).1
      rw [hn] at h4
      exact h4
    have h5 := condW_of h4 (w_not (w_lt w_lit (w_len_list (w_arg rfl))))
    rw [List.length_map] at h5
    refine Nat.le_of_not_lt fun q => ?_
    have q' : (n : Int) < ((ns.length : Nat) : Int) := by omega
    first
      | (rw [decide_eq_true q'] at h5; exact absurd h5 (by decide))
      | (simp at h5; omega)
  cases hwl with
  | cons w1 w2 =>
    cases w2
    cases w1 with
    | list ho hall => exact ⟨_, _, ns, rfl, rfl, ho, ints_of_wellAll ns _ hall, hlen⟩
theorem post_true (l : OpenLaw) (args : List WData) : l.row.toRowW.claim.post args (.bool true) args = true :=
  postW_of (r := l.row.toRowW) (X := (true == true))
    (show WShape.has [] (.bool true) .bool = true by first | rfl | decide | simp [WShape.has, WShape.arms, WShape.armsAll])
    (show (WTm.eq .res (.lit (.bool true))).value [] { args := args, res := some (.bool true), after := args } = some (.bool (true == true)) from w_eq_bool (w_res rfl) w_lit) rfl
theorem attach_call {l : OpenLaw} {n : Nat} {q : Program} {loose : List Str} {XP : (Str → Option Value) → Heap → Prop} {YP : World → Heap → Prop} {d : DefRec}
    (hn : l.most = some n) (hdf : d.params.defaults = [])
    (call : ∀ (w : World) (s₀ s₁ : Shared) (mg mb : Str → Option Value) (fa : Addr) (o : Obj) (pm cd doc : Value) (a : Addr) (vs : List Value) (ns : List Int),
      Ground q loose [] XP w s₀ mg mb s₁.heap → YP w s₁.heap →
      s₁.heap.get? fa = some o → o.data = .func (docDef d.name d.params d.body d.scope pm cd doc) → s₁.heap.CodeRec cd d.name → mg d.name = some (.ref fa) →
      s₁.heap.get? a = some { cls := .type "list", data := .seq vs.toArray } → IntsAre vs ns → ns.length ≤ n → s₁.gens = #[] →
      codeAny (model l.prog w) callerA (.call (.ref fa) ⟨[.ref a], []⟩) (fun r s' => r = .ok (.ret (.bool true)) ∧ OldK s₁.heap s'.heap ∧ s'.os = s₁.os ∧ AllBare s'.gens) s₁) :
    WalkO q loose XP YP l.row.toRowW d [] (fun f vs => PySem.call f vs) := by
  intro w s₀ s₁ mg mb G Y fa o pm cd doc dV kV ho hd hcd hD hmg hg args vals as hpre hlay hrd hwl hlo
  obtain rfl : dV = .none := Dflts.none hD hdf
  obtain rfl : kV = .none := Dflts.noKw hD
  obtain ⟨a, vs, ns, rfl, rfl, hobj, hints, hlen⟩ := script_of hn hpre hwl
  refine enter_call (codeAny_mono (call w s₀ s₁ mg mb fa o pm cd doc a vs ns G Y ho (fd_plain hd) hcd hmg hobj hints hlen hg) fun r s' hq => ?_)
  obtain ⟨rfl, h2, h3, h4⟩ := hq
  exact ⟨.inl ⟨.bool true, .bool true, [], rfl, fun _ => rfl, .bool true, post_true l _, fun _ => ⟨List.Pairwise.nil, fun _ hm => (nomatch hm)⟩⟩, h2, h3, h4⟩
section
variable {prog : Program} {w : World} {A : Around} {E : Value → Shared → Prop} {s : Shared} {K : Frag}
end
end Att
namespace L2
open PySem PySem.Spec PyProof.Rows
theorem vals_ints : ∀ {vs : List Value} {ns : List Int}, IntsAre vs ns → Vals (ns.map V.int) vs
  | _, _, .nil => .nil
  | _, _, .cons n t h => .cons ⟨t, rfl⟩ (vals_ints h)
def Only (H : Hp) : Prop := ∀ b, H b = none ∨ ∃ o xs, H b = some (.frz o (.lst xs))
theorem law_call {P : Program} {w : World} {K : PySem.W.Frag} {mg mb : Str → Option Value} {CX : CXT} {k : Nat} {fa a : Addr} {fd : FuncData} {x : Str} {sp : Sp} {s₁ : Shared} {vs : List Value} {ns : List Int}
    (KX : K.In s₁.heap) (hns : s₁.heap.Ns mainGlobals mg) (hb : s₁.heap.Ns builtinsNs mb) (hbb : ∀ x : Str, x ≠ "__name__" → mb x = bootBuiltins x) (hlim : s₁.heap.NoLimit) (hg : s₁.gens = #[])
    (ha : s₁.heap.get? a = some { cls := .type "list", data := .seq vs.toArray }) (hi : IntsAre vs ns) (hl : ns.length ≤ sizeLine) (hr : Room k callerA)
    (F : ∀ base : Heap, K.In base → base.Ns mainGlobals mg → FnOk P w K mg base CX k fa fd [x] sp) (hbind : ∀ (s : Shared) (u : Value), BindsTo s fd ⟨[u], []⟩ [(x, u)])
    (hsp : ∀ H : Hp, Only H → SqL K H a (ns.map V.int) → sp [.ref a] H (fun v _ => v = .bl true) fun _ _ _ => False)
    (hCX : ∀ H e s', CX [] H s₁ (fun _ _ _ => False) e s' → False) :
    codeAny (model P w) callerA (.call (.ref fa) ⟨[.ref a], []⟩) (fun r s' => r = .ok (.ret (.bool true)) ∧ OldK s₁.heap s'.heap ∧ s'.os = s₁.os ∧ AllBare s'.gens) s₁ := by
  have rv := vals_ints hi
  have lenV := hi.length
  have core : ∀ H : Hp, Only H → SqL K H a (ns.map V.int) → HOk P w H s₁.heap → (∀ b, H b ≠ none → b = a) → (H a ≠ none → K.lookup a = none) →
      codeAny (model P w) callerA (.call (.ref fa) ⟨[.ref a], []⟩) (fun r s' => r = .ok (.ret (.bool true)) ∧ OldK s₁.heap s'.heap ∧ s'.os = s₁.os ∧ AllBare s'.gens) s₁ := by
    intro H hO hS hok hA hK
    have base_of : ∀ {b : Addr} {o : Obj}, s₁.heap.get? b = some o → H b = none → (hidT s₁.heap H).get? b = some o := fun e n => hidT_get e n
    have noA : ∀ {b : Addr} {o : Obj} {es : Array DictEntry} {ep : Nat}, s₁.heap.get? b = some o → o.data = .dict es ep → H b = none := fun {b o es ep} e d => by
      cases q : H b with
      | none => rfl
      | some u =>
        have e' : b = a := hA b (by rw [q]; simp)
        subst e'
        rw [ha] at e; cases e
        have d' : Data.seq vs.toArray _ = Data.dict es ep := d
        cases d'
    have nsK : ∀ {b : Addr} {m : Str → Option Value}, s₁.heap.Ns b m → (hidT s₁.heap H).Ns b m := fun {b m} ⟨o, es, ep, e, d, r⟩ => ⟨o, es, ep, base_of e (noA e d), d, r⟩
    have hKb : K.In (hidT s₁.heap H) := fun b o e => base_of (KX b o e) (by
      cases q : H b with
      | none => rfl
      | some u =>
        have e' : b = a := hA b (by rw [q]; simp)
        subst e'
        rw [hK (by rw [q]; simp)] at e; cases e)
    have hM : Mod K mg (hidT s₁.heap H) := ⟨hKb, nsK hns, ⟨mb, nsK hb, hbb⟩, let ⟨mc, h1, h2⟩ := hlim; ⟨mc, nsK h1, h2⟩⟩
    have e0 : Env0 P w K mg (hidT s₁.heap H) callerA [] s₁ H := ⟨rfl, hM, fun b o e => of_hidT e, Nat.le_of_eq (hidT_size _ _), trivial, fun b hb => absurd (show b ∈ ([] : List Addr) from hb) (by simp), hok, .of_eq hg⟩
    refine codeAny_mono ((F _ hKb (nsK hns)).run callerA [] s₁ H ⟨[.ref a], []⟩ [.ref a] [.ref a] _ _ hr e0 (hbind s₁ (.ref a)) (.cons rfl .nil) (hsp H hO hS)) fun r s' h => ?_
    cases r with
    | error e => exact (hCX H e s' h).elim
    | ok fl =>
      cases fl with
      | next => exact False.elim h
      | brk => exact False.elim h
      | cont => exact False.elim h
      | ret u =>
        obtain ⟨v, H', os, bare, un, hok', r', q⟩ := h
        have q' : v = .bl true := q
        subst q'
        obtain rfl : u = Value.bool true := r'
        refine ⟨rfl, OldK.of_keep fun b o e => ?_, os, bare⟩
        cases q : H b with
        | none => exact un.keep b o e q (by intro z; exact absurd (show b ∈ ([] : List Addr) from z) (by simp)) (by simp)
        | some u =>
          rcases hO b with z | ⟨ob, xs, z⟩
          · rw [q] at z; cases z
          · have z2 := un.frzs b ob _ z
            obtain ⟨e1, _⟩ := hok b _ z
            obtain ⟨e2, _⟩ := hok' b _ z2
            rw [e] at e1; cases e1
            exact e2
  cases hk : K.lookup a with
  | some o =>
    have e := KX a o hk
    rw [ha] at e
    cases e
    refine core (fun _ => none) (fun _ => .inl rfl) (.inr ⟨_, vs.toArray, _, hk, rfl, rfl, rfl, by rw [List.size_toArray, lenV]; exact hl, by simpa using rv⟩) (fun b u z => by have z' : (none : Option HO) = some u := z; cases z') (fun b z => absurd rfl z) fun z => absurd rfl z
  | none =>
    refine core (fun b => if b = a then some (.frz { cls := .type "list", data := .seq vs.toArray } (.lst (ns.map V.int))) else none) (fun b => ?_) (.inl (.inr ⟨{ cls := .type "list", data := .seq vs.toArray }, if_pos rfl⟩)) (fun b u z => ?_) (fun b z => ?_) fun _ => hk
    · by_cases hb : b = a
      · exact .inr ⟨_, _, if_pos hb⟩
      · exact .inl (if_neg hb)
    · by_cases hb : b = a
      · have z' := (if_pos hb).symm.trans z
        cases z'
        subst hb
        exact ⟨ha, by rw [List.length_map]; exact hl, vs, _, rv, ha⟩
      · have z' := (if_neg hb).symm.trans z
        cases z'
    · by_cases hb : b = a
      · exact hb
      · exact absurd (if_neg hb) z
end L2
namespace L2
open PySem PySem.Spec PyProof.Rows
theorem walk_of {l : PySem.W.OpenLaw} {n k : Nat} {q : Program} {loose : List Str} {XP : (Str → Option Value) → Heap → Prop} {YP : World → Heap → Prop} {d : DefRec} {K : Params → PySem.W.Frag} {CX : World → CXT} {sp : World → Sp} {x : Str}
    (hn : l.most = some n) (hn2 : n ≤ sizeLine) (hdf : d.params.defaults = []) (hr : Room k callerA)
    (hY : ∀ (w : World) (h : Heap), YP w h → (K w.params).In h)
    (F : ∀ (w : World) (mg : Str → Option Value) (fa : Addr) (h : Heap), (K w.params).In h → h.Ns mainGlobals mg → mg d.name = some (.ref fa) →
      ∃ fd : FuncData, (∀ (s : Shared) (u : Value), BindsTo s fd ⟨[u], []⟩ [(x, u)]) ∧
        ∀ base : Heap, (K w.params).In base → base.Ns mainGlobals mg → FnOk l.prog w (K w.params) mg base (CX w) k fa fd [x] (sp w))
    (hsp : ∀ (w : World) (H : Hp) (a : Addr) (ns : List Int), ns.length ≤ n → Only H → SqL (K w.params) H a (ns.map V.int) → sp w [.ref a] H (fun v _ => v = .bl true) fun _ _ _ => False)
    (hCX : ∀ (w : World) (H : Hp) (s : Shared) (e : Value) (s' : Shared), CX w [] H s (fun _ _ _ => False) e s' → False) :
    PySem.W.WalkO q loose XP YP l.row.toRowW d [] (fun f vs => PySem.call f vs) := by
  refine Att.attach_call hn hdf fun w s₀ s₁ mg mb fa o pm cd doc a vs ns G Y ho hd hcd hmg hobj hints hlen hg => ?_
  have KX := hY w _ Y
  obtain ⟨fd, hb, hF⟩ := F w mg fa _ KX G.T.g hmg
  exact law_call KX G.T.g G.T.b G.T.builtins G.T.nolimit hg hobj hints (Nat.le_trans hlen hn2) hr hF hb (fun H hO hS => hsp w H a ns hlen hO hS) fun H e s' => hCX w H s₁ e s'
end L2
namespace L2
open PySem PySem.Spec PyProof.Rows
def inClass (s : Stmt) (j : Nat) : Stmt := match s with
  | .ClassDef _ _ _ body _ _ _ _ _ _ _ => body.getD j (.Pass ⟨0, 0, 0, 0⟩)
  | _ => .Pass ⟨0, 0, 0, 0⟩
def defArgs (s : Stmt) : Arguments := match s with
  | .FunctionDef _ a _ _ _ _ _ _ _ _ => a
  | _ => { posonlyargs := [], args := [], vararg := none, kwonlyargs := [], kw_defaults := [], kwarg := none, defaults := [] }
def defBody (s : Stmt) : List Stmt := match s with
  | .FunctionDef _ _ b _ _ _ _ _ _ _ => b
  | _ => []
def defScope (s : Stmt) : Scope := match s with
  | .FunctionDef _ _ _ _ _ _ sc _ _ _ => sc
  | _ => { kind := .function, names := [], isGenerator := false, isCoroutine := false }
abbrev CX0 : CXT := fun _ _ _ _ _ _ => False
abbrev E0 : XK := fun _ _ _ => False
theorem pass0 {X : Cx} : Passes CX0 X E0 := fun _ _ _ _ _ _ _ h => h.elim
structure Fun (K : PySem.W.Frag) (x qual : Str) (st : Stmt) (f : Addr) (fd : FuncData) : Prop where
  ex : ∃ (oc : Value) (od : Option Addr) (kV doc pm : Value) (an : Option Addr) (cdv ct : Value) (osl : Array (Option Value)),
    fd = PySem.W.fnOf x qual (defArgs st) (defBody st) (defScope st) .none kV doc pm an cdv ct ∧ K.lookup f = some ⟨oc, od, .func fd, osl⟩ ∧ PySem.W.codeIn K cdv qual = true
  kp : PySem.W.keepIn K (.ref f) = true
section
variable {P : Program} {w : World} {K : PySem.W.Frag} {mg : Str → Option Value} {base : Heap}
theorem Fun.ok {x qual : Str} {st : Stmt} {f : Addr} {fd : FuncData} {N ps : List Str} {k : Nat} {sp : Sp} (F : Fun K x qual st f fd) (S : FnScope N ps (defScope st)) (len : ∀ vs H Q E, sp vs H Q E → vs.length = ps.length)
    (hbody : ∀ (cdv : Value) (A : Around) (outer : List Env) (s : Shared) (H : Hp) (vs : List V) (Q : VK) (E : XK), Room k (A.deeper (envOfC qual (defScope st) s.heap.objs.size f cdv)) → sp vs H Q E →
      ∃ t, PSs (cxOf CX0 P w K mg base N qual (defScope st) f cdv A outer s H E).nox (defBody st) t ∧ t { nx := fun _ H' => Q .non H', rt := Q } (start N vs) H) : FnOk P w K mg base CX0 (k + 1) f fd ps sp := by
  obtain ⟨oc, od, kV, doc, pm, an, cdv, ct, osl, rfl, lk, hcd⟩ := F.ex
  refine fn_of lk hcd S len fun A outer s H vs Q E hr hsp => ?_
  obtain ⟨t, h, q⟩ := hbody cdv A outer s H vs Q E hr hsp
  exact ⟨t, h.nox, q⟩
theorem Fun.binds {x qual : Str} {st : Stmt} {f : Addr} {fd : FuncData} {ps : List Str} (F : Fun K x qual st f fd)
    (h : ∀ (kV doc pm : Value) (an : Option Addr) (cdv ct : Value) (us : List Value), us.length = ps.length → bindArgs (PySem.W.fnOf x qual (defArgs st) (defBody st) (defScope st) .none kV doc pm an cdv ct) ⟨us, []⟩ = pure (ps.zip us)) : Binds K fd ps [] := by
  obtain ⟨oc, od, kV, doc, pm, an, cdv, ct, osl, rfl, lk, hcd⟩ := F.ex
  exact .all (h kV doc pm an cdv ct)
theorem fun_mk {x qual : Str} {st : Stmt} {f : Addr} {oc : Value} {od an : Option Addr} {osl : Array (Option Value)} {kV doc pm cdv ct : Value} (l : K.lookup f = some ⟨oc, od, .func (PySem.W.fnOf x qual (defArgs st) (defBody st) (defScope st) .none kV doc pm an cdv ct), osl⟩)
    (c : PySem.W.codeIn K cdv qual = true) (k : PySem.W.keepIn K (.ref f) = true) : Fun K x qual st f (PySem.W.fnOf x qual (defArgs st) (defBody st) (defScope st) .none kV doc pm an cdv ct) := ⟨⟨oc, od, kV, doc, pm, an, cdv, ct, osl, rfl, l, c⟩, k⟩
end
theorem small1000 {n : Nat} (h : n ≤ 1000) : n < sizeLine := Nat.lt_of_le_of_lt h (by decide)
section
variable {X : Cx}
theorem pv (i : Nat) {x : Str} {pos : Pos} (hN : X.N[i]? = some x := by rfl) (hv : Vis X.env.scope x := by first | exact Or.inl rfl | exact Or.inr (Or.inl rfl) | exact Or.inr (Or.inr rfl)) (hd : (x == ("__debug__" : Str)) = false := by decide)
    (hcd : (x == ("__classdict__" : Str)) = false := by decide) : PE X (.Name x pos) (tVar i) := pe_var hN hv hd hcd
end
theorem iteF {A B : Prop} (h : B) : if false = true then A else B := by
  rw [if_neg Bool.false_ne_true]
  exact h
theorem iteT {A B : Prop} (h : A) : if true = true then A else B := by
  rw [if_pos rfl]
  exact h
theorem ite2 {c A B : Prop} [Decidable c] (h1 : c → A) (h2 : ¬ c → B) : if c then A else B := by
  by_cases h : c
  · rw [if_pos h]
    exact h1 h
  · rw [if_neg h]
    exact h2 h
theorem iteNS {c A B : Prop} [Decidable c] (hc : c) (h : B) : if (!decide c) = true then A else B := by
  rw [decide_eq_true hc]
  exact iteF h
def Same (H H' : Hp) : Prop := ∀ b o, H b = some o → H' b = some o
theorem Same.refl (H : Hp) : Same H H := fun _ _ h => h
theorem Same.trans {H H1 H2 : Hp} (a : Same H H1) (b : Same H1 H2) : Same H H2 := fun c o h => b c o (a c o h)
theorem Same.free {H H' : Hp} (e : Same H H') {l : Addr} (h : H' l = Option.none) : H l = Option.none := by
  cases q : H l with
  | none => rfl
  | some o =>
    rw [e l o q] at h
    cases h
theorem Same.seq {K : PySem.W.Frag} {H H' : Hp} {a : Addr} {xs : List V} (e : Same H H') (h : SqL K H a xs) : SqL K H' a xs := by
  rcases h with (h | ⟨o, h⟩) | h
  · exact .inl (.inl (e _ _ h))
  · exact .inl (.inr ⟨o, e _ _ h⟩)
  · exact .inr h
end L2
set_option linter.all false
namespace Rm
def hold (hs : List Int) (i : Nat) : Int := hs.getD i (-1)
structure Tree (hs : List Int) : Prop where
  pos : 0 < hs.length
  root : hold hs 0 = -1
  up : ∀ i : Nat, 0 < i → i < hs.length → 0 ≤ hold hs i ∧ hold hs i < (i : Int)
def kids (hs : List Int) (k : Int) : List Int := ((List.range hs.length).filter fun j => decide (hold hs j = k)).map fun (j : Nat) => (j : Int)
def chain (hs : List Int) (i : Nat) : List Nat :=
  if h : 0 ≤ hold hs i ∧ hold hs i < (i : Int) then i :: chain hs (hold hs i).toNat else [i]
termination_by i
decreasing_by omega
theorem chain_up {hs : List Int} {i : Nat} (h : 0 ≤ hold hs i ∧ hold hs i < (i : Int)) : chain hs i = i :: chain hs (hold hs i).toNat := by
  rw [chain, dif_pos h]
theorem chain_top {hs : List Int} {i : Nat} (h : ¬ 0 ≤ hold hs i) : chain hs i = [i] := by
  rw [chain, dif_neg fun z => h z.1]
theorem chain_self (hs : List Int) (i : Nat) : i ∈ chain hs i := by
  rw [chain]; split <;> exact List.mem_cons_self
theorem chain_le {hs : List Int} {j : Nat} : ∀ i : Nat, j ∈ chain hs i → j ≤ i := by
  intro i
  induction i using Nat.strongRecOn with
  | ind i ih =>
    intro h
    by_cases z : 0 ≤ hold hs i ∧ hold hs i < (i : Int)
    · rw [chain_up z] at h
      rcases List.mem_cons.mp h with h | h
      · omega
      · have := ih (hold hs i).toNat (by omega) h
        omega
    · rw [chain, dif_neg z] at h
      have := List.mem_singleton.mp h
      omega
def wi (hs : List Int) (i j : Nat) : Bool := decide (j ∈ chain hs i)
theorem wi_step {hs : List Int} {p j : Nat} (h : 0 ≤ hold hs p ∧ hold hs p < (p : Int)) (hj : j < p) : wi hs p j = wi hs (hold hs p).toNat j := by
  unfold wi
  rw [chain_up h]
  refine decide_eq_decide.mpr ⟨fun z => ?_, fun z => List.mem_cons_of_mem _ z⟩
  rcases List.mem_cons.mp z with z | z
  · omega
  · exact z
theorem wi_end {hs : List Int} {p j : Nat} (hj : p ≤ j) : wi hs p j = decide (p = j) := by
  unfold wi
  refine decide_eq_decide.mpr ⟨fun z => ?_, fun z => z ▸ chain_self hs p⟩
  have := chain_le p z
  omega
theorem hold_lt {hs : List Int} (T : Tree hs) {i : Nat} (hi : i < hs.length) : hold hs i < (i : Int) := by
  by_cases h : i = 0
  · subst h; rw [T.root]; decide
  · exact (T.up i (by omega) hi).2
theorem range_filter_succ (p : Nat → Bool) (i : Nat) : (List.range (i + 1)).filter p = (List.range i).filter p ++ (if p i = true then [i] else []) := by
  rw [List.range_succ, List.filter_append]
  cases h : p i <;> simp [h]
def cell (ns : List Int) (k : Nat) : Int := ns.getD k 0
end Rm
namespace Rm
theorem tail_lt {hs : List Int} {i j : Nat} (h : j ∈ (chain hs i).tail) : j < i := by
  by_cases z : 0 ≤ hold hs i ∧ hold hs i < (i : Int)
  · rw [chain_up z] at h
    have := chain_le _ h
    omega
  · rw [chain, dif_neg z] at h
    simp at h
def li (hs : List Int) (i j : Nat) : Bool := decide (j ∈ (chain hs i).tail)
theorem li_eq (hs : List Int) (i j : Nat) : li hs i j = (!decide (i = j) && wi hs i j) := by
  have hc : chain hs i = i :: (chain hs i).tail := by rw [chain]; split <;> rfl
  unfold li wi
  by_cases e : i = j
  · subst e
    have : ¬ i ∈ (chain hs i).tail := fun z => absurd (tail_lt z) (Nat.lt_irrefl _)
    simp [this]
  · have : j ∈ chain hs i ↔ j ∈ (chain hs i).tail := by
      rw [hc]
      refine ⟨fun z => ?_, fun z => List.mem_cons_of_mem _ z⟩
      rcases List.mem_cons.mp z with z | z
      · exact absurd z.symm e
      · exact z
    simp [e, this]
def upper (hs : List Int) (h : Int) : List Nat := if 0 ≤ h then chain hs h.toNat else []
theorem upper_neg (hs : List Int) : upper hs (-1) = [] := rfl
theorem tail_upper {hs : List Int} (T : Tree hs) {i : Nat} (hi : i < hs.length) : (chain hs i).tail = upper hs (hold hs i) := by
  unfold upper
  by_cases z : 0 ≤ hold hs i
  · rw [if_pos z, chain_up ⟨z, hold_lt T hi⟩]; rfl
  · rw [if_neg z, chain_top z]; rfl
theorem upper_step {hs : List Int} (T : Tree hs) {i : Nat} (hi : i < hs.length) : upper hs (i : Int) = i :: upper hs (hold hs i) := by
  rw [← tail_upper T hi]
  unfold upper
  rw [if_pos (by omega), Int.toNat_natCast]
  rw [chain]; split <;> rfl
end Rm
namespace Rm
end Rm
set_option Elab.async false
set_option linter.all false
set_option maxRecDepth 100000
set_option maxHeartbeats 4000000
namespace L2
open PySem PySem.Spec PyProof.Rows
mutual
inductive RdV (K : PySem.W.Frag) (H : Hp) : V → PyData → Prop
  | non : RdV K H .non .none
  | bl (b : Bool) : RdV K H (.bl b) (.bool b)
  | int (i : Int) : RdV K H (.int i) (.int i)
  | str (x : Str) : RdV K H (.str x) (.str x)
  | lst {a : Addr} {xs : List V} {ds : List PyData} : SqL K H a xs → RdVs K H xs ds → RdV K H (.ref a) (.list ds)
  | tup {a : Addr} {xs : List V} {ds : List PyData} : SqT K H a xs → RdVs K H xs ds → RdV K H (.ref a) (.tuple ds)
inductive RdVs (K : PySem.W.Frag) (H : Hp) : List V → List PyData → Prop
  | nil : RdVs K H [] []
  | cons {x : V} {d : PyData} {xs : List V} {ds : List PyData} : RdV K H x d → RdVs K H xs ds → RdVs K H (x :: xs) (d :: ds)
end
section
variable {X : Cx} {pins : List (Addr × Obj)} {σ : St} {H : Hp} {s : Shared}
mutual
theorem RdV.reads (I : Inv X pins σ H s) : ∀ {v : V} {d : PyData} {u : Value}, RdV X.K H v d → RelV v u → ∃ as, Reads s.heap u d as
  | _, _, u, .non, r => by
    cases (show u = Value.none from r)
    exact ⟨_, .none⟩
  | _, _, u, .bl b, r => by
    cases (show u = Value.bool b from r)
    exact ⟨_, .bool b⟩
  | _, _, u, .int i, r => by
    obtain ⟨t, q⟩ := (show ∃ t, u = Value.int i t from r)
    cases q
    exact ⟨_, .int i t⟩
  | _, _, u, .str x, r => by
    obtain ⟨t, q⟩ := (show ∃ t, u = Value.str x t from r)
    cases q
    exact ⟨_, .str x t⟩
  | _, _, u, .lst (a := a) h hs, r => by
    cases (show u = Value.ref a from r)
    obtain ⟨its, rv, p, _⟩ := I.list h
    obtain ⟨o, ho, hc, n, hd⟩ := p.isList
    obtain ⟨as, q⟩ := RdVs.reads I hs rv
    exact ⟨_, .list ho hc hd (by simpa using q)⟩
  | _, _, u, .tup (a := a) h hs, r => by
    cases (show u = Value.ref a from r)
    obtain ⟨its, rv, p, _⟩ := I.tuple h
    obtain ⟨o, ho, hc, n, hd⟩ := p
    obtain ⟨as, q⟩ := RdVs.reads I hs rv
    exact ⟨_, .tuple ho hc hd (by simpa using q)⟩
theorem RdVs.reads (I : Inv X pins σ H s) : ∀ {vs : List V} {ds : List PyData} {us : List Value}, RdVs X.K H vs ds → Vals vs us → ∃ as, ReadsAll s.heap us ds as
  | _, _, _, .nil, .nil => ⟨_, .nil⟩
  | _, _, _, .cons h hs, .cons r rs => by
    obtain ⟨as, q⟩ := RdV.reads I h r
    obtain ⟨bs, q'⟩ := RdVs.reads I hs rs
    exact ⟨_, .cons q q'⟩
end
def rEqD (K : PySem.W.Frag) (neg : Bool) : R2 := fun x y H Q => ∃ da db, RdV K H x da ∧ RdV K H y db ∧ SeqAt.shaped da = true ∧ SeqAt.shaped db = true ∧ Q (.bl (if neg then !PyData.eqv da db else PyData.eqv da db)) H
theorem op_eqD (hu : X.A.units + 64 < cLine) : OpR X (compareOp .Eq) (rEqD X.K false) := by
  intro pins s σ H x y v u Q I rx ry h
  obtain ⟨da, db, ra, rb, ha, hb, q⟩ := h
  obtain ⟨as, r1⟩ := ra.reads I rx
  obtain ⟨bs, r2⟩ := rb.reads I ry
  exact eq_dataH r1 r2 ha hb hu ⟨.bl _, H, I, rfl, q⟩
end
structure Bk where
  cl : List (Str × Addr)
  C : Addr
  s : Shared
  H : Hp
  fp : List Addr
  pn : List (Addr × Obj)
def Cx.blk (X : Cx) (N' : List Str) (sc : Scope) (b : Bk) : Cx where
  prog := X.prog
  w := X.w
  K := X.K
  mg := X.mg
  base := X.base
  A := X.A
  N := N'
  s₀ := b.s
  H₀ := b.H
  env := compEnvC sc b.cl b.C X.env
  outer := X.stack
  stack := X.stack
  ex := b.fp
  fn := fun _ => false
  calm := X.calm
  pn := b.pn
  xe := fun _ _ => False
def bst (ix : List (Option Nat)) (σ : St) : St := ix.map fun o => match o with
  | none => none
  | some j => (σ[j]?).getD none
def fromB (N : List Str) (names : List (Str × NameKind)) : List Str → List (Option Nat) → Bool
  | x :: r, some j :: t => decide (N[j]? = some x) && decide (names.lookup x = some .free) && fromB N names r t
  | _ :: r, none :: t => fromB N names r t
  | [], [] => true
  | _, _ => false
theorem fromB_ok {N : List Str} {names : List (Str × NameKind)} : ∀ {N' : List Str} {ix : List (Option Nat)}, fromB N names N' ix = true →
    ix.length = N'.length ∧ ∀ (i j : Nat) (x : Str), N'[i]? = some x → ix[i]? = some (some j) → N[j]? = some x ∧ names.lookup x = some .free
  | [], [], _ => ⟨rfl, fun i j x e _ => by simp at e⟩
  | x :: r, some j :: t, h => by
    simp only [fromB, Bool.and_eq_true, decide_eq_true_eq] at h
    obtain ⟨hl, hf⟩ := fromB_ok (N' := r) (ix := t) h.2
    refine ⟨by simp [hl], fun i k y e1 e2 => ?_⟩
    cases i with
    | zero =>
      simp at e1 e2
      subst e1 e2
      exact h.1
    | succ i => exact hf i k y (by simpa using e1) (by simpa using e2)
  | x :: r, none :: t, h => by
    simp only [fromB] at h
    obtain ⟨hl, hf⟩ := fromB_ok (N' := r) (ix := t) h
    refine ⟨by simp [hl], fun i k y e1 e2 => ?_⟩
    cases i with
    | zero => simp at e2
    | succ i => exact hf i k y (by simpa using e1) (by simpa using e2)
  | [], some _ :: _, h => by simp [fromB] at h
  | [], none :: _, h => by simp [fromB] at h
  | _ :: _, [], h => by simp [fromB] at h
theorem forIn_pure {α β : Type} {f : α → β → Sem (ForInStep β)} (Pv : List α → β → Prop) (hs : ∀ x l b, Pv (x :: l) b → ∃ b', f x b = pure (.yield b') ∧ Pv l b') :
    ∀ (l : List α) (b : β), Pv l b → ∃ b', forIn l b f = pure b' ∧ Pv [] b'
  | [], b, h => ⟨b, rfl, h⟩
  | x :: l, b, h => by
    obtain ⟨b1, e1, h1⟩ := hs x l b h
    obtain ⟨b2, e2, h2⟩ := forIn_pure Pv hs l b1 h1
    refine ⟨b2, ?_, h2⟩
    rw [List.forIn_cons, e1, pure_bind]
    exact e2
def cstep (env : Env) (x : Str × NameKind) (r : List (Str × Addr)) : Sem (ForInStep (List (Str × Addr))) :=
  if x.2 == .free then (do let c ← cellOf env x.1; pure (.yield ((x.1, c) :: r))) else pure (.yield r)
theorem closure_step (sc : Scope) (env : Env) : closureFor sc env = (forIn sc.names [] (cstep env) >>= fun cs => pure cs) := by rfl
theorem closure_of {sc : Scope} {env : Env} (h : ∀ p ∈ sc.names, p.2 = .free → ∃ c, env.cells.lookup p.1 = some c) :
    ∃ cl, closureFor sc env = pure cl ∧ (∀ x c, cl.lookup x = some c → env.cells.lookup x = some c) ∧ ∀ p ∈ sc.names, p.2 = .free → ∃ c, cl.lookup p.1 = some c := by
  obtain ⟨cl, e, _, h1, h2⟩ := forIn_pure (f := cstep env)
    (fun l (b : List (Str × Addr)) => (∀ p ∈ l, p ∈ sc.names) ∧ (∀ x c, b.lookup x = some c → env.cells.lookup x = some c) ∧ ∀ p ∈ sc.names, p.2 = .free → p ∈ l ∨ ∃ c, b.lookup p.1 = some c)
    (fun p l b ⟨g0, g1, g2⟩ => by
      unfold cstep
      by_cases hk : p.2 = .free
      · obtain ⟨c, hc⟩ := h p (g0 p List.mem_cons_self) hk
        have ec : cellOf env p.1 = pure c := by unfold cellOf; rw [hc]
        rw [hk, if_pos (by decide), ec, pure_bind]
        refine ⟨_, rfl, fun q hq => g0 q (List.mem_cons_of_mem _ hq), fun x d e => ?_, fun q hq hf => ?_⟩
        · rw [List.lookup_cons] at e
          cases hx : x == p.1 with
          | true =>
            rw [hx] at e
            cases e
            rw [eq_of_beq hx]; exact hc
          | false =>
            rw [hx] at e
            exact g1 x d e
        · rcases g2 q hq hf with z | ⟨d, hd⟩
          · rcases List.mem_cons.mp z with z | z
            · subst z
              exact .inr ⟨c, by rw [List.lookup_cons, beq_self_eq_true]⟩
            · exact .inl z
          · refine .inr ?_
            rw [List.lookup_cons]
            cases hx : q.1 == p.1 with
            | true => exact ⟨c, rfl⟩
            | false => exact ⟨d, hd⟩
      · rw [if_neg (by simpa using hk)]
        refine ⟨_, rfl, fun q hq => g0 q (List.mem_cons_of_mem _ hq), g1, fun q hq hf => ?_⟩
        rcases g2 q hq hf with z | z
        · rcases List.mem_cons.mp z with z | z
          · subst z; exact absurd hf hk
          · exact .inl z
        · exact .inr z)
    sc.names [] ⟨fun _ z => z, fun x c e => by simp at e, fun p hp _ => .inl hp⟩
  refine ⟨cl, ?_, h1, fun p hp hf => (h2 p hp hf).elim (fun z => by simp at z) id⟩
  rw [closure_step, e, pure_bind]
theorem lookup_mem {names : List (Str × NameKind)} {x : Str} {k : NameKind} : names.lookup x = some k → (x, k) ∈ names := by
  induction names with
  | nil => intro e; simp at e
  | cons p r ih =>
    intro e
    rw [List.lookup_cons] at e
    cases hx : x == p.1 with
    | true =>
      rw [hx] at e
      cases e
      rw [eq_of_beq hx]; exact List.mem_cons_self
    | false =>
      rw [hx] at e
      exact List.mem_cons_of_mem _ (ih e)
theorem relabel_eq (sc : Scope) (env : Env) : (relabel sc env).names = sc.names.map fun p => (p.1, if (p.2 == .free && env.scope.kind == .function && env.kindOf p.1 == some .cell) = true then NameKind.cell else p.2) := by
  show (sc.names.map _) = _
  refine List.map_congr_left fun p _ => ?_
  obtain ⟨n, k⟩ := p
  dsimp only
  split <;> rfl
theorem relabel_in {sc : Scope} {env : Env} {x : Str} {k : NameKind} (hc : ∀ y ∈ sc.names, y.2 ≠ .cell) (h : (relabel sc env).names.lookup x = some k) (hk : k = .cell ∨ k = .free) : (x, NameKind.free) ∈ sc.names := by
  have hm := lookup_mem h
  rw [relabel_eq] at hm
  obtain ⟨p, hp, e⟩ := List.mem_map.mp hm
  obtain ⟨n, k'⟩ := p
  injection e with e1 e2
  dsimp only at e1 e2
  subst e1
  have hk' : k' = .free := by
    by_cases z : (k' == NameKind.free && env.scope.kind == .function && env.kindOf n == some .cell) = true
    · have z' := (Bool.and_eq_true_iff.mp (Bool.and_eq_true_iff.mp z).1).1
      exact eq_of_beq z'
    · rw [if_neg z] at e2
      rcases hk with w | w
      · exact absurd (e2.trans w) (hc _ hp)
      · exact e2.trans w
  subst hk'
  exact hp
theorem relabel_notlocal {sc : Scope} {env : Env} {x : Str} (hf : sc.names.lookup x = some .free) : (relabel sc env).names.lookup x ≠ some .local := by
  have key : ∀ (g : Str → NameKind → NameKind) (l : List (Str × NameKind)), (l.map fun p => (p.1, g p.1 p.2)).lookup x = (l.lookup x).map (g x) := by
    intro g l
    induction l with
    | nil => rfl
    | cons p r ih =>
      rw [List.map_cons, List.lookup_cons, List.lookup_cons]
      cases hx : x == p.1 with
      | true => rw [eq_of_beq hx]; rfl
      | false => exact ih
  rw [relabel_eq, key fun n k => if (k == .free && env.scope.kind == .function && env.kindOf n == some .cell) = true then NameKind.cell else k, hf]
  intro z
  simp only [Option.map_some] at z
  split at z <;> cases z
def PTs (X : Cx) (ifs : List Expr) (t : TT) : Prop :=
  ∀ (pins : List (Addr × Obj)) (s : Shared) (σ : St) (H : Hp) (Q : Bool → Hp → Prop), Inv X pins σ H s → t σ H Q →
    wpAny (model X.prog X.w) X.A (forIn ifs true fun c r => if r = true then do let ok ← isTrue c X.env (eval c X.env); pure (ForInStep.yield ok) else pure (ForInStep.yield r)) (TP X pins σ Q) X.xe s
def tYes : TT := fun _ H Q => Q true H
theorem pts_nil {X : Cx} : PTs X [] tYes := fun _ _ _ H _ I h => wpAny_tests_nil ⟨H, I, h⟩
theorem pts_one {X : Cx} {c : Expr} {t : TT} (h : PT X c t) : PTs X [c] t := fun pins s σ H Q I q => wpAny_tests_one (h pins s σ H Q I q)
def tLoop (J : It) (g : TG) (tt : TT) (te : TE) (D : Addr) (Q : VK) (σ : St) (H : Hp) : Prop :=
  ∃ W : Nat → Nat → St → Hp → Prop, (∃ m, W 0 m σ H) ∧ ∀ i m σ H, W i m σ H → (J.stop i H ∧ Q (.ref D) H) ∨ (J.go i H ∧ ∃ (N1 : V → St → Hp → Prop) (N2 : St → Hp → Prop),
    (∀ y σ' H', N1 y σ' H' → ∃ ys, H' D = some (.lst ys) ∧ ys.length < sizeLine ∧ ∃ m', m' < m ∧ W (i + 1) m' σ' (upd H' D (.lst (ys ++ [y])))) ∧ (∀ σ' H', N2 σ' H' → ∃ m', m' < m ∧ W (i + 1) m' σ' H') ∧
    ∀ x H', J.yld i H x H' → g x σ H' fun σ2 H2 => tt σ2 H2 fun b H3 => if b = true then te σ2 H3 (fun y H4 => N1 y σ2 H4) else N2 σ2 H3)
def tComp (wi : TI) (ix : List (Option Nat)) (g : Bk → TG) (tt : Bk → TT) (te : Bk → TE) : TE := fun σ H Q => wi σ H fun J H1 => ∀ (b : Bk) D, H1 D = none → tLoop J (g b) (tt b) (te b) D Q (bst ix σ) (upd H1 D (.lst []))
section
variable {X : Cx}
theorem blk_run {tg elt iter : Expr} {ifs : List Expr} {sc : Scope} {pos : Pos} {N' : List Str} {ix : List (Option Nat)} {g : Bk → TG} {tt : Bk → TT} {te : Bk → TE} {Q : VK} {pins : List (Addr × Obj)} {σ : St} {H : Hp} {s : Shared} {it : Addr} {fp : List Addr} {tn : Nat → Heap → Prop} {J : It} {cl : List (Str × Addr)}
    {RR : Value → Addr → Result → Shared → Prop} {E : Value → Shared → Prop}
    (hc : X.calm = true) (hkind : sc.kind = .function) (hcell : ∀ y ∈ sc.names, y.2 ≠ .cell) (hfree : ∀ p ∈ sc.names, p.2 = .free → X.env.kindOf p.1 = some .cell) (hfrom : fromB X.N sc.names N' ix = true)
    (hg : ∀ b : Bk, PG (X.blk N' sc b) tg (g b)) (ht : ∀ b : Bk, PTs (X.blk N' sc b) ifs (tt b)) (he : ∀ b : Bk, PE (X.blk N' sc b) elt (te b))
    (hcl : ∀ x c, cl.lookup x = some c → X.env.cells.lookup x = some c) (hcl2 : ∀ p ∈ sc.names, p.2 = .free → ∃ c, cl.lookup p.1 = some c)
    (I : Inv X pins σ H s) (T : Turn X.prog X.w X.K tg J fp it tn) (st : tn 0 s.heap) (f2 : ∀ b ∈ fp, FpOk X pins H b) (q : ∀ (b : Bk) D, H D = none → tLoop J (g b) (tt b) (te b) D Q (bst ix σ) (upd H D (.lst [])))
    (hRR : ∀ D C (s' : Shared) H', Inv X pins σ H' s' → Q (.ref D) H' → (∃ m, s'.heap.Ns C m) → H' C = none → C ≠ X.env.locals → X.s₀.heap.objs.size ≤ C → (∀ x c, X.env.cells.lookup x = some c → c ≠ C) → (∀ p ∈ X.pn ++ pins, p.1 ≠ C) → RR (.ref D) C (.ok .next) s') :
    wpAny (model X.prog X.w) X.A (newList []) (fun acc s3 => wpAny (model X.prog X.w) X.A (newFunctionEnv sc X.env.globals cl [] X.env.qual none .none (some X.env)) (fun cenv s4 =>
      codeAny (model X.prog X.w) X.A (.compStart (.ListComp elt [⟨tg, iter, ifs, 0⟩] sc pos) 0 (.ref it) acc { cenv with scope := relabel sc X.env }) (RR acc cenv.locals) s4) E s3) E s := by
  refine wpAny_newObj_type (wpAny_newFunctionEnv hcell (by intro y hy; simp at hy) (fun h1 hns hsb => ?_) hkind)
  dsimp only at hns hsb ⊢
  have I3 : Inv X pins σ (upd H s.heap.objs.size (.lst [])) { s with heap := s.heap.push { cls := .type "list", dict := none, data := .seq ([] : List Value).toArray } } :=
    I.lnew (t' := s.toks) (ys := []) (its := []) .nil (by show 0 ≤ sizeLine; decide)
  have hD : H s.heap.objs.size = none := I.fresh
  generalize hDn : s.heap.objs.size = D at hns hsb I3 hD ⊢
  generalize hh : s.heap.push { cls := .type "list", dict := none, data := .seq ([] : List Value).toArray } = hp at hns hsb I3 ⊢
  generalize hH3 : upd H D (.lst []) = H3 at I3 ⊢
  generalize hCn : hp.objs.size = C at hns hsb ⊢
  have hDC : D < C := by rw [← hCn, ← hh, Heap.size_push, hDn]; exact Nat.lt_succ_self _
  have old : ∀ b o, hp.get? b = some o → h1.get? b = some o := fun b o e => hsb.extBut b o (by rw [← hCn]; exact Nat.ne_of_lt (Heap.lt_size e)) (Heap.get?_push_of_some _ e)
  have old0 : ∀ b o, s.heap.get? b = some o → hp.get? b = some o := fun b o e => by rw [← hh]; exact Heap.get?_push_of_some _ e
  have fpLt : ∀ b ∈ fp, b < D := fun b hb => by
    obtain ⟨o, e, _⟩ := T.obj _ _ st b hb
    rw [← hDn]; exact Heap.lt_size e
  have I3s : Inv X pins σ H3 { s with heap := hp } := I3
  let B : Bk := ⟨cl, C, { s with heap := hp }, H3, fp, X.pn ++ pins⟩
  have cellX : ∀ x c, cl.lookup x = some c → c ≠ C ∧ ∀ b ∈ fp, c ≠ b := fun x c e => by
    obtain ⟨v, z⟩ := I3s.cell x c (hcl x c e)
    exact ⟨by rw [← hCn]; exact Nat.ne_of_lt z.lt, fun b hb => (f2 b hb).2.2.2.2.1 x c (hcl x c e)⟩
  have okY : (X.blk N' sc B).Ok := by
    refine ⟨I.ok.mod, hkind, I.ok.glob, I.ok.blt, ?_, fun x y c a b => I.ok.inj x y c (hcl x c a) (hcl y c b), fun x hx => ?_, (fun x c (a : false = true) => (nomatch a)), I.ok.hd, I.ok.frames, .inl rfl, fun b hb => ?_, fun b o e => ?_, ?_, fun b o e hb => ?_, fun b hb z => ?_, I3s.stack, I3s.stkFree⟩
    · show hp.objs.size ≤ C
      rw [hCn]; exact Nat.le_refl _
    · have hx' : (relabel sc X.env).names.lookup x = some .cell ∨ (relabel sc X.env).names.lookup x = some .free := hx
      rcases hx' with z | z
      · exact hcl2 _ (relabel_in hcell z (.inl rfl)) rfl
      · exact hcl2 _ (relabel_in hcell z (.inr rfl)) rfl
    · exact ⟨Nat.ne_of_lt (Nat.lt_trans (fpLt b hb) hDC), fun x c e => (cellX x c e).2 b hb⟩
    · obtain ⟨z1, z2⟩ := I3s.bs b o e
      exact ⟨z1, z2⟩
    · exact Nat.le_trans I.ok.bsz I3s.sz
    · rcases (f2 b hb).2.2.2.1 with z | z
      · exact I.ok.noex b o e z
      · exact absurd (Nat.lt_of_lt_of_le (Heap.lt_size (h := X.base) e) (Nat.le_trans I.ok.bsz z)) (Nat.lt_irrefl _)
    · rcases List.mem_cons.mp (I.stkSub b z) with w | w
      · exact (f2 b hb).2.1 w
      · exact (f2 b hb).2.2.1 w
  have frC : ∀ b ∈ frs X.stack, b ≠ C := fun b hb => by
    obtain ⟨_, o, ho, _⟩ := I3s.stack.mem hb
    rw [← hCn]; exact Nat.ne_of_lt (Heap.lt_size (h := hp) ho)
  obtain ⟨hlen, hix⟩ := fromB_ok hfrom
  have IY : Inv (X.blk N' sc B) [] (bst ix σ) H3 { s with heap := h1, toks := s.toks + ([] : List (Str × Value)).length } := by
    refine ⟨okY, rfl, I.bare, Un.kept old, ⟨_, hns, fun i x v e1 e2 e3 => ?_⟩, fun x c e => ?_, I3s.hok.fresh (by show hp.objs.size ≤ C; rw [hCn]; exact Nat.le_refl _), fun x c e => I3s.freeC x c (hcl x c e), fun p hp' => ?_, I3s.hok.kept old, by show (bst ix σ).length = N'.length; rw [← hlen]; simp [bst]⟩
    · have e1' : N'[i]? = some x := e1
      unfold bst at e2
      rw [List.getElem?_map] at e2
      cases hi : ix[i]? with
      | none => rw [hi] at e2; cases e2
      | some o =>
        rw [hi] at e2
        cases o with
        | none => cases e2
        | some j =>
          obtain ⟨hj, hfr⟩ := hix i j x e1' hi
          have e2' : (σ[j]?).getD none = some v := Option.some.inj e2
          have e4 : σ[j]? = some (some v) := by
            cases z : σ[j]? with
            | none => rw [z] at e2'; cases e2'
            | some w => rw [z] at e2'; exact congrArg some e2'
          have hkX := hfree _ (lookup_mem hfr) rfl
          obtain ⟨m, hn, hl⟩ := I3s.loc
          obtain ⟨u, r, l⟩ := hl j x v hj e4 (.inr (.inl hkX))
          refine ⟨u, r, .inr ⟨?_, ?_⟩⟩
          · have e3' : (relabel sc X.env).names.lookup x = some .local ∨ (relabel sc X.env).names.lookup x = some .cell ∨ (relabel sc X.env).names.lookup x = some .free := e3
            rcases e3' with z | z
            · exact absurd z (relabel_notlocal hfr)
            · exact z
          · obtain ⟨c, hc'⟩ := hcl2 _ (lookup_mem hfr) rfl
            refine ⟨c, hc', ?_⟩
            rcases l with ⟨z, _⟩ | ⟨_, d, hd, hcell'⟩
            · rw [hkX] at z; cases z
            · rw [hcl x c hc'] at hd
              cases hd
              obtain ⟨o, ho, hod⟩ := hcell'
              exact ⟨o, old _ o ho, hod⟩
    · obtain ⟨v, o, ho, hod⟩ := I3s.cell x c (hcl x c e)
      exact ⟨v, o, old _ o ho, hod⟩
    · have hp'' : p ∈ X.pn ++ pins := by simpa [Cx.blk, B] using hp'
      obtain ⟨z1, z2, z3, z4, z5⟩ := I3s.pin p hp''
      refine ⟨old _ _ z1, z2, by show p.1 ≠ C; rw [← hCn]; exact Nat.ne_of_lt (Heap.lt_size (h := hp) z1), fun z => ?_, z5⟩
      rcases List.mem_cons.mp (I.stkSub p.1 z) with w | w
      · exact z3 w
      · exact z4 w
  have st1 : tn 0 h1 := T.keep _ _ _ st fun b _ o e => old b o (old0 b o e)
  have fpY : ∀ {H' : Hp}, (∀ b ∈ fp, H' b = none) → ∀ b ∈ fp, FpOk (X.blk N' sc B) [] H' b := fun hn b hb => by
    refine ⟨hn b hb, Nat.ne_of_lt (Nat.lt_trans (fpLt b hb) hDC), okY.exfs b hb, .inl hb, fun x c e => (cellX x c e).2 b hb, fun p hp' => ?_⟩
    have hp'' : p ∈ X.pn ++ pins := by simpa [Cx.blk, B] using hp'
    exact (f2 b hb).2.2.2.2.2 p hp''
  have qD := q B D hD
  rw [hH3] at qD
  obtain ⟨W, ⟨m0, w0⟩, turn⟩ := qD
  have fin : ∀ {i : Nat} {σ' : St} {H' : Hp} {s' : Shared}, Inv (X.blk N' sc B) [] σ' H' s' → Q (.ref D) H' → RR (.ref D) C (.ok .next) s' := fun {i σ' H' s'} I' q' => by
    have IX : Inv X pins σ H' s' := I3s.call' (ch := fp) I'.os I'.base I'.hok I'.bare fun b hb => by
      obtain ⟨_, a2, _, a4, a5, a6⟩ := f2 b hb
      exact ⟨a4, a2, a5, a6⟩
    have hCs : X.s₀.heap.objs.size ≤ C := Nat.le_trans I3s.sz (by show hp.objs.size ≤ C; rw [hCn]; exact Nat.le_refl _)
    refine hRR D C s' H' IX q' (let ⟨m, hn, _⟩ := I'.loc; ⟨m, hn⟩) I'.free ?_ hCs (fun x c e => ?_) fun p hp' => ?_
    · rw [← hCn]; exact Nat.ne_of_gt I3s.lt
    · obtain ⟨v, z⟩ := I3s.cell x c e
      rw [← hCn]; exact Nat.ne_of_lt z.lt
    · rw [← hCn]; exact Nat.ne_of_lt (Heap.lt_size (h := hp) (I3s.pin p hp').1)
  have loop : codeAny (model X.prog X.w) X.A (.compLoop (.ListComp elt [⟨tg, iter, ifs, 0⟩] sc pos) 0 (.ref it) (.ref D) (compEnvC sc cl C X.env)) (RR (.ref D) C) { s with heap := h1, toks := s.toks + ([] : List (Str × Value)).length } := by
    refine codeAny_loop rfl (fun n s' => ∃ i σ' H', Inv (X.blk N' sc B) [] σ' H' s' ∧ tn i s'.heap ∧ (∀ b ∈ fp, H' b = none) ∧ W i n σ' H') (fun n s5 hI => ?_) m0 ⟨0, _, _, IY, st1, fun b hb => ?_, w0⟩
    · obtain ⟨i, σ5, H5, I5, st5, fr5, w5⟩ := hI
      show wpAny _ _ ((compTurn (.ListComp elt [⟨tg, iter, ifs, 0⟩] sc pos) 0 (.ref it) (.ref D) (compEnvC sc cl C X.env)).onRaise (fun x => do noteFrame x (compEnvC sc cl C X.env); theTreesLotGoes x)) _ _ s5
      refine wpAny_noted ?_
      rw [compTurn_list]
      refine wpAny_bind (wpAny_standAt ?_)
      rcases turn i n σ5 H5 w5 with ⟨stop, qn⟩ | ⟨go, N1, N2, hN1, hN2, step⟩
      · refine wpAny_bind (wpAny_mono (T.done (X.blk N' sc B) rfl rfl rfl hc i [] s5 σ5 H5 (fun _ _ => False) I5 (fpY fr5) st5 stop) (fun r s6 h6 => ?_) fun _ _ f => f.elim)
        obtain ⟨hr, I6⟩ := h6
        subst hr
        exact wpAny_pure (fin (i := i) I6 qn)
      · refine wpAny_bind (wpAny_mono (T.item (X.blk N' sc B) rfl rfl rfl hc i [] s5 σ5 H5 (fun _ _ => False) I5 (fpY fr5) st5 go) (fun r s6 h6 => ?_) fun _ _ f => f.elim)
        obtain ⟨u, hr, h6⟩ := h6
        subst hr
        refine wpAny_bind (wpAny_mono h6 (fun _ s7 h7 => ?_) fun _ _ f => f.elim)
        obtain ⟨x, H7, I7, r7, y7, st7, fr7⟩ := h7
        have I7' := I7.pinned (fpY fr7) (T.obj _ _ st7)
        refine wpAny_bind (wpAny_mono (hg B _ s7 σ5 H7 x u _ I7' r7 (step x H7 y7)) (fun _ s8 h8 => ?_) fun _ _ f => f.elim)
        obtain ⟨σ8, H8, I8, q8⟩ := h8
        refine wpAny_bind (wpAny_mono (ht B _ s8 σ8 H8 _ I8 q8) (fun ok s9 h9 => ?_) fun _ _ f => f.elim)
        obtain ⟨H9, I9, q9⟩ := h9
        have again : ∀ {s' : Shared} {H' : Hp}, Inv (X.blk N' sc B) ([] ++ pinsAt fp s7.heap) σ8 H' s' → (∃ m', m' < n ∧ W (i + 1) m' σ8 H') →
            ∃ m, m < n ∧ ∃ i σ' H', Inv (X.blk N' sc B) [] σ' H' s' ∧ tn i s'.heap ∧ (∀ b ∈ fp, H' b = none) ∧ W i m σ' H' := fun {s' H'} I' w' => by
          obtain ⟨m', hm, w'⟩ := w'
          have pn : ∀ b ∈ fp, ∀ o, s7.heap.get? b = some o → s'.heap.get? b = some o ∧ H' b = none := fun b hb o e => by
            have z := I'.pin (b, o) (List.mem_append_right _ (List.mem_append_right _ (mem_pinsAt hb e)))
            exact ⟨z.1, z.2.1⟩
          refine ⟨m', hm, i + 1, σ8, H', I'.unpinned, T.keep _ _ _ st7 fun b hb o e => (pn b hb o e).1, fun b hb => ?_, w'⟩
          obtain ⟨o, e, _⟩ := T.obj _ _ st7 b hb
          exact (pn b hb o e).2
        cases ok with
        | false =>
          have q9' : N2 σ8 H9 := by simpa using q9
          exact wpAny_pure ⟨rfl, again I9 (hN2 _ _ q9')⟩
        | true =>
          have q9' : te B σ8 H9 fun y H4 => N1 y σ8 H4 := by simpa using q9
          refine wpAny_bind (wpAny_bind (wpAny_mono (he B _ s9 σ8 H9 _ I9 q9') (fun y sA hA => ?_) fun _ _ f => f.elim))
          obtain ⟨yv, HA, IA, rA, nA⟩ := hA
          obtain ⟨ys, eA, zA, w'⟩ := hN1 _ _ _ nA
          refine wpAny_bind (wpAny_mono (mt_append (X := X.blk N' sc B) _ sA σ8 HA (.ref D) [yv] (.ref D) [y] (fun _ H' => H' = upd HA D (.lst (ys ++ [yv]))) IA rfl (.cons rA .nil) ⟨D, ys, yv, rfl, rfl, eA, zA, rfl⟩) (fun _ sB hB => ?_) fun _ _ f => f.elim)
          obtain ⟨_, HB, IB, _, eB⟩ := hB
          subst eB
          exact wpAny_pure (wpAny_pure ⟨rfl, again IB w'⟩)
    · rw [← hH3, upd_ne (Nat.ne_of_lt (fpLt b hb))]
      exact (f2 b hb).1
  exact codeAny_compStart_list loop (T.self _ 0 _ _ _ st1 loop)
theorem pe_comp {tg elt iter : Expr} {ifs : List Expr} {sc : Scope} {pos : Pos} {wi : TI} {g : Bk → TG} {tt : Bk → TT} {te : Bk → TE} (N' : List Str) (ix : List (Option Nat)) (hc : X.calm = true)
    (hi : PI X tg iter wi) (hg : ∀ b : Bk, PG (X.blk N' sc b) tg (g b)) (ht : ∀ b : Bk, PTs (X.blk N' sc b) ifs (tt b)) (he : ∀ b : Bk, PE (X.blk N' sc b) elt (te b)) {N : List Str} {ks : List (Str × NameKind)}
    (hN : X.N = N) (hks : X.env.scope.names = ks) (hfree : ∀ p ∈ sc.names, p.2 = .free → ks.lookup p.1 = some .cell) (hfrom : fromB N sc.names N' ix = true)
    (hcell : ∀ y ∈ sc.names, y.2 ≠ .cell) (hnames : ∀ y ∈ sc.names, y.2 = .local → sc.names.lookup y.1 = some .local) (hkind : sc.kind = .function := by rfl)
    (hs : ∀ x, foldedSetIterable iter X.env x = pure x := by intro _; rfl) : PE X (.ListComp elt [⟨tg, iter, ifs, 0⟩] sc pos) (tComp wi ix g tt te) := by
  intro pins s σ H Q I h
  have hfree' : ∀ p ∈ sc.names, p.2 = .free → X.env.kindOf p.1 = some .cell := fun p hp hf => by
    show X.env.scope.names.lookup p.1 = _
    rw [hks]; exact hfree p hp hf
  obtain ⟨cl, hclos, hcl, hcl2⟩ := closure_of (sc := sc) (env := X.env) fun p hp hf => I.ok.has p.1 (.inl (hfree' p hp hf))
  rw [eval_ListComp]
  refine wpAny_comprehension_free (use := none) rfl hs hclos hkind hnames (thn (hi pins s σ H _ I h) fun v s1 h1 => thn h1 fun itv s2 h2 => ?_)
  obtain ⟨it, fp, tn, J, H2, e, I2, T, st2, f2, q⟩ := h2
  subst e
  refine blk_run (RR := fun acc C => compPost (model X.prog X.w) X.A X.xe none (EP X pins σ Q) acc C) hc hkind hcell hfree' (by rw [hN]; exact hfrom) hg ht he hcl hcl2 I2 T st2 f2 q ?_
  intro D C s' H' I' q' hns hC hL hsz hcel hpin
  obtain ⟨m, hn⟩ := hns
  refine ⟨m, hn, fun h' hsb => ?_⟩
  exact ⟨.ref D, H', I'.turned (t' := s'.toks) (fun b o hb e => hsb.extBut b o hb e) hC hL (.inr hsz) hcel hpin, rfl, q'⟩
theorem ps_comp {i : Nat} {y : Str} {py spos : Pos} {tg elt iter : Expr} {ifs : List Expr} {sc : Scope} {pos : Pos} {wi : TI} {g : Bk → TG} {tt : Bk → TT} {te : Bk → TE} (N' : List Str) (ix : List (Option Nat)) (hc : X.calm = true) (hNd : X.N.Nodup) (hiy : X.N[i]? = some y) (hy : X.env.scope.names.lookup y = some .local)
    (hi : PI X tg iter wi) (hg : ∀ b : Bk, PG (X.blk N' sc b) tg (g b)) (ht : ∀ b : Bk, PTs (X.blk N' sc b) ifs (tt b)) (he : ∀ b : Bk, PE (X.blk N' sc b) elt (te b)) {N : List Str} {ks : List (Str × NameKind)}
    (hN : X.N = N) (hks : X.env.scope.names = ks) (hfree : ∀ p ∈ sc.names, p.2 = .free → ks.lookup p.1 = some .cell) (hfrom : fromB N sc.names N' ix = true)
    (hcell : ∀ y ∈ sc.names, y.2 ≠ .cell) (hnames : ∀ y ∈ sc.names, y.2 = .local → sc.names.lookup y.1 = some .local) (hkind : sc.kind = .function := by rfl)
    (hs : ∀ x, foldedSetIterable iter X.env x = pure x := by intro _; rfl) (hsw : swapsWith (.ListComp elt [⟨tg, iter, ifs, 0⟩] sc pos) (some (.Name y py)) spos.line X.env = pure true := by rfl) :
    PS X (.Assign [.Name y py] (.ListComp elt [⟨tg, iter, ifs, 0⟩] sc pos) spos) (tAsg (tComp wi ix g tt te) (gName i)) := by
  intro pins s σ H D I h
  have hfree' : ∀ p ∈ sc.names, p.2 = .free → X.env.kindOf p.1 = some .cell := fun p hp hf => by
    show X.env.scope.names.lookup p.1 = _
    rw [hks]; exact hfree p hp hf
  obtain ⟨cl, hclos, hcl, hcl2⟩ := closure_of (sc := sc) (env := X.env) fun p hp hf => I.ok.has p.1 (.inl (hfree' p hp hf))
  rw [exec_Assign_Name_used _ _ _ _ hsw]
  refine wpAny_bind (wpAny_standAt (wpAny_bind ?_))
  show wpAny _ X.A (do let _ ← comprehension (.ListComp elt [⟨tg, iter, ifs, 0⟩] sc pos) sc X.env _ (newList []) false (eval iter X.env) (some (assign (.Name y py) X.env))) _ _ s
  refine wpAny_bind (wpAny_mono (wpAny_comprehension_free (use := some (assign (.Name y py) X.env)) (Q := fun _ s' => SP X pins D .next s') rfl hs hclos hkind hnames
    (thn (hi pins s σ H _ I h) fun v s1 h1 => thn h1 fun itv s2 h2 => ?_)) (fun _ s' hq => wpAny_pure (wpAny_pure hq)) fun _ _ e => e)
  obtain ⟨it, fp, tn, J, H2, e, I2, T, st2, f2, q⟩ := h2
  subst e
  refine blk_run (Q := fun x H1 => gName i x σ H1 D.nx) (RR := fun acc C => compPost (model X.prog X.w) X.A X.xe (some (assign (.Name y py) X.env)) (fun _ s' => SP X pins D .next s') acc C) hc hkind hcell hfree' (by rw [hN]; exact hfrom) hg ht he hcl hcl2 I2 T st2 f2 q ?_
  intro E C s' H' I' q' hns hC hL hsz hcel hpin
  obtain ⟨m, hn⟩ := hns
  show wpAny _ X.A (assign (.Name y py) X.env (.ref E)) _ _ _
  refine wpAny_assign_Name (store_ok2 I' hNd hiy (.inl hy) (show RelV (.ref E) (.ref E) from rfl) (fun s2 I2' hch => ?_) (.inr hy))
  obtain ⟨a, hsb, ha⟩ := hch
  have haC : C ≠ a := by
    rcases ha with z | z
    · rw [z]; exact hL
    · exact (hcel _ _ z).symm
  refine ⟨m, hn.sameBut hsb haC, fun h' hsb' => ?_⟩
  exact ⟨_, H', I2'.turned (t' := s2.toks) (fun b o hb e => hsb'.extBut b o hb e) hC hL (.inr hsz) hcel hpin, q'⟩
end
theorem comp_range {lo : Int} {n : Nat} {g : TG} {tt : TT} {te : TE} {D : Addr} {Q : VK} {σ : St} {H : Hp} (Pv : Nat → List V → St → Hp → Prop) (h0 : Pv 0 [] σ (upd H D (.lst [])))
    (hs : ∀ i ys σ H, i < n → H D = some (.lst ys) → Pv i ys σ H → g (.int (lo + i)) σ H fun σ2 H2 => tt σ2 H2 fun b H3 =>
      if b = true then te σ2 H3 fun y H4 => H4 D = some (.lst ys) ∧ ys.length < sizeLine ∧ Pv (i + 1) (ys ++ [y]) σ2 (upd H4 D (.lst (ys ++ [y]))) else H3 D = some (.lst ys) ∧ Pv (i + 1) ys σ2 H3)
    (hd : ∀ ys σ H, H D = some (.lst ys) → Pv n ys σ H → Q (.ref D) H) :
    tLoop (Itr lo n) g tt te D Q σ (upd H D (.lst [])) := by
  refine ⟨fun i m σ H => m = n - i ∧ i ≤ n ∧ ∃ ys, H D = some (.lst ys) ∧ Pv i ys σ H, ⟨n, by simp, Nat.zero_le _, [], upd_same, h0⟩, ?_⟩
  rintro i m σ H ⟨rfl, hi, ys, hD, p⟩
  by_cases hlt : i < n
  · refine .inr ⟨hlt, fun y σ' H' => H' D = some (.lst ys) ∧ ys.length < sizeLine ∧ Pv (i + 1) (ys ++ [y]) σ' (upd H' D (.lst (ys ++ [y]))), fun σ' H' => H' D = some (.lst ys) ∧ Pv (i + 1) ys σ' H',
      fun y σ' H' q => ⟨ys, q.1, q.2.1, n - (i + 1), by omega, rfl, hlt, _, upd_same, q.2.2⟩, fun σ' H' q => ⟨n - (i + 1), by omega, rfl, hlt, ys, q⟩, fun x H' y => ?_⟩
    obtain ⟨e, y⟩ := y
    subst e y
    exact hs i ys σ _ hlt hD p
  · have e : i = n := by omega
    subst e
    exact .inl ⟨Nat.le_refl _, hd ys σ H hD p⟩
theorem comp_list {K : PySem.W.Frag} {a : Addr} {xs : List V} {g : TG} {tt : TT} {te : TE} {D : Addr} {Q : VK} {σ : St} {H : Hp} (Pv : Nat → List V → St → Hp → Prop) (h0 : Pv 0 [] σ (upd H D (.lst [])))
    (hl : ∀ i ys σ H, i ≤ xs.length → H D = some (.lst ys) → Pv i ys σ H → SqL K H a xs)
    (hs : ∀ i x ys σ H, xs[i]? = some x → H D = some (.lst ys) → Pv i ys σ H → g x σ H fun σ2 H2 => tt σ2 H2 fun b H3 =>
      if b = true then te σ2 H3 fun y H4 => H4 D = some (.lst ys) ∧ ys.length < sizeLine ∧ Pv (i + 1) (ys ++ [y]) σ2 (upd H4 D (.lst (ys ++ [y]))) else H3 D = some (.lst ys) ∧ Pv (i + 1) ys σ2 H3)
    (hd : ∀ ys σ H, H D = some (.lst ys) → Pv xs.length ys σ H → Q (.ref D) H) :
    tLoop (Itl K a) g tt te D Q σ (upd H D (.lst [])) := by
  refine ⟨fun i m σ H => m = xs.length - i ∧ i ≤ xs.length ∧ ∃ ys, H D = some (.lst ys) ∧ Pv i ys σ H, ⟨xs.length, by simp, Nat.zero_le _, [], upd_same, h0⟩, ?_⟩
  rintro i m σ H ⟨rfl, hi, ys, hD, p⟩
  have hq := hl i ys σ H hi hD p
  by_cases hlt : i < xs.length
  · refine .inr ⟨⟨xs, xs[i], hq, by simp [hlt]⟩, fun y σ' H' => H' D = some (.lst ys) ∧ ys.length < sizeLine ∧ Pv (i + 1) (ys ++ [y]) σ' (upd H' D (.lst (ys ++ [y]))), fun σ' H' => H' D = some (.lst ys) ∧ Pv (i + 1) ys σ' H',
      fun y σ' H' q => ⟨ys, q.1, q.2.1, xs.length - (i + 1), by omega, rfl, hlt, _, upd_same, q.2.2⟩, fun σ' H' q => ⟨xs.length - (i + 1), by omega, rfl, hlt, ys, q⟩, fun x H' y => ?_⟩
    obtain ⟨e, y⟩ := y
    subst e
    exact hs i x ys σ _ (y xs hq) hD p
  · have e : i = xs.length := by omega
    subst e
    exact .inl ⟨⟨xs, hq, Nat.le_refl _⟩, hd ys σ H hD p⟩
theorem comp_rangeA {lo : Int} {n : Nat} {g : TG} {te : TE} {D : Addr} {Q : VK} {σ : St} {H : Hp} (Pv : Nat → List V → St → Hp → Prop) (h0 : Pv 0 [] σ (upd H D (.lst [])))
    (hs : ∀ i ys σ H, i < n → H D = some (.lst ys) → Pv i ys σ H → g (.int (lo + i)) σ H fun σ2 H3 => te σ2 H3 fun y H4 => H4 D = some (.lst ys) ∧ ys.length < sizeLine ∧ Pv (i + 1) (ys ++ [y]) σ2 (upd H4 D (.lst (ys ++ [y]))))
    (hd : ∀ ys σ H, H D = some (.lst ys) → Pv n ys σ H → Q (.ref D) H) : tLoop (Itr lo n) g tYes te D Q σ (upd H D (.lst [])) :=
  comp_range Pv h0 (fun i ys σ H hi hD p => hs i ys σ H hi hD p) hd
theorem comp_listA {K : PySem.W.Frag} {a : Addr} {xs : List V} {g : TG} {te : TE} {D : Addr} {Q : VK} {σ : St} {H : Hp} (Pv : Nat → List V → St → Hp → Prop) (h0 : Pv 0 [] σ (upd H D (.lst [])))
    (hl : ∀ i ys σ H, i ≤ xs.length → H D = some (.lst ys) → Pv i ys σ H → SqL K H a xs)
    (hs : ∀ i x ys σ H, xs[i]? = some x → H D = some (.lst ys) → Pv i ys σ H → g x σ H fun σ2 H3 => te σ2 H3 fun y H4 => H4 D = some (.lst ys) ∧ ys.length < sizeLine ∧ Pv (i + 1) (ys ++ [y]) σ2 (upd H4 D (.lst (ys ++ [y]))))
    (hd : ∀ ys σ H, H D = some (.lst ys) → Pv xs.length ys σ H → Q (.ref D) H) : tLoop (Itl K a) g tYes te D Q σ (upd H D (.lst [])) :=
  comp_list Pv h0 hl (fun i x ys σ H hi hD p => hs i x ys σ H hi hD p) hd
end L2
namespace L2
open PySem PySem.Spec PyProof.Rows
section
variable {X : Cx}
end
end L2
namespace L2
open PySem PySem.Spec PyProof.Rows
end L2
set_option Elab.async false
set_option linter.all false
set_option maxRecDepth 100000
set_option maxHeartbeats 4000000
namespace L2
open PySem PySem.Spec PyProof.Rows
structure Put (fs : List Addr) (h h' : Heap) (e : Addr) : Prop where
  keep : ∀ b o, b ≠ e → b ∉ fs → h.get? b = some o → h'.get? b = some o
  slot : ∀ b o, b ≠ e → h.get? b = some o → ∃ sl, h'.get? b = some { o with slots := sl }
  exc : ∃ oe vs oe' T oT ts, h.get? e = some oe ∧ oe.data = .fields vs ∧ h'.get? e = some oe' ∧ oe'.cls = oe.cls ∧ oe'.dict = oe.dict ∧ oe'.data = .fields (vs.setIfInBounds 1 (.ref T)) ∧ 1 < vs.size ∧
    h.objs.size ≤ T ∧ T ≠ e ∧ h'.get? T = some oT ∧ oT.data = .fields ts ∧ ts[3]? = some .none
def Rests (h : Heap) (vs : Array Value) (P : Addr → Prop) : Prop :=
  vs[1]? = some .none ∨ ∃ T oT ts, vs[1]? = some (.ref T) ∧ P T ∧ h.get? T = some oT ∧ oT.data = .fields ts ∧ ts[3]? = some .none
def RestsN (nb : Bool) (h : Heap) (vs : Array Value) (P : Addr → Prop) : Prop := Rests h vs P ∧ (nb = true → vs[2]? = some .none)
section
variable {M : Model} {A : Around} {E : Value → Shared → Prop} {s : Shared}
theorem entry_put {base : Heap} {env : Env} {outer : List Env} {L e : Addr} {oe : Obj} {vs : Array Value} {head : Value} {hadNext : Bool} {Q : Unit → Shared → Prop}
    (hfr : A.frames = some (env :: outer)) (hl : s.heap.FunFrames base (env :: outer)) (hf : env.frame = some L)
    (he : s.heap.get? e = some oe) (hd : oe.data = .fields vs) (hsz : 1 < vs.size)
    (h : ∀ h', Put (frs (env :: outer)) s.heap h' e → Q () { s with heap := h' }) :
    wpAny M A (do let a ← frameOf env; let pl ← entryPlaceOf L hadNext; let b ← EntryCells.newEntry head a .none (rawInt L) .none pl; setField (.ref e) 1 b) (fun _ s' => wpAny M A (setFlight (.ref e) none) Q E s') E s := by
  have hene : e ∉ frs (env :: outer) := fun hm => by
    obtain ⟨_, o, ho, hnf⟩ := hl.mem hm
    rw [he] at ho; injection ho with ho; subst ho; exact hnf vs hd
  refine wpAny_bind (wpAny_frameOf_fun hfr hl hf fun h1 hs1 => ?_)
  refine wpAny_bind (wpAny_entryPlaceOf fun pl hpl => ?_)
  unfold EntryCells.newEntry newFields
  refine wpAny_bind (wpAny_newObj_type ?_ (hpl.sizeOk5 _ _ _ _ _))
  have he1 : h1.get? e = some oe := (hs1.2.1 e hene).trans he
  have he2 := Heap.get?_push_of_some (h := h1) { cls := .type "traceback", dict := none, data := .fields ([head, .ref L, .none, rawInt L, .none] ++ (if pl.isEmpty then List.replicate 6 Value.none else pl)).toArray } he1
  refine wpAny_setField he2 hd hsz ?_
  have hTe : h1.objs.size ≠ e := Nat.ne_of_gt (Heap.lt_size he1)
  have hd3 := Obj.data_mapFields hd (·.setIfInBounds 1 (Value.ref h1.objs.size))
  have he3 := Heap.get?_update_self (Obj.mapFields (·.setIfInBounds 1 (Value.ref h1.objs.size))) he2 (Obj.isFreed_of_fields hd3)
  have hT3 := (Heap.get?_update_other (h1.push { cls := .type "traceback", dict := none, data := .fields ([head, .ref L, .none, rawInt L, .none] ++ (if pl.isEmpty then List.replicate 6 Value.none else pl)).toArray })
    (Obj.mapFields (·.setIfInBounds 1 (Value.ref h1.objs.size))) (Ne.symm hTe)).trans (Heap.get?_push_size h1 rfl)
  unfold setFlight
  refine wpAny_bind (wpAny_field he3 hd3 (x := .ref h1.objs.size) (by simp [hsz]) ?_)
  rw [if_pos (show (Value.ref h1.objs.size != Value.none) = true from by simp)]
  refine wpAny_setField hT3 rfl (by simp only [List.size_toArray, List.length_append, List.length_cons, List.length_nil] <;> omega) (h _ ?_)
  have keep : ∀ b o, b ≠ e → h1.get? b = some o →
      (((h1.push { cls := .type "traceback", dict := none, data := .fields ([head, .ref L, .none, rawInt L, .none] ++ (if pl.isEmpty then List.replicate 6 Value.none else pl)).toArray }).update e (Obj.mapFields (·.setIfInBounds 1 (Value.ref h1.objs.size)))).update h1.objs.size
        (Obj.mapFields (·.setIfInBounds 3 ((none : Option Addr).elim Value.none fun f => rawInt f)))).get? b = some o := fun b o hbe hb => by
    have hbT : h1.objs.size ≠ b := Nat.ne_of_gt (Heap.lt_size hb)
    rw [Heap.get?_update_other _ _ hbT, Heap.get?_update_other _ _ (Ne.symm hbe)]
    exact Heap.get?_push_of_some _ hb
  refine ⟨fun b o hbe hbf hb => keep b o hbe ((hs1.2.1 b hbf).trans hb), fun b o hbe hb => ?_, ?_⟩
  · obtain ⟨sl, hsl⟩ := hs1.2.2 b o hb
    exact ⟨sl, keep b _ hbe hsl⟩
  · have hTn : s.heap.objs.size ≤ h1.objs.size := by rw [hs1.1]; exact Nat.le_refl _
    refine ⟨oe, vs, _, h1.objs.size, _, _, he, hd, (Heap.get?_update_other _ _ hTe).trans he3, Obj.cls_mapFields _ _, ?_, hd3, hsz, hTn, hTe, Heap.get?_update_self _ hT3 (Obj.isFreed_of_fields (Obj.data_mapFields rfl _)), Obj.data_mapFields rfl _, by first | (simp; done) | (rcases hpl with rfl | ⟨_, _, _, _, _, _, _, rfl⟩ <;> simp)⟩
    obtain ⟨c, dd, dt, sl⟩ := oe
    cases dt <;> rfl
theorem note_put {base : Heap} {env : Env} {outer : List Env} {L e : Addr} {oe : Obj} {vs : Array Value} {Q : Unit → Shared → Prop} {P : Addr → Prop}
    (hfr : A.frames = some (env :: outer)) (hl : s.heap.FunFrames base (env :: outer)) (hf : env.frame = some L)
    (he : s.heap.get? e = some oe) (hd : oe.data = .fields vs) (h1 : Rests s.heap vs P)
    (h : ∀ h', Put (frs (env :: outer)) s.heap h' e → Q () { s with heap := h' }) :
    wpAny M A (noteFrame (.ref e) env) (fun _ s2 => wpAny M A (setFlight (.ref e) none) Q E s2) E s := by
  unfold noteFrame
  simp only [hf]
  rcases h1 with h1 | ⟨T, oT, ts, h1, _, hT, hdT, h3⟩
  · refine wpAny_bind (wpAny_field he hd h1 ?_)
    rw [if_neg (by decide)]
    exact entry_put hfr hl hf he hd (Array.getElem?_eq_some_iff.mp h1).1 h
  · refine wpAny_bind (wpAny_field he hd h1 ?_)
    rw [if_pos (show (Value.ref T != Value.none) = true from by simp)]
    refine wpAny_bind (wpAny_field hT hdT h3 ?_)
    rw [if_neg (show ¬ ((Value.none == rawInt L) = true) from by simp [rawInt])]
    refine wpAny_bind (wpAny_setField hT hdT (Array.getElem?_eq_some_iff.mp h3).1 ?_)
    rw [Heap.update_setField_same _ _ _ _ _ _ hT hdT h3]
    exact entry_put hfr hl hf he hd (Array.getElem?_eq_some_iff.mp h1).1 h
end
theorem ObjOk.ex {P : Program} {w : World} {H : Hp} {h : Heap} {a : Addr} {o : HO} (x : ObjOk P w H h a o) : ∃ ob, h.get? a = some ob := by
  cases o with
  | lst xs => obtain ⟨_, _, _, _, e⟩ := x; exact ⟨_, e⟩
  | tup xs => obtain ⟨_, _, _, p⟩ := x; obtain ⟨o, e, _⟩ := p; exact ⟨_, e⟩
  | dK kvs => obtain ⟨_, _, _, _, o, _, _, e, _⟩ := x; exact ⟨_, e⟩
  | dT kvs => obtain ⟨_, _, _, _, o, _, _, e, _⟩ := x; exact ⟨_, e⟩
  | set S n => obtain ⟨o, _, _, _, e, _⟩ := x; exact ⟨_, e⟩
  | ins C dx fs => obtain ⟨_, _, _, e, _⟩ := x; exact ⟨_, e⟩
  | own y => obtain ⟨_, e⟩ := x; exact ⟨_, e⟩
  | xd fs => obtain ⟨_, ⟨_, _, _, e, _⟩, _⟩ := x; exact ⟨_, e⟩
  | rng lo hi => obtain ⟨_, _, _, e⟩ := x; exact ⟨_, e⟩
  | frz ob u => obtain ⟨e, _⟩ := x; exact ⟨_, e⟩
  | tbl ps => exact ⟨_, x⟩
  | met f y => exact ⟨_, x⟩
  | ext φ => exact x.2.1
section
variable {nb : Bool} {X : Cx} {pins : List (Addr × Obj)} {σ : St} {H : Hp} {s : Shared} {a : Addr} {C : Value} {d : Option Addr} {h' : Heap}
theorem Inv.put (I : Inv X pins σ H s) (P : Put (frs X.stack) s.heap h' a) (n0 : X.s₀.heap.get? a = none) (fr : H a = none) (pn : ∀ p ∈ X.pn ++ pins, p.1 ≠ a) : Inv X pins σ H { s with heap := h' } := by
  obtain ⟨oe, vs, oe', T, oT, ts, he, hd, _⟩ := P.exc
  have neL : a ≠ X.env.locals := fun z => by
    obtain ⟨m, ⟨o, es, ep, ho, hdt, _⟩, _⟩ := I.loc
    rw [← z, he] at ho; cases ho; rw [hd] at hdt; cases hdt
  have neC : ∀ x c, X.env.cells.lookup x = some c → c ≠ a := fun x c e z => by
    obtain ⟨v, o, ho, hdt⟩ := I.cell x c e
    rw [z, he] at ho; cases ho; rw [hd] at hdt; cases hdt
  have stk : ∀ b, b ≠ X.env.locals → b ∉ X.fs → b ∉ frs X.stack := fun b h1 h2 z => (List.mem_cons.mp (I.stkSub b z)).elim h1 h2
  have neL' : ∀ b o, X.s₀.heap.get? b = some o → b ≠ X.env.locals := fun b o e => Nat.ne_of_lt (Nat.lt_of_lt_of_le (Heap.lt_size e) I.ok.above)
  have nea : ∀ b o, X.s₀.heap.get? b = some o → b ≠ a := fun b o e z => by rw [z, n0] at e; cases e
  have cellK : ∀ x c, X.env.cells.lookup x = some c → ∀ v, s.heap.IsCell c v → h'.IsCell c v := fun x c e v ⟨o, ho, hdt⟩ => by
    obtain ⟨sl, q⟩ := P.slot c o (neC x c e) ho
    exact ⟨_, q, hdt⟩
  refine ⟨I.ok, I.os, I.bare, ⟨fun b o e n hb hx => ?_, fun b o e n hb hx => ?_, fun b o e n hx => I.base.free b o e n hx, fun b o e hx => ?_, I.base.tups, I.base.frzs, I.base.tbls⟩, ?_, fun x c e => ?_, I.free, I.freeC, fun p hp => ?_, fun b u e => ?_, I.len⟩
  · exact P.keep b o (nea b o e) (stk b (neL' b o e) hb) (I.base.keep b o e n hb hx)
  · obtain ⟨sl, e1⟩ := I.base.slot b o e n hb hx
    obtain ⟨sl', e2⟩ := P.slot b _ (nea b o e) e1
    exact ⟨sl', e2⟩
  · obtain ⟨o', e1⟩ := I.base.there b o e hx
    obtain ⟨sl', e2⟩ := P.slot b _ (nea b o e) e1
    exact ⟨_, e2⟩
  · obtain ⟨m, ⟨o, es, ep, ho, r⟩, hl⟩ := I.loc
    obtain ⟨sl, e2⟩ := P.slot _ _ (Ne.symm neL) ho
    refine ⟨m, ⟨_, es, ep, e2, r⟩, fun i x v e1 e2 e3 => ?_⟩
    obtain ⟨u, r, l⟩ := hl i x v e1 e2 e3
    refine ⟨u, r, ?_⟩
    rcases l with l | ⟨k, c, e, z⟩
    · exact .inl l
    · exact .inr ⟨k, c, e, cellK x c e _ z⟩
  · obtain ⟨v, z⟩ := I.cell x c e
    exact ⟨v, cellK x c e v z⟩
  · obtain ⟨e, n, ne, nf, dd⟩ := I.pin p hp
    exact ⟨P.keep p.1 p.2 (pn p hp) (stk p.1 ne nf) e, n, ne, nf, dd⟩
  · have tr : ∀ c v, H c = some v → ∀ u, s.heap.get? c = some u → h'.get? c = some u := fun c v hc u q => by
      refine P.keep c u (fun z => by rw [z, fr] at hc; cases hc) (fun z => ?_) q
      rw [I.stkFree c z] at hc; cases hc
    refine (I.hok b u e).stay (fun c v hc q => ?_) (fun _ q => q) fun _ _ q => q
    rcases hc with z | z
    · rw [z] at q ⊢; exact tr b u e v q
    · exact tr c _ z v q
structure Flies (nb : Bool) (X : Cx) (pins : List (Addr × Obj)) (σ : St) (H : Hp) (a : Addr) (C : Value) (d : Option Addr) (s : Shared) : Prop where
  inv : Inv X pins σ H s
  new : X.s₀.heap.get? a = none
  free : H a = none
  pin : ∀ p ∈ X.pn ++ pins, p.1 ≠ a
  obj : ∃ oe vs, s.heap.get? a = some oe ∧ oe.cls = C ∧ oe.dict = d ∧ oe.data = .fields vs ∧ RestsN nb s.heap vs fun T => T ≠ a ∧ X.s₀.heap.get? T = none ∧ H T = none
theorem Flies.put (F : Flies nb X pins σ H a C d s) (P : Put (frs X.stack) s.heap h' a) : Flies nb X pins σ H a C d { s with heap := h' } := by
  obtain ⟨oe, vs, he, hc, hdd, hd, _, hx⟩ := F.obj
  refine ⟨F.inv.put P F.new F.free F.pin, F.new, F.free, F.pin, ?_⟩
  obtain ⟨oe2, vs2, oe', T, oT, ts, he2, hd2, he', hc', hdd', hd', hsz, hT, hTe, hT', hTd, hT3⟩ := P.exc
  rw [he] at he2; cases he2
  rw [hd] at hd2; cases hd2
  refine ⟨oe', _, he', hc'.trans hc, hdd'.trans hdd, hd', .inr ⟨T, oT, ts, by simp [hsz], ⟨hTe, ?_, ?_⟩, hT', hTd, hT3⟩, fun z => by simpa using hx z⟩
  · exact Heap.get?_none_of_le (Nat.le_trans F.inv.sz hT)
  · exact F.inv.hok.fresh hT
theorem Flies.at (F : Flies nb X pins σ H a C d s) : ∃ oe vs, s.heap.get? a = some oe ∧ oe.cls = C ∧ oe.dict = d ∧ oe.data = .fields vs := by
  obtain ⟨oe, vs, he, hc, hdd, hd, _⟩ := F.obj
  exact ⟨oe, vs, he, hc, hdd, hd⟩
theorem Flies.note {Q : Unit → Shared → Prop} {E : Value → Shared → Prop} {A : Around} {M : Model} (F : Flies nb X pins σ H a C d s) (hA : A.frames = some X.stack) (hs : X.stack = X.env :: X.outer) (hf : X.env.frame = some X.env.locals)
    (h : ∀ h', Flies nb X pins σ H a C d { s with heap := h' } → (∃ oe vs T oT ts, h'.get? a = some oe ∧ oe.data = .fields vs ∧ vs[1]? = some (.ref T) ∧ h'.get? T = some oT ∧ oT.data = .fields ts ∧ ts[3]? = some .none) → Q () { s with heap := h' }) :
    wpAny M A (noteFrame (.ref a) X.env) (fun _ s2 => wpAny M A (setFlight (.ref a) none) Q E s2) E s := by
  obtain ⟨oe, vs, he, hc, hdd, hd, hr, _⟩ := F.obj
  refine note_put (base := X.base) (hA.trans (congrArg some hs)) (hs ▸ F.inv.stack) hf he hd hr fun h' P => ?_
  have P' : Put (frs X.stack) s.heap h' a := by rw [hs]; exact P
  refine h h' (F.put P') ?_
  obtain ⟨oe2, vs2, oe', T, oT, ts, he2, hd2, he', hc', hdd', hd', hsz, hT, hTe, hT', hTd, hT3⟩ := P.exc
  exact ⟨oe', _, T, oT, ts, he', hd', by simp [hsz], hT', hTd, hT3⟩
end
def CXN (nb : Bool) (P : Program) (w : World) : CXT := fun outer H s E e s' =>
  ∃ a C d H', e = .ref a ∧ s'.os = s.os ∧ AllBare s'.gens ∧ Un (frs outer) [] H H' s.heap s'.heap ∧ HOk P w H' s'.heap ∧ s.heap.get? a = none ∧ H' a = none ∧
    (∃ oe vs, s'.heap.get? a = some oe ∧ oe.cls = C ∧ oe.dict = d ∧ oe.data = .fields vs ∧ RestsN nb s'.heap vs fun T => T ≠ a ∧ s.heap.get? T = none ∧ H' T = none) ∧ E C d H'
abbrev CXE (P : Program) (w : World) : CXT := CXN false P w
section
variable {nb : Bool} {P : Program} {w : World} {K : PySem.W.Frag} {mg : Str → Option Value} {base : Heap} {N : List Str} {qual : Str} {scope : Scope} {f : Addr} {cd : Value} {A : Around} {outer : List Env} {s0 : Shared} {H0 : Hp} {E : XK}
theorem Flies.leave {pins : List (Addr × Obj)} {σ : St} {H : Hp} {s : Shared} {a : Addr} {C : Value} {d : Option Addr} (F : Flies nb (cxOf (CXN nb P w) P w K mg base N qual scope f cd A outer s0 H0 E) pins σ H a C d s) (hE : E C d H) :
    (cxOf (CXN nb P w) P w K mg base N qual scope f cd A outer s0 H0 E).xe (.ref a) s := by
  show wpAny _ _ (leaving _ (.ref a)) _ _ s
  unfold leaving
  refine wpAny_bind (F.note F.inv.ok.frames rfl rfl fun h' F' _ => ?_)
  exact ⟨a, C, d, H, rfl, F'.inv.os, F'.inv.bare, F'.inv.base, F'.inv.hok, F'.new, F'.free, F'.obj, hE⟩
end
section
variable {nb : Bool} {X : Cx} {pins : List (Addr × Obj)} {σ : St} {H : Hp} {s s' : Shared} {e : Value} {E : XK}
theorem Inv.flies (I : Inv X pins σ H s) (hx : X.ex = []) (h : CXN nb X.prog X.w X.stack H s E e s') : ∃ a C d H', e = .ref a ∧ Flies nb X pins σ H' a C d s' ∧ E C d H' := by
  obtain ⟨a, C, d, H', rfl, os, bare, un, hok, na, fa, obj, q⟩ := h
  obtain ⟨hh, g, dr, t, os'⟩ := s'
  obtain rfl : os' = s.os := os
  have old : ∀ b, s.heap.get? b = none → X.s₀.heap.get? b = none := fun b n => by
    cases z : X.s₀.heap.get? b with
    | none => rfl
    | some o =>
      obtain ⟨o', e⟩ := I.base.there b o z (by rw [hx]; simp)
      rw [n] at e; cases e
  refine ⟨a, C, d, H', rfl, ⟨I.call (h' := hh) (g' := g) (d' := dr) (t' := t) (ch := []) un hok bare (fun b z => absurd z (by simp)), old a na, fa, fun p hp z => ?_, ?_⟩, q⟩
  · have := (I.pin p hp).1
    rw [z, na] at this; cases this
  · obtain ⟨oe, vs, he, hc, hdd, hd, hr, hx⟩ := obj
    refine ⟨oe, vs, he, hc, hdd, hd, ?_, hx⟩
    rcases hr with hr | ⟨T, oT, ts, h1, ⟨h2, h3, h4⟩, h5, h6, h7⟩
    · exact .inl hr
    · exact .inr ⟨T, oT, ts, h1, ⟨h2, old T h3, h4⟩, h5, h6, h7⟩
theorem Inv.raised {C : Value} {args : List Value} {h' : Heap} {a : Addr} (I : Inv X pins σ H s) (hx : X.ex = []) (m : Heap.MadeExcOf s.heap h' a C args) : Flies nb X pins σ H a C none { s with heap := h' } := by
  obtain ⟨t, h1, h2, h3⟩ := m.there
  have old : ∀ b, s.heap.get? b = none → X.s₀.heap.get? b = none := fun b n => by
    cases z : X.s₀.heap.get? b with
    | none => rfl
    | some o =>
      obtain ⟨o', e⟩ := I.base.there b o z (by rw [hx]; simp)
      rw [n] at e; cases e
  refine ⟨I.kept (t' := s.toks) m.keeps, old a m.new, ?_, fun p hp z => ?_, ⟨_, _, h1, rfl, rfl, rfl, .inl rfl, fun _ => rfl⟩⟩
  · cases q : H a with
    | none => rfl
    | some u =>
      obtain ⟨o, e⟩ := (I.hok a u q).ex
      rw [m.new] at e; cases e
  · have := (I.pin p hp).1
    rw [z, m.new] at this; cases this
end
section
variable {nb : Bool} {P : Program} {w : World} {K : PySem.W.Frag} {mg : Str → Option Value} {base : Heap} {N : List Str} {qual : Str} {scope : Scope} {f : Addr} {cd : Value} {A : Around} {outer : List Env} {s0 : Shared} {H0 : Hp} {E : XK}
theorem passes_on : Passes (CXN nb P w) (cxOf (CXN nb P w) P w K mg base N qual scope f cd A outer s0 H0 E) E := fun pins σ H s e s' I h => by
  obtain ⟨a, C, d, H', rfl, F, q⟩ := I.flies (X := cxOf (CXN nb P w) P w K mg base N qual scope f cd A outer s0 H0 E) rfl h
  exact F.leave q
theorem passes_own0 : PassesOwn (model P w) (A.deeper (envOfC qual scope s0.heap.objs.size f cd)) (envOfC qual scope s0.heap.objs.size f cd) (cxOf (CXN nb P w) P w K mg base N qual scope f cd A outer s0 H0 E).xe := PassesOwn.leaving
end
abbrev bmV : List Value := [.type "ValueError", .type "Exception", .type "BaseException", .type "object"]
theorem exc_obj {K : PySem.W.Frag} {h : Heap} {C : Addr} {bmB : List Value} {newId : String} (X : K.In h) (q : PySem.W.excIn K C bmB newId = true) :
    ∃ nm qn N bs bm hdct sn sub ab col dd k0 k1 k2 k3 k5 mN, h.get? C = some (excClassObj nm qn C N bs bm hdct sn sub ab col dd k0 k1 k2 k3 k5 newId) ∧ h.Ns N mN ∧ mN "__init__" = none ∧ OwnTail h bmB bm := by
  unfold PySem.W.excIn at q
  split at q
  · rename_i dd cd sl ho
    split at q
    · rename_i C' bm k0 k1 k2 k3 n k5 hm hs
      simp only [Bool.and_eq_true, beq_iff_eq, Bool.not_eq_true'] at q
      obtain ⟨⟨⟨⟨⟨rfl, rfl⟩, hdel⟩, ht⟩, hok⟩, hni⟩ := q
      obtain ⟨nm, bs, mro, ns, qn, hd, sn, sub, ab, col, del⟩ := cd
      dsimp only at hm hdel hok hni
      subst hm hdel
      have hsl : sl = #[k0, k1, k2, k3, some (.builtin n), k5] := by
        obtain ⟨l⟩ := sl
        simp only at hs
        rw [hs]
      subst hsl
      exact ⟨nm, qn, ns, bs, bm, hd, sn, sub, ab, col, dd, k0, k1, k2, k3, k5, _, X _ _ ho, .of_isNs (PySem.W.isNs_of_in X hok), PySem.W.nsMap_none_of_in X hok hni, PySem.W.tail_of_in X ht⟩
    · cases q
  · cases q
def tRaise (C : Addr) (E : XK) (ta : TA) : TS := fun _ σ H => ta σ H fun vs H1 => vs.length ≤ 100 ∧ E (.ref C) none H1
def Wants (nb : Bool) (X : Cx) (E : XK) : Prop := X.ex = [] ∧ ∀ pins σ H a C d s, Flies nb X pins σ H a C d s → E C d H → X.xe (.ref a) s
section
variable {nb : Bool} {X : Cx} {E : XK} {x : Str} {C : Addr} {np cpos pos : Pos} {e : Expr} {es : List Expr} {ta : TA}
theorem ps_raise (hW : Wants nb X E) (hc : X.calm = true) (hg : Gl X x) (hm : X.mg x = some (.ref C)) (q : PySem.W.excIn X.K C bmV "ValueError.__new__" = true) (ha : PA X (e :: es) ta)
    (hdb : (x == ("__debug__" : Str)) = false := by decide) (he : starEach (e :: es) X.env = (false, eval e X.env) :: starEach es X.env := by rfl) (hpl : (backTo cpos (starEach (e :: es) X.env)).any (·.1) = false := by rfl) :
    PS X (.Raise (some (.Call (.Name x np) (e :: es) [] cpos)) none pos) (tRaise C E ta) := by
  intro pins s σ H D I h
  obtain ⟨nm, qn, N, bs, bm, hdct, sn, sub, ab, col, dd, k0, k1, k2, k3, k5, mN, hC, hN, hni, TL⟩ := exc_obj I.mod.kin q
  refine wpAny_Raise_call_subT (C := C) (nm := nm) (q := qn) (N := N) (bs := bs) (bm := bm) (hdct := hdct) (sn := sn) (sub := sub) (ab := ab) (col := col) (dd := dd) (k0 := k0) (k1 := k1) (k2 := k2) (k3 := k3) (k5 := k5) PySem.F.excBase_ValueError (TL.hasType (by decide +kernel)) (I.ok.hd hc) hpl hni ?_
  refine ld_glob I hg hm ⟨rfl, ?_⟩ hdb
  have hx := ha cpos pins s σ H _ I h
  rw [he] at hx ⊢
  refine Calls.evalArgs_plain (thn hx fun us s1 ⟨vs, H1, I1, r, z, qq⟩ => ?_)
  refine ⟨rfl, ?_, I1.bk _ _ hC, hN.keeps I1.bk, TL.keeps I1.bk, fun h' a m => ?_⟩
  · show us.length ≤ sizeLine
    rw [← r.length]
    exact Nat.le_trans z (by rw [sizeLine_eq]; decide)
  · exact hW.2 pins σ H1 a (.ref C) none _ (I1.raised hW.1 m) qq
end
section
variable {nb : Bool} {P : Program} {w : World} {K : PySem.W.Frag} {mg : Str → Option Value} {base : Heap} {N : List Str} {qual : Str} {scope : Scope} {f : Addr} {cd : Value} {A : Around} {outer : List Env} {s0 : Shared} {H0 : Hp} {E : XK}
theorem wants_out : Wants nb (cxOf (CXN nb P w) P w K mg base N qual scope f cd A outer s0 H0 E) E := ⟨rfl, fun _ _ _ _ _ _ _ F q => F.leave q⟩
end
def PF (X : Cx) (e : Expr) (c : St → Hp → Prop) : Prop :=
  ∀ (pins : List (Addr × Obj)) (s : Shared) (σ : St) (H : Hp) (Q : Value → Shared → Prop), Inv X pins σ H s → c σ H → (∀ y t s', y.length ≤ 3000 → Inv X pins σ H s' → Q (.str y t) s') → wpAny (model X.prog X.w) X.A (eval e X.env) Q X.xe s
def PFs (X : Cx) (es : List Expr) (c : St → Hp → Prop) : Prop :=
  ∀ (pins : List (Addr × Obj)) (s : Shared) (σ : St) (H : Hp) (acc : Str) (Q : Value → Shared → Prop), Inv X pins σ H s → c σ H → acc.length + es.length * 3000 ≤ sizeLine → (∀ y t s', Inv X pins σ H s' → Q (.str y t) s') →
    wpAny (model X.prog X.w) X.A (joinParts acc (evalEach es X.env)) Q X.xe s
section
variable {nb : Bool} {X : Cx} {e a : Expr} {es : List Expr} {c c' : St → Hp → Prop} {ta : TE} {pos : Pos}
theorem pf_text {x : Str} {k : Nat} (hx : x.length ≤ 3000 := by decide +kernel) : PF X (.Constant (.str x) k pos) fun _ _ => True := fun pins s σ H Q I _ h =>
  Calls.Constant_str (h x _ _ hx (I.tok _))
theorem pf_int (ha : PE X a ta) : PF X (.FormattedValue a (-1) none pos) fun σ H => ta σ H fun v H' => ∃ i : Int, v = .int i ∧ H' = H ∧ i.natAbs.log2 < 1920 := fun pins s σ H Q I hc h => by
  refine FormattedValue_plain (thn (ha pins s σ H _ I hc) ?_)
  rintro u s1 ⟨v, H1, I1, r, i, rfl, rfl, hi⟩
  obtain ⟨t, rfl⟩ := r
  exact formatField_int_small hi (h _ _ _ (Nat.le_trans (PyProof.Rows.int_text_len_1921 hi) (by decide)) (I1.tok _))
theorem pf_str (ha : PE X a ta) : PF X (.FormattedValue a (-1) none pos) fun σ H => ta σ H fun v H' => ∃ x : Str, v = .str x ∧ H' = H ∧ x.length ≤ 3000 := fun pins s σ H Q I hc h => by
  refine FormattedValue_plain (thn (ha pins s σ H _ I hc) ?_)
  rintro u s1 ⟨v, H1, I1, r, x, rfl, rfl, hx⟩
  obtain ⟨t, rfl⟩ := r
  exact formatField_str (fun t' tk => h x t' _ hx (I1.tok tk)) (Nat.le_trans hx (by rw [sizeLine_eq]; decide))
theorem pf_repr (ha : PE X a ta) : PF X (.FormattedValue a 114 none pos) fun σ H => ta σ H fun v H' => ∃ x : Str, v = .str x ∧ H' = H ∧ (PySem.reprText x).length ≤ 3000 := fun pins s σ H Q I hc h => by
  refine wpAny_FormattedValue_repr (thn (ha pins s σ H _ I hc) ?_)
  rintro u s1 ⟨v, H1, I1, r, x, rfl, rfl, hx⟩
  obtain ⟨t, rfl⟩ := r
  have hz : (PySem.reprText x).length ≤ sizeLine := Nat.le_trans hx (by rw [sizeLine_eq]; decide)
  refine wpAny_pyReprObj_gives (T := "str") (typeIs_str _ _ _) slot_str_repr entry_str_repr (args_str_repr _) (gives_str_repr x t) ?_ rfl hz
  exact formatField_str (fun t' tk => h _ t' _ hx (I1.tok tk)) hz
theorem pfs_nil : PFs X [] fun _ _ => True := fun pins s σ H acc Q I _ hz h => joinParts_nil (h _ _ _ (I.tok _)) (by simpa using hz)
theorem pfs_cons (h1 : PF X e c) (h2 : PFs X es c') : PFs X (e :: es) fun σ H => c σ H ∧ c' σ H := fun pins s σ H acc Q I hc hz h => by
  show wpAny _ _ (joinParts acc (eval e X.env :: evalEach es X.env)) Q X.xe s
  refine joinParts_cons (h1 pins s σ H _ I hc.1 fun y t s1 hy I1 => ?_)
  have hl : (acc ++ y).length = acc.length + y.length := strLen_append ..
  simp only [List.length_cons] at hz
  exact ⟨by rw [hl]; omega, h2 pins s1 σ H (acc ++ y) Q I1 hc.2 (by rw [hl]; omega) h⟩
def tF (c : St → Hp → Prop) : TE := fun σ H Q => c σ H ∧ ∀ y, Q (.str y) H
theorem pe_fstr {v1 v2 : Expr} {rest : List Expr} (h : PFs X (v1 :: v2 :: rest) c) (hl : (v1 :: v2 :: rest).length ≤ 1000 := by decide) : PE X (.JoinedStr (v1 :: v2 :: rest) pos) (tF c) := fun pins s σ H Q I hq => by
  refine JoinedStr_many (h pins s σ H Str.empty _ I hq.1 ?_ fun y t s1 I1 => ⟨.str y, H, I1, ⟨t, rfl⟩, hq.2 y⟩)
  have : (Str.empty).length = 0 := rfl
  have : (3000000 : Nat) ≤ sizeLine := by rw [sizeLine_eq]; decide
  omega
end
theorem match_ok {M : Model} {A : Around} {E : Value → Shared → Prop} {K : PySem.W.Frag} {hp : Heap} {g : Array GenState} {dr : Drawn} {tk : Nat} {os : OsState} {a : Addr} {oe : Obj} {c : Value} {b : Bool} {Q : Bool → Shared → Prop} (X : K.In hp) (he : hp.get? a = some oe)
    (kc : PySem.W.kitCls K oe.cls c = some b) (kb : PySem.W.subIn K c (.type "BaseException") = some true) (h : Q b ⟨hp, g, dr, tk, os⟩) : wpAny M A (excMatches (.ref a) c) Q E ⟨hp, g, dr, tk, os⟩ := by
  obtain ⟨LT, LI, LS⟩ := PySem.W.kit_cls (M := M) X kc
  have LB := PySem.W.looks_subIn (M := M) X kb
  have f := tc_notTuple
  unfold excMatches isInstance
  refine wpAny_bind (wpAny_bind (LT _ _ _ _ (fun _ _ e => e) ?_))
  rw [f]
  refine wpAny_pure ?_
  try dsimp only
  rw [if_neg (by decide)]
  refine wpAny_bind (wpAny_pure ?_)
  simp only [List.forIn_cons, List.forIn_nil]
  unfold isExcClass
  refine wpAny_bind (wpAny_bind (wpAny_bind (wpAny_bind (LI _ _ _ _ (fun _ _ e => e) ?_))))
  rw [if_pos rfl]
  refine LB _ _ _ _ (fun _ _ e => e) ?_
  try dsimp only
  rw [if_neg (by decide)]
  refine wpAny_pure ?_
  try dsimp only
  refine wpAny_pure (wpAny_bind ?_)
  unfold typeOf
  refine wpAny_bind (wpAny_load he (wpAny_pure ?_))
  refine wpAny_bind (wpAny_bind (wpAny_bind (LS _ _ _ _ (fun _ _ e => e) ?_)))
  cases b
  · rw [if_neg (by decide)]
    exact wpAny_pure (wpAny_pure (wpAny_pure h))
  · rw [if_pos rfl]
    exact wpAny_pure (wpAny_pure (wpAny_pure h))
def Cx.hnd (X : Cx) (a : Addr) : Cx := { X with A := X.A.mark (some (.ref a)), calm := false, xe := fun _ _ => False }
section
variable {nb : Bool} {X : Cx} {pins : List (Addr × Obj)} {σ : St} {H : Hp} {s : Shared} {a : Addr} {C : Value} {d : Option Addr} {E : XK}
theorem Cx.Ok.hnd (ok : X.Ok) (a : Addr) : (X.hnd a).Ok :=
  ⟨ok.mod, ok.kind, ok.glob, ok.blt, ok.above, ok.inj, ok.has, ok.cab, fun z => absurd (show false = true from z) (by decide), ok.frames, ok.stk, ok.exf, ok.bs, ok.bsz, ok.noex, ok.exfs, ok.funs, ok.frf⟩
theorem Inv.hnd (I : Inv X pins σ H s) (a : Addr) : Inv (X.hnd a) pins σ H s := ⟨I.ok.hnd a, I.os, I.bare, I.base, I.loc, I.cell, I.free, I.freeC, I.pin, I.hok, I.len⟩
theorem Inv.unhnd (ok : X.Ok) (I : Inv (X.hnd a) pins σ H s) : Inv X pins σ H s := ⟨ok, I.os, I.bare, I.base, I.loc, I.cell, I.free, I.freeC, I.pin, I.hok, I.len⟩
theorem SP.unhnd {D : Ends} {f : Flow} (ok : X.Ok) (h : SP (X.hnd a) pins D f s) : SP X pins D f s := by
  cases f with
  | next => obtain ⟨σ, H, I, q⟩ := h; exact ⟨σ, H, I.unhnd ok, q⟩
  | brk => obtain ⟨σ, H, I, q⟩ := h; exact ⟨σ, H, I.unhnd ok, q⟩
  | cont => obtain ⟨σ, H, I, q⟩ := h; exact ⟨σ, H, I.unhnd ok, q⟩
  | ret u => obtain ⟨v, σ, H, I, r, q⟩ := h; exact ⟨v, σ, H, I.unhnd ok, r, q⟩
def Trail (a : Addr) (h : Heap) : Prop := ∃ oe vs T oT ts, h.get? a = some oe ∧ oe.data = .fields vs ∧ vs[1]? = some (.ref T) ∧ h.get? T = some oT ∧ oT.data = .fields ts ∧ ts[3]? = some .none
theorem Trail.still {M : Model} {A : Around} {E' : Value → Shared → Prop} {Q : Unit → Shared → Prop} (t : Trail a s.heap) (h : Q () s) : wpAny M A (setFlight (.ref a) none) Q E' s := by
  obtain ⟨oe, vs, T, oT, ts, he, hd, h1, hT, hTd, h3⟩ := t
  refine wpAny_setFlight_none he hd h1 hT hTd (Array.getElem?_eq_some_iff.mp h3).1 ?_
  rw [Heap.update_setField_same _ _ _ _ _ _ hT hTd h3]
  exact h
def PH (nb : Bool) (X : Cx) (hs : List ExceptHandler) (th : Value → Option Addr → TS) : Prop :=
  ∀ (pins : List (Addr × Obj)) (σ : St) (H : Hp) (a : Addr) (C : Value) (d : Option Addr) (s : Shared) (D : Ends), Flies nb X pins σ H a C d s → Trail a s.heap → th C d D σ H → wpAny (model X.prog X.w) X.A (handleBy (.ref a) X.env hs) (SP X pins D) X.xe s
def tH (K : PySem.W.Frag) (c : Value) (t : TS) (th : Value → Option Addr → TS) : Value → Option Addr → TS := fun C d D σ H => ∃ b, PySem.W.kitCls K C c = some b ∧ if b = true then t D σ H else th C d D σ H
def tHno : Value → Option Addr → TS := fun _ _ _ _ _ => False
theorem ph_none : PH nb X [] tHno := fun _ _ _ _ _ _ _ _ _ _ h => h.elim
theorem ph_cons {x : Str} {np pos : Pos} {b0 : Stmt} {suite : List Stmt} {rest : List ExceptHandler} {c : Value} {t : TS} {th : Value → Option Addr → TS} (hg : Gl X x) (hm : X.mg x = some c) (hk : PySem.W.subIn X.K c (.type "BaseException") = some true)
    (hs : ∀ a, PSs (X.hnd a) (b0 :: suite) t) (hr : PH nb X rest th) (hd : (x == ("__debug__" : Str)) = false := by decide) :
    PH nb X (.ExceptHandler (some (.Name x np)) none (b0 :: suite) pos :: rest) (tH X.K c t th) := by
  intro pins σ H a C d s D F tr h
  obtain ⟨b, kc, h⟩ := h
  obtain ⟨oe, vs, he, hc, hdd, hd'⟩ := F.at
  have I' := F.inv.hnd a
  refine wpAny_handleBy_cons (codeAny_handlers_test (ld_glob (X := X.hnd a) I' hg hm ?_ hd)) (by intro q; cases q)
  obtain ⟨hp, g, dr, tk, os⟩ := s
  refine match_ok (K := X.K) F.inv.kIn he (by rw [hc]; exact kc) hk ?_
  cases b with
  | false => exact hr pins σ H a C d _ D F tr h
  | true =>
    refine codeAny_handlers_suite (tr.still ?_)
    exact wpAny_mono (hs a pins _ σ H D I' h) (fun f s' q => q.unhnd F.inv.ok) fun _ _ q => False.elim q
end
def PX (nb : Bool) (X : Cx) (e : Expr) (t : St → Hp → VK → XK → Prop) : Prop :=
  ∀ (pins : List (Addr × Obj)) (s : Shared) (σ : St) (H : Hp) (Q : VK) (E : XK) (Ev : Value → Shared → Prop), Inv X pins σ H s → t σ H Q E → (∀ a C d H' s', Flies nb X pins σ H' a C d s' → E C d H' → Ev (.ref a) s') →
    wpAny (model X.prog X.w) X.A (eval e X.env) (EP X pins σ Q) Ev s
section
variable {nb : Bool} {X : Cx} {k : Nat} {f C : Addr} {fd : FuncData} {ps : List Str} {sp : Sp} {x : Str} {p pos : Pos} {e : Expr} {es : List Expr} {ta : TA}
theorem px_call (F : FnOk X.prog X.w X.K X.mg X.base (CXN nb X.prog X.w) k f fd ps sp) (hx0 : X.ex = []) (hr : Room k X.A) (hg : Gl X x) (hm : X.mg x = some (.ref f)) (hk : PySem.W.keepIn X.K (.ref f) = true) (hb : Binds X.K fd ps [])
    (ha : PA X.nox (e :: es) ta) (hdb : (x == ("__debug__" : Str)) = false := by decide) (he : starEach (e :: es) X.env = (false, eval e X.env) :: starEach es X.env := by rfl) (hpl : (backTo pos (starEach es X.env)).any (·.1) = false := by rfl) :
    PX nb X (.Call (.Name x p) (e :: es) [] pos) (fun σ H Q E => ta σ H fun vs H1 => sp vs H1 Q E) := by
  intro pins s σ H Q E Ev I h hE
  refine wpAny_Call_Name_kw (ld_glob I hg hm ?_ hdb)
  refine PySem.W.callWith_K (h₀ := X.base) I.ok.mod.kin hk (wpAny_mono (ha pos pins s σ H _ (I.wish _) h) (fun us s1 ⟨vs, H1, I1, r, q⟩ => ⟨I1.kIn, ?_⟩) fun _ _ z => False.elim z) he hpl
  have J := I1.unwish
  have hl : us.length = ps.length := by rw [← r.length]; exact F.len _ _ _ _ q
  have bb := hb s1 us I1.kIn (by simpa using hl)
  rw [List.append_nil] at bb
  refine wpAny_call (codeAny_mono (F.run X.A X.stack s1 H1 ⟨us, []⟩ us vs Q E hr J.env0 bb r q) fun r s' hq => ?_)
  cases r with
  | error e =>
    obtain ⟨a, C, d, H', rfl, Fl, q'⟩ := J.flies hx0 hq
    exact hE a C d H' s' Fl q'
  | ok fl =>
    cases fl with
    | ret u => exact J.after hq
    | next => exact False.elim hq
    | brk => exact False.elim hq
    | cont => exact False.elim hq
def tTry (t : St → Hp → VK → XK → Prop) (th : Value → Option Addr → TS) : TS := fun D σ H => t σ H (fun _ H1 => D.nx σ H1) fun C d H1 => th C d D σ H1
theorem ps_try {t : St → Hp → VK → XK → Prop} {th : Value → Option Addr → TS} {h0 : ExceptHandler} {hs : List ExceptHandler} {p1 : Pos} (px : PX nb X e t) (hh : PH nb X (h0 :: hs) th) (hst : X.stack = X.env :: X.outer := by rfl) (hfr : X.env.frame = some X.env.locals := by rfl)
    (hs0 : swapsWith e none p1.line X.env = pure false := by rfl) : PS X (.Try [.Expr e p1] (h0 :: hs) [] [] pos) (tTry t th) := by
  intro pins s σ H D I h
  refine wpAny_Try_except (wpAny_execs_cons (wpAny_Expr_any (thn (px pins s σ H _ _ _ I h ?_) fun v s1 ⟨y, H1, I1, r1, q1⟩ => ?_) I.quiet hs0))
  · exact fun a C d H' s' Fl q => Fl.note I.ok.frames hst hfr fun h' Fl' tr => hh pins σ H' a C d _ D Fl' tr q
  · exact wpAny_execs_nil (wpAny_execs_nil ⟨σ, H1, I1, q1⟩)
end
def XO (a : Addr) (C : Value) (d : Option Addr) : HO := .ext fun h => ∃ oe vs, h.get? a = some oe ∧ oe.cls = C ∧ oe.dict = d ∧ oe.data = .fields vs
section
variable {nb : Bool} {X : Cx} {pins : List (Addr × Obj)} {σ : St} {H : Hp} {s : Shared} {a : Addr} {C : Value} {d : Option Addr}
theorem Flies.track (F : Flies nb X pins σ H a C d s) : Inv X pins σ (upd H a (XO a C d)) s := by
  obtain ⟨oe, vs, he, hc, hdd, hd⟩ := F.at
  have I := F.inv
  have ne : ∀ b u, H b = some u → b ≠ a := fun b u e => ne_of_none e F.free
  have neL : X.env.locals ≠ a := fun z => by
    obtain ⟨m, ⟨o, es, ep, ho, hdt, _⟩, _⟩ := I.loc
    rw [z, he] at ho; cases ho; rw [hd] at hdt; cases hdt
  have neC : ∀ x c, X.env.cells.lookup x = some c → c ≠ a := fun x c e z => by
    obtain ⟨v, o, ho, hdt⟩ := I.cell x c e
    rw [z, he] at ho; cases ho; rw [hd] at hdt; cases hdt
  have nea : ∀ b o, X.s₀.heap.get? b = some o → b ≠ a := fun b o e z => by rw [z, F.new] at e; cases e
  refine ⟨I.ok, I.os, I.bare, ⟨I.base.keep, I.base.slot, fun b o e n hx => ?_, I.base.there, fun b xs e => ?_, fun b o u e => ?_, fun b ps e => ?_⟩, I.loc, I.cell, ?_, fun x c e => ?_, fun p hp => ?_, fun b u e => ?_, I.len⟩
  · rw [upd_ne (nea b o e)]; exact I.base.free b o e n hx
  · rw [upd_ne (ne _ _ (I.base.tups b xs e))]; exact I.base.tups b xs e
  · rw [upd_ne (ne _ _ (I.base.frzs b o u e))]; exact I.base.frzs b o u e
  · obtain ⟨m, q⟩ := I.base.tbls b ps e
    exact ⟨m, by rw [upd_ne (ne _ _ q)]; exact q⟩
  · rw [upd_ne neL]; exact I.free
  · rw [upd_ne (neC x c e)]; exact I.freeC x c e
  · obtain ⟨e, n, r⟩ := I.pin p hp
    exact ⟨e, by rw [upd_ne (F.pin p hp)]; exact n, r⟩
  · by_cases hb : b = a
    · subst hb
      rw [upd_same] at e
      cases e
      refine ⟨⟨oe, vs, he, hc, hdd, hd⟩, ⟨oe, he⟩, ?_⟩
      rintro h1 h2 ⟨o1, v1, e1, r1⟩ k
      exact ⟨o1, v1, k _ e1, r1⟩
    · rw [upd_ne hb] at e
      exact (I.hok b u e).stay (fun _ _ _ q => q) (fun c q => by rw [upd_ne (ne _ _ q)]; exact q) fun c xs q => by rw [upd_ne (ne _ _ q)]; exact q
theorem Inv.goes {M : Model} {A : Around} {E : Value → Shared → Prop} {i : Nat} {n : Str} {pos : Pos} {Q : Unit → Shared → Prop} (I : Inv X pins σ H s) (hN : X.N.Nodup) (hi : X.N[i]? = some n) (hk : X.env.scope.names.lookup n = some .local)
    (h : ∀ s', Inv X pins (σ.set i none) H s' → Q () s') : wpAny M A (do bindName X.env n .none; unbindBehindTheSuite X.env n pos) Q E s := by
  obtain ⟨m, hn, hl⟩ := id I.loc
  have hcls : (X.env.scope.kind == .class || (X.env.scope.kind == .module && X.env.locals != X.env.globals)) = false := by rw [I.ok.kind]; rfl
  have hiσ : i < σ.length := by rw [I.len]; exact (List.getElem?_eq_some_iff.mp hi).1
  refine wpAny_nameGoes_keeps hk hn hcls fun h' v hn' hs => ?_
  obtain ⟨oL, _, _, hoL, _⟩ := id hn
  have neL : ∀ b o, X.s₀.heap.get? b = some o → b ≠ X.env.locals := fun b o e => Nat.ne_of_lt (Nat.lt_of_lt_of_le (Heap.lt_size e) I.ok.above)
  refine h _ ⟨I.ok, I.os, I.bare, ⟨fun b o e n hb hx => (hs.2 b (neL b o e)).trans (I.base.keep b o e n hb hx), fun b o e n hb hx => ?_, I.base.free, fun b o e hx => ?_, I.base.tups, I.base.frzs, I.base.tbls⟩, ⟨_, hn', fun j y v' e1 e2 e3 => ?_⟩, fun y c e => ?_, I.free, I.freeC, fun p hp => ?_, fun b ob e => ?_, by simpa using I.len⟩
  · obtain ⟨sl, e1⟩ := I.base.slot b o e n hb hx
    exact ⟨sl, (hs.2 b (neL b o e)).trans e1⟩
  · obtain ⟨o', e1⟩ := I.base.there b o e hx
    exact ⟨o', (hs.2 b (neL b o e)).trans e1⟩
  · by_cases hj : j = i
    · subst hj
      rw [List.getElem?_set_self hiσ] at e2
      cases e2
    · rw [List.getElem?_set_ne (Ne.symm hj)] at e2
      obtain ⟨u', r', q⟩ := hl j y v' e1 e2 e3
      refine ⟨u', r', ?_⟩
      rcases q with ⟨k, e⟩ | ⟨k, c, e, z⟩
      · refine .inl ⟨k, ?_⟩
        have : y ≠ n := fun e => hj (nodup_ix hN e1 (e ▸ hi))
        simp [this, e]
      · exact .inr ⟨k, c, e, z.sameBut hs (I.cne y c e)⟩
  · obtain ⟨w', z⟩ := I.cell y c e
    exact ⟨w', z.sameBut hs (I.cne y c e)⟩
  · obtain ⟨e, n, ne, nf, d⟩ := I.pin p hp
    exact ⟨(hs.2 p.1 ne).trans e, n, ne, nf, d⟩
  · refine (I.hok b ob e).stay (fun c w' hc q => (hs.2 c ?_).trans q) (fun _ q => q) fun _ _ q => q
    rintro rfl
    rcases hc with rfl | hc
    · rw [I.free] at e; cases e
    · rw [I.free] at hc; cases hc
def tHas (K : PySem.W.Frag) (c : Value) (i : Nat) (t : TS) (th : Value → Option Addr → TS) : Value → Option Addr → TS := fun C d D σ H => ∃ b, PySem.W.kitCls K C c = some b ∧
  if b = true then ∀ a, H a = none → t { nx := fun σ' H' => D.nx (σ'.set i none) H', rt := D.rt, bk := fun σ' H' => D.bk (σ'.set i none) H', ct := fun σ' H' => D.ct (σ'.set i none) H' } (σ.set i (some (.ref a))) (upd H a (XO a C d)) else th C d D σ H
theorem ph_as {x n : Str} {np pos : Pos} {i : Nat} {b0 : Stmt} {suite : List Stmt} {rest : List ExceptHandler} {c : Value} {t : TS} {th : Value → Option Addr → TS} (hg : Gl X x) (hm : X.mg x = some c) (hk : PySem.W.subIn X.K c (.type "BaseException") = some true)
    (hN : X.N.Nodup) (hi : X.N[i]? = some n) (hl : X.env.scope.names.lookup n = some .local) (hs : ∀ a, PSs (X.hnd a) (b0 :: suite) t) (hr : PH nb X rest th) (hd : (x == ("__debug__" : Str)) = false := by decide) :
    PH nb X (.ExceptHandler (some (.Name x np)) (some n) (b0 :: suite) pos :: rest) (tHas X.K c i t th) := by
  intro pins σ H a C d s D F tr h
  obtain ⟨b, kc, h⟩ := h
  obtain ⟨oe, vs, he, hc, hdd, hd'⟩ := F.at
  have I' := F.inv.hnd a
  refine wpAny_handleBy_cons (codeAny_handlers_test (ld_glob (X := X.hnd a) I' hg hm ?_ hd)) (by intro q; cases q)
  obtain ⟨hp, g, dr, tk, os⟩ := s
  refine match_ok (K := X.K) F.inv.kIn he (by rw [hc]; exact kc) hk ?_
  cases b with
  | false => exact hr pins σ H a C d _ D F tr h
  | true =>
    refine codeAny_handlers_suite_as (tr.still ?_)
    refine store_ok (X := X.hnd a) (F.track.hnd a) hN hi (.inl hl) (v := .ref a) rfl (fun s2 I2 => ?_) (.inr hl)
    refine wpAny_mono (hs a pins s2 _ _ _ I2 (h a F.free)) (fun f s3 q => ?_) fun _ _ q => False.elim q
    cases f with
    | next => obtain ⟨σ', H', J, q⟩ := q; exact (J.unhnd F.inv.ok).goes hN hi hl fun s4 J4 => ⟨_, H', J4, q⟩
    | brk => obtain ⟨σ', H', J, q⟩ := q; exact (J.unhnd F.inv.ok).goes hN hi hl fun s4 J4 => ⟨_, H', J4, q⟩
    | cont => obtain ⟨σ', H', J, q⟩ := q; exact (J.unhnd F.inv.ok).goes hN hi hl fun s4 J4 => ⟨_, H', J4, q⟩
    | ret u => obtain ⟨v, σ', H', J, r, q⟩ := q; exact (J.unhnd F.inv.ok).goes hN hi hl fun s4 J4 => ⟨v, _, H', J4, r, q⟩
end
section
variable {nb : Bool} {X : Cx}
theorem isx_true {prog : Program} {w : World} {A : Around} {E : Value → Shared → Prop} {K : PySem.W.Frag} {s : Shared} {a : Addr} {oe : Obj} {c : Value} {Q : Value → Shared → Prop} (Xk : K.In s.heap) (he : s.heap.get? a = some oe)
    (kc : PySem.W.kitCls K oe.cls c = some true) (h : ∀ tk, Q (.bool true) { s with toks := tk }) : wpAny (model prog w) A (call (.builtin "isinstance") [.ref a, c]) Q E s := by
  refine call_isinstance (S := fun _ R s => (K.In s.heap ∧ s.heap.get? a = some oe) ∧ ∀ tk, R (.ok (.ret (.bool true))) { s with toks := tk }) (fun prog w A R s hs => isinstance_outer ?_ (fun z => nomatch z)) ⟨⟨Xk, he⟩, h⟩
  obtain ⟨h0, g, d, tt, os⟩ := s
  obtain ⟨⟨Xk, he⟩, hq⟩ := hs
  unfold Builtin.«isinstance.nested»
  have LT : ∀ {M : Model} {A : Around} {Q : Value → Shared → Prop} {E : Value → Shared → Prop}, Q oe.cls ⟨h0, g, d, tt, os⟩ → wpAny M A (typeOf (.ref a)) Q E ⟨h0, g, d, tt, os⟩ := fun q => by
    unfold typeOf
    exact wpAny_bind (wpAny_load he (wpAny_pure q))
  refine wpAny_bind (LT ?_)
  by_cases q : (oe.cls == c) = true
  · rw [if_pos q]
    first
      | ((repeat lk); exact hq tt)
      | exact wpAny_bind (wpAny_rule (hq tt))
      | exact wpAny_bind (wpAny_rule (wpAny_pure (hq tt)))
  · rw [if_neg q]
    obtain ⟨hty, his, hsub⟩ := PySem.W.kit_cls (M := model prog w) Xk kc
    refine wpAny_bind (hty.at ?_)
    rw [if_pos (by decide)]
    k_delta "plainIsInstance"
    refine wpAny_bind (wpAny_bind (his.at ?_))
    simp only [Bool.not_true, Bool.false_eq_true, if_false]
    unfold isInstance
    refine wpAny_bind (wpAny_bind (LT (hsub.at ?_)))
    first
      | exact wpAny_pure (wpAny_pure (hq tt))
      | (simp only [if_true]; first | exact wpAny_pure (wpAny_pure (hq tt)) | exact wpAny_pure (hq tt) | exact wpAny_bind (wpAny_pure (wpAny_pure (hq tt))))
theorem call_isx : CallR X (.builtin "isinstance") (fun xs H Q => ∃ a C d n, xs = [.ref a, .ty n] ∧ H a = some (XO a C d) ∧ PySem.W.kitCls X.K C (.type n) = some true ∧ Q (.bl true) H) := by
  intro pins s σ H xs us Q I r h
  obtain ⟨a, C, d, n, rfl, e, k, q⟩ := h
  obtain ⟨u, u', rfl, rx, ry⟩ := Vals.two r
  cases (show u = Value.ref a from rx)
  cases (show u' = Value.type n from ry)
  obtain ⟨⟨oe, vs, he, hc, _⟩, _⟩ := (show ObjOk X.prog X.w H s.heap a (XO a C d) from I.hok a _ e)
  exact isx_true I.kIn he (by rw [hc]; exact k) fun tk => ⟨.bl true, H, I.tok tk, rfl, q⟩
end
section
open PySem.W
end
section
open PySem PySem.Spec PyProof.Rows PySem.W
variable {prog : Program} {w : World} {A : Around} {E : Value → Shared → Prop} {K : Frag} {x C CE N : Addr} {ox : Obj} {od : Option Obj} {name : Str} {v : Value} {Q : Unit → Shared → Prop} {hp : Heap} {g : Array GenState} {dr : Drawn} {tk : Nat} {os : OsState}
  {nm q : Str} {bs : List Value} {sn : List Str} {sub : List Value} {ab : Bool} {col : Option Bool} {dd : Option Addr} {k0 k1 k2 k3 k5 : Option Value} {newId : String}
end
section
open PySem PySem.Spec PyProof.Rows PySem.W
variable {prog : Program} {w : World} {A : Around} {E : Value → Shared → Prop} {K : Frag} {e C CE N : Addr} {oe : Obj} {Q : Value → Shared → Prop} {hp : Heap} {g : Array GenState} {dr : Drawn} {tk : Nat} {os : OsState}
  {nm q : Str} {bs : List Value} {hd0 : Bool} {sn : List Str} {sub : List Value} {ab : Bool} {col : Option Bool} {dd : Option Addr} {k0 k1 k2 k3 k5 : Option Value} {newId : String}
end
end L2
set_option Elab.async false
set_option linter.all false
set_option maxRecDepth 100000
set_option maxHeartbeats 1000000
namespace L2
open PySem PySem.Spec PyProof.Rows
section
open PySem.W
variable {prog : Program} {w : World} {A : Around} {E : Value → Shared → Prop} {K : Frag} {C CE N fI : Addr} {h : Heap} {g : Array GenState} {d : Drawn} {t : Nat} {os : OsState}
  {nm q : Str} {bs : List Value} {hdct : Bool} {sn : List Str} {sub : List Value} {ab : Bool} {col : Option Bool} {dd : Option Addr} {k0 k1 k2 k3 k5 : Option Value}
end
section
end
section
variable {X : Cx} {pins : List (Addr × Obj)} {σ : St} {H : Hp} {s : Shared} {d : Addr} {o : HO}
end
section
variable {X : Cx} {C CE fI : Addr} {o value : Expr} {f : Str} {ta tv : TE} {pos pos' : Pos}
end
section
variable {X : Cx} {C CE fI : Addr} {e : Expr} {f : Str} {ta : TE} {pos : Pos}
end
section
variable {X : Cx} {C CE fI : Addr} {e : Expr} {es : List Expr} {ta : TA} {x : Str} {p apos pos : Pos} {pl : Sem Bool}
end
section
variable {X : Cx} {pins : List (Addr × Obj)} {σ : St} {H : Hp} {s : Shared} {a : Addr} {φ : Heap → Prop}
end
section
variable {nb : Bool} {X : Cx} {E : XK} {C CE fI : Addr} {k : Nat} {fd : FuncData} {ps : List Str} {sp : Sp} {x : Str} {np cpos pos : Pos} {e : Expr} {es : List Expr} {ta : TA}
end
section
open PySem.W
variable {prog : Program} {w : World} {A : Around} {E : Value → Shared → Prop} {K : Frag} {x C : Addr} {ox : Obj} {od : Option Obj} {hp : Heap} {g : Array GenState} {dr : Drawn} {tk : Nat} {os : OsState}
end
section
variable {X : Cx}
end
section
variable {nb : Bool} {P : Program} {w : World} {K : PySem.W.Frag} {mg : Str → Option Value} {base : Heap}
theorem Fun.okX {x qual : Str} {st : Stmt} {f : Addr} {fd : FuncData} {N ps : List Str} {k : Nat} {sp : Sp} (F : Fun K x qual st f fd) (S : FnScope N ps (defScope st)) (len : ∀ vs H Q E, sp vs H Q E → vs.length = ps.length)
    (hbody : ∀ (cdv : Value) (A : Around) (outer : List Env) (s : Shared) (H : Hp) (vs : List V) (Q : VK) (E : XK), Room k (A.deeper (envOfC qual (defScope st) s.heap.objs.size f cdv)) → sp vs H Q E →
      ∃ t, PSs (cxOf (CXN nb P w) P w K mg base N qual (defScope st) f cdv A outer s H E) (defBody st) t ∧ t { nx := fun _ H' => Q .non H', rt := Q } (start N vs) H) : FnOk P w K mg base (CXN nb P w) (k + 1) f fd ps sp := by
  obtain ⟨oc, od, kV, doc, pm, an, cdv, ct, osl, rfl, lk, hcd⟩ := F.ex
  exact fn_of lk hcd S len fun A outer s H vs Q E hr hsp => hbody cdv A outer s H vs Q E hr hsp
end
end L2
set_option Elab.async false
set_option linter.all false
set_option maxRecDepth 100000
set_option maxHeartbeats 4000000
namespace L2
open PySem PySem.Spec PyProof.Rows
section
variable {X : Cx}
def rInsert : V → List V → Hp → VK → Prop := fun x vs H Q => ∃ (l : Addr) (xs : List V) (k : Nat) (y : V), x = .ref l ∧ vs = [.int k, y] ∧ H l = some (.lst xs) ∧ k ≤ xs.length ∧ xs.length ≤ 1000 ∧ Q .non (upd H l (.lst (xs.take k ++ y :: xs.drop k)))
seal PySem.Meets in
theorem mt_insert : MtM X "list.insert" rInsert := by
  intro pins s σ H x vs v us Q I rx rv h
  obtain ⟨l, xs, k, y, rfl, rfl, hH, hk, hz, q⟩ := h
  cases rx
  obtain ⟨u, u', rfl, ru, ru'⟩ := rv.two
  obtain ⟨t, rfl⟩ := (show ∃ t, u = Value.int k t from ru)
  obtain ⟨z, its, n, r, hl, e⟩ := I.lstM hH
  have hf : ¬ (!Builtin.List.listFitsIndex (k : Int)) = true := by
    have h1 : Builtin.List.listFitsIndex (k : Int) = true := by
      unfold Builtin.List.listFitsIndex
      rw [Bool.and_eq_true]
      exact ⟨decide_eq_true (by omega), decide_eq_true (by omega)⟩
    rw [h1]; decide
  have hsz : its.length ≤ sizeLine := Nat.le_of_lt (small1000 (by omega))
  have M := AutoSeq1.list_insert_list_int_val_1 l its.toArray n (k : Int) t u' hf hsz
  refine call_meets F.slot_list_insert ⟨_, e, rfl⟩ F.entry_list_insert (F.args_list_insert_3 _ _ _)
    M ⟨e, ?_⟩
  refine ⟨.non, _, I.lset (its' := its.take k ++ u' :: its.drop k) hH e ?_ ?_ ?_, rfl, q⟩
  · show (its.toArray.extract 0 _).push u' ++ its.toArray.extract _ = _
    have hkk : (if (k : Int) < 0 then ((k : Int) + (its.toArray.size : Int)).toNat else min (k : Int).toNat its.toArray.size) = k := by
      rw [if_neg (by omega), Int.toNat_natCast, List.size_toArray]; omega
    rw [hkk]
    rw [← Array.toList_inj]
    simp only [Array.toList_append, Array.toList_push, List.extract_toArray, List.toList_toArray]
    simp [List.extract_eq_drop_take]
    exact List.take_of_length_le (by simp)
  · exact (r.take k).append (.cons ru' (r.drop k))
  · rw [List.length_append, List.length_cons, List.length_take, List.length_drop]
    exact Nat.le_of_lt (Nat.lt_of_lt_of_le (show _ < 1002 by omega) (by unfold sizeLine; omega))
end
end L2
set_option Elab.async false
set_option linter.all false
set_option maxRecDepth 100000
set_option maxHeartbeats 4000000
namespace L2
open PySem PySem.Spec PyProof.Rows
section
variable {X : Cx} {pins : List (Addr × Obj)} {σ : St} {H : Hp} {s : Shared} {pos : Pos}
theorem vals_strs : ∀ {ts : List Str} {us : List Value}, Vals (ts.map V.str) us → ∃ l : List (Str × Tok), strValues l = us ∧ l.map (·.1) = ts
  | [], _, .nil => ⟨[], rfl, rfl⟩
  | t :: ts, _, .cons (b := u) r rs => by
    obtain ⟨k, e⟩ := (show ∃ k, u = Value.str t k from r)
    obtain ⟨l, h1, h2⟩ := vals_strs rs
    exact ⟨(t, k) :: l, by rw [e, ← h1]; rfl, by rw [← h2]; rfl⟩
theorem strs_vals : ∀ {l : List (Str × Tok)}, Vals ((l.map (·.1)).map V.str) (strValues l)
  | [] => .nil
  | (t, k) :: l => .cons ⟨k, rfl⟩ strs_vals
def rJoin (K : PySem.W.Frag) : V → List V → Hp → VK → Prop := fun x vs H Q => ∃ sep l ts, x = .str sep ∧ vs = [.ref l] ∧ SqL K H l (ts.map V.str) ∧ JoinOk sep ts = true ∧ Q (.str (Txt.join sep ts)) H
theorem mt_join : MtR X "str.join" (rJoin X.K) := by
  intro pins s σ H x vs v us Q I rx rv h
  obtain ⟨sep, l, ts, rfl, rfl, hq, hj, q⟩ := h
  obtain ⟨k, e⟩ := (show ∃ k, v = Value.str sep k from rx)
  subst e
  obtain ⟨u, rfl, ru⟩ := rv.one
  cases ru
  obtain ⟨its, r, p, hz⟩ := I.list hq
  obtain ⟨ls, rfl, h2⟩ := vals_strs r
  exact SC.join p.isList h2 hj fun t' k' => ⟨.str _, H, I.tok _, ⟨_, rfl⟩, q⟩
def rSplit : V → List V → Hp → VK → Prop := fun x vs H Q => ∃ t sep, x = .str t ∧ vs = [.str sep] ∧ (sep.length == 0) = false ∧ t.length ≤ sizeLine ∧ (Builtin.Str.partsBetween t (Builtin.Str.occurrences t sep 0 t.length (t.length + 1)) sep.length).length ≤ sizeLine ∧ (Txt.split t sep).length ≤ sizeLine ∧
  ∀ l, H l = none → Q (.ref l) (upd H l (.lst ((Txt.split t sep).map V.str)))
theorem mt_split : MtR X "str.split" rSplit := by
  intro pins s σ H x vs v us Q I rx rv h
  obtain ⟨t, sep, rfl, rfl, hs, hz1, hz2, hz3, q⟩ := h
  obtain ⟨k, e⟩ := (show ∃ k, v = Value.str t k from rx)
  subst e
  obtain ⟨u, rfl, ru⟩ := rv.one
  obtain ⟨k2, e2⟩ := (show ∃ k, u = Value.str sep k from ru)
  subst e2
  have fin : ∀ (l : List (Str × Tok)) (tk : Nat), l.map (·.1) = Txt.split t sep → EP X pins σ Q (.ref s.heap.objs.size) { s with toks := tk, heap := s.heap.push { cls := .type "list", data := .seq (strValues l).toArray } } := fun l tk hl => by
    have hv : Vals ((Txt.split t sep).map V.str) (strValues l) := by rw [← hl]; exact strs_vals
    exact ⟨.ref s.heap.objs.size, _, I.lnew (t' := tk) hv (by rw [List.length_map]; exact hz3), rfl, q _ I.fresh⟩
  cases h1 : (decide (t.length < sep.length) || decide (Builtin.Str.strKind t < Builtin.Str.strKind sep))
  · cases hf : (Builtin.Str.occurrences t sep 0 t.length (t.length + 1)).isEmpty
    · refine call_meets PySem.F.slot_str_split (typeIs_str _ _ _) PySem.F.entry_str_split (PySem.F.args_str_split_2 _ _) (meets_str_split_sep t sep k k2 h1 hs hf hz1 hz2) ?_
      show wants _ _ _ { s with toks := _, heap := s.heap.push { cls := .type "list", data := .seq (strsFrom s.toks (Builtin.Str.partsBetween t (Builtin.Str.occurrences t sep 0 t.length (t.length + 1)) sep.length)).toArray } }
      rw [strsFrom_eq]
      exact fin (numbered s.toks _) _ ((numbered_texts _ _).trans ((if_neg (ne_true_of_eq_false h1)).trans (if_neg (ne_true_of_eq_false hf))).symm)
    · exact call_meets PySem.F.slot_str_split (typeIs_str _ _ _) PySem.F.entry_str_split (PySem.F.args_str_split_2 _ _) (meets_str_split_not_found t sep k k2 h1 hs hf)
        (fin [(t, k)] s.toks ((if_neg (ne_true_of_eq_false h1)).trans (if_pos hf)).symm)
  · exact call_meets PySem.F.slot_str_split (typeIs_str _ _ _) PySem.F.entry_str_split (PySem.F.args_str_split_2 _ _) (meets_str_split_cannot_occur t sep k k2 h1)
      (fin [(t, k)] s.toks (if_pos h1).symm)
def Its (x : Str) : It := ⟨fun i _ => i < x.cps.size, fun i H v H' => H' = H ∧ ∃ c, x.cps[i]? = some c ∧ v = .str ⟨#[c]⟩, fun i _ => x.cps.size ≤ i⟩
theorem turn_str {P : Program} {w : World} {K : PySem.W.Frag} {tg : Expr} (x : Str) (t : Tok) (it : Addr) : Turn P w K tg (Its x) [it] it (fun i h => h.IsStrIter it "str_ascii_iterator" x t i) where
  mem := by simp
  obj := fun i h st b hb => by
    have e : b = it := by simpa using hb
    subst e
    obtain ⟨o, e, c, d⟩ := st
    exact ⟨o, e, fun v z => by rw [d] at z; cases z⟩
  keep := fun i h h' st k => by
    obtain ⟨o, e, c, d⟩ := st
    exact ⟨o, k it (by simp) o e, c, d⟩
  item := by
    intro X hP hw hK hc i pins s σ H E I hf st hg
    subst hP hw hK
    have hg' : i < x.cps.size := hg
    obtain ⟨f0, f1, f2, f3, f4, f5⟩ := hf it (by simp)
    have hx : x.cps[i]? = some x.cps[i] := Array.getElem?_eq_getElem hg'
    refine wpAny_pyNext_ascii_item st hx fun h' st' sb => ?_
    have I1 : Inv X pins σ H { s with heap := h', toks := s.toks + 1 } := I.turned (t' := s.toks + 1) (fun b o hb e => (sb.2 b hb).trans e) f0 f1 f3 f4 f5
    obtain ⟨o, e, c, d⟩ := id st'
    exact ⟨_, rfl, go_of (s := { s with heap := h', toks := s.toks + 1 }) e c d (by decide) ⟨.str ⟨#[x.cps[i]]⟩, H, I1, ⟨_, rfl⟩, ⟨rfl, _, hx, rfl⟩, st', fun b hb => (hf b hb).1⟩⟩
  done := by
    intro X hP hw hK hc i pins s σ H E I hf st hg
    subst hP hw hK
    obtain ⟨f0, f1, f2, f3, f4, f5⟩ := hf it (by simp)
    have hg' : x.cps.size ≤ i := hg
    exact wpAny_pyNext_ascii_end (I.ok.hd hc) st (Array.getElem?_eq_none hg') fun h' eb => ⟨rfl, I.turned (t' := s.toks) (fun b o hb e => eb b o hb e) f0 f1 f3 f4 f5⟩
  self := fun _ _ _ _ _ st h => wpAny_pyIter_striter_ascii st h
def iStr (tl : TE) : TI := fun σ H R => tl σ H fun v H1 => ∃ x, v = .str x ∧ x.cps.all (· < 128) = true ∧ R (Its x) H1
theorem pi_str {tg l : Expr} {tl : TE} (hl : PE X l tl) : PI X tg l (iStr tl) := by
  intro pins s σ H R I h
  refine thn (hl pins s σ H _ I h) fun v s1 ⟨x, H1, I1, r1, q1⟩ => ?_
  obtain ⟨y, rfl, ha, q⟩ := q1
  obtain ⟨t, e⟩ := (show ∃ t, v = Value.str y t from r1)
  subst e
  refine wpAny_pyIter_ascii ha ?_
  refine ⟨s1.heap.objs.size, [s1.heap.objs.size], _, _, H1, rfl, I1.kept (t' := s1.toks) fun b o e => Heap.get?_push_of_some _ e, turn_str y t _, ⟨_, Heap.get?_push_size _ rfl, rfl, rfl⟩, fun b hb => ?_, q⟩
  have e : b = s1.heap.objs.size := by simpa using hb
  subst e
  exact I1.fpOk (Nat.le_refl _) (I1.hok.fresh (Nat.le_refl _))
theorem comp_strA {x : Str} {g : TG} {te : TE} {D : Addr} {Q : VK} {σ : St} {H : Hp} (Pv : Nat → List V → St → Hp → Prop) (h0 : Pv 0 [] σ (upd H D (.lst [])))
    (hs : ∀ i c ys σ H, x.cps[i]? = some c → H D = some (.lst ys) → Pv i ys σ H → g (.str ⟨#[c]⟩) σ H fun σ2 H3 => te σ2 H3 fun y H4 => H4 D = some (.lst ys) ∧ ys.length < sizeLine ∧ Pv (i + 1) (ys ++ [y]) σ2 (upd H4 D (.lst (ys ++ [y]))))
    (hd : ∀ ys σ H, H D = some (.lst ys) → Pv x.cps.size ys σ H → Q (.ref D) H) : tLoop (Its x) g tYes te D Q σ (upd H D (.lst [])) := by
  refine ⟨fun i m σ H => m = x.cps.size - i ∧ i ≤ x.cps.size ∧ ∃ ys, H D = some (.lst ys) ∧ Pv i ys σ H, ⟨x.cps.size, by simp, Nat.zero_le _, [], upd_same, h0⟩, ?_⟩
  rintro i m σ H ⟨rfl, hi, ys, hD, p⟩
  by_cases hlt : i < x.cps.size
  · refine .inr ⟨hlt, fun y σ' H' => H' D = some (.lst ys) ∧ ys.length < sizeLine ∧ Pv (i + 1) (ys ++ [y]) σ' (upd H' D (.lst (ys ++ [y]))), fun σ' H' => H' D = some (.lst ys) ∧ Pv (i + 1) ys σ' H',
      fun y σ' H' q => ⟨ys, q.1, q.2.1, x.cps.size - (i + 1), by omega, rfl, hlt, _, upd_same, q.2.2⟩, fun σ' H' q => ⟨x.cps.size - (i + 1), by omega, rfl, hlt, ys, q⟩, fun v H' y => ?_⟩
    obtain ⟨e, c, hc, rfl⟩ := y
    subst e
    exact hs i c ys σ _ hc hD p
  · have e : i = x.cps.size := by omega
    subst e
    exact .inl ⟨Nat.le_refl _, hd ys σ H hD p⟩
theorem vals_bls : ∀ {bs : List Bool} {us : List Value} {i : Nat} {v : Value}, Vals (bs.map V.bl) us → us[i]? = some v → ∃ b, bs[i]? = some b ∧ v = .bool b
  | [], _, i, v, .nil, h => by simp at h
  | b :: bs, _, 0, v, .cons (b := u) r rs, h => by
    have e : u = v := by simpa using h
    subst e
    exact ⟨b, rfl, (show u = Value.bool b from r)⟩
  | b :: bs, _, i + 1, v, .cons r rs, h => vals_bls (i := i) rs (by simpa using h)
theorem all_range (bs : List Bool) : (List.range bs.length).all (fun i => bs.getD i false) = bs.all id := by
  rw [Bool.eq_iff_iff, List.all_eq_true, List.all_eq_true]
  constructor
  · intro h x hx
    obtain ⟨i, hi, rfl⟩ := List.mem_iff_getElem.mp hx
    have := h i (List.mem_range.mpr hi)
    rw [List.getD_eq_getElem?_getD, List.getElem?_eq_getElem hi] at this
    exact this
  · intro h i hi
    have hi' := List.mem_range.mp hi
    rw [List.getD_eq_getElem?_getD, List.getElem?_eq_getElem hi']
    exact h _ (List.getElem_mem hi')
theorem call_all_bools : CallR X (.builtin "all") (fun xs H Q => X.calm = true ∧ ∃ (l : Addr) (bs : List Bool), xs = [.ref l] ∧ SqL X.K H l (bs.map V.bl) ∧ Q (.bl (bs.all id)) H) := by
  intro pins s σ H xs us Q I r h
  obtain ⟨hc, l, bs, rfl, hq, q⟩ := h
  obtain ⟨u, rfl, rx⟩ := vals1 r
  cases rx
  obtain ⟨its, rv, p, hz⟩ := I.list hq
  have hl : l < s.heap.objs.size := by obtain ⟨o, ho, _⟩ := p.isList; exact Heap.lt_size ho
  have hlen : its.length = bs.length := by rw [← rv.length, List.length_map]
  refine call_all_walk (wpAny_pyIter_list p.isList ⟨s.heap.objs.size, _, _, _, _, _, fun i => bs.getD i false, rfl, Walks.list (by rw [Around.in1_handled]; exact I.ok.hd hc) s.heap.objs.size l (Nat.ne_of_lt hl) its.toArray, ⟨⟨_, Heap.get?_push_size _ rfl, rfl, rfl⟩, p.isList.at fun o e => Heap.get?_push_of_some _ e⟩, fun i v s' Q' E' hP hQ' => ?_, fun h' tk hk => ?_⟩)
  · obtain ⟨b, hb, rfl⟩ := vals_bls rv (by simpa using hP)
    have e : bs.getD i false = b := by rw [List.getD_eq_getElem?_getD, hb]; rfl
    have hQ2 : Q' (bs.getD i false) s' := hQ'
    rw [e] at hQ2
    exact wpAny_truthy_bool hQ2
  · have en : (List.range its.toArray.size).all (fun i => bs.getD i false) = bs.all id := by rw [List.size_toArray, hlen]; exact all_range bs
    rw [en]
    exact ⟨.bl _, H, I.kept (t' := tk) fun b o e => hk b o (by simp only [List.mem_singleton]; exact Nat.ne_of_lt (Heap.lt_size e)) (Heap.get?_push_of_some _ e), rfl, q⟩
end
end L2
set_option Elab.async false
set_option linter.all false
set_option maxRecDepth 100000
set_option maxHeartbeats 4000000
namespace PySem
open Sem (wp)
namespace F
theorem str_no_int : typeLookup (.type "str") "__int__" = pure none := by rw [typeLookup_type, builtinLookup_eq_fast]; kernel_rfl
theorem str_no_index : typeLookup (.type "str") "__index__" = pure none := by rw [typeLookup_type, builtinLookup_eq_fast]; kernel_rfl
theorem str_no_trunc : typeLookup (.type "str") "__trunc__" = pure none := by rw [typeLookup_type, builtinLookup_eq_fast]; kernel_rfl
end F
def wd (n : Nat) : Str := Str.ofString (toString (n : Int))
def dg (n : Nat) : List Nat := if n < 10 then [48 + n] else [48 + n / 10, 48 + n % 10]
theorem wd_text : ∀ n, n < 100 → (List.takeWhile (fun x => x != 0) (if ((wd n).cps.all fun x => decide (x < 128)) = true then (wd n).cps.toList else Unicode.numberText (wd n).cps.toList)) = dg n ∧ (if ((wd n).cps.all fun x => decide (x < 128)) = true then (wd n).cps.toList else Unicode.numberText (wd n).cps.toList) = dg n := by decide +kernel
theorem dg_le (n : Nat) : (dg n).length ≤ 640 := by
  unfold dg
  split
  · show 1 ≤ 640; decide
  · show 2 ≤ 640; decide
theorem wp_eq {α : Type} {M : Model} {A : Around} {Q : α → Shared → Prop} {E : Value → Shared → Prop} {s : Shared} {a b : Sem α} (h : a = b) (hb : wpAny M A b Q E s) : wpAny M A a Q E s := by
  rw [h]; exact hb
theorem meets_int_new_wd (n : Nat) (hn : n < 100) (t : Tok) : Meets (Builtin.«int.__new__» ⟨[.type "int", .str (wd n) t], []⟩) (Made.int (n : Int)).spec := by
  obtain ⟨h1, h2⟩ := wd_text n (by omega)
  obtain ⟨x, hx⟩ : ∃ x, x = wd n := ⟨_, rfl⟩
  rw [← hx] at h1 h2 ⊢
  refine Meets.of_wp fun prog w A R s hs => ?_
  obtain ⟨hp, g, d, tk, os⟩ := s
  have f1 := F.conv_sub_int
  have f2 := F.madeHere_int
  have hT : (⟨hp, g, d, tk, os⟩ : Shared).TypeIs (.str x t) "str" := rfl
  have f3 := F.str_no_int
  have f4 := F.str_no_index
  have f5 := F.str_no_trunc
  repeat (any_goals (first | assumption | wp_step))
  rw [h1, h2, if_pos (dg_le n)]
  repeat (any_goals (first | assumption | wp_step))
  refine wp_eq (b := mkInt (n : Int)) ?_ ?_
  · clear hs f1 f2 hT f3 f4 f5 h1 h2 hx
    match n, hn with
    | 0, _ => kernel_rfl
    | 1, _ => kernel_rfl
    | 2, _ => kernel_rfl
    | 3, _ => kernel_rfl
    | 4, _ => kernel_rfl
    | 5, _ => kernel_rfl
    | 6, _ => kernel_rfl
    | 7, _ => kernel_rfl
    | 8, _ => kernel_rfl
    | 9, _ => kernel_rfl
    | 10, _ => kernel_rfl
    | 11, _ => kernel_rfl
    | 12, _ => kernel_rfl
    | 13, _ => kernel_rfl
    | 14, _ => kernel_rfl
    | 15, _ => kernel_rfl
    | 16, _ => kernel_rfl
    | 17, _ => kernel_rfl
    | 18, _ => kernel_rfl
    | 19, _ => kernel_rfl
    | 20, _ => kernel_rfl
    | 21, _ => kernel_rfl
    | 22, _ => kernel_rfl
    | 23, _ => kernel_rfl
    | 24, _ => kernel_rfl
    | 25, _ => kernel_rfl
    | 26, _ => kernel_rfl
    | 27, _ => kernel_rfl
    | 28, _ => kernel_rfl
    | 29, _ => kernel_rfl
    | 30, _ => kernel_rfl
    | 31, _ => kernel_rfl
    | 32, _ => kernel_rfl
    | 33, _ => kernel_rfl
    | 34, _ => kernel_rfl
    | 35, _ => kernel_rfl
    | 36, _ => kernel_rfl
    | 37, _ => kernel_rfl
    | 38, _ => kernel_rfl
    | 39, _ => kernel_rfl
    | 40, _ => kernel_rfl
    | 41, _ => kernel_rfl
    | 42, _ => kernel_rfl
    | 43, _ => kernel_rfl
    | 44, _ => kernel_rfl
    | 45, _ => kernel_rfl
    | 46, _ => kernel_rfl
    | 47, _ => kernel_rfl
    | 48, _ => kernel_rfl
    | 49, _ => kernel_rfl
    | 50, _ => kernel_rfl
    | 51, _ => kernel_rfl
    | 52, _ => kernel_rfl
    | 53, _ => kernel_rfl
    | 54, _ => kernel_rfl
    | 55, _ => kernel_rfl
    | 56, _ => kernel_rfl
    | 57, _ => kernel_rfl
    | 58, _ => kernel_rfl
    | 59, _ => kernel_rfl
    | 60, _ => kernel_rfl
    | 61, _ => kernel_rfl
    | 62, _ => kernel_rfl
    | 63, _ => kernel_rfl
    | 64, _ => kernel_rfl
    | 65, _ => kernel_rfl
    | 66, _ => kernel_rfl
    | 67, _ => kernel_rfl
    | 68, _ => kernel_rfl
    | 69, _ => kernel_rfl
    | 70, _ => kernel_rfl
    | 71, _ => kernel_rfl
    | 72, _ => kernel_rfl
    | 73, _ => kernel_rfl
    | 74, _ => kernel_rfl
    | 75, _ => kernel_rfl
    | 76, _ => kernel_rfl
    | 77, _ => kernel_rfl
    | 78, _ => kernel_rfl
    | 79, _ => kernel_rfl
    | 80, _ => kernel_rfl
    | 81, _ => kernel_rfl
    | 82, _ => kernel_rfl
    | 83, _ => kernel_rfl
    | 84, _ => kernel_rfl
    | 85, _ => kernel_rfl
    | 86, _ => kernel_rfl
    | 87, _ => kernel_rfl
    | 88, _ => kernel_rfl
    | 89, _ => kernel_rfl
    | 90, _ => kernel_rfl
    | 91, _ => kernel_rfl
    | 92, _ => kernel_rfl
    | 93, _ => kernel_rfl
    | 94, _ => kernel_rfl
    | 95, _ => kernel_rfl
    | 96, _ => kernel_rfl
    | 97, _ => kernel_rfl
    | 98, _ => kernel_rfl
    | 99, _ => kernel_rfl
    | k + 100, hk => exact absurd hk (by omega)
  · repeat (any_goals (first | assumption | wp_step))
    all_goals first | exact ⟨_, rfl, hs⟩ | skip
section
variable {prog : Program} {w : World} {A : Around} {E : Value → Shared → Prop} {s : Shared}
theorem call_int_wd {n : Nat} (hn : n < 100) {t : Tok} {Q : Value → Shared → Prop} (h : Q (.int (n : Int) s.toks) { s with toks := s.toks + 1 }) : wpAny (model prog w) A (call (.type "int") [.str (wd n) t]) Q E s :=
  call_int_1 (meets_int_new_wd n hn t) (show (Made.int (n : Int)).post _ s from ⟨rfl, h⟩)
end
end PySem
namespace L2
open PySem PySem.Spec PyProof.Rows
theorem call_int_word {X : Cx} : CallR X (.type "int") (fun xs H Q => ∃ n : Nat, n < 100 ∧ xs = [.str (wd n)] ∧ Q (.int (n : Int)) H) := by
  intro pins s σ H xs us Q I r h
  obtain ⟨n, hn, rfl, q⟩ := h
  obtain ⟨u, rfl, rx⟩ := vals1 r
  obtain ⟨t, e⟩ := (show ∃ t, u = Value.str (wd n) t from rx)
  subst e
  exact call_int_wd hn ⟨.int _, H, I.tok _, ⟨_, rfl⟩, q⟩
end L2
set_option Elab.async false
set_option linter.all false
set_option maxRecDepth 100000
set_option maxHeartbeats 4000000
namespace L2
open PySem PySem.Spec PyProof.Rows
theorem cps_inj {a b : Str} (h : a.cps.toList = b.cps.toList) : a = b := Str.ext' (Array.toList_inj.mp h)
theorem cps_app (a b : Str) : (a ++ b).cps.toList = a.cps.toList ++ b.cps.toList := by
  show (a.cps ++ b.cps).toList = _
  rw [Array.toList_append]
def jn (c : Nat) : List (List Nat) → List Nat
  | [] => []
  | [x] => x
  | x :: y :: r => x ++ c :: jn c (y :: r)
theorem join_cps (c : Nat) : ∀ ls : List Str, (Str.join ⟨#[c]⟩ ls).cps.toList = jn c (ls.map fun x => x.cps.toList)
  | [] => rfl
  | [x] => rfl
  | x :: y :: r => by
    show (x ++ ⟨#[c]⟩ ++ Str.join ⟨#[c]⟩ (y :: r)).cps.toList = x.cps.toList ++ c :: jn c ((y :: r).map fun x => x.cps.toList)
    rw [cps_app, cps_app, join_cps c (y :: r), List.append_assoc]; rfl
theorem first_cut {c : Nat} : ∀ {x y s t : List Nat}, x ++ c :: s = y ++ c :: t → c ∉ x → c ∉ y → x = y ∧ s = t
  | [], [], s, t, h, _, _ => ⟨rfl, (List.cons.inj h).2⟩
  | [], b :: y, s, t, h, _, hy => absurd (show c ∈ b :: y by rw [(List.cons.inj h).1]; exact List.mem_cons_self) hy
  | a :: x, [], s, t, h, hx, _ => absurd (show c ∈ a :: x by rw [← (List.cons.inj h).1]; exact List.mem_cons_self) hx
  | a :: x, b :: y, s, t, h, hx, hy => by
    obtain ⟨h1, h2⟩ := List.cons.inj h
    obtain ⟨h3, h4⟩ := first_cut h2 (fun z => hx (List.mem_cons_of_mem _ z)) (fun z => hy (List.mem_cons_of_mem _ z))
    exact ⟨by rw [h1, h3], h4⟩
theorem jn_inj {c : Nat} : ∀ {a b : List (List Nat)}, a ≠ [] → b ≠ [] → (∀ x ∈ a, c ∉ x) → (∀ x ∈ b, c ∉ x) → jn c a = jn c b → a = b
  | [], _, h, _, _, _, _ => absurd rfl h
  | _ :: _, [], _, h, _, _, _ => absurd rfl h
  | [x], [y], _, _, _, _, h => by rw [show x = y from h]
  | [x], y :: y2 :: b, _, _, hx, _, h => by
    have h' : x = y ++ c :: jn c (y2 :: b) := h
    exact absurd (show c ∈ x by rw [h']; simp) (hx x List.mem_cons_self)
  | x :: x2 :: a, [y], _, _, _, hy, h => by
    have h' : x ++ c :: jn c (x2 :: a) = y := h
    exact absurd (show c ∈ y by rw [← h']; simp) (hy y List.mem_cons_self)
  | x :: x2 :: a, y :: y2 :: b, _, _, hx, hy, h => by
    have h' : x ++ c :: jn c (x2 :: a) = y ++ c :: jn c (y2 :: b) := h
    obtain ⟨h1, h2⟩ := first_cut h' (hx x List.mem_cons_self) (hy y List.mem_cons_self)
    rw [h1, jn_inj (by simp) (by simp) (fun z hz => hx z (List.mem_cons_of_mem _ hz)) (fun z hz => hy z (List.mem_cons_of_mem _ hz)) h2]
theorem map_cps_inj : ∀ {a b : List Str}, (a.map fun x => x.cps.toList) = (b.map fun x => x.cps.toList) → a = b
  | [], [], _ => rfl
  | [], _ :: _, h => by cases h
  | _ :: _, [], h => by cases h
  | x :: a, y :: b, h => by
    obtain ⟨h1, h2⟩ := List.cons.inj (show x.cps.toList :: (a.map fun x => x.cps.toList) = y.cps.toList :: (b.map fun x => x.cps.toList) from h)
    rw [cps_inj h1, map_cps_inj h2]
theorem join_is (sep : Str) (ls : List Str) : Txt.join sep ls = Str.join sep ls := StrLaws.glued_eq_join sep ls
theorem split_join {c : Nat} {ls : List Str} (h0 : ls ≠ []) (hf : ∀ x ∈ ls, c ∉ x.cps.toList) : Txt.split (Txt.join ⟨#[c]⟩ ls) ⟨#[c]⟩ = ls := by
  have h1 := StrLaws.join_split (Txt.join ⟨#[c]⟩ ls) ⟨#[c]⟩
  have h2 : (Str.join ⟨#[c]⟩ (Txt.split (Txt.join ⟨#[c]⟩ ls) ⟨#[c]⟩)).cps.toList = (Txt.join ⟨#[c]⟩ ls).cps.toList := by rw [h1]
  rw [join_cps] at h2
  have h3 : (Txt.join ⟨#[c]⟩ ls).cps.toList = jn c (ls.map fun x => x.cps.toList) := by rw [join_is, join_cps]
  rw [h3] at h2
  refine map_cps_inj (jn_inj (c := c) ?_ ?_ ?_ ?_ h2)
  · intro e
    have := split_pos (Txt.join ⟨#[c]⟩ ls) ⟨#[c]⟩
    have e2 := congrArg List.length e
    rw [List.length_map] at e2
    simp at e2
    rw [e2] at this
    cases this
  · intro e
    exact h0 (by simpa using e)
  · intro x hx
    obtain ⟨p, hp, rfl⟩ := List.mem_map.mp hx
    exact StrLaws.split_free _ c p hp
  · intro x hx
    obtain ⟨p, hp, rfl⟩ := List.mem_map.mp hx
    exact hf p hp
theorem joinOk_of {sep : Str} {ts : List Str} (h1 : ∀ t ∈ ts, t.length ≤ 1000) (h2 : ts.length ≤ 1000) (h3 : sep.length ≤ 1) : JoinOk sep ts = true := by
  unfold JoinOk
  have hs : (ts.map (·.length)).sum ≤ 1000 * ts.length := by
    clear h2
    induction ts with
    | nil => exact Nat.le_refl _
    | cons t ts ih =>
      have a := h1 t List.mem_cons_self
      have b := ih fun x hx => h1 x (List.mem_cons_of_mem _ hx)
      rw [List.map_cons, List.sum_cons, List.length_cons, Nat.mul_add]
      omega
  have hm : ts.length * sep.length ≤ 1000 * 1 := Nat.mul_le_mul h2 h3
  have ht : (ts.map (·.length)).sum + ts.length * sep.length ≤ 1001000 := by
    have : 1000 * ts.length ≤ 1000 * 1000 := Nat.mul_le_mul_left _ h2
    omega
  rw [StrLaws.joinTotal]
  unfold Builtin.Str.tooLong
  rw [Bool.not_eq_true', decide_eq_false_iff_not, sizeLine_eq]
  omega
end L2
set_option Elab.async false
set_option linter.all false
set_option maxRecDepth 100000
set_option maxHeartbeats 4000000
namespace PySem
open Sem (wp)
def wz (n : Nat) : Str := ⟨#[48, 48 + n]⟩
theorem wz_text : ∀ n, n < 10 → (List.takeWhile (fun x => x != 0) (if ((wz n).cps.all fun x => decide (x < 128)) = true then (wz n).cps.toList else Unicode.numberText (wz n).cps.toList)) = [48, 48 + n] ∧ (if ((wz n).cps.all fun x => decide (x < 128)) = true then (wz n).cps.toList else Unicode.numberText (wz n).cps.toList) = [48, 48 + n] := by decide +kernel
theorem meets_int_new_wz (n : Nat) (hn : n < 10) (t : Tok) : Meets (Builtin.«int.__new__» ⟨[.type "int", .str (wz n) t], []⟩) (Made.int (n : Int)).spec := by
  obtain ⟨h1, h2⟩ := wz_text n (by omega)
  obtain ⟨x, hx⟩ : ∃ x, x = wz n := ⟨_, rfl⟩
  rw [← hx] at h1 h2 ⊢
  refine Meets.of_wp fun prog w A R s hs => ?_
  obtain ⟨hp, g, d, tk, os⟩ := s
  have f1 := F.conv_sub_int
  have f2 := F.madeHere_int
  have hT : (⟨hp, g, d, tk, os⟩ : Shared).TypeIs (.str x t) "str" := rfl
  have f3 := F.str_no_int
  have f4 := F.str_no_index
  have f5 := F.str_no_trunc
  repeat (any_goals (first | assumption | wp_step))
  rw [h1, h2, if_pos (show [48, 48 + n].length ≤ 640 by show 2 ≤ 640; decide)]
  repeat (any_goals (first | assumption | wp_step))
  refine wp_eq (b := mkInt (n : Int)) ?_ ?_
  · clear hs f1 f2 hT f3 f4 f5 h1 h2 hx
    match n, hn with
    | 0, _ => kernel_rfl
    | 1, _ => kernel_rfl
    | 2, _ => kernel_rfl
    | 3, _ => kernel_rfl
    | 4, _ => kernel_rfl
    | 5, _ => kernel_rfl
    | 6, _ => kernel_rfl
    | 7, _ => kernel_rfl
    | 8, _ => kernel_rfl
    | 9, _ => kernel_rfl
    | k + 10, hk => exact absurd hk (by omega)
  · repeat (any_goals (first | assumption | wp_step))
    all_goals first | exact ⟨_, rfl, hs⟩ | skip
section
variable {prog : Program} {w : World} {A : Around} {E : Value → Shared → Prop} {s : Shared}
theorem call_int_wz {n : Nat} (hn : n < 10) {t : Tok} {Q : Value → Shared → Prop} (h : Q (.int (n : Int) s.toks) { s with toks := s.toks + 1 }) : wpAny (model prog w) A (call (.type "int") [.str (wz n) t]) Q E s :=
  call_int_1 (meets_int_new_wz n hn t) (show (Made.int (n : Int)).post _ s from ⟨rfl, h⟩)
end
end PySem
namespace L2
open PySem PySem.Spec PyProof.Rows
def Fig (x : Str) : Prop := ∃ a b, a < 10 ∧ b < 10 ∧ (x = ⟨#[48 + a]⟩ ∨ x = ⟨#[48 + a, 48 + b]⟩)
theorem wd_one : ∀ a, a < 10 → (⟨#[48 + a]⟩ : Str) = wd a := by decide +kernel
theorem wd_two : ∀ a, a < 10 → ∀ b, b < 10 → a ≠ 0 → (⟨#[48 + a, 48 + b]⟩ : Str) = wd (10 * a + b) := by decide +kernel
theorem fig_is {x : Str} (h : Fig x) : (∃ n, n < 100 ∧ x = wd n) ∨ ∃ n, n < 10 ∧ x = wz n := by
  obtain ⟨a, b, ha, hb, rfl | rfl⟩ := h
  · exact .inl ⟨a, by omega, wd_one a ha⟩
  · by_cases z : a = 0
    · subst z
      exact .inr ⟨b, hb, rfl⟩
    · exact .inl ⟨10 * a + b, by omega, wd_two a ha b hb z⟩
theorem call_int_fig {X : Cx} : CallR X (.type "int") (fun xs H Q => ∃ x : Str, xs = [.str x] ∧ Fig x ∧ ∀ n : Nat, n < 100 → Q (.int (n : Int)) H) := by
  intro pins s σ H xs us Q I r h
  obtain ⟨x, rfl, hx, q⟩ := h
  obtain ⟨u, rfl, rx⟩ := vals1 r
  obtain ⟨t, e⟩ := (show ∃ t, u = Value.str x t from rx)
  subst e
  rcases fig_is hx with ⟨n, hn, rfl⟩ | ⟨n, hn, rfl⟩
  · exact call_int_wd hn ⟨.int _, H, I.tok _, ⟨_, rfl⟩, q n hn⟩
  · exact call_int_wz hn ⟨.int _, H, I.tok _, ⟨_, rfl⟩, q n (by omega)⟩
def up1 (c : Nat) : Nat := if 97 ≤ c ∧ c ≤ 122 then c - 32 else c
theorem up_ascii : ∀ c, c < 128 → Unicode.upperOf c = [up1 c] := by decide +kernel
theorem upper_list {l : List Nat} (h : ∀ c ∈ l, c < 128) : (Txt.upper ⟨l.toArray⟩).cps.toList = l.map up1 := by
  show ((Array.mapIdx (fun i c => (Unicode.upperOf c).toArray) l.toArray).flatten).toList = _
  have e : Array.mapIdx (fun i c => (Unicode.upperOf c).toArray) l.toArray = (l.map fun c => #[up1 c]).toArray := by
    refine Array.ext (by simp) fun i h1 h2 => ?_
    simp only [List.mapIdx_toArray, List.getElem_toArray, List.getElem_mapIdx, List.getElem_map]
    rw [up_ascii _ (h _ (List.getElem_mem _))]
  rw [e]
  clear e h
  rw [Array.toList_flatten]
  simp only [List.map_map]
  induction l with
  | nil => rfl
  | cons a l ih => simp_all
theorem upper_cps {x : Str} (h : ∀ c ∈ x.cps.toList, c < 128) : (Txt.upper x).cps.toList = x.cps.toList.map up1 := by
  obtain ⟨⟨l⟩⟩ := x
  exact upper_list h
def rUpper : V → List V → Hp → VK → Prop := fun x vs H Q => ∃ t, x = .str t ∧ vs = [] ∧ (∀ c ∈ t.cps.toList, c < 128) ∧ t.length ≤ 1000 ∧ Q (.str (Txt.upper t)) H
theorem mt_upper {X : Cx} : MtR X "str.upper" rUpper := by
  intro pins s σ H x vs v us Q I rx rv h
  obtain ⟨t, rfl, rfl, ha, hl, q⟩ := h
  obtain ⟨k, e⟩ := (show ∃ k, v = Value.str t k from rx)
  subst e
  cases rv
  refine SC.upper ?_ ⟨.str _, H, I.tok _, ⟨_, rfl⟩, q⟩
  have e : (Txt.upper t).length = t.length := by
    have := congrArg List.length (upper_cps ha)
    rw [List.length_map, Array.length_toList, Array.length_toList] at this
    exact this
  unfold Builtin.Str.tooLong
  rw [e, decide_eq_false_iff_not, sizeLine_eq]
  omega
end L2
set_option Elab.async false
set_option linter.all false
set_option maxRecDepth 100000
set_option maxHeartbeats 4000000
namespace L2
open PySem PySem.Spec PyProof.Rows
section
variable {X : Cx}
theorem var_at {i : Nat} {x : Str} {pos : Pos} {pins : List (Addr × Obj)} {s : Shared} {σ : St} {H : Hp} {v : V} {Q : Value → Shared → Prop} {E : Value → Shared → Prop} (I : Inv X pins σ H s) (hN : X.N[i]? = some x) (hv : Vis X.env.scope x) (e : σ[i]? = some (some v)) (h : ∀ u, RelV v u → Q u s)
    (hd : (x == ("__debug__" : Str)) = false := by decide) (hcd : (x == ("__classdict__" : Str)) = false := by decide) : wpAny (model X.prog X.w) X.A (eval (.Name x pos) X.env) Q E s := by
  obtain ⟨m, hn, hl⟩ := I.loc
  obtain ⟨u, r, l⟩ := hl i x v hN e hv
  rcases l with ⟨hk, hm⟩ | ⟨hk, c, hc, hcell⟩
  · exact wpAny_Name (wpAny_loadName_local I.ok.kind hk hn hm (h u r)) hd
  · rcases hk with hk | hk
    · exact wpAny_Name (wpAny_loadName_cell I.ok.kind hk hc hcell (h u r)) hd
    · exact wpAny_Name (wpAny_loadName_free I.ok.kind hk hc hcell (h u r) hcd) hd
def tRepl (i j : Nat) (k : Int) (a b : Str) : TS := fun D σ H => ∃ n t, σ[i]? = some (some (.int n)) ∧ σ[j]? = some (some (.str t)) ∧ (n = k → t.length ≤ 1000 ∧ D.nx (σ.set j (some (.str (Txt.replace t a b)))) H) ∧ (¬ n = k → D.nx σ H)
theorem ps_replace (i j : Nat) {x y : Str} {k : Int} {a b : Str} {k1 k2 k3 : Nat} {p1 p2 p3 p4 p5 p6 p7 p8 p9 p10 p11 : Pos} (hN : X.N.Nodup) (hi : X.N[i]? = some x) (vx : Vis X.env.scope x) (hj : X.N[j]? = some y) (vy : Vis X.env.scope y) (hl : Loc X.env.scope y) (hab : (a == b) = false) (hb : b.length ≤ 14)
    (hm : behindInMarks .Eq (.Constant (.int k) k1 p2) = false := by rfl)
    (hdx : (x == ("__debug__" : Str)) = false := by decide) (hcx : (x == ("__classdict__" : Str)) = false := by decide) (hdy : (y == ("__debug__" : Str)) = false := by decide) (hcy : (y == ("__classdict__" : Str)) = false := by decide)
    (hbase : attributeBase (.Name y p5) "replace" X.env (eval (.Name y p5) X.env) = eval (.Name y p5) X.env := by rfl) (hline : (p6.endLine == p9.line) = true := by rfl)
    (hs : swapsWith (.Call (.Attribute (.Name y p5) "replace" p6) [.Constant (.str a) k2 p7, .Constant (.str b) k3 p8] [] p9) (some (.Name y p4)) p10.line X.env = pure false := by rfl)
    (hf : X.fn y = true ∨ X.env.scope.names.lookup y = some .local := by first | exact .inl rfl | exact .inr rfl | assumption) :
    PS X (.If (.Compare (.Name x p1) [.Eq] [.Constant (.int k) k1 p2] p3) [.Assign [.Name y p4] (.Call (.Attribute (.Name y p5) "replace" p6) [.Constant (.str a) k2 p7, .Constant (.str b) k3 p8] [] p9) p10] [] p11) (tRepl i j k a b) := by
  intro pins s σ H D I h
  obtain ⟨n, t, e1, e2, q1, q2⟩ := h
  refine wpAny_If (thn (Q := fun d s1 => d = (n == k) ∧ 1 ≤ s1.toks ∧ Inv X pins σ H s1) ?_ fun d s1 ⟨hd, ht, I1⟩ => ?_)
  · refine wpAny_isTrue_Compare1 (var_at I hi vx e1 (fun u ru => ?_) hdx hcx) hm
    obtain ⟨tk, e⟩ := (show ∃ tk, u = Value.int n tk from ru)
    subst e
    exact wpAny_Constant_int (eq_int (wpAny_truthy_bool ⟨rfl, Nat.succ_le_succ (Nat.zero_le _), I.tok _⟩))
  subst hd
  by_cases z : n = k
  · rw [if_pos (show (n == k) = true from beq_iff_eq.mpr z)]
    obtain ⟨hlen, q⟩ := q1 z
    refine wpAny_execs_cons (thn (Q := SP X pins D) ?_ fun f s2 q => ?_)
    · refine wpAny_Assign_Name ?_ hs
      refine wpAny_Call_method_late hbase rfl hline rfl (var_at I1 hj vy e2 (fun u ru => ?_) hdy hcy)
      obtain ⟨tk, e⟩ := (show ∃ tk, u = Value.str t tk from ru)
      subst e
      obtain ⟨h1, h2⟩ := tyV_is (T := "str") I1 ru rfl
      refine ⟨"str", "str.replace", PySem.F.plainAttrs_str, PySem.F.slot_str_replace, PySem.F.type_str_replace, h1, h2, ?_⟩
      refine Calls.callWith_builtin rfl (Calls.evalArgs_plain ?_)
      refine Calls.spliced_cons (Calls.Constant_str (k := k2) (pos := p7) (Calls.spliced_cons (Calls.Constant_str (k := k3) (pos := p8) (Calls.spliced_nil ?_))))
      refine SC.replaceW (by show s1.toks ≠ 0; omega) (by show s1.toks + 1 ≠ 0; omega) (by show s1.toks ≠ s1.toks + 1; omega) hab (by omega) hb fun t' k' => ?_
      refine store_ok (v := .str (Txt.replace t a b)) (I1.tok _) hN hj hl ⟨_, rfl⟩ (fun s2 I2 => ⟨_, H, I2, q⟩) hf
    · cases f with
      | next => exact wpAny_execs_nil q
      | ret v => exact q
      | brk => exact q
      | cont => exact q
  · rw [if_neg (show ¬ (n == k) = true from fun e => z (beq_iff_eq.mp e))]
    exact wpAny_execs_nil ⟨σ, H, I1, q2 z⟩
end
end L2
set_option Elab.async false
set_option linter.all false
set_option maxRecDepth 100000
set_option maxHeartbeats 4000000
namespace L2
open PySem PySem.Spec PyProof.Rows
structure PutA (fs : List Addr) (h h' : Heap) (e T : Addr) : Prop where
  keep : ∀ b o, b ≠ e → b ∉ fs → h.get? b = some o → h'.get? b = some o
  slot : ∀ b o, b ≠ e → h.get? b = some o → ∃ sl, h'.get? b = some { o with slots := sl }
  exc : ∃ oe vs oe' oT ts, h.get? e = some oe ∧ oe.data = .fields vs ∧ h'.get? e = some oe' ∧ oe'.cls = oe.cls ∧ oe'.dict = oe.dict ∧ oe'.data = .fields (vs.setIfInBounds 1 (.ref T)) ∧ 1 < vs.size ∧
    h.objs.size ≤ T ∧ T ≠ e ∧ h'.get? T = some oT ∧ oT.data = .fields ts ∧ 3 < ts.size
section
variable {M : Model} {A : Around} {E : Value → Shared → Prop} {s : Shared}
theorem entry_putA {base : Heap} {env : Env} {outer : List Env} {L e : Addr} {oe : Obj} {vs : Array Value} {head : Value} {hadNext : Bool} {Q : Unit → Shared → Prop}
    (hfr : A.frames = some (env :: outer)) (hl : s.heap.FunFrames base (env :: outer)) (hf : env.frame = some L)
    (he : s.heap.get? e = some oe) (hd : oe.data = .fields vs) (hsz : 1 < vs.size)
    (h : ∀ h' T, PutA (frs (env :: outer)) s.heap h' e T → Q () { s with heap := h' }) :
    wpAny M A (do let a ← frameOf env; let pl ← entryPlaceOf L hadNext; let b ← EntryCells.newEntry head a .none (rawInt L) .none pl; setField (.ref e) 1 b) Q E s := by
  have hene : e ∉ frs (env :: outer) := fun hm => by
    obtain ⟨_, o, ho, hnf⟩ := hl.mem hm
    rw [he] at ho; injection ho with ho; subst ho; exact hnf vs hd
  refine wpAny_bind (wpAny_frameOf_fun hfr hl hf fun h1 hs1 => ?_)
  refine wpAny_bind (wpAny_entryPlaceOf fun pl hpl => ?_)
  unfold EntryCells.newEntry newFields
  refine wpAny_bind (wpAny_newObj_type ?_ (hpl.sizeOk5 _ _ _ _ _))
  have he1 : h1.get? e = some oe := (hs1.2.1 e hene).trans he
  have he2 := Heap.get?_push_of_some (h := h1) { cls := .type "traceback", dict := none, data := .fields ([head, .ref L, .none, rawInt L, .none] ++ (if pl.isEmpty then List.replicate 6 Value.none else pl)).toArray } he1
  refine wpAny_setField he2 hd hsz (h _ h1.objs.size ?_)
  have hTe : h1.objs.size ≠ e := Nat.ne_of_gt (Heap.lt_size he1)
  have hd3 := Obj.data_mapFields hd (·.setIfInBounds 1 (Value.ref h1.objs.size))
  have he3 := Heap.get?_update_self (Obj.mapFields (·.setIfInBounds 1 (Value.ref h1.objs.size))) he2 (Obj.isFreed_of_fields hd3)
  have hT3 := (Heap.get?_update_other (h1.push { cls := .type "traceback", dict := none, data := .fields ([head, .ref L, .none, rawInt L, .none] ++ (if pl.isEmpty then List.replicate 6 Value.none else pl)).toArray })
    (Obj.mapFields (·.setIfInBounds 1 (Value.ref h1.objs.size))) (Ne.symm hTe)).trans (Heap.get?_push_size h1 rfl)
  have keep : ∀ b o, b ≠ e → h1.get? b = some o →
      ((h1.push { cls := .type "traceback", dict := none, data := .fields ([head, .ref L, .none, rawInt L, .none] ++ (if pl.isEmpty then List.replicate 6 Value.none else pl)).toArray }).update e (Obj.mapFields (·.setIfInBounds 1 (Value.ref h1.objs.size)))).get? b = some o := fun b o hbe hb => by
    rw [Heap.get?_update_other _ _ (Ne.symm hbe)]
    exact Heap.get?_push_of_some _ hb
  refine ⟨fun b o hbe hbf hb => keep b o hbe ((hs1.2.1 b hbf).trans hb), fun b o hbe hb => ?_, ?_⟩
  · obtain ⟨sl, hsl⟩ := hs1.2.2 b o hb
    exact ⟨sl, keep b _ hbe hsl⟩
  · have hTn : s.heap.objs.size ≤ h1.objs.size := by rw [hs1.1]; exact Nat.le_refl _
    refine ⟨oe, vs, _, _, _, he, hd, he3, Obj.cls_mapFields _ _, ?_, hd3, hsz, hTn, hTe, hT3, rfl, ?_⟩
    · obtain ⟨c, dd, dt, sl⟩ := oe
      cases dt <;> rfl
    · simp only [List.size_toArray, List.length_append, List.length_cons, List.length_nil]
      omega
end
section
variable {nb : Bool} {X : Cx} {pins : List (Addr × Obj)} {σ : St} {H : Hp} {s : Shared} {a : Addr} {C : Value} {d : Option Addr} {h' : Heap} {T : Addr}
theorem Inv.putA (I : Inv X pins σ H s) (P : PutA (frs X.stack) s.heap h' a T) (n0 : X.s₀.heap.get? a = none) (fr : H a = none) (pn : ∀ p ∈ X.pn ++ pins, p.1 ≠ a) : Inv X pins σ H { s with heap := h' } := by
  obtain ⟨oe, vs, oe', oT, ts, he, hd, _⟩ := P.exc
  have neL : a ≠ X.env.locals := fun z => by
    obtain ⟨m, ⟨o, es, ep, ho, hdt, _⟩, _⟩ := I.loc
    rw [← z, he] at ho; cases ho; rw [hd] at hdt; cases hdt
  have neC : ∀ x c, X.env.cells.lookup x = some c → c ≠ a := fun x c e z => by
    obtain ⟨v, o, ho, hdt⟩ := I.cell x c e
    rw [z, he] at ho; cases ho; rw [hd] at hdt; cases hdt
  have stk : ∀ b, b ≠ X.env.locals → b ∉ X.fs → b ∉ frs X.stack := fun b h1 h2 z => (List.mem_cons.mp (I.stkSub b z)).elim h1 h2
  have neL' : ∀ b o, X.s₀.heap.get? b = some o → b ≠ X.env.locals := fun b o e => Nat.ne_of_lt (Nat.lt_of_lt_of_le (Heap.lt_size e) I.ok.above)
  have nea : ∀ b o, X.s₀.heap.get? b = some o → b ≠ a := fun b o e z => by rw [z, n0] at e; cases e
  have cellK : ∀ x c, X.env.cells.lookup x = some c → ∀ v, s.heap.IsCell c v → h'.IsCell c v := fun x c e v ⟨o, ho, hdt⟩ => by
    obtain ⟨sl, q⟩ := P.slot c o (neC x c e) ho
    exact ⟨_, q, hdt⟩
  refine ⟨I.ok, I.os, I.bare, ⟨fun b o e n hb hx => ?_, fun b o e n hb hx => ?_, fun b o e n hx => I.base.free b o e n hx, fun b o e hx => ?_, I.base.tups, I.base.frzs, I.base.tbls⟩, ?_, fun x c e => ?_, I.free, I.freeC, fun p hp => ?_, fun b u e => ?_, I.len⟩
  · exact P.keep b o (nea b o e) (stk b (neL' b o e) hb) (I.base.keep b o e n hb hx)
  · obtain ⟨sl, e1⟩ := I.base.slot b o e n hb hx
    obtain ⟨sl', e2⟩ := P.slot b _ (nea b o e) e1
    exact ⟨sl', e2⟩
  · obtain ⟨o', e1⟩ := I.base.there b o e hx
    obtain ⟨sl', e2⟩ := P.slot b _ (nea b o e) e1
    exact ⟨_, e2⟩
  · obtain ⟨m, ⟨o, es, ep, ho, r⟩, hl⟩ := I.loc
    obtain ⟨sl, e2⟩ := P.slot _ _ (Ne.symm neL) ho
    refine ⟨m, ⟨_, es, ep, e2, r⟩, fun i x v e1 e2 e3 => ?_⟩
    obtain ⟨u, r, l⟩ := hl i x v e1 e2 e3
    refine ⟨u, r, ?_⟩
    rcases l with l | ⟨k, c, e, z⟩
    · exact .inl l
    · exact .inr ⟨k, c, e, cellK x c e _ z⟩
  · obtain ⟨v, z⟩ := I.cell x c e
    exact ⟨v, cellK x c e v z⟩
  · obtain ⟨e, n, ne, nf, dd⟩ := I.pin p hp
    exact ⟨P.keep p.1 p.2 (pn p hp) (stk p.1 ne nf) e, n, ne, nf, dd⟩
  · have tr : ∀ c v, H c = some v → ∀ u, s.heap.get? c = some u → h'.get? c = some u := fun c v hc u q => by
      refine P.keep c u (fun z => by rw [z, fr] at hc; cases hc) (fun z => ?_) q
      rw [I.stkFree c z] at hc; cases hc
    refine (I.hok b u e).stay (fun c v hc q => ?_) (fun _ q => q) fun _ _ q => q
    rcases hc with z | z
    · rw [z] at q ⊢; exact tr b u e v q
    · exact tr c _ z v q
structure FliesA (nb : Bool) (X : Cx) (pins : List (Addr × Obj)) (σ : St) (H : Hp) (a : Addr) (C : Value) (d : Option Addr) (T : Addr) (s : Shared) : Prop where
  inv : Inv X pins σ H s
  new : X.s₀.heap.get? a = none
  free : H a = none
  pin : ∀ p ∈ X.pn ++ pins, p.1 ≠ a
  obj : ∃ oe vs, s.heap.get? a = some oe ∧ oe.cls = C ∧ oe.dict = d ∧ oe.data = .fields vs ∧ vs[1]? = some (.ref T) ∧ (nb = true → vs[2]? = some .none)
  ent : ∃ oT ts, s.heap.get? T = some oT ∧ oT.data = .fields ts ∧ 3 < ts.size
  ne : T ≠ a
  old : X.s₀.heap.objs.size ≤ T
  fr : H T = none
  nl : T ≠ X.env.locals
  nc : ∀ x c, X.env.cells.lookup x = some c → c ≠ T
  np : ∀ p ∈ X.pn ++ pins, p.1 ≠ T
theorem flies_putA (I : Inv X pins σ H s) (new : X.s₀.heap.get? a = none) (free : H a = none) (pin : ∀ p ∈ X.pn ++ pins, p.1 ≠ a) {oe : Obj} {vs : Array Value} (he : s.heap.get? a = some oe) (hc : oe.cls = C) (hdd : oe.dict = d) (hd : oe.data = .fields vs) (hx : nb = true → vs[2]? = some .none)
    (P : PutA (frs X.stack) s.heap h' a T) : FliesA nb X pins σ H a C d T { s with heap := h' } := by
  obtain ⟨oe2, vs2, oe', oT, ts, he2, hd2, he', hc', hdd', hd', hsz, hT, hTe, hT', hTd, hT3⟩ := P.exc
  rw [he] at he2; cases he2
  rw [hd] at hd2; cases hd2
  refine ⟨I.putA P new free pin, new, free, pin, ⟨oe', _, he', hc'.trans hc, hdd'.trans hdd, hd', by simp [hsz], fun z => by simpa using hx z⟩, ⟨oT, ts, hT', hTd, hT3⟩, hTe, Nat.le_trans I.sz hT, I.hok.fresh hT, Nat.ne_of_gt (Nat.lt_of_lt_of_le I.lt hT), fun x c e => ?_, fun p hp => ?_⟩
  · obtain ⟨v, z⟩ := I.cell x c e
    exact Nat.ne_of_lt (Nat.lt_of_lt_of_le z.lt hT)
  · exact Nat.ne_of_lt (Nat.lt_of_lt_of_le (Heap.lt_size (I.pin p hp).1) hT)
theorem Flies.noteA {Q : Unit → Shared → Prop} {E : Value → Shared → Prop} {A : Around} {M : Model} (F : Flies nb X pins σ H a C d s) (hA : A.frames = some X.stack) (hs : X.stack = X.env :: X.outer) (hf : X.env.frame = some X.env.locals)
    (h : ∀ h' T, PutA (frs X.stack) s.heap h' a T → FliesA nb X pins σ H a C d T { s with heap := h' } → Q () { s with heap := h' }) : wpAny M A (noteFrame (.ref a) X.env) Q E s := by
  obtain ⟨oe, vs, he, hc, hdd, hd, hr, hx⟩ := F.obj
  have key : ∀ {head : Value} {hn : Bool}, 1 < vs.size → wpAny M A (do let b ← frameOf X.env; let pl ← entryPlaceOf X.env.locals hn; let b ← EntryCells.newEntry head b .none (rawInt X.env.locals) .none pl; setField (.ref a) 1 b) Q E s := fun hsz =>
    entry_putA (base := X.base) (hA.trans (congrArg some hs)) (hs ▸ F.inv.stack) hf he hd hsz fun h' T P => by
      have P' : PutA (frs X.stack) s.heap h' a T := by rw [hs]; exact P
      exact h h' T P' (flies_putA F.inv F.new F.free F.pin he hc hdd hd hx P')
  unfold noteFrame
  simp only [hf]
  rcases hr with h1 | ⟨T, oT, ts, h1, _, hT, hdT, h3⟩
  · refine wpAny_bind (wpAny_field he hd h1 ?_)
    rw [if_neg (by decide)]
    exact key (Array.getElem?_eq_some_iff.mp h1).1
  · refine wpAny_bind (wpAny_field he hd h1 ?_)
    rw [if_pos (show (Value.ref T != Value.none) = true from by simp)]
    refine wpAny_bind (wpAny_field hT hdT h3 ?_)
    rw [if_neg (show ¬ ((Value.none == rawInt X.env.locals) = true) from by simp [rawInt])]
    refine wpAny_bind (wpAny_setField hT hdT (Array.getElem?_eq_some_iff.mp h3).1 ?_)
    rw [Heap.update_setField_same _ _ _ _ _ _ hT hdT h3]
    exact key (Array.getElem?_eq_some_iff.mp h1).1
theorem FliesA.setT (F : FliesA nb X pins σ H a C d T s) (v : Value) : FliesA nb X pins σ H a C d T { s with heap := s.heap.update T (Obj.mapFields (·.setIfInBounds 3 v)) } ∧ (v = .none → Flies nb X pins σ H a C d { s with heap := s.heap.update T (Obj.mapFields (·.setIfInBounds 3 v)) }) := by
  obtain ⟨oT, ts, hT, hdT, h3⟩ := F.ent
  obtain ⟨oe, vs, he, hc, hdd, hd, h1, hx⟩ := F.obj
  have hd3 := Obj.data_mapFields hdT (·.setIfInBounds 3 v)
  have hT3 := Heap.get?_update_self (Obj.mapFields (·.setIfInBounds 3 v)) hT (Obj.isFreed_of_fields hd3)
  have oth : ∀ b o, b ≠ T → s.heap.get? b = some o → (s.heap.update T (Obj.mapFields (·.setIfInBounds 3 v))).get? b = some o := fun b o n e => (Heap.get?_update_other _ _ (Ne.symm n)).trans e
  have I := F.inv.turned (t' := s.toks) (h' := s.heap.update T (Obj.mapFields (·.setIfInBounds 3 v))) oth F.fr F.nl (.inr F.old) F.nc F.np
  have ea := oth a oe F.ne.symm he
  refine ⟨⟨I, F.new, F.free, F.pin, ⟨oe, vs, ea, hc, hdd, hd, h1, hx⟩, ⟨_, _, hT3, hd3, by simpa using h3⟩, F.ne, F.old, F.fr, F.nl, F.nc, F.np⟩, fun z => ⟨I, F.new, F.free, F.pin, oe, vs, ea, hc, hdd, hd, .inr ⟨T, _, _, h1, ⟨F.ne, Heap.get?_none_of_le F.old, F.fr⟩, hT3, hd3, ?_⟩, hx⟩⟩
  subst z
  simp [h3]
theorem FliesA.flight {Q : Unit → Shared → Prop} {E : Value → Shared → Prop} {A : Around} {M : Model} (F : FliesA nb X pins σ H a C d T s) (fr : Option Addr)
    (h : ∀ h', FliesA nb X pins σ H a C d T { s with heap := h' } → (fr = none → Flies nb X pins σ H a C d { s with heap := h' }) → Q () { s with heap := h' }) : wpAny M A (setFlight (.ref a) fr) Q E s := by
  obtain ⟨oT, ts, hT, hdT, h3⟩ := F.ent
  obtain ⟨oe, vs, he, hc, hdd, hd, h1, hx⟩ := F.obj
  unfold setFlight
  refine wpAny_bind (wpAny_field he hd h1 ?_)
  rw [if_pos (show (Value.ref T != Value.none) = true from by simp)]
  obtain ⟨g1, g2⟩ := F.setT (fr.elim Value.none fun f => rawInt f)
  exact wpAny_setField hT hdT h3 (h _ g1 fun z => g2 (by rw [z]; rfl))
theorem FliesA.note {Q : Unit → Shared → Prop} {E : Value → Shared → Prop} {A : Around} {M : Model} (F : FliesA nb X pins σ H a C d T s) (hA : A.frames = some X.stack) (hs : X.stack = X.env :: X.outer) (hf : X.env.frame = some X.env.locals)
    (h : ∀ h' T, FliesA nb X pins σ H a C d T { s with heap := h' } → Q () { s with heap := h' }) : wpAny M A (noteFrame (.ref a) X.env) Q E s := by
  obtain ⟨oT, ts, hT, hdT, h3⟩ := F.ent
  obtain ⟨oe, vs, he, hc, hdd, hd, h1, hx⟩ := F.obj
  unfold noteFrame
  simp only [hf]
  refine wpAny_bind (wpAny_field he hd h1 ?_)
  rw [if_pos (show (Value.ref T != Value.none) = true from by simp)]
  refine wpAny_bind (wpAny_field hT hdT (Array.getElem?_eq_getElem h3) ?_)
  split
  · exact wpAny_pure (h s.heap T F)
  · obtain ⟨F', _⟩ := F.setT .none
    refine wpAny_bind (wpAny_setField hT hdT h3 ?_)
    obtain ⟨oe', vs', he', hc', hdd', hd', h1', hx'⟩ := F'.obj
    refine entry_putA (base := X.base) (hA.trans (congrArg some hs)) (hs ▸ F'.inv.stack) hf he' hd' (Array.getElem?_eq_some_iff.mp h1').1 fun h' T' P => ?_
    have P' : PutA (frs X.stack) (s.heap.update T (Obj.mapFields (·.setIfInBounds 3 Value.none))) h' a T' := by rw [hs]; exact P
    exact h h' T' (flies_putA (s := { s with heap := s.heap.update T (Obj.mapFields (·.setIfInBounds 3 Value.none)) }) F'.inv F'.new F'.free F'.pin he' hc' hdd' hd' hx' P')
theorem FliesA.turned {it : Addr} (F : FliesA nb X pins σ H a C d T s) (hk : ∀ b o, b ≠ it → s.heap.get? b = some o → h'.get? b = some o) (h1 : H it = none) (h2 : it ≠ X.env.locals) (h3 : X.s₀.heap.objs.size ≤ it) (h4 : ∀ x c, X.env.cells.lookup x = some c → c ≠ it) (h5 : ∀ p ∈ X.pn ++ pins, p.1 ≠ it) (na : a ≠ it) (nT : T ≠ it) : FliesA nb X pins σ H a C d T { s with heap := h' } := by
  obtain ⟨oT, ts, hT, hdT, hz⟩ := F.ent
  obtain ⟨oe, vs, he, hc, hdd, hd, g1, hx⟩ := F.obj
  exact ⟨F.inv.turned (t' := s.toks) hk h1 h2 (.inr h3) h4 h5, F.new, F.free, F.pin, ⟨oe, vs, hk _ _ na he, hc, hdd, hd, g1, hx⟩, ⟨oT, ts, hk _ _ nT hT, hdT, hz⟩, F.ne, F.old, F.fr, F.nl, F.nc, F.np⟩
end
section
variable {nb : Bool} {P : Program} {w : World} {K : PySem.W.Frag} {mg : Str → Option Value} {base : Heap} {N : List Str} {qual : Str} {scope : Scope} {f : Addr} {cd : Value} {A : Around} {outer : List Env} {s0 : Shared} {H0 : Hp} {E : XK}
theorem FliesA.leave {pins : List (Addr × Obj)} {σ : St} {H : Hp} {s : Shared} {a : Addr} {C : Value} {d : Option Addr} {T : Addr} (F : FliesA nb (cxOf (CXN nb P w) P w K mg base N qual scope f cd A outer s0 H0 E) pins σ H a C d T s) (hE : E C d H) :
    (cxOf (CXN nb P w) P w K mg base N qual scope f cd A outer s0 H0 E).xe (.ref a) s := by
  show wpAny _ _ (leaving _ (.ref a)) _ _ s
  unfold leaving
  refine wpAny_bind (F.note F.inv.ok.frames rfl rfl fun h' T' F' => ?_)
  refine F'.flight none fun h'' _ F2 => ?_
  have F3 := F2 rfl
  exact ⟨a, C, d, H, rfl, F3.inv.os, F3.inv.bare, F3.inv.base, F3.inv.hok, F3.new, F3.free, F3.obj, hE⟩
end
def Cx.blkX (X : Cx) (nb : Bool) (E : XK) (N' : List Str) (sc : Scope) (b : Bk) : Cx := (X.blk N' sc b).wish fun e s' => ∃ pins σ H s, Inv (X.blk N' sc b) pins σ H s ∧ CXN nb X.prog X.w X.stack H s E e s'
theorem passes_blk {X : Cx} {nb : Bool} {E : XK} {N' : List Str} {sc : Scope} {b : Bk} : Passes (CXN nb X.prog X.w) (X.blkX nb E N' sc b) E := fun pins σ H s e s' I h => ⟨pins, σ, H, s, I.unwish, h⟩
section
variable {X : Cx} {pins : List (Addr × Obj)} {σ : St} {H : Hp} {s s' : Shared} {e : Value} {E : XK} {nb : Bool}
theorem Inv.outcx (I : Inv X pins σ H s) (h : CXN nb X.prog X.w X.stack H s E e s') : ∃ C d H', Inv X pins σ H' s' ∧ E C d H' := by
  obtain ⟨a, C, d, H', rfl, os, bare, un, hok, na, fa, obj, q⟩ := h
  obtain ⟨hh, g, dr, t, os'⟩ := s'
  obtain rfl : os' = s.os := os
  exact ⟨C, d, H', I.call (h' := hh) (g' := g) (d' := dr) (t' := t) (ch := []) un hok bare (fun b z => absurd z (by simp)), q⟩
end
section
variable {X : Cx}
theorem blk_runX {nb : Bool} {E0 : XK} {tg elt iter : Expr} {ifs : List Expr} {sc : Scope} {pos : Pos} {N' : List Str} {ix : List (Option Nat)} {g : Bk → TG} {tt : Bk → TT} {te : Bk → TE} {Q : VK} {pins : List (Addr × Obj)} {σ : St} {H : Hp} {s : Shared} {it : Addr} {fp : List Addr} {tn : Nat → Heap → Prop} {J : It} {cl : List (Str × Addr)}
    {RR : Value → Addr → Result → Shared → Prop} {E : Value → Shared → Prop}
    (hx0 : X.ex = []) (hstk : X.stack = X.env :: X.outer) (hfrm : X.env.frame = some X.env.locals) (hc : X.calm = true) (hkind : sc.kind = .function) (hcell : ∀ y ∈ sc.names, y.2 ≠ .cell) (hfree : ∀ p ∈ sc.names, p.2 = .free → X.env.kindOf p.1 = some .cell) (hfrom : fromB X.N sc.names N' ix = true)
    (hg : ∀ b : Bk, PG (X.blk N' sc b) tg (g b)) (ht : ∀ b : Bk, PTs (X.blk N' sc b) ifs (tt b)) (he : ∀ b : Bk, PE (X.blkX nb E0 N' sc b) elt (te b))
    (hcl : ∀ x c, cl.lookup x = some c → X.env.cells.lookup x = some c) (hcl2 : ∀ p ∈ sc.names, p.2 = .free → ∃ c, cl.lookup p.1 = some c)
    (I : Inv X pins σ H s) (T : Turn X.prog X.w X.K tg J fp it tn) (st : tn 0 s.heap) (f2 : ∀ b ∈ fp, FpOk X pins H b) (q : ∀ (b : Bk) D, H D = none → tLoop J (g b) (tt b) (te b) D Q (bst ix σ) (upd H D (.lst [])))
    (hRR : ∀ D C (s' : Shared) H', Inv X pins σ H' s' → Q (.ref D) H' → (∃ m, s'.heap.Ns C m) → H' C = none → C ≠ X.env.locals → X.s₀.heap.objs.size ≤ C → (∀ x c, X.env.cells.lookup x = some c → c ≠ C) → (∀ p ∈ X.pn ++ pins, p.1 ≠ C) → RR (.ref D) C (.ok .next) s')
    (hRX : ∀ D C (s' : Shared) H' a Cl d T, FliesA nb X pins σ H' a Cl d T s' → E0 Cl d H' → (∃ m, s'.heap.Ns C m) → H' C = none → C ≠ X.env.locals → X.s₀.heap.objs.size ≤ C → (∀ x c, X.env.cells.lookup x = some c → c ≠ C) → (∀ p ∈ X.pn ++ pins, p.1 ≠ C) → RR (.ref D) C (.error (.ref a)) s') :
    wpAny (model X.prog X.w) X.A (newList []) (fun acc s3 => wpAny (model X.prog X.w) X.A (newFunctionEnv sc X.env.globals cl [] X.env.qual none .none (some X.env)) (fun cenv s4 =>
      codeAny (model X.prog X.w) X.A (.compStart (.ListComp elt [⟨tg, iter, ifs, 0⟩] sc pos) 0 (.ref it) acc { cenv with scope := relabel sc X.env }) (RR acc cenv.locals) s4) E s3) E s := by
  refine wpAny_newObj_type (wpAny_newFunctionEnv hcell (by intro y hy; simp at hy) (fun h1 hns hsb => ?_) hkind)
  dsimp only at hns hsb ⊢
  have I3 : Inv X pins σ (upd H s.heap.objs.size (.lst [])) { s with heap := s.heap.push { cls := .type "list", dict := none, data := .seq ([] : List Value).toArray } } :=
    I.lnew (t' := s.toks) (ys := []) (its := []) .nil (by show 0 ≤ sizeLine; decide)
  have hD : H s.heap.objs.size = none := I.fresh
  generalize hDn : s.heap.objs.size = D at hns hsb I3 hD ⊢
  generalize hh : s.heap.push { cls := .type "list", dict := none, data := .seq ([] : List Value).toArray } = hp at hns hsb I3 ⊢
  generalize hH3 : upd H D (.lst []) = H3 at I3 ⊢
  generalize hCn : hp.objs.size = C at hns hsb ⊢
  have hDC : D < C := by rw [← hCn, ← hh, Heap.size_push, hDn]; exact Nat.lt_succ_self _
  have old : ∀ b o, hp.get? b = some o → h1.get? b = some o := fun b o e => hsb.extBut b o (by rw [← hCn]; exact Nat.ne_of_lt (Heap.lt_size e)) (Heap.get?_push_of_some _ e)
  have old0 : ∀ b o, s.heap.get? b = some o → hp.get? b = some o := fun b o e => by rw [← hh]; exact Heap.get?_push_of_some _ e
  have fpLt : ∀ b ∈ fp, b < D := fun b hb => by
    obtain ⟨o, e, _⟩ := T.obj _ _ st b hb
    rw [← hDn]; exact Heap.lt_size e
  have I3s : Inv X pins σ H3 { s with heap := hp } := I3
  let B : Bk := ⟨cl, C, { s with heap := hp }, H3, fp, X.pn ++ pins⟩
  have cellX : ∀ x c, cl.lookup x = some c → c ≠ C ∧ ∀ b ∈ fp, c ≠ b := fun x c e => by
    obtain ⟨v, z⟩ := I3s.cell x c (hcl x c e)
    exact ⟨by rw [← hCn]; exact Nat.ne_of_lt z.lt, fun b hb => (f2 b hb).2.2.2.2.1 x c (hcl x c e)⟩
  have okY : (X.blk N' sc B).Ok := by
    refine ⟨I.ok.mod, hkind, I.ok.glob, I.ok.blt, ?_, fun x y c a b => I.ok.inj x y c (hcl x c a) (hcl y c b), fun x hx => ?_, (fun x c (a : false = true) => (nomatch a)), I.ok.hd, I.ok.frames, .inl rfl, fun b hb => ?_, fun b o e => ?_, ?_, fun b o e hb => ?_, fun b hb z => ?_, I3s.stack, I3s.stkFree⟩
    · show hp.objs.size ≤ C
      rw [hCn]; exact Nat.le_refl _
    · have hx' : (relabel sc X.env).names.lookup x = some .cell ∨ (relabel sc X.env).names.lookup x = some .free := hx
      rcases hx' with z | z
      · exact hcl2 _ (relabel_in hcell z (.inl rfl)) rfl
      · exact hcl2 _ (relabel_in hcell z (.inr rfl)) rfl
    · exact ⟨Nat.ne_of_lt (Nat.lt_trans (fpLt b hb) hDC), fun x c e => (cellX x c e).2 b hb⟩
    · obtain ⟨z1, z2⟩ := I3s.bs b o e
      exact ⟨z1, z2⟩
    · exact Nat.le_trans I.ok.bsz I3s.sz
    · rcases (f2 b hb).2.2.2.1 with z | z
      · exact I.ok.noex b o e z
      · exact absurd (Nat.lt_of_lt_of_le (Heap.lt_size (h := X.base) e) (Nat.le_trans I.ok.bsz z)) (Nat.lt_irrefl _)
    · rcases List.mem_cons.mp (I.stkSub b z) with w | w
      · exact (f2 b hb).2.1 w
      · exact (f2 b hb).2.2.1 w
  have frC : ∀ b ∈ frs X.stack, b ≠ C := fun b hb => by
    obtain ⟨_, o, ho, _⟩ := I3s.stack.mem hb
    rw [← hCn]; exact Nat.ne_of_lt (Heap.lt_size (h := hp) ho)
  obtain ⟨hlen, hix⟩ := fromB_ok hfrom
  have IY : Inv (X.blk N' sc B) [] (bst ix σ) H3 { s with heap := h1, toks := s.toks + ([] : List (Str × Value)).length } := by
    refine ⟨okY, rfl, I.bare, Un.kept old, ⟨_, hns, fun i x v e1 e2 e3 => ?_⟩, fun x c e => ?_, I3s.hok.fresh (by show hp.objs.size ≤ C; rw [hCn]; exact Nat.le_refl _), fun x c e => I3s.freeC x c (hcl x c e), fun p hp' => ?_, I3s.hok.kept old, by show (bst ix σ).length = N'.length; rw [← hlen]; simp [bst]⟩
    · have e1' : N'[i]? = some x := e1
      unfold bst at e2
      rw [List.getElem?_map] at e2
      cases hi : ix[i]? with
      | none => rw [hi] at e2; cases e2
      | some o =>
        rw [hi] at e2
        cases o with
        | none => cases e2
        | some j =>
          obtain ⟨hj, hfr⟩ := hix i j x e1' hi
          have e2' : (σ[j]?).getD none = some v := Option.some.inj e2
          have e4 : σ[j]? = some (some v) := by
            cases z : σ[j]? with
            | none => rw [z] at e2'; cases e2'
            | some w => rw [z] at e2'; exact congrArg some e2'
          have hkX := hfree _ (lookup_mem hfr) rfl
          obtain ⟨m, hn, hl⟩ := I3s.loc
          obtain ⟨u, r, l⟩ := hl j x v hj e4 (.inr (.inl hkX))
          refine ⟨u, r, .inr ⟨?_, ?_⟩⟩
          · have e3' : (relabel sc X.env).names.lookup x = some .local ∨ (relabel sc X.env).names.lookup x = some .cell ∨ (relabel sc X.env).names.lookup x = some .free := e3
            rcases e3' with z | z
            · exact absurd z (relabel_notlocal hfr)
            · exact z
          · obtain ⟨c, hc'⟩ := hcl2 _ (lookup_mem hfr) rfl
            refine ⟨c, hc', ?_⟩
            rcases l with ⟨z, _⟩ | ⟨_, d, hd, hcell'⟩
            · rw [hkX] at z; cases z
            · rw [hcl x c hc'] at hd
              cases hd
              obtain ⟨o, ho, hod⟩ := hcell'
              exact ⟨o, old _ o ho, hod⟩
    · obtain ⟨v, o, ho, hod⟩ := I3s.cell x c (hcl x c e)
      exact ⟨v, o, old _ o ho, hod⟩
    · have hp'' : p ∈ X.pn ++ pins := by simpa [Cx.blk, B] using hp'
      obtain ⟨z1, z2, z3, z4, z5⟩ := I3s.pin p hp''
      refine ⟨old _ _ z1, z2, by show p.1 ≠ C; rw [← hCn]; exact Nat.ne_of_lt (Heap.lt_size (h := hp) z1), fun z => ?_, z5⟩
      rcases List.mem_cons.mp (I.stkSub p.1 z) with w | w
      · exact z3 w
      · exact z4 w
  have st1 : tn 0 h1 := T.keep _ _ _ st fun b _ o e => old b o (old0 b o e)
  have fpY : ∀ {H' : Hp}, (∀ b ∈ fp, H' b = none) → ∀ b ∈ fp, FpOk (X.blk N' sc B) [] H' b := fun hn b hb => by
    refine ⟨hn b hb, Nat.ne_of_lt (Nat.lt_trans (fpLt b hb) hDC), okY.exfs b hb, .inl hb, fun x c e => (cellX x c e).2 b hb, fun p hp' => ?_⟩
    have hp'' : p ∈ X.pn ++ pins := by simpa [Cx.blk, B] using hp'
    exact (f2 b hb).2.2.2.2.2 p hp''
  have qD := q B D hD
  rw [hH3] at qD
  obtain ⟨W, ⟨m0, w0⟩, turn⟩ := qD
  have fin : ∀ {i : Nat} {σ' : St} {H' : Hp} {s' : Shared}, Inv (X.blk N' sc B) [] σ' H' s' → Q (.ref D) H' → RR (.ref D) C (.ok .next) s' := fun {i σ' H' s'} I' q' => by
    have IX : Inv X pins σ H' s' := I3s.call' (ch := fp) I'.os I'.base I'.hok I'.bare fun b hb => by
      obtain ⟨_, a2, _, a4, a5, a6⟩ := f2 b hb
      exact ⟨a4, a2, a5, a6⟩
    have hCs : X.s₀.heap.objs.size ≤ C := Nat.le_trans I3s.sz (by show hp.objs.size ≤ C; rw [hCn]; exact Nat.le_refl _)
    refine hRR D C s' H' IX q' (let ⟨m, hn, _⟩ := I'.loc; ⟨m, hn⟩) I'.free ?_ hCs (fun x c e => ?_) fun p hp' => ?_
    · rw [← hCn]; exact Nat.ne_of_gt I3s.lt
    · obtain ⟨v, z⟩ := I3s.cell x c e
      rw [← hCn]; exact Nat.ne_of_lt z.lt
    · rw [← hCn]; exact Nat.ne_of_lt (Heap.lt_size (h := hp) (I3s.pin p hp').1)
  have outX : ∀ {e : Value} {sE : Shared}, (X.blkX nb E0 N' sc B).xe e sE → notedBy (model X.prog X.w) (X.A.under (.compLoop (.ListComp elt [⟨tg, iter, ifs, 0⟩] sc pos) 0 (.ref it) (.ref D) (compEnvC sc cl C X.env))) (compEnvC sc cl C X.env) (fun x s' => RR (.ref D) C (.error x) s') e sE := fun {e sE} hE => by
    obtain ⟨pins', σ', H', s', I', hcx⟩ := hE
    have IX : Inv X pins σ H' s' := I3s.call' (ch := fp) I'.os I'.base I'.hok I'.bare fun b hb => by
      obtain ⟨_, a2, _, a4, a5, a6⟩ := f2 b hb
      exact ⟨a4, a2, a5, a6⟩
    obtain ⟨a0, C0, d0, H'', e0, rest⟩ := hcx
    have hcx : CXN nb X.prog X.w X.stack H' s' (fun C1 d1 H1 => H1 = H'' ∧ E0 C1 d1 H1) e sE := by
      obtain ⟨r1, r2, r3, r4, r5, r6, r7, r8⟩ := rest
      exact ⟨a0, C0, d0, H'', e0, r1, r2, r3, r4, r5, r6, r7, rfl, r8⟩
    clear rest e0
    obtain ⟨_, _, H2', IB', e2, _⟩ := Inv.outcx (X := X.blk N' sc B) I' hcx
    subst e2
    obtain ⟨a, Cl, d, H3', rfl, F, e3, q⟩ := IX.flies hx0 hcx
    subst e3
    have hCs : X.s₀.heap.objs.size ≤ C := Nat.le_trans I3s.sz (by show hp.objs.size ≤ C; rw [hCn]; exact Nat.le_refl _)
    obtain ⟨m, hn, _⟩ := IB'.loc
    have hCd : ∀ o, sE.heap.get? C = some o → ∃ es ep, o.data = .dict es ep := fun o e => by
      obtain ⟨o2, es, ep, e2, hd2, _⟩ := hn
      have e2' : sE.heap.get? C = some o2 := e2
      rw [e] at e2'; cases e2'; exact ⟨es, ep, hd2⟩
    have hCa : C ≠ a := fun z => by
      obtain ⟨oe, vs, he, _, _, hd⟩ := F.at
      obtain ⟨es, ep, z2⟩ := hCd oe (by rw [z]; exact he)
      rw [hd] at z2; cases z2
    refine F.noteA (A := X.A.under _) (by first | exact I.ok.frames | (simpa [Around.under, Code.envs, Code.isFrame, pushEnvs] using I.ok.frames)) hstk hfrm fun h' T P FA => ?_
    refine hRX D C { sE with heap := h' } _ a Cl d T FA q ?_ ?_ ?_ hCs (fun x c e => ?_) fun p hp' => ?_
    · obtain ⟨o, es, ep, e, r⟩ := hn
      exact ⟨m, o, es, ep, P.keep C o hCa (fun z => frC C z rfl) e, r⟩
    · exact IB'.free
    · rw [← hCn]; exact Nat.ne_of_gt I3s.lt
    · obtain ⟨v, z⟩ := I3s.cell x c e
      rw [← hCn]; exact Nat.ne_of_lt z.lt
    · rw [← hCn]; exact Nat.ne_of_lt (Heap.lt_size (h := hp) (I3s.pin p hp').1)
  have loop : codeAny (model X.prog X.w) X.A (.compLoop (.ListComp elt [⟨tg, iter, ifs, 0⟩] sc pos) 0 (.ref it) (.ref D) (compEnvC sc cl C X.env)) (RR (.ref D) C) { s with heap := h1, toks := s.toks + ([] : List (Str × Value)).length } := by
    refine codeAny_loop rfl (fun n s' => ∃ i σ' H', Inv (X.blk N' sc B) [] σ' H' s' ∧ tn i s'.heap ∧ (∀ b ∈ fp, H' b = none) ∧ W i n σ' H') (fun n s5 hI => ?_) m0 ⟨0, _, _, IY, st1, fun b hb => ?_, w0⟩
    · obtain ⟨i, σ5, H5, I5, st5, fr5, w5⟩ := hI
      show wpAny _ _ ((compTurn (.ListComp elt [⟨tg, iter, ifs, 0⟩] sc pos) 0 (.ref it) (.ref D) (compEnvC sc cl C X.env)).onRaise (fun x => do noteFrame x (compEnvC sc cl C X.env); theTreesLotGoes x)) _ _ s5
      refine wpAny_noted ?_
      rw [compTurn_list]
      refine wpAny_bind (wpAny_standAt ?_)
      rcases turn i n σ5 H5 w5 with ⟨stop, qn⟩ | ⟨go, N1, N2, hN1, hN2, step⟩
      · refine wpAny_bind (wpAny_mono (T.done (X.blk N' sc B) rfl rfl rfl hc i [] s5 σ5 H5 (fun _ _ => False) I5 (fpY fr5) st5 stop) (fun r s6 h6 => ?_) fun _ _ f => f.elim)
        obtain ⟨hr, I6⟩ := h6
        subst hr
        exact wpAny_pure (fin (i := i) I6 qn)
      · refine wpAny_bind (wpAny_mono (T.item (X.blk N' sc B) rfl rfl rfl hc i [] s5 σ5 H5 (fun _ _ => False) I5 (fpY fr5) st5 go) (fun r s6 h6 => ?_) fun _ _ f => f.elim)
        obtain ⟨u, hr, h6⟩ := h6
        subst hr
        refine wpAny_bind (wpAny_mono h6 (fun _ s7 h7 => ?_) fun _ _ f => f.elim)
        obtain ⟨x, H7, I7, r7, y7, st7, fr7⟩ := h7
        have I7' := I7.pinned (fpY fr7) (T.obj _ _ st7)
        refine wpAny_bind (wpAny_mono (hg B _ s7 σ5 H7 x u _ I7' r7 (step x H7 y7)) (fun _ s8 h8 => ?_) fun _ _ f => f.elim)
        obtain ⟨σ8, H8, I8, q8⟩ := h8
        refine wpAny_bind (wpAny_mono (ht B _ s8 σ8 H8 _ I8 q8) (fun ok s9 h9 => ?_) fun _ _ f => f.elim)
        obtain ⟨H9, I9, q9⟩ := h9
        have again : ∀ {s' : Shared} {H' : Hp}, Inv (X.blk N' sc B) ([] ++ pinsAt fp s7.heap) σ8 H' s' → (∃ m', m' < n ∧ W (i + 1) m' σ8 H') →
            ∃ m, m < n ∧ ∃ i σ' H', Inv (X.blk N' sc B) [] σ' H' s' ∧ tn i s'.heap ∧ (∀ b ∈ fp, H' b = none) ∧ W i m σ' H' := fun {s' H'} I' w' => by
          obtain ⟨m', hm, w'⟩ := w'
          have pn : ∀ b ∈ fp, ∀ o, s7.heap.get? b = some o → s'.heap.get? b = some o ∧ H' b = none := fun b hb o e => by
            have z := I'.pin (b, o) (List.mem_append_right _ (List.mem_append_right _ (mem_pinsAt hb e)))
            exact ⟨z.1, z.2.1⟩
          refine ⟨m', hm, i + 1, σ8, H', I'.unpinned, T.keep _ _ _ st7 fun b hb o e => (pn b hb o e).1, fun b hb => ?_, w'⟩
          obtain ⟨o, e, _⟩ := T.obj _ _ st7 b hb
          exact (pn b hb o e).2
        cases ok with
        | false =>
          have q9' : N2 σ8 H9 := by simpa using q9
          exact wpAny_pure ⟨rfl, again I9 (hN2 _ _ q9')⟩
        | true =>
          have q9' : te B σ8 H9 fun y H4 => N1 y σ8 H4 := by simpa using q9
          refine wpAny_bind (wpAny_bind (wpAny_mono (he B _ s9 σ8 H9 _ (I9.wish _) q9') (fun y sA hA => ?_) fun e sE hE => ?_))
          rotate_left
          · exact outX hE
          obtain ⟨yv, HA, IA0, rA, nA⟩ := hA
          have IA := IA0.unwish
          obtain ⟨ys, eA, zA, w'⟩ := hN1 _ _ _ nA
          refine wpAny_bind (wpAny_mono (mt_append (X := X.blk N' sc B) _ sA σ8 HA (.ref D) [yv] (.ref D) [y] (fun _ H' => H' = upd HA D (.lst (ys ++ [yv]))) IA rfl (.cons rA .nil) ⟨D, ys, yv, rfl, rfl, eA, zA, rfl⟩) (fun _ sB hB => ?_) fun _ _ f => f.elim)
          obtain ⟨_, HB, IB, _, eB⟩ := hB
          subst eB
          exact wpAny_pure (wpAny_pure ⟨rfl, again IB w'⟩)
    · rw [← hH3, upd_ne (Nat.ne_of_lt (fpLt b hb))]
      exact (f2 b hb).1
  exact codeAny_compStart_list loop (T.self _ 0 _ _ _ st1 loop)
end
section
variable {nb : Bool} {P : Program} {w : World} {K : PySem.W.Frag} {mg : Str → Option Value} {base : Heap} {N : List Str} {qual : Str} {scope : Scope} {f : Addr} {cd : Value} {A : Around} {outer : List Env} {s0 : Shared} {H0 : Hp} {E : XK}
theorem pe_compX {tg elt iter : Expr} {ifs : List Expr} {sc : Scope} {pos : Pos} {wi : TI} {g : Bk → TG} {tt : Bk → TT} {te : Bk → TE} (N' : List Str) (ix : List (Option Nat)) (hc : (cxOf (CXN nb P w) P w K mg base N qual scope f cd A outer s0 H0 E).calm = true)
    (hi : PI (cxOf (CXN nb P w) P w K mg base N qual scope f cd A outer s0 H0 E) tg iter wi) (hg : ∀ b : Bk, PG ((cxOf (CXN nb P w) P w K mg base N qual scope f cd A outer s0 H0 E).blk N' sc b) tg (g b)) (ht : ∀ b : Bk, PTs ((cxOf (CXN nb P w) P w K mg base N qual scope f cd A outer s0 H0 E).blk N' sc b) ifs (tt b)) (he : ∀ b : Bk, PE ((cxOf (CXN nb P w) P w K mg base N qual scope f cd A outer s0 H0 E).blkX nb E N' sc b) elt (te b))
    (hfree : ∀ p ∈ sc.names, p.2 = .free → scope.names.lookup p.1 = some .cell) (hfrom : fromB N sc.names N' ix = true)
    (hcell : ∀ y ∈ sc.names, y.2 ≠ .cell) (hnames : ∀ y ∈ sc.names, y.2 = .local → sc.names.lookup y.1 = some .local) (hkind : sc.kind = .function := by rfl)
    (hs : ∀ x, foldedSetIterable iter (cxOf (CXN nb P w) P w K mg base N qual scope f cd A outer s0 H0 E).env x = pure x := by intro _; rfl) : PE (cxOf (CXN nb P w) P w K mg base N qual scope f cd A outer s0 H0 E) (.ListComp elt [⟨tg, iter, ifs, 0⟩] sc pos) (tComp wi ix g tt te) := by
  intro pins s σ H Q I h
  generalize hX : cxOf (CXN nb P w) P w K mg base N qual scope f cd A outer s0 H0 E = X at *
  have hout : ∀ {H s a C d T}, FliesA nb X pins σ H a C d T s → E C d H → X.xe (.ref a) s := by
    subst hX
    intro H s a C d T F q
    exact F.leave q
  have hx0 : X.ex = [] := by subst hX; rfl
  have hstk : X.stack = X.env :: X.outer := by subst hX; rfl
  have hfrm : X.env.frame = some X.env.locals := by subst hX; rfl
  have hN : X.N = N := by subst hX; rfl
  have hfree' : ∀ p ∈ sc.names, p.2 = .free → X.env.kindOf p.1 = some .cell := fun p hp hf => by
    subst hX
    exact hfree p hp hf
  obtain ⟨cl, hclos, hcl, hcl2⟩ := closure_of (sc := sc) (env := X.env) fun p hp hf => I.ok.has p.1 (.inl (hfree' p hp hf))
  rw [eval_ListComp]
  refine wpAny_comprehension_free (use := none) rfl hs hclos hkind hnames (thn (hi pins s σ H _ I h) fun v s1 h1 => thn h1 fun itv s2 h2 => ?_)
  obtain ⟨it, fp, tn, J, H2, e, I2, T, st2, f2, q⟩ := h2
  subst e
  refine blk_runX (nb := nb) (E0 := E) (RR := fun acc C => compPost (model X.prog X.w) X.A X.xe none (EP X pins σ Q) acc C) hx0 hstk hfrm hc hkind hcell hfree' (by rw [hN]; exact hfrom) hg ht he hcl hcl2 I2 T st2 f2 q ?_ ?_
  · intro D C s' H' I' q' hns hC hL hsz hcel hpin
    obtain ⟨m, hn⟩ := hns
    refine ⟨m, hn, fun h' hsb => ?_⟩
    exact ⟨.ref D, H', I'.turned (t' := s'.toks) (fun b o hb e => hsb.extBut b o hb e) hC hL (.inr hsz) hcel hpin, rfl, q'⟩
  · intro D C s' H' a Cl d T FA qE hns hC hL hsz hcel hpin
    obtain ⟨m, hn⟩ := hns
    have nf : ∀ b ob fs, s'.heap.get? b = some ob → ob.data = .fields fs → b ≠ C := fun b ob fs e1 e2 z => by
      obtain ⟨o, es, ep, e, hd, _⟩ := hn
      rw [z, e] at e1; cases e1; rw [hd] at e2; cases e2
    obtain ⟨oe, vs, he1, _, _, hd1, _⟩ := FA.obj
    obtain ⟨oT, ts, hT1, hdT, _⟩ := FA.ent
    refine ⟨m, hn, fun h' hsb cenv _ => ?_⟩
    have F' := FA.turned (it := C) (h' := h') (fun b o hb e => hsb.extBut b o hb e) hC hL hsz hcel hpin (nf _ _ _ he1 hd1) (nf _ _ _ hT1 hdT)
    obtain ⟨oe', vs', he', _, _, hd', h1', _⟩ := F'.obj
    unfold PySem.passOn
    refine wpAny_bind (wpAny_field he' hd' h1' ?_)
    rw [if_neg (show ¬ ((Value.ref T == Value.none) = true) from by simp)]
    refine wpAny_bind (F'.flight cenv.frame fun h'' F2 _ => ?_)
    exact wpAny_throw (hout F2 qE)
end
end L2
set_option maxHeartbeats 4000000
namespace Toy
open PySem L2
seal PySem.wpAny
def top (i : Nat) : Stmt := PySem.Challenge.pw_chartfold_k19_texts_refused.main.body.getD i (.Pass ⟨0, 0, 0, 0⟩)
abbrev sInit : Stmt := inClass (top 20) 0
abbrev sCheckRooms : Stmt := top 21
abbrev sCheckHolder : Stmt := top 22
abbrev sCheckKind : Stmt := top 23
abbrev sCheckArrows : Stmt := top 24
abbrev sCheckArrow : Stmt := top 25
abbrev sPart : Stmt := top 26
abbrev sChildren : Stmt := top 27
abbrev sWithin : Stmt := top 28
abbrev sLies : Stmt := top 29
abbrev sScope : Stmt := top 30
abbrev sShown : Stmt := top 36
abbrev sRoomLine : Stmt := top 37
abbrev sArrowLine : Stmt := top 38
abbrev sNumWord : Stmt := top 39
abbrev sRead : Stmt := top 40
abbrev sReadNum : Stmt := top 41
abbrev sCell : Stmt := top 43
abbrev sMark : Stmt := top 45
abbrev sLText : Stmt := top 46
abbrev sLine : Stmt := top 47
abbrev sSpoil : Stmt := top 48
abbrev sReadBy : Stmt := top 49
abbrev sBaseT : Stmt := top 50
abbrev sLaw : Stmt := top 51
theorem same_new {H : Hp} {p : Addr} (h : H p = none) (o : HO) : Same H (upd H p o) := fun b u q => by rw [upd_ne (ne_of_none q h)]; exact q
theorem sameUpd {H H1 : Hp} {p : Addr} (h : Same H H1) (hp : H p = none) (o : HO) : Same H (upd H1 p o) := fun b u q => by rw [upd_ne (ne_of_none q hp)]; exact h b u q
def Items (H : Hp) (ps : List Addr) (os : List (List V)) : Prop := ps.length = os.length ∧ ∀ (i : Nat) p o, ps[i]? = some p → os[i]? = some o → H p = some (.tup o)
theorem Items.same {H H' : Hp} {ps : List Addr} {os : List (List V)} (s : Same H H') (h : Items H ps os) : Items H' ps os := ⟨h.1, fun i p o a b => s _ _ (h.2 i p o a b)⟩
theorem Items.at {H : Hp} {ps : List Addr} {os : List (List V)} (h : Items H ps os) {i : Nat} {o : List V} (e : os[i]? = some o) : ∃ p, (ps.map V.ref)[i]? = some (.ref p) ∧ H p = some (.tup o) := by
  obtain ⟨hi, _⟩ := List.getElem?_eq_some_iff.mp e
  have hi' : i < ps.length := by rw [h.1]; exact hi
  refine ⟨ps[i], by rw [List.getElem?_map, List.getElem?_eq_getElem hi']; rfl, h.2 i _ o (List.getElem?_eq_getElem hi') e⟩
theorem Items.snoc {H : Hp} {ps : List Addr} {os : List (List V)} {p : Addr} {o : List V} (h : Items H ps os) (hp : H p = some (.tup o)) : Items H (ps ++ [p]) (os ++ [o]) := by
  refine ⟨by simp [h.1], fun i q u a b => ?_⟩
  by_cases hi : i < ps.length
  · rw [List.getElem?_append_left hi] at a
    rw [List.getElem?_append_left (by rw [← h.1]; exact hi)] at b
    exact h.2 i q u a b
  · have hl := h.1
    rw [List.getElem?_append_right (by omega)] at a
    rw [List.getElem?_append_right (by omega)] at b
    have e1 : i - ps.length = 0 := by
      cases z : i - ps.length with
      | zero => rfl
      | succ n => rw [z] at a; simp at a
    have e2 : i - os.length = 0 := by omega
    rw [e1] at a
    rw [e2] at b
    simp at a b
    subst a b
    exact hp
abbrev Room1 := Int × Str
abbrev Arrow := Int × Int × Int × Int × Int
def rV (r : Room1) : List V := [.int r.1, .str r.2]
def aV (a : Arrow) : List V := [.int a.1, .int a.2.1, .int a.2.2.1, .int a.2.2.2.1, .int a.2.2.2.2]
def hsOf (R : List Room1) : List Int := R.map (·.1)
theorem hsOf_len (R : List Room1) : (hsOf R).length = R.length := by simp [hsOf]
theorem hsOf_get {R : List Room1} {i : Nat} {r : Room1} (h : R[i]? = some r) : Rm.hold (hsOf R) i = r.1 := by
  unfold Rm.hold hsOf
  rw [List.getD_eq_getElem?_getD, List.getElem?_map, h]; rfl
theorem kr : ¬ (("rooms" : Str) = "arrows") := by decide +kernel
def flds (l m : Addr) : List (Str × V) := putF "arrows" (.ref m) (putF "rooms" (.ref l) [])
theorem flds_rooms (l m : Addr) : (flds l m).lookup ("rooms" : Str) = some (.ref l) := by
  unfold flds
  rw [lookup_putF, if_neg kr, lookup_putF, if_pos rfl]
theorem flds_arrows (l m : Addr) : (flds l m).lookup ("arrows" : Str) = some (.ref m) := by
  unfold flds
  rw [lookup_putF, if_pos rfl]
structure ChartAt (C : Addr) (H : Hp) (c : Addr) (R : List Room1) (A : List Arrow) : Prop where
  ob : ∃ dx l m ps qs, H c = some (.ins C dx (flds l m)) ∧ H l = some (.lst (ps.map V.ref)) ∧ Items H ps (R.map rV) ∧ H m = some (.lst (qs.map V.ref)) ∧ Items H qs (A.map aV)
  rl : R.length ≤ 100
  al : A.length ≤ 100
theorem ChartAt.same {C : Addr} {H H' : Hp} {c : Addr} {R : List Room1} {A : List Arrow} (s : Same H H') (h : ChartAt C H c R A) : ChartAt C H' c R A := by
  obtain ⟨dx, l, m, ps, qs, h1, h2, h3, h4, h5⟩ := h.ob
  exact ⟨⟨dx, l, m, ps, qs, s _ _ h1, s _ _ h2, h3.same s, s _ _ h4, h5.same s⟩, h.rl, h.al⟩
structure Good (R : List Room1) : Prop where
  tree : Rm.Tree (hsOf R)
  most : R.length ≤ 16
  kind : ∀ (i : Nat) r, R[i]? = some r → (r.2 = "plain" ∨ r.2 = "one" ∨ r.2 = "all" ∨ r.2 = "keep") ∧ (r.2 = "plain" ↔ Rm.kids (hsOf R) i = [])
structure DefAt (K : PySem.W.Frag) (mg : Str → Option Value) (x : Str) (st : Stmt) (ps : List Str) (f : Addr) (fd : FuncData) : Prop where
  fn : Fun K x x st f fd
  bd : Binds K fd ps []
  mg : mg x = some (.ref f)
structure Txt (K : PySem.W.Frag) (mg : Str → Option Value) (C : Addr) : Prop where
  cl : Cls K C
  nR : NoAttr K C "rooms"
  nA : NoAttr K C "arrows"
  mgC : mg "Chart" = some (.ref C)
  len : mg "len" = none
  range : mg "range" = none
  list : mg "list" = none
  inst : mg "isinstance" = none
  tbool : mg "bool" = none
  tint : mg "int" = none
  tup : mg "tuple" = none
  srt : mg "sorted" = none
  enum : mg "enumerate" = none
  hold : ∃ t, mg "HOLDER" = some (.int 0 t)
  kind : ∃ t, mg "KIND" = some (.int 1 t)
  nil : ∃ t, mg "NONE" = some (.int (-1) t)
  src : ∃ t, mg "SOURCE" = some (.int 0 t)
  evt : ∃ t, mg "EVENT" = some (.int 1 t)
  grd : ∃ t, mg "GUARD" = some (.int 2 t)
  tgt : ∃ t, mg "TARGET" = some (.int 3 t)
  ded : ∃ t, mg "DEED" = some (.int 4 t)
  lastE : ∃ t, mg "LAST_EVENT" = some (.int 3 t)
  lastD : ∃ t, mg "LAST_DEED" = some (.int 99 t)
  mostR : ∃ t, mg "MOST_ROOMS" = some (.int 16 t)
  mostA : ∃ t, mg "MOST_ARROWS" = some (.int 20 t)
  choosing : ∃ a, mg "CHOOSING" = some (.ref a) ∧ ∀ H, SqT K H a [.str "one", .str "keep"]
  kinds : ∃ a, mg "KINDS" = some (.ref a) ∧ ∀ H, SqT K H a [.str "plain", .str "one", .str "all", .str "keep"]
  ll : PySem.W.kitOne K (.type "list") (.type "list") = some true
  bb : PySem.W.kitOne K (.type "bool") (.type "bool") = some true
  ii : PySem.W.kitOne K (.type "int") (.type "int") = some true
  ib : PySem.W.kitOne K (.type "int") (.type "bool") = some false
  pp : PySem.W.kitOne K (.type "tuple") (.type "tuple") = some true
theorem pe_gint {X : Cx} {x : Str} {i : Int} {pos : Pos} (h : ∃ t, X.mg x = some (.int i t)) (hg : Gl X x) (hd : (x == ("__debug__" : Str)) = false := by decide) : PE X (.Name x pos) (tC (.int i)) := by
  obtain ⟨t, h⟩ := h
  exact pe_glob hg h ⟨t, rfl⟩ hd
section
variable {P : Program} {w : World} {K : PySem.W.Frag} {mg : Str → Option Value} {base : Heap}
def spChildren (C : Addr) : Sp := fun vs H Q _ => ∃ (c : Addr) (R : List Room1) (A : List Arrow) (k : Int), vs = [.ref c, .int k] ∧ ChartAt C H c R A ∧
  ∀ (l : Addr) (H' : Hp), H l = Option.none → Same H H' → H' l = some (.lst ((Rm.kids (hsOf R) k).map V.int)) → Q (.ref l) H'
theorem scChildren : FnScope ["chart", "room"] ["chart", "room"] (defScope sChildren) := ⟨rfl, rfl, rfl, by decide +kernel, rfl, by decide +kernel, by decide +kernel⟩
theorem ok_children {f C : Addr} {fd : FuncData} (D : DefAt K mg "children" sChildren ["chart", "room"] f fd) (T : Txt K mg C) : FnOk P w K mg base CX0 1 f fd ["chart", "room"] (spChildren C) := by
  refine D.fn.ok scChildren (fun vs H Q E h => ?_) (fun cdv A outer s H vs Q E hr h => ?_)
  · obtain ⟨c, R, As, k, rfl, _⟩ := h
    rfl
  obtain ⟨c, R, As, k, rfl, hC, q⟩ := h
  refine ⟨_, pss_one (ps_ret (pe_comp ["inner", "chart", "room"] [Option.none, some 0, some 1] rfl
    (pi_range1 rfl T.range (pa_cons (pe_callB call_len_seq (by rfl) T.len PySem.boot_len (pa_cons (pe_fld (pv 0) rfl) pa_nil)) pa_nil))
    (fun _ => pg_name (i := 0) (show (["inner", "chart", "room"] : List Str).Nodup by decide +kernel) rfl (Or.inl rfl))
    (fun _ => pts_one (pt_cmpR op_eq (pe_ix ix_tup (pe_ix ix_list (pe_fld (pv 1) rfl) (pv 0) (fun _ _ => rfl)) (pe_gint T.hold rfl) (fun _ _ => rfl)) (pv 2) (nomark _)))
    (fun _ => pv 0) (N := ["chart", "room"]) (ks := (defScope sChildren).names) rfl rfl (by decide +kernel) (by decide +kernel) (by decide +kernel) (by decide +kernel))), ?_⟩
  obtain ⟨dx, l, m, ps, qs, h1, h2, h3, h4, h5⟩ := hC.ob
  have hl : (ps.map V.ref).length = R.length := by rw [List.length_map, h3.1, List.length_map]
  have hrl := hC.rl
  refine ⟨_, rfl, c, C, dx, _, _, rfl, h1, T.cl, T.nR, flds_rooms l m, l, _, rfl, .inl (SqL.of h2), _, rfl, by rw [hl]; omega, by rw [hl]; omega, fun bk D hD => ?_⟩
  rw [hl]
  refine comp_range (Pv := fun i ys σ H' => ∃ v, σ = [v, some (.ref c), some (.int k)] ∧ ys = (((List.range i).filter fun j => decide (Rm.hold (hsOf R) j = k)).map fun (j : Nat) => V.int (j : Int)) ∧ Same H H') ⟨_, rfl, rfl, same_new hD _⟩ ?_ ?_
  · rintro i ys σ H1 hi hDi ⟨v, rfl, hys, (s1 : Same _ _)⟩
    have hi' : i < R.length := by simpa using hi
    have er : (R.map rV)[i]? = some (rV R[i]) := by rw [List.getElem?_map, List.getElem?_eq_getElem hi']; rfl
    obtain ⟨p, hp, hp2⟩ := h3.at er
    have ei : (0 : Int) + (i : Int) = (i : Int) := by omega
    refine ⟨_, rfl, c, C, dx, _, _, rfl, s1 _ _ h1, T.cl, T.nR, flds_rooms l m, _, rfl, l, _, _, _, rfl, rfl, SqL.of (s1 _ _ h2), by rw [ei]; exact atI_nat hp, p, _, _, _, rfl, rfl, SqT.of (s1 _ _ hp2), rfl, _, rfl, rfl, _, rfl, ?_⟩
    have eh : Rm.hold (hsOf R) i = R[i].1 := hsOf_get (List.getElem?_eq_getElem hi')
    refine ite2 (fun z => ?_) (fun z => ?_)
    · have z' : R[i].1 = k := by simpa using z
      refine ⟨_, rfl, hDi, ?_, ⟨_, rfl, ?_, sameUpd s1 hD _⟩⟩
      · rw [hys, List.length_map]
        have := List.length_filter_le (fun j => decide (Rm.hold (hsOf R) j = k)) (List.range i)
        rw [List.length_range] at this
        exact small1000 (by omega)
      · rw [Rm.range_filter_succ, if_pos (by rw [eh]; exact decide_eq_true z'), List.map_append, ← hys, ei]; rfl
    · have z' : ¬ R[i].1 = k := by simpa using z
      refine ⟨hDi, ⟨_, rfl, ?_, s1⟩⟩
      rw [Rm.range_filter_succ, if_neg (by rw [eh]; simpa using z'), List.append_nil]; exact hys
  · rintro ys σ H1 hDn ⟨v, rfl, hys, (s1 : Same _ _)⟩
    refine q D H1 hD s1 ?_
    rw [hDn, hys]
    unfold Rm.kids
    rw [List.map_map, hsOf_len]
    have e : ((R.length : Int)).toNat = R.length := by omega
    rw [e]; rfl
def spWithin (C : Addr) : Sp := fun vs H Q _ => ∃ (c : Addr) (R : List Room1) (A : List Arrow) (i j : Nat), vs = [.ref c, .int i, .int j] ∧ ChartAt C H c R A ∧ Rm.Tree (hsOf R) ∧ i < R.length ∧
  Q (.bl (Rm.wi (hsOf R) i j)) H
theorem scWithin : FnScope ["chart", "room", "other", "place"] ["chart", "room", "other"] (defScope sWithin) := ⟨rfl, rfl, rfl, by decide +kernel, rfl, by decide +kernel, by decide +kernel⟩
theorem ok_within {f C : Addr} {fd : FuncData} (D : DefAt K mg "within" sWithin ["chart", "room", "other"] f fd) (T : Txt K mg C) : FnOk P w K mg base CX0 1 f fd ["chart", "room", "other"] (spWithin C) := by
  refine D.fn.ok scWithin (fun vs H Q E h => ?_) (fun cdv A outer s H vs Q E hr h => ?_)
  · obtain ⟨c, R, As, i, j, rfl, _⟩ := h
    rfl
  obtain ⟨c, R, As, i, j, rfl, hC, hT, hi, q⟩ := h
  refine ⟨_, pss_cons (ps_set (i := 3) scWithin.nd rfl (Or.inl rfl) (pv 1))
    (pss_cons (ps_while PassesOwn.never (pt_cmpR op_gt (pv 3) (pv 2) (nomark _))
      (pss_one (ps_set (i := 3) scWithin.nd rfl (Or.inl rfl) (pe_ix ix_tup (pe_ix ix_list (pe_fld (pv 0) rfl) (pv 3) (fun _ _ => rfl)) (pe_gint T.hold rfl) (fun _ _ => rfl)))))
    (pss_one (ps_ret (pe_cmpR op_eq (pv 3) (pv 2) (nomark _))))), ?_⟩
  obtain ⟨dx, l, m, ps, qs, h1, h2, h3, h4, h5⟩ := hC.ob
  refine ⟨_, rfl, fun n σ H1 => ∃ p : Nat, σ = [some (.ref c), some (.int i), some (.int j), some (.int p)] ∧ H1 = H ∧ p < R.length ∧ n = p ∧ Rm.wi (hsOf R) i j = Rm.wi (hsOf R) p j, ⟨i, i, rfl, rfl, hi, rfl, rfl⟩, ?_⟩
  rintro n σ H1 ⟨p, rfl, rfl, hp, rfl, ew⟩
  refine ⟨_, rfl, _, rfl, _, _, rfl, rfl, _, rfl, ?_⟩
  refine ite2 (fun z => ?_) (fun z => ?_)
  · have z' : (j : Int) < (n : Int) := by simpa using z
    have er : (R.map rV)[n]? = some (rV R[n]) := by rw [List.getElem?_map, List.getElem?_eq_getElem hp]; rfl
    obtain ⟨a, ha, ha2⟩ := h3.at er
    have eh : Rm.hold (hsOf R) n = R[n].1 := hsOf_get (List.getElem?_eq_getElem hp)
    have hu := hT.up n (by omega) (by rw [hsOf_len]; exact hp)
    rw [eh] at hu
    refine ⟨fun σ' H' => ∃ p' : Nat, p' < n ∧ σ' = [some (.ref c), some (.int i), some (.int j), some (.int p')] ∧ H' = H1 ∧ Rm.wi (hsOf R) i j = Rm.wi (hsOf R) p' j, ?_, ?_⟩
    · rintro σ' H' ⟨p', hlt, rfl, rfl, e'⟩
      exact ⟨p', hlt, p', rfl, rfl, by omega, rfl, e'⟩
    · refine ⟨_, rfl, c, C, dx, _, _, rfl, h1, T.cl, T.nR, flds_rooms l m, _, rfl, l, _, _, _, rfl, rfl, SqL.of h2, atI_nat ha, a, _, _, _, rfl, rfl, SqT.of ha2, rfl, ?_⟩
      refine ⟨R[n].1.toNat, by omega, ?_, rfl, ?_⟩
      · show [some (V.ref c), some (V.int i), some (V.int j), some (V.int R[n].1)] = _
        have e3 : ((R[n].1.toNat : Nat) : Int) = R[n].1 := by omega
        rw [e3]
      · rw [ew, Rm.wi_step (by rw [eh]; exact hu) (by omega), eh]
  · have z' : ¬ (j : Int) < (n : Int) := by simpa using z
    refine ⟨_, rfl, _, rfl, rfl, ?_⟩
    rw [ew, Rm.wi_end (by omega)] at q
    have e : (decide (V.int (n : Int) = V.int (j : Int))) = decide (n = j) := decide_eq_decide.mpr ⟨fun y => by injection y with y; omega, fun y => by rw [y]⟩
    rw [e]
    exact q
end
end Toy
namespace Toy
open PySem L2
seal PySem.wpAny
section
variable {P : Program} {w : World} {K : PySem.W.Frag} {mg : Str → Option Value} {base : Heap}
theorem room_at {H : Hp} {ps : List Addr} {R : List Room1} (h3 : Items H ps (R.map rV)) {i : Nat} (hi : i < R.length) : ∃ p, atI (ps.map V.ref) (i : Int) = some (.ref p) ∧ H p = some (.tup (rV R[i])) := by
  have er : (R.map rV)[i]? = some (rV R[i]) := by rw [List.getElem?_map, List.getElem?_eq_getElem hi]; rfl
  obtain ⟨p, hp, hp2⟩ := h3.at er
  exact ⟨p, atI_nat hp, hp2⟩
def spCheck1 (C : Addr) : Sp := fun vs H Q _ => ∃ (c : Addr) (R : List Room1) (A : List Arrow) (i : Nat), vs = [.ref c, .int i] ∧ ChartAt C H c R A ∧ Good R ∧ i < R.length ∧ ∀ H', Same H H' → Q .non H'
theorem scCheckHolder : FnScope ["chart", "room", "holder"] ["chart", "room"] (defScope sCheckHolder) := ⟨rfl, rfl, rfl, by decide +kernel, rfl, by decide +kernel, by decide +kernel⟩
theorem ok_check_holder {f C : Addr} {fd : FuncData} (D : DefAt K mg "check_holder" sCheckHolder ["chart", "room"] f fd) (T : Txt K mg C) : FnOk P w K mg base CX0 1 f fd ["chart", "room"] (spCheck1 C) := by
  refine D.fn.ok scCheckHolder (fun vs H Q E h => ?_) (fun cdv A outer s H vs Q E hr h => ?_)
  · obtain ⟨c, R, As, i, rfl, _⟩ := h
    rfl
  obtain ⟨c, R, As, i, rfl, hC, hG, hi, q⟩ := h
  refine ⟨_, pss_cons (ps_set (i := 2) scCheckHolder.nd rfl (Or.inl rfl) (pe_ix ix_tup (pe_ix ix_list (pe_fld (pv 0) rfl) (pv 1) (fun _ _ => rfl)) (pe_gint T.hold rfl) (fun _ _ => rfl)))
    (pss_cons (ps_if (pt_cmpR op_eq (pv 1) pe_int (nomark _))
      (pss_cons (ps_if (pt_cmpR op_ne (pv 2) (pe_gint T.nil rfl) (nomark _)) pss_never pss_nil) (pss_one ps_retN)) pss_nil)
    (pss_one (ps_if (pt_not (pt_chain op_le op_lt pe_int (pv 2) (pv 1))) pss_never pss_nil))), ?_⟩
  obtain ⟨dx, l, m, ps, qs, h1, h2, h3, h4, h5⟩ := hC.ob
  obtain ⟨p, hp, hp2⟩ := room_at h3 hi
  have eh : Rm.hold (hsOf R) i = R[i].1 := hsOf_get (List.getElem?_eq_getElem hi)
  refine ⟨_, rfl, c, C, dx, _, _, rfl, h1, T.cl, T.nR, flds_rooms l m, _, rfl, l, _, _, _, rfl, rfl, SqL.of h2, hp, p, _, _, _, rfl, rfl, SqT.of hp2, rfl, ?_⟩
  refine ⟨_, rfl, rfl, _, rfl, ?_⟩
  refine ite2 (fun z => ?_) (fun z => ?_)
  · have z' : i = 0 := by
      have : (i : Int) = 0 := by simpa using z
      omega
    have e0 : R[i].1 = -1 := by rw [← eh, z']; exact hG.tree.root
    refine ⟨_, rfl, rfl, _, rfl, ?_⟩
    refine iteNS (show V.int R[i].1 = V.int (-1) by rw [e0]) ?_
    exact q H (Same.refl H)
  · have z' : ¬ i = 0 := fun y => z (by rw [y]; rfl)
    have hu := hG.tree.up i (by omega) (by rw [hsOf_len]; exact hi)
    rw [eh] at hu
    refine ⟨_, rfl, _, _, rfl, rfl, _, rfl, ?_⟩
    rw [decide_eq_true hu.1]
    refine iteT ?_
    refine ⟨_, rfl, _, _, rfl, rfl, _, rfl, ?_⟩
    rw [decide_eq_true hu.2]
    refine iteF ?_
    exact q H (Same.refl H)
theorem scCheckKind : FnScope ["chart", "room", "kind", "inner"] ["chart", "room"] (defScope sCheckKind) := ⟨rfl, rfl, rfl, by decide +kernel, rfl, by decide +kernel, by decide +kernel⟩
theorem in_kinds {x : Str} (h : x = "plain" ∨ x = "one" ∨ x = "all" ∨ x = "keep") : inV (.str x) [.str "plain", .str "one", .str "all", .str "keep"] = true := by
  rcases h with h | h | h | h <;> (subst h; decide +kernel)
theorem ok_check_kind {f C fc : Addr} {fd fdc : FuncData} (D : DefAt K mg "check_kind" sCheckKind ["chart", "room"] f fd) (T : Txt K mg C) (Dc : DefAt K mg "children" sChildren ["chart", "room"] fc fdc) : FnOk P w K mg base CX0 2 f fd ["chart", "room"] (spCheck1 C) := by
  have Gc : FnOk P w K mg base CX0 1 fc fdc ["chart", "room"] (spChildren C) := ok_children Dc T
  refine D.fn.ok scCheckKind (fun vs H Q E h => ?_) (fun cdv A outer s H vs Q E hr h => ?_)
  · obtain ⟨c, R, As, i, rfl, _⟩ := h
    rfl
  obtain ⟨c, R, As, i, rfl, hC, hG, hi, q⟩ := h
  obtain ⟨aK, hK, sK⟩ := T.kinds
  refine ⟨_, pss_cons (ps_set (i := 2) scCheckKind.nd rfl (Or.inl rfl) (pe_ix ix_tup (pe_ix ix_list (pe_fld (pv 0) rfl) (pv 1) (fun _ _ => rfl)) (pe_gint T.kind rfl) (fun _ _ => rfl)))
    (pss_cons (ps_if (pt_cmpR op_notIn_seq (pv 2) (pe_glob rfl hK (v := .ref aK) rfl) (by with_unfolding_all rfl)) pss_never pss_nil)
    (pss_cons (ps_set (i := 3) scCheckKind.nd rfl (Or.inl rfl) (pe_call Gc hr rfl Dc.mg Dc.fn.kp Dc.bd .nil pass0 (pa_cons (pv 0) (pa_cons (pv 1) pa_nil))))
    (pss_cons (ps_if (PW.pt (pw_and (pt_cmpR op_eq (pv 2) pe_str (nomark _)) (pw_and1 (pt_cmpR op_gt (pe_callB call_len_seq (by rfl) T.len PySem.boot_len (pa_cons (pv 3) pa_nil)) pe_int (nomark _))))) pss_never pss_nil)
    (pss_one (ps_if (PW.pt (pw_and (pt_cmpR op_ne (pv 2) pe_str (nomark _)) (pw_and1 (pt_cmpR op_eq (pe_callB call_len_seq (by rfl) T.len PySem.boot_len (pa_cons (pv 3) pa_nil)) pe_int (nomark _))))) pss_never pss_nil))))), ?_⟩
  obtain ⟨dx, l, m, ps, qs, h1, h2, h3, h4, h5⟩ := hC.ob
  obtain ⟨p, hp, hp2⟩ := room_at h3 hi
  obtain ⟨hk1, hk2⟩ := hG.kind i R[i] (List.getElem?_eq_getElem hi)
  refine ⟨_, rfl, c, C, dx, _, _, rfl, h1, T.cl, T.nR, flds_rooms l m, _, rfl, l, _, _, _, rfl, rfl, SqL.of h2, hp, p, _, _, _, rfl, rfl, SqT.of hp2, rfl, ?_⟩
  refine ⟨_, rfl, aK, _, rfl, .inr (sK _), rfl, by decide +kernel, _, rfl, ?_⟩
  rw [if_pos rfl, in_kinds hk1]
  refine iteF ?_
  refine ⟨_, rfl, _, rfl, c, R, As, i, rfl, hC, fun d H1 hd s1 e1 => ?_⟩
  have el : ∀ b : Bool, (if b = true then False else True) → b = false := fun b h => by cases b <;> simp_all
  refine ⟨_, rfl, rfl, _, rfl, ?_⟩
  by_cases hpl : R[i].2 = "plain"
  · have e0 : Rm.kids (hsOf R) i = [] := hk2.mp hpl
    rw [decide_eq_true (show V.str R[i].2 = V.str "plain" by rw [hpl])]
    refine iteT ?_
    refine ⟨_, rfl, d, _, rfl, .inl (SqL.of e1), _, _, rfl, rfl, _, rfl, ?_⟩
    rw [e0]
    refine iteF ?_
    refine ⟨_, rfl, rfl, _, rfl, ?_⟩
    rw [decide_eq_true (show V.str R[i].2 = V.str "plain" by rw [hpl])]
    refine iteF ?_
    refine iteF ?_
    exact q H1 s1
  · have e0 : Rm.kids (hsOf R) i ≠ [] := fun z => hpl (hk2.mpr z)
    have ne : ¬ V.str R[i].2 = V.str "plain" := fun z => hpl (by injection z)
    rw [decide_eq_false ne]
    refine iteF ?_
    refine iteF ?_
    refine ⟨_, rfl, rfl, _, rfl, ?_⟩
    rw [decide_eq_false ne]
    refine iteT ?_
    refine ⟨_, rfl, d, _, rfl, .inl (SqL.of e1), rfl, _, rfl, ?_⟩
    have nz : ¬ V.int (((Rm.kids (hsOf R) i).map V.int).length : Int) = V.int 0 := fun z => by
      injection z with z
      rw [List.length_map] at z
      exact e0 (List.length_eq_zero_iff.mp (by omega))
    rw [decide_eq_false nz]
    refine iteF ?_
    exact q H1 s1
def spCheckRooms (C : Addr) : Sp := fun vs H Q _ => ∃ (c : Addr) (R : List Room1) (A : List Arrow), vs = [.ref c] ∧ ChartAt C H c R A ∧ Good R ∧ ∀ H', Same H H' → Q .non H'
theorem scCheckRooms : FnScope ["chart", "room"] ["chart"] (defScope sCheckRooms) := ⟨rfl, rfl, rfl, by decide +kernel, rfl, by decide +kernel, by decide +kernel⟩
theorem ok_check_rooms {f C fc fh fk : Addr} {fd fdc fdh fdk : FuncData} (D : DefAt K mg "check_rooms" sCheckRooms ["chart"] f fd) (T : Txt K mg C) (Dc : DefAt K mg "children" sChildren ["chart", "room"] fc fdc)
    (Dh : DefAt K mg "check_holder" sCheckHolder ["chart", "room"] fh fdh) (Dk : DefAt K mg "check_kind" sCheckKind ["chart", "room"] fk fdk) : FnOk P w K mg base CX0 3 f fd ["chart"] (spCheckRooms C) := by
  have Gh : FnOk P w K mg base CX0 1 fh fdh ["chart", "room"] (spCheck1 C) := ok_check_holder Dh T
  have Gk : FnOk P w K mg base CX0 2 fk fdk ["chart", "room"] (spCheck1 C) := ok_check_kind Dk T Dc
  refine D.fn.ok scCheckRooms (fun vs H Q E h => ?_) (fun cdv A outer s H vs Q E hr h => ?_)
  · obtain ⟨c, R, As, rfl, _⟩ := h
    rfl
  obtain ⟨c, R, As, rfl, hC, hG, q⟩ := h
  refine ⟨_, pss_cons (ps_if (pt_not (pt_chain op_le op_le pe_int (pe_callB call_len_seq (by rfl) T.len PySem.boot_len (pa_cons (pe_fld (pv 0) rfl) pa_nil)) (pe_gint T.mostR rfl))) pss_never pss_nil)
    (pss_one (ps_for PassesOwn.never rfl (pi_range1 rfl T.range (pa_cons (pe_callB call_len_seq (by rfl) T.len PySem.boot_len (pa_cons (pe_fld (pv 0) rfl) pa_nil)) pa_nil)) (pg_name (i := 1) scCheckRooms.nd rfl (Or.inl rfl))
      (pss_cons (ps_expr (pe_call Gh (hr.mono (by decide)) rfl Dh.mg Dh.fn.kp Dh.bd .nil pass0 (pa_cons (pv 0) (pa_cons (pv 1) pa_nil))))
      (pss_one (ps_expr (pe_call Gk hr rfl Dk.mg Dk.fn.kp Dk.bd .nil pass0 (pa_cons (pv 0) (pa_cons (pv 1) pa_nil)))))))), ?_⟩
  obtain ⟨dx, l, m, ps, qs, h1, h2, h3, h4, h5⟩ := hC.ob
  have hl : (ps.map V.ref).length = R.length := by rw [List.length_map, h3.1, List.length_map]
  have hm := hG.most
  have h0 := hG.tree.pos
  rw [hsOf_len] at h0
  refine ⟨_, rfl, c, C, dx, _, _, rfl, h1, T.cl, T.nR, flds_rooms l m, l, _, rfl, .inl (SqL.of h2), _, _, rfl, rfl, _, rfl, ?_⟩
  rw [hl, decide_eq_true (show (1 : Int) ≤ (R.length : Int) by omega)]
  refine iteT ?_
  refine ⟨_, _, rfl, rfl, _, rfl, ?_⟩
  rw [decide_eq_true (show (R.length : Int) ≤ (16 : Int) by omega)]
  refine iteF ?_
  refine ⟨_, rfl, c, C, dx, _, _, rfl, h1, T.cl, T.nR, flds_rooms l m, l, _, rfl, .inl (SqL.of h2), _, rfl, by rw [hl]; omega, by rw [hl]; omega, ?_⟩
  rw [hl]
  refine for_range (fun i σ H1 => ∃ v, σ = [some (.ref c), v] ∧ Same H H1) ⟨_, rfl, Same.refl H⟩ ?_ ?_
  · rintro i σ H1 hi ⟨v, rfl, (s1 : Same _ _)⟩
    have hi' : i < R.length := by omega
    have ei : (0 : Int) + (i : Int) = (i : Int) := by omega
    rw [ei]
    refine ⟨_, rfl, _, rfl, c, R, As, i, rfl, hC.same s1, hG, hi', fun H2 s2 => ?_⟩
    refine ⟨_, rfl, _, rfl, c, R, As, i, rfl, hC.same (s1.trans s2), hG, hi', fun H3 s3 => ?_⟩
    exact ⟨_, rfl, s1.trans (s2.trans s3)⟩
  · rintro σ H1 ⟨v, rfl, (s1 : Same _ _)⟩
    exact q H1 s1
end
end Toy
namespace Toy
open PySem L2
seal PySem.wpAny
section
variable {P : Program} {w : World} {K : PySem.W.Frag} {mg : Str → Option Value} {base : Heap}
theorem ints_get {ns : List Int} {k : Nat} (h : k < ns.length) : atI (ns.map V.int) (k : Int) = some (.int ns[k]) := atI_nat (by rw [List.getElem?_map, List.getElem?_eq_getElem h]; rfl)
def spCell (K : PySem.W.Frag) : Sp := fun vs H Q _ => ∃ (a : Addr) (ns : List Int) (k : Nat), vs = [.ref a, .int k] ∧ SqL K H a (ns.map V.int) ∧ Q (.int (Rm.cell ns k)) H
theorem scCell : FnScope ["script", "k"] ["script", "k"] (defScope sCell) := ⟨rfl, rfl, rfl, by decide +kernel, rfl, by decide +kernel, by decide +kernel⟩
theorem ok_cell {f C : Addr} {fd : FuncData} (D : DefAt K mg "_law_cell_at" sCell ["script", "k"] f fd) (T : Txt K mg C) : FnOk P w K mg base CX0 1 f fd ["script", "k"] (spCell K) := by
  refine D.fn.ok scCell (fun vs H Q E h => ?_) (fun cdv A outer s H vs Q E hr h => ?_)
  · obtain ⟨a, ns, k, rfl, _⟩ := h
    rfl
  obtain ⟨a, ns, k, rfl, hS, q⟩ := h
  refine ⟨_, pss_cons (ps_if (pt_cmpR op_lt (pv 1) (pe_callB call_len_seq (by rfl) T.len PySem.boot_len (pa_cons (pv 0) pa_nil)) (nomark _)) (pss_one (ps_ret (pe_ix ix_list (pv 0) (pv 1) (fun _ _ => rfl)))) pss_nil)
    (pss_one (ps_ret pe_int)), ?_⟩
  refine ⟨_, rfl, _, rfl, a, _, rfl, .inl hS, _, _, rfl, rfl, _, rfl, ?_⟩
  rw [List.length_map]
  refine ite2 (fun z => ?_) (fun z => ?_)
  · have z' : k < ns.length := by
      have : (k : Int) < (ns.length : Int) := by simpa using z
      omega
    refine ⟨_, rfl, _, rfl, a, _, _, _, rfl, rfl, hS, ints_get z', ?_⟩
    have e : Rm.cell ns k = ns[k] := by
      unfold Rm.cell
      rw [List.getD_eq_getElem?_getD, List.getElem?_eq_getElem z']; rfl
    rw [e] at q
    exact q
  · have z' : ¬ k < ns.length := fun y => z (by simpa using y)
    have e : Rm.cell ns k = 0 := by
      unfold Rm.cell
      rw [List.getD_eq_getElem?_getD, List.getElem?_eq_none (by omega)]; rfl
    rw [e] at q
    exact q
end
end Toy
namespace Toy
open PySem L2
seal PySem.wpAny
section
variable {P : Program} {w : World} {K : PySem.W.Frag} {mg : Str → Option Value} {base : Heap}
end
end Toy
namespace Toy
open PySem L2
seal PySem.wpAny
section
variable {P : Program} {w : World} {K : PySem.W.Frag} {mg : Str → Option Value} {base : Heap}
def choosing (R : List Room1) (p : Nat) : Bool := match R[p]? with
  | some r => decide (r.2 = "one" ∨ r.2 = "keep")
  | Option.none => false
def scopeOf (R : List Room1) (s t : Nat) : Option Nat := (Rm.chain (hsOf R) s).tail.find? fun p => choosing R p && Rm.li (hsOf R) t p
def optV : Option Nat → V
  | some p => .int p
  | Option.none => .non
theorem in_two (x : Str) : inV (.str x) [.str "one", .str "keep"] = decide (x = "one" ∨ x = "keep") := by
  show ((("one" : Str) == x) || ((("keep" : Str) == x) || false)) = _
  by_cases h1 : x = "one"
  · subst h1; decide +kernel
  · by_cases h2 : x = "keep"
    · subst h2; decide +kernel
    · have e1 : (("one" : Str) == x) = false := beq_eq_false_iff_ne.mpr fun z => h1 z.symm
      have e2 : (("keep" : Str) == x) = false := beq_eq_false_iff_ne.mpr fun z => h2 z.symm
      rw [e1, e2, decide_eq_false fun z => z.elim h1 h2]; rfl
end
end Toy
namespace Toy
open PySem L2
seal PySem.wpAny
section
variable {P : Program} {w : World} {K : PySem.W.Frag} {mg : Str → Option Value} {base : Heap}
def spLies (C : Addr) : Sp := fun vs H Q _ => ∃ (c : Addr) (R : List Room1) (A : List Arrow) (i j : Nat), vs = [.ref c, .int i, .int j] ∧ ChartAt C H c R A ∧ Rm.Tree (hsOf R) ∧ i < R.length ∧ Q (.bl (Rm.li (hsOf R) i j)) H
theorem scLies : FnScope ["chart", "room", "other"] ["chart", "room", "other"] (defScope sLies) := ⟨rfl, rfl, rfl, by decide +kernel, rfl, by decide +kernel, by decide +kernel⟩
theorem ok_lies {f C fw : Addr} {fd fdw : FuncData} (D : DefAt K mg "lies_in" sLies ["chart", "room", "other"] f fd) (T : Txt K mg C) (Dw : DefAt K mg "within" sWithin ["chart", "room", "other"] fw fdw) : FnOk P w K mg base CX0 2 f fd ["chart", "room", "other"] (spLies C) := by
  have Gw : FnOk P w K mg base CX0 1 fw fdw ["chart", "room", "other"] (spWithin C) := ok_within Dw T
  refine D.fn.ok scLies (fun vs H Q E h => ?_) (fun cdv A outer s H vs Q E hr h => ?_)
  · obtain ⟨c, R, As, i, j, rfl, _⟩ := h
    rfl
  obtain ⟨c, R, As, i, j, rfl, hC, hT, hi, q⟩ := h
  refine ⟨_, pss_one (ps_ret (pe_and (pe_cmpR op_ne (pv 1) (pv 2) (nomark _)) (pe_one (pe_call Gw hr rfl Dw.mg Dw.fn.kp Dw.bd .nil pass0 (pa_cons (pv 0) (pa_cons (pv 1) (pa_cons (pv 2) pa_nil))))))), ?_⟩
  refine ⟨_, rfl, _, rfl, rfl, _, rfl, ?_⟩
  rw [Rm.li_eq] at q
  have e : (decide (V.int (i : Int) = V.int (j : Int))) = decide (i = j) := decide_eq_decide.mpr ⟨fun y => by injection y with y; omega, fun y => by rw [y]⟩
  rw [e]
  by_cases z : i = j
  · rw [decide_eq_true z] at q ⊢
    exact iteF q
  · rw [decide_eq_false z] at q ⊢
    refine iteT ?_
    exact ⟨_, rfl, _, rfl, _, rfl, c, R, As, i, j, rfl, hC, hT, hi, q⟩
def spScope (C : Addr) : Sp := fun vs H Q _ => ∃ (c : Addr) (R : List Room1) (A : List Arrow) (i j : Nat), vs = [.ref c, .int i, .int j] ∧ ChartAt C H c R A ∧ Rm.Tree (hsOf R) ∧ i < R.length ∧ j < R.length ∧ Q (optV (scopeOf R i j)) H
theorem scScope : FnScope ["chart", "source", "target", "place"] ["chart", "source", "target"] (defScope sScope) := ⟨rfl, rfl, rfl, by decide +kernel, rfl, by decide +kernel, by decide +kernel⟩
theorem ok_scope {f C fl fw : Addr} {fd fdl fdw : FuncData} (D : DefAt K mg "scope" sScope ["chart", "source", "target"] f fd) (T : Txt K mg C) (Dl : DefAt K mg "lies_in" sLies ["chart", "room", "other"] fl fdl) (Dw : DefAt K mg "within" sWithin ["chart", "room", "other"] fw fdw) :
    FnOk P w K mg base CX0 3 f fd ["chart", "source", "target"] (spScope C) := by
  have Gl : FnOk P w K mg base CX0 2 fl fdl ["chart", "room", "other"] (spLies C) := ok_lies Dl T Dw
  refine D.fn.ok scScope (fun vs H Q E h => ?_) (fun cdv A outer s H vs Q E hr h => ?_)
  · obtain ⟨c, R, As, i, j, rfl, _⟩ := h
    rfl
  obtain ⟨c, R, As, i, j, rfl, hC, hT, hi, hj, q⟩ := h
  obtain ⟨aK, hK, sK⟩ := T.choosing
  refine ⟨_, pss_cons (ps_set (i := 3) scScope.nd rfl (Or.inl rfl) (pe_ix ix_tup (pe_ix ix_list (pe_fld (pv 0) rfl) (pv 1) (fun _ _ => rfl)) (pe_gint T.hold rfl) (fun _ _ => rfl)))
    (pss_cons (ps_while PassesOwn.never (pt_cmpR op_ne (pv 3) (pe_gint T.nil rfl) (nomark _))
      (pss_cons (ps_if (PW.pt (pw_and (pt_cmpR op_in_seq (pe_ix ix_tup (pe_ix ix_list (pe_fld (pv 0) rfl) (pv 3) (fun _ _ => rfl)) (pe_gint T.kind rfl) (fun _ _ => rfl)) (pe_glob rfl hK (v := .ref aK) rfl) (by with_unfolding_all rfl))
          (pw_and1 (pt_val (pe_call Gl hr rfl Dl.mg Dl.fn.kp Dl.bd .nil pass0 (pa_cons (pv 0) (pa_cons (pv 2) (pa_cons (pv 3) pa_nil)))))))) (pss_one (ps_ret (pv 3))) pss_nil)
      (pss_one (ps_set (i := 3) scScope.nd rfl (Or.inl rfl) (pe_ix ix_tup (pe_ix ix_list (pe_fld (pv 0) rfl) (pv 3) (fun _ _ => rfl)) (pe_gint T.hold rfl) (fun _ _ => rfl))))))
    (pss_one (ps_ret pe_non))), ?_⟩
  obtain ⟨dx, l, m, ps, qs, h1, h2, h3, h4, h5⟩ := hC.ob
  have hok : ∀ {n : Nat}, n < R.length → Rm.hold (hsOf R) n = -1 ∨ (0 ≤ Rm.hold (hsOf R) n ∧ Rm.hold (hsOf R) n < (n : Int)) := fun {n} hn => by
    by_cases z : n = 0
    · subst z; exact .inl hT.root
    · exact .inr (hT.up n (by omega) (by rw [hsOf_len]; exact hn))
  obtain ⟨p, hp, hp2⟩ := room_at h3 hi
  have eh : Rm.hold (hsOf R) i = R[i].1 := hsOf_get (List.getElem?_eq_getElem hi)
  refine ⟨_, rfl, c, C, dx, _, _, rfl, h1, T.cl, T.nR, flds_rooms l m, _, rfl, l, _, _, _, rfl, rfl, SqL.of h2, hp, p, _, _, _, rfl, rfl, SqT.of hp2, rfl, ?_⟩
  refine ⟨fun n σ H1 => ∃ pl : Int, σ = [some (.ref c), some (.int i), some (.int j), some (.int pl)] ∧ H1 = H ∧ (pl = -1 ∨ (0 ≤ pl ∧ pl < (R.length : Int))) ∧ n = (pl + 1).toNat ∧ scopeOf R i j = (Rm.upper (hsOf R) pl).find? fun p => choosing R p && Rm.li (hsOf R) j p,
    ⟨_, R[i].1, rfl, rfl, by rw [← eh]; rcases hok hi with z | z <;> omega, rfl, by unfold scopeOf; rw [Rm.tail_upper hT (by rw [hsOf_len]; exact hi), eh]⟩, ?_⟩
  rintro n σ H1 ⟨pl, rfl, rfl, hpl, rfl, es⟩
  refine ⟨_, rfl, rfl, _, rfl, ?_⟩
  by_cases z : pl = -1
  · subst z
    refine iteNS rfl ?_
    rw [es, Rm.upper_neg] at q
    exact q
  · have z0 : 0 ≤ pl ∧ pl < (R.length : Int) := hpl.resolve_left z
    obtain ⟨k, rfl⟩ : ∃ k : Nat, pl = (k : Int) := ⟨pl.toNat, by omega⟩
    have hk : k < R.length := by omega
    have ne : ¬ V.int (k : Int) = V.int (-1) := fun y => by injection y with y; omega
    rw [decide_eq_false ne]
    refine iteT ?_
    obtain ⟨a, ha, ha2⟩ := room_at h3 hk
    have ehk : Rm.hold (hsOf R) k = R[k].1 := hsOf_get (List.getElem?_eq_getElem hk)
    have ech : choosing R k = decide (R[k].2 = "one" ∨ R[k].2 = "keep") := by
      unfold choosing; rw [List.getElem?_eq_getElem hk]
    rw [Rm.upper_step hT (by rw [hsOf_len]; exact hk), List.find?_cons, ehk] at es
    refine ⟨fun σ' H' => ∃ pl' : Int, σ' = [some (.ref c), some (.int i), some (.int j), some (.int pl')] ∧ H' = H1 ∧ (pl' = -1 ∨ (0 ≤ pl' ∧ pl' < (k : Int))) ∧ scopeOf R i j = (Rm.upper (hsOf R) pl').find? fun p => choosing R p && Rm.li (hsOf R) j p, ?_, ?_⟩
    · rintro σ' H' ⟨pl', rfl, rfl, h', e'⟩
      exact ⟨(pl' + 1).toNat, by omega, pl', rfl, rfl, by omega, rfl, e'⟩
    · refine ⟨_, rfl, c, C, dx, _, _, rfl, h1, T.cl, T.nR, flds_rooms l m, _, rfl, l, _, _, _, rfl, rfl, SqL.of h2, ha, a, _, _, _, rfl, rfl, SqT.of ha2, rfl, aK, _, rfl, .inr (sK _), rfl, by decide +kernel, _, rfl, ?_⟩
      have stepOn : scopeOf R i j = (Rm.upper (hsOf R) R[k].1).find? (fun p => choosing R p && Rm.li (hsOf R) j p) →
          (tAsg (tOp (rIxT K) (tOp (rIxL K) (tFld K (tVar 0) "rooms") (tVar 3)) (tC (.int 0))) (gName 3)) { nx := fun σ' H' => ∃ pl' : Int, σ' = [some (.ref c), some (.int i), some (.int j), some (.int pl')] ∧ H' = H1 ∧ (pl' = -1 ∨ (0 ≤ pl' ∧ pl' < (k : Int))) ∧ scopeOf R i j = (Rm.upper (hsOf R) pl').find? fun p => choosing R p && Rm.li (hsOf R) j p, rt := Q }
            [some (.ref c), some (.int i), some (.int j), some (.int k)] H1 := fun e' => by
        refine ⟨_, rfl, c, C, dx, _, _, rfl, h1, T.cl, T.nR, flds_rooms l m, _, rfl, l, _, _, _, rfl, rfl, SqL.of h2, ha, a, _, _, _, rfl, rfl, SqT.of ha2, rfl, ?_⟩
        exact ⟨R[k].1, rfl, rfl, by rw [← ehk]; exact hok hk, e'⟩
      show if inV (V.str R[k].2) [V.str "one", V.str "keep"] = true then _ else _
      rw [in_two, ← ech]
      cases hc : choosing R k with
      | false =>
        rw [hc] at es
        refine iteF ?_
        refine iteF ?_
        exact stepOn es
      | true =>
        rw [hc] at es
        refine iteT ?_
        refine ⟨_, rfl, _, rfl, _, rfl, c, R, As, j, k, rfl, hC, hT, hj, _, rfl, ?_⟩
        cases hb : Rm.li (hsOf R) j k with
        | false =>
          rw [hb] at es
          refine iteF ?_
          exact stepOn es
        | true =>
          rw [hb] at es
          refine iteT ?_
          have es' : scopeOf R i j = some k := es
          rw [es'] at q
          exact ⟨_, rfl, q⟩
end
end Toy
namespace Toy
open PySem L2
seal PySem.wpAny
section
variable {P : Program} {w : World} {K : PySem.W.Frag} {mg : Str → Option Value} {base : Heap}
theorem cut1 (xs : List V) : cutV xs (some 1) Option.none = xs.tail := by
  unfold cutV
  have e1 : HT.sIx xs.length 0 (some 1) = min 1 xs.length := HT.sIx_nat xs.length 0 1
  rw [e1, HT.sIx_none]
  cases xs with
  | nil => rfl
  | cons x r =>
    have e : min 1 (x :: r).length = 1 := by simp [List.length_cons]
    rw [e]
    show r.take (r.length + 1 - 1) = r
    simp
end
end Toy
namespace Toy
open PySem L2
seal PySem.wpAny
section
variable {P : Program} {w : World} {K : PySem.W.Frag} {mg : Str → Option Value} {base : Heap}
structure GoodA (R : List Room1) (a : Arrow) : Prop where
  src : ∃ s : Nat, a.1 = (s : Int) ∧ s < R.length
  evt : 0 ≤ a.2.1 ∧ a.2.1 ≤ 3
  grd : -1 ≤ a.2.2.1 ∧ a.2.2.1 < (R.length : Int)
  tgt : ∃ t : Nat, a.2.2.2.1 = (t : Int) ∧ t < R.length
  ded : 0 ≤ a.2.2.2.2 ∧ a.2.2.2.2 ≤ 99
  sc : ∃ p : Nat, scopeOf R a.1.toNat a.2.2.2.1.toNat = some p
theorem arrow_at {H : Hp} {qs : List Addr} {A : List Arrow} (h5 : Items H qs (A.map aV)) {i : Nat} (hi : i < A.length) : ∃ p, atI (qs.map V.ref) (i : Int) = some (.ref p) ∧ H p = some (.tup (aV A[i])) := by
  have er : (A.map aV)[i]? = some (aV A[i]) := by rw [List.getElem?_map, List.getElem?_eq_getElem hi]; rfl
  obtain ⟨p, hp, hp2⟩ := h5.at er
  exact ⟨p, atI_nat hp, hp2⟩
def spPart : Sp := fun vs H Q _ => ∃ (n : Int) (nm : Str) (p l m : Int), vs = [.int n, .str nm, .int p, .int l, .int m] ∧ l ≤ p ∧ p ≤ m ∧ Q .non H
theorem scPart : FnScope ["number", "name", "part", "least", "most"] ["number", "name", "part", "least", "most"] (defScope sPart) := ⟨rfl, rfl, rfl, by decide +kernel, rfl, by decide +kernel, by decide +kernel⟩
theorem ok_part {f : Addr} {fd : FuncData} (D : DefAt K mg "check_part" sPart ["number", "name", "part", "least", "most"] f fd) : FnOk P w K mg base CX0 1 f fd ["number", "name", "part", "least", "most"] spPart := by
  refine D.fn.ok scPart (fun vs H Q E h => ?_) (fun cdv A outer s H vs Q E hr h => ?_)
  · obtain ⟨n, nm, p, l, m, rfl, _⟩ := h
    rfl
  obtain ⟨n, nm, p, l, m, rfl, h1, h2, q⟩ := h
  refine ⟨_, pss_one (ps_if (pt_not (pt_chain op_le op_le (pv 3) (pv 2) (pv 4))) pss_never pss_nil), ?_⟩
  refine ⟨_, rfl, _, rfl, _, _, rfl, rfl, _, rfl, ?_⟩
  rw [decide_eq_true h1]
  refine iteT ?_
  refine ⟨_, rfl, _, _, rfl, rfl, _, rfl, ?_⟩
  rw [decide_eq_true h2]
  refine iteF ?_
  exact q
def spCheckArrow (C : Addr) : Sp := fun vs H Q _ => ∃ (c : Addr) (R : List Room1) (A : List Arrow) (i : Nat) (a : Arrow), vs = [.ref c, .int i] ∧ ChartAt C H c R A ∧ Good R ∧ A[i]? = some a ∧ GoodA R a ∧ Q .non H
theorem scCheckArrow : FnScope ["chart", "number", "arrow", "last_room"] ["chart", "number"] (defScope sCheckArrow) := ⟨rfl, rfl, rfl, by decide +kernel, rfl, by decide +kernel, by decide +kernel⟩
theorem ok_check_arrow {f C fp fs fl fw : Addr} {fd fdp fds fdl fdw : FuncData} (D : DefAt K mg "check_arrow" sCheckArrow ["chart", "number"] f fd) (T : Txt K mg C) (Dp : DefAt K mg "check_part" sPart ["number", "name", "part", "least", "most"] fp fdp)
    (Ds : DefAt K mg "scope" sScope ["chart", "source", "target"] fs fds) (Dl : DefAt K mg "lies_in" sLies ["chart", "room", "other"] fl fdl) (Dw : DefAt K mg "within" sWithin ["chart", "room", "other"] fw fdw) : FnOk P w K mg base CX0 4 f fd ["chart", "number"] (spCheckArrow C) := by
  have Gp : FnOk P w K mg base CX0 1 fp fdp ["number", "name", "part", "least", "most"] spPart := ok_part Dp
  have Gs : FnOk P w K mg base CX0 3 fs fds ["chart", "source", "target"] (spScope C) := ok_scope Ds T Dl Dw
  refine D.fn.ok scCheckArrow (fun vs H Q E h => ?_) (fun cdv A outer s H vs Q E hr h => ?_)
  · obtain ⟨c, R, As, i, a, rfl, _⟩ := h
    rfl
  obtain ⟨c, R, As, i, a, rfl, hC, hG, hia, hA, q⟩ := h
  have hr1 : Room 1 _ := hr.mono (by decide)
  refine ⟨_, pss_cons (ps_set (i := 2) scCheckArrow.nd rfl (Or.inl rfl) (pe_ix ix_list (pe_fld (pv 0) rfl) (pv 1) (fun _ _ => rfl)))
    (pss_cons (ps_set (i := 3) scCheckArrow.nd rfl (Or.inl rfl) (pe_op op_sub (pe_callB call_len_seq (by rfl) T.len PySem.boot_len (pa_cons (pe_fld (pv 0) rfl) pa_nil)) pe_int))
    (pss_cons (ps_expr (pe_call Gp hr1 rfl Dp.mg Dp.fn.kp Dp.bd .nil pass0 (pa_cons (pv 1) (pa_cons pe_str (pa_cons (pe_ix ix_tup (pv 2) (pe_gint T.src rfl) (fun _ _ => rfl)) (pa_cons pe_int (pa_cons (pv 3) pa_nil)))))))
    (pss_cons (ps_expr (pe_call Gp hr1 rfl Dp.mg Dp.fn.kp Dp.bd .nil pass0 (pa_cons (pv 1) (pa_cons pe_str (pa_cons (pe_ix ix_tup (pv 2) (pe_gint T.evt rfl) (fun _ _ => rfl)) (pa_cons pe_int (pa_cons (pe_gint T.lastE rfl) pa_nil)))))))
    (pss_cons (ps_expr (pe_call Gp hr1 rfl Dp.mg Dp.fn.kp Dp.bd .nil pass0 (pa_cons (pv 1) (pa_cons pe_str (pa_cons (pe_ix ix_tup (pv 2) (pe_gint T.grd rfl) (fun _ _ => rfl)) (pa_cons (pe_gint T.nil rfl) (pa_cons (pv 3) pa_nil)))))))
    (pss_cons (ps_expr (pe_call Gp hr1 rfl Dp.mg Dp.fn.kp Dp.bd .nil pass0 (pa_cons (pv 1) (pa_cons pe_str (pa_cons (pe_ix ix_tup (pv 2) (pe_gint T.tgt rfl) (fun _ _ => rfl)) (pa_cons pe_int (pa_cons (pv 3) pa_nil)))))))
    (pss_cons (ps_expr (pe_call Gp hr1 rfl Dp.mg Dp.fn.kp Dp.bd .nil pass0 (pa_cons (pv 1) (pa_cons pe_str (pa_cons (pe_ix ix_tup (pv 2) (pe_gint T.ded rfl) (fun _ _ => rfl)) (pa_cons pe_int (pa_cons (pe_gint T.lastD rfl) pa_nil)))))))
    (pss_one (ps_if (pt_cmp (pc_isN (pe_call Gs hr rfl Ds.mg Ds.fn.kp Ds.bd .nil pass0 (pa_cons (pv 0) (pa_cons (pe_ix ix_tup (pv 2) (pe_gint T.src rfl) (fun _ _ => rfl)) (pa_cons (pe_ix ix_tup (pv 2) (pe_gint T.tgt rfl) (fun _ _ => rfl)) pa_nil)))))) pss_never pss_nil)))))))), ?_⟩
  obtain ⟨hi, rfl⟩ := List.getElem?_eq_some_iff.mp hia
  obtain ⟨dx, l, m, ps, qs, h1, h2, h3, h4, h5⟩ := hC.ob
  obtain ⟨p, hp, hp2⟩ := arrow_at h5 hi
  have hl : (ps.map V.ref).length = R.length := by rw [List.length_map, h3.1, List.length_map]
  obtain ⟨sn, es, hs⟩ := hA.src
  obtain ⟨tn, et, ht⟩ := hA.tgt
  obtain ⟨g1, g2⟩ := hA.grd
  refine ⟨_, rfl, c, C, dx, _, _, rfl, h1, T.cl, T.nA, flds_arrows l m, _, rfl, m, _, _, _, rfl, rfl, SqL.of h4, hp, ?_⟩
  refine ⟨_, rfl, c, C, dx, _, _, rfl, h1, T.cl, T.nR, flds_rooms l m, l, _, rfl, .inl (SqL.of h2), _, _, rfl, rfl, ?_⟩
  rw [hl]
  refine ⟨_, rfl, _, rfl, p, _, _, _, rfl, rfl, SqT.of hp2, rfl, _, rfl, _, _, _, _, _, rfl, by rw [es]; omega, by rw [es]; omega, ?_⟩
  refine ⟨_, rfl, _, rfl, p, _, _, _, rfl, rfl, SqT.of hp2, rfl, _, _, _, _, _, rfl, hA.evt.1, hA.evt.2, ?_⟩
  refine ⟨_, rfl, _, rfl, p, _, _, _, rfl, rfl, SqT.of hp2, rfl, _, rfl, _, _, _, _, _, rfl, g1, by omega, ?_⟩
  refine ⟨_, rfl, _, rfl, p, _, _, _, rfl, rfl, SqT.of hp2, rfl, _, rfl, _, _, _, _, _, rfl, by rw [et]; omega, by rw [et]; omega, ?_⟩
  refine ⟨_, rfl, _, rfl, p, _, _, _, rfl, rfl, SqT.of hp2, rfl, _, _, _, _, _, rfl, hA.ded.1, hA.ded.2, ?_⟩
  refine ⟨_, rfl, _, rfl, p, _, _, _, rfl, rfl, SqT.of hp2, rfl, _, rfl, p, _, _, _, rfl, rfl, SqT.of hp2, rfl, c, R, As, sn, tn, (by rw [es, et]; rfl), hC, hG.tree, hs, ht, _, rfl, ?_⟩
  obtain ⟨pp, hsc⟩ := hA.sc
  rw [es, et, Int.toNat_natCast, Int.toNat_natCast] at hsc
  rw [hsc]
  refine iteF ?_
  exact q
def spCheckArrows (C : Addr) : Sp := fun vs H Q _ => ∃ (c : Addr) (R : List Room1) (A : List Arrow), vs = [.ref c] ∧ ChartAt C H c R A ∧ Good R ∧ A.length ≤ 20 ∧ (∀ a ∈ A, GoodA R a) ∧ Q .non H
theorem scCheckArrowsG : FnScope ["chart", "number"] ["chart"] (defScope sCheckArrows) := ⟨rfl, rfl, rfl, by decide +kernel, rfl, by decide +kernel, by decide +kernel⟩
theorem ok_check_arrows {f C fa : Addr} {fd fda : FuncData} (D : DefAt K mg "check_arrows" sCheckArrows ["chart"] f fd) (T : Txt K mg C) (Da : DefAt K mg "check_arrow" sCheckArrow ["chart", "number"] fa fda) (Ga : FnOk P w K mg base CX0 4 fa fda ["chart", "number"] (spCheckArrow C)) :
    FnOk P w K mg base CX0 5 f fd ["chart"] (spCheckArrows C) := by
  refine D.fn.ok scCheckArrowsG (fun vs H Q E h => ?_) (fun cdv A outer s H vs Q E hr h => ?_)
  · obtain ⟨c, R, As, rfl, _⟩ := h
    rfl
  obtain ⟨c, R, As, rfl, hC, hG, h20, hA, q⟩ := h
  refine ⟨_, pss_cons (ps_if (pt_cmpR op_gt (pe_callB call_len_seq (by rfl) T.len PySem.boot_len (pa_cons (pe_fld (pv 0) rfl) pa_nil)) (pe_gint T.mostA rfl) (nomark _)) pss_never pss_nil)
    (pss_one (ps_for PassesOwn.never rfl (pi_range1 rfl T.range (pa_cons (pe_callB call_len_seq (by rfl) T.len PySem.boot_len (pa_cons (pe_fld (pv 0) rfl) pa_nil)) pa_nil)) (pg_name (i := 1) scCheckArrowsG.nd rfl (Or.inl rfl))
      (pss_one (ps_expr (pe_call Ga hr rfl Da.mg Da.fn.kp Da.bd .nil pass0 (pa_cons (pv 0) (pa_cons (pv 1) pa_nil))))))), ?_⟩
  obtain ⟨dx, l, m, ps, qs, h1, h2, h3, h4, h5⟩ := hC.ob
  have hl : (qs.map V.ref).length = As.length := by rw [List.length_map, h5.1, List.length_map]
  refine ⟨_, rfl, c, C, dx, _, _, rfl, h1, T.cl, T.nA, flds_arrows l m, m, _, rfl, .inl (SqL.of h4), _, _, rfl, rfl, _, rfl, ?_⟩
  rw [hl, decide_eq_false (show ¬ (20 : Int) < (As.length : Int) by omega)]
  refine iteF ?_
  refine ⟨_, rfl, c, C, dx, _, _, rfl, h1, T.cl, T.nA, flds_arrows l m, m, _, rfl, .inl (SqL.of h4), _, rfl, by rw [hl]; omega, by rw [hl]; omega, ?_⟩
  rw [hl]
  refine for_range (fun i σ H1 => ∃ v, σ = [some (.ref c), v] ∧ H1 = H) ⟨_, rfl, rfl⟩ ?_ ?_
  · rintro i σ H1 hi ⟨v, rfl, rfl⟩
    have hi' : i < As.length := by omega
    have ei : (0 : Int) + (i : Int) = (i : Int) := by omega
    rw [ei]
    refine ⟨_, rfl, _, rfl, c, R, As, i, As[i], rfl, hC, hG, List.getElem?_eq_getElem hi', hA _ (List.getElem_mem hi'), ?_⟩
    exact ⟨_, rfl, rfl⟩
  · rintro σ H1 ⟨v, rfl, rfl⟩
    exact q
def spInit (C : Addr) : Sp := fun vs H Q _ => ∃ (c dx a b : Addr) (ps qs : List Addr) (R : List Room1) (As : List Arrow), vs = [.ref c, .ref a, .ref b] ∧ H c = some (.ins C dx []) ∧ H a = some (.lst (ps.map V.ref)) ∧ Items H ps (R.map rV) ∧ H b = some (.lst (qs.map V.ref)) ∧ Items H qs (As.map aV) ∧ Good R ∧ As.length ≤ 20 ∧ (∀ x ∈ As, GoodA R x) ∧
  ∀ H', (∀ x o, H x = some o → x ≠ c → H' x = some o) → (∀ H'', (∀ x o, H' x = some o → x ≠ a → x ≠ b → H'' x = some o) → ChartAt C H'' c R As) → Q .non H'
theorem scInitG : FnScope ["self", "rooms", "arrows"] ["self", "rooms", "arrows"] (defScope sInit) := ⟨rfl, rfl, rfl, by decide +kernel, rfl, by decide +kernel, by decide +kernel⟩
theorem ok_init {f C fr fa : Addr} {fd fdr fda : FuncData} (F : Fun K "__init__" "Chart.__init__" sInit f fd) (T : Txt K mg C) (Dr : DefAt K mg "check_rooms" sCheckRooms ["chart"] fr fdr) (Da : DefAt K mg "check_arrows" sCheckArrows ["chart"] fa fda)
    (Gr : FnOk P w K mg base CX0 3 fr fdr ["chart"] (spCheckRooms C)) (Ga : FnOk P w K mg base CX0 5 fa fda ["chart"] (spCheckArrows C)) : FnOk P w K mg base CX0 6 f fd ["self", "rooms", "arrows"] (spInit C) := by
  refine F.ok scInitG (fun vs H Q E h => ?_) (fun cdv A outer s H vs Q E hr h => ?_)
  · obtain ⟨c, dx, a, b, ps, qs, R, As, rfl, _⟩ := h
    rfl
  obtain ⟨c, dx, a, b, ps, qs, R, As, rfl, hc, ha, hI, hb, hJ, hG, h20, hA, q⟩ := h
  refine ⟨_, pss_cons (ps_fld (pv 0) (pe_callTy call_list_of (by rfl) T.list (by decide +kernel) (pa_cons (pv 1) pa_nil)) rfl)
    (pss_cons (ps_fld (pv 0) (pe_callTy call_list_of (by rfl) T.list (by decide +kernel) (pa_cons (pv 2) pa_nil)) rfl)
    (pss_cons (ps_expr (pe_call Gr (hr.mono (by decide)) rfl Dr.mg Dr.fn.kp Dr.bd .nil pass0 (pa_cons (pv 0) pa_nil)))
    (pss_one (ps_expr (pe_call Ga hr rfl Da.mg Da.fn.kp Da.bd .nil pass0 (pa_cons (pv 0) pa_nil)))))), ?_⟩
  refine ⟨_, rfl, a, _, rfl, .inl (SqL.of ha), fun l hl => ?_⟩
  have ncl : c ≠ l := ne_of_none hc hl
  refine ⟨_, rfl, c, C, dx, _, rfl, (by rw [upd_ne ncl]; exact hc), T.cl, T.nR, (by show 0 < 1000; decide), ?_⟩
  have nbl : b ≠ l := ne_of_none hb hl
  have nbc : b ≠ c := ne_of hb hc (by intro z; cases z)
  have nac : a ≠ c := ne_of ha hc (by intro z; cases z)
  have nal : a ≠ l := ne_of_none ha hl
  refine ⟨_, rfl, b, _, rfl, .inl (SqL.of (by rw [upd_ne nbc, upd_ne nbl]; exact hb)), fun m hm => ?_⟩
  have ncm : c ≠ m := ne_of_none upd_same hm
  have hm' : H m = Option.none := by
    have z := hm
    rw [upd_ne ncm.symm] at z
    by_cases e : m = l
    · rw [e, upd_same] at z; cases z
    · rw [upd_ne e] at z; exact z
  have nml : m ≠ l := fun e => by
    rw [e, upd_ne ncl.symm, upd_same] at hm
    cases hm
  refine ⟨_, rfl, c, C, dx, _, rfl, (by rw [upd_ne ncm]; exact upd_same), T.cl, T.nA, (by show 1 < 1000; decide), ?_⟩
  have keep : ∀ x o, H x = some o → x ≠ c → (upd (upd (upd (upd H l (.lst (ps.map V.ref))) c (.ins C dx (putF "rooms" (.ref l) []))) m (.lst (qs.map V.ref))) c (.ins C dx (putF "arrows" (.ref m) (putF "rooms" (.ref l) [])))) x = some o := fun x o e n => by
    rw [upd_ne n, upd_ne (ne_of_none e hm'), upd_ne n, upd_ne (ne_of_none e hl)]; exact e
  have hcl : (upd (upd (upd (upd H l (.lst (ps.map V.ref))) c (.ins C dx (putF "rooms" (.ref l) []))) m (.lst (qs.map V.ref))) c (.ins C dx (putF "arrows" (.ref m) (putF "rooms" (.ref l) [])))) l = some (.lst (ps.map V.ref)) := by
    rw [upd_ne ncl.symm, upd_ne nml.symm, upd_ne ncl.symm, upd_same]
  have hcm : (upd (upd (upd (upd H l (.lst (ps.map V.ref))) c (.ins C dx (putF "rooms" (.ref l) []))) m (.lst (qs.map V.ref))) c (.ins C dx (putF "arrows" (.ref m) (putF "rooms" (.ref l) [])))) m = some (.lst (qs.map V.ref)) := by
    rw [upd_ne ncm.symm, upd_same]
  have ntc : ∀ p o, H p = some (.tup o) → p ≠ c := fun p o e => ne_of e hc (by intro z; cases z)
  generalize hH2 : (upd (upd (upd (upd H l (.lst (ps.map V.ref))) c (.ins C dx (putF "rooms" (.ref l) []))) m (.lst (qs.map V.ref))) c (.ins C dx (putF "arrows" (.ref m) (putF "rooms" (.ref l) [])))) = H2 at keep hcl hcm ⊢
  have hcc : H2 c = some (.ins C dx (flds l m)) := by rw [← hH2]; exact upd_same
  have hI2 : Items H2 ps (R.map rV) := ⟨hI.1, fun i p o e1 e2 => keep _ _ (hI.2 i p o e1 e2) (ntc _ _ (hI.2 i p o e1 e2))⟩
  have hJ2 : Items H2 qs (As.map aV) := ⟨hJ.1, fun i p o e1 e2 => keep _ _ (hJ.2 i p o e1 e2) (ntc _ _ (hJ.2 i p o e1 e2))⟩
  have hC2 : ChartAt C H2 c R As := ⟨⟨dx, l, m, ps, qs, hcc, hcl, hI2, hcm, hJ2⟩, Nat.le_trans hG.most (by decide), by omega⟩
  refine ⟨_, rfl, c, R, As, rfl, hC2, hG, fun H3 s3 => ?_⟩
  refine ⟨_, rfl, c, R, As, rfl, hC2.same s3, hG, h20, hA, ?_⟩
  refine q H3 (fun x o e n => s3 _ _ (keep x o e n)) (fun H4 k4 => ?_)
  have nma : m ≠ a := fun e => by rw [e, ha] at hm'; cases hm'
  have nmb : m ≠ b := fun e => by rw [e, hb] at hm'; cases hm'
  have nta : ∀ p o, H p = some (.tup o) → p ≠ a := fun p o e => ne_of e ha (by intro z; cases z)
  have ntb : ∀ p o, H p = some (.tup o) → p ≠ b := fun p o e => ne_of e hb (by intro z; cases z)
  refine ⟨⟨dx, l, m, ps, qs, k4 _ _ (s3 _ _ hcc) nac.symm nbc.symm, k4 _ _ (s3 _ _ hcl) nal.symm nbl.symm, ⟨hI.1, fun i p o e1 e2 => k4 _ _ (s3 _ _ (hI2.2 i p o e1 e2)) (nta _ _ (hI.2 i p o e1 e2)) (ntb _ _ (hI.2 i p o e1 e2))⟩,
    k4 _ _ (s3 _ _ hcm) nma nmb, ⟨hJ.1, fun i p o e1 e2 => k4 _ _ (s3 _ _ (hJ2.2 i p o e1 e2)) (nta _ _ (hJ.2 i p o e1 e2)) (ntb _ _ (hJ.2 i p o e1 e2))⟩⟩, Nat.le_trans hG.most (by decide), by omega⟩
end
end Toy
namespace Toy
open PySem L2
seal PySem.wpAny
section
variable {P : Program} {w : World} {K : PySem.W.Frag} {mg : Str → Option Value} {base : Heap}
def kindAt (R : List Room1) (p : Nat) : Str := match R[p]? with
  | some r => r.2
  | Option.none => ""
theorem kindAt_get {R : List Room1} {p : Nat} (h : p < R.length) : kindAt R p = R[p].2 := by
  unfold kindAt; rw [List.getElem?_eq_getElem h]
end
end Toy
namespace Toy
open PySem L2
seal PySem.wpAny
section
variable {P : Program} {w : World} {K : PySem.W.Frag} {mg : Str → Option Value} {base : Heap}
structure BadTxt (K : PySem.W.Frag) (mg : Str → Option Value) (CB : Addr) : Prop where
  mgB : mg "BadChart" = some (.ref CB)
  ex : PySem.W.excIn K CB bmV "ValueError.__new__" = true
def spPartX (CB : Addr) : Sp := fun vs H Q E => ∃ (n p lo hi : Int) (nm : Str), vs = [.int n, .str nm, .int p, .int lo, .int hi] ∧ nm.length ≤ 100 ∧ n.natAbs.log2 < 1920 ∧ lo.natAbs.log2 < 1920 ∧ hi.natAbs.log2 < 1920 ∧
  ((lo ≤ p ∧ p ≤ hi) → Q .non H) ∧ (¬ (lo ≤ p ∧ p ≤ hi) → E (.ref CB) Option.none H)
theorem scPartX : FnScope ["number", "name", "part", "least", "most"] ["number", "name", "part", "least", "most"] (defScope sPart) := ⟨rfl, rfl, rfl, by decide +kernel, rfl, by decide +kernel, by decide +kernel⟩
theorem ok_partX {f CB : Addr} {fd : FuncData} (D : DefAt K mg "check_part" sPart ["number", "name", "part", "least", "most"] f fd) (B : BadTxt K mg CB) : FnOk P w K mg base (CXE P w) 1 f fd ["number", "name", "part", "least", "most"] (spPartX CB) := by
  refine D.fn.okX scPartX (fun vs H Q E h => ?_) (fun cdv A outer s H vs Q E hr h => ?_)
  · obtain ⟨n, p, lo, hi, nm, rfl, _⟩ := h
    rfl
  obtain ⟨n, p, lo, hi, nm, rfl, hnm, hn, hlo, hhi, q1, q2⟩ := h
  refine ⟨_, pss_one (ps_if (pt_not (pt_chain op_le op_le (pv 3) (pv 2) (pv 4)))
    (pss_one (ps_raise (E := E) wants_out rfl rfl B.mgB B.ex (pa_cons (pe_fstr (pfs_cons pf_text (pfs_cons (pf_str (pv 1)) (pfs_cons pf_text (pfs_cons (pf_int (pv 0)) (pfs_cons pf_text (pfs_cons (pf_int (pv 3)) (pfs_cons pf_text (pfs_cons (pf_int (pv 4)) pfs_nil))))))))) pa_nil))) pss_nil), ?_⟩
  refine ⟨_, rfl, _, rfl, lo, p, rfl, rfl, _, rfl, ?_⟩
  have fs : True ∧ (tVar 1 (start ["number", "name", "part", "least", "most"] [V.int n, V.str nm, V.int p, V.int lo, V.int hi]) H fun v H' => ∃ x : Str, v = V.str x ∧ H' = H ∧ x.length ≤ 3000) := ⟨trivial, _, rfl, nm, rfl, rfl, by omega⟩
  by_cases h1 : lo ≤ p
  · rw [decide_eq_true h1]
    refine iteT ?_
    refine ⟨_, rfl, _, _, rfl, rfl, _, rfl, ?_⟩
    by_cases h2 : p ≤ hi
    · rw [decide_eq_true h2]
      refine iteF ?_
      exact q1 ⟨h1, h2⟩
    · rw [decide_eq_false h2]
      refine iteT ?_
      exact ⟨⟨trivial, fs.2, trivial, ⟨_, rfl, n, rfl, rfl, hn⟩, trivial, ⟨_, rfl, lo, rfl, rfl, hlo⟩, trivial, ⟨_, rfl, hi, rfl, rfl, hhi⟩, trivial⟩, fun y => ⟨by show 1 ≤ 100; decide, q2 fun z => h2 z.2⟩⟩
  · rw [decide_eq_false h1]
    refine iteF ?_
    refine ⟨_, rfl, ?_⟩
    refine iteT ?_
    exact ⟨⟨trivial, fs.2, trivial, ⟨_, rfl, n, rfl, rfl, hn⟩, trivial, ⟨_, rfl, lo, rfl, rfl, hlo⟩, trivial, ⟨_, rfl, hi, rfl, rfl, hhi⟩, trivial⟩, fun y => ⟨by show 1 ≤ 100; decide, q2 fun z => h1 z.1⟩⟩
end
end Toy
namespace Toy
open PySem L2
seal PySem.wpAny
section
variable {P : Program} {w : World} {K : PySem.W.Frag} {mg : Str → Option Value} {base : Heap}
def okHold (R : List Room1) (i : Nat) : Prop := if i = 0 then Rm.hold (hsOf R) i = -1 else 0 ≤ Rm.hold (hsOf R) i ∧ Rm.hold (hsOf R) i < (i : Int)
def spHoldX (C CB : Addr) : Sp := fun vs H Q E => ∃ (c : Addr) (R : List Room1) (A : List Arrow) (i : Nat), vs = [.ref c, .int i] ∧ ChartAt C H c R A ∧ i < R.length ∧ (okHold R i → Q .non H) ∧ (¬ okHold R i → E (.ref CB) Option.none H)
theorem scHoldX : FnScope ["chart", "room", "holder"] ["chart", "room"] (defScope sCheckHolder) := ⟨rfl, rfl, rfl, by decide +kernel, rfl, by decide +kernel, by decide +kernel⟩
theorem small_log {i : Nat} (h : i ≤ 100) : (i : Int).natAbs.log2 < 1920 := by
  have e : (i : Int).natAbs = i := Int.natAbs_natCast i
  rw [e]
  have := Nat.log2_lt (n := i) (k := 1920)
  by_cases z : i = 0
  · subst z; decide
  · exact (Nat.log2_lt z).mpr (Nat.lt_of_le_of_lt h (by decide +kernel))
theorem ok_holdX {f C CB : Addr} {fd : FuncData} (D : DefAt K mg "check_holder" sCheckHolder ["chart", "room"] f fd) (T : Txt K mg C) (B : BadTxt K mg CB) : FnOk P w K mg base (CXE P w) 1 f fd ["chart", "room"] (spHoldX C CB) := by
  refine D.fn.okX scHoldX (fun vs H Q E h => ?_) (fun cdv A outer s H vs Q E hr h => ?_)
  · obtain ⟨c, R, As, i, rfl, _⟩ := h
    rfl
  obtain ⟨c, R, As, i, rfl, hC, hi, q1, q2⟩ := h
  refine ⟨_, pss_cons (ps_set (i := 2) scHoldX.nd rfl (Or.inl rfl) (pe_ix ix_tup (pe_ix ix_list (pe_fld (pv 0) rfl) (pv 1) (fun _ _ => rfl)) (pe_gint T.hold rfl) (fun _ _ => rfl)))
    (pss_cons (ps_if (pt_cmpR op_eq (pv 1) pe_int (nomark _))
      (pss_cons (ps_if (pt_cmpR op_ne (pv 2) (pe_gint T.nil rfl) (nomark _)) (pss_one (ps_raise (E := E) wants_out rfl rfl B.mgB B.ex (pa_cons (pe_fstr (pfs_cons pf_text (pfs_cons (pf_int (pe_gint T.nil rfl)) pfs_nil))) pa_nil))) pss_nil) (pss_one ps_retN)) pss_nil)
    (pss_one (ps_if (pt_not (pt_chain op_le op_lt pe_int (pv 2) (pv 1))) (pss_one (ps_raise (E := E) wants_out rfl rfl B.mgB B.ex (pa_cons (pe_fstr (pfs_cons pf_text (pfs_cons (pf_int (pv 1)) (pfs_cons pf_text pfs_nil)))) pa_nil))) pss_nil))), ?_⟩
  obtain ⟨dx, l, m, ps, qs, h1, h2, h3, h4, h5⟩ := hC.ob
  obtain ⟨p, hp, hp2⟩ := room_at h3 hi
  have eh : Rm.hold (hsOf R) i = R[i].1 := hsOf_get (List.getElem?_eq_getElem hi)
  have hil : (i : Int).natAbs.log2 < 1920 := small_log (Nat.le_trans (Nat.le_of_lt hi) hC.rl)
  unfold okHold at q1 q2
  rw [eh] at q1 q2
  refine ⟨_, rfl, c, C, dx, _, _, rfl, h1, T.cl, T.nR, flds_rooms l m, _, rfl, l, _, _, _, rfl, rfl, SqL.of h2, hp, p, _, _, _, rfl, rfl, SqT.of hp2, rfl, ?_⟩
  refine ⟨_, rfl, rfl, _, rfl, ?_⟩
  refine ite2 (fun z => ?_) (fun z => ?_)
  · have z' : i = 0 := by
      have : (i : Int) = 0 := by simpa using z
      omega
    rw [if_pos z'] at q1 q2
    refine ⟨_, rfl, rfl, _, rfl, ?_⟩
    by_cases e0 : R[i].1 = -1
    · refine iteNS (show V.int R[i].1 = V.int (-1) by rw [e0]) ?_
      exact q1 e0
    · rw [decide_eq_false (show ¬ V.int R[i].1 = V.int (-1) from fun y => e0 (by injection y))]
      refine iteT ?_
      exact ⟨⟨trivial, ⟨-1, rfl, rfl, by decide +kernel⟩, trivial⟩, fun y => ⟨by show 1 ≤ 100; decide, q2 e0⟩⟩
  · have z' : ¬ i = 0 := fun y => z (by rw [y]; rfl)
    rw [if_neg z'] at q1 q2
    refine ⟨_, rfl, _, _, rfl, rfl, _, rfl, ?_⟩
    have rz : ∀ {D σ}, σ[1]? = some (some (V.int i)) → ¬ (0 ≤ R[i].1 ∧ R[i].1 < (i : Int)) → tRaise CB E (tCons (tF fun σ H => True ∧ (tVar 1 σ H fun v H' => ∃ i : Int, v = .int i ∧ H' = H ∧ i.natAbs.log2 < 1920) ∧ True ∧ True) tNil) D σ H :=
      fun hs y => ⟨⟨trivial, ⟨_, hs, i, rfl, rfl, hil⟩, trivial, trivial⟩, fun y' => ⟨by show 1 ≤ 100; decide, q2 y⟩⟩
    by_cases a1 : 0 ≤ R[i].1
    · rw [decide_eq_true a1]
      refine iteT ?_
      refine ⟨_, rfl, _, _, rfl, rfl, _, rfl, ?_⟩
      by_cases a2 : R[i].1 < (i : Int)
      · rw [decide_eq_true a2]
        refine iteF ?_
        exact q1 ⟨a1, a2⟩
      · rw [decide_eq_false a2]
        refine iteT ?_
        exact rz rfl fun y => a2 y.2
    · rw [decide_eq_false a1]
      refine iteF ?_
      refine ⟨_, rfl, ?_⟩
      refine iteT ?_
      exact rz rfl fun y => a1 y.1
end
end Toy
namespace Toy
open PySem L2
seal PySem.wpAny
section
variable {P : Program} {w : World} {K : PySem.W.Frag} {mg : Str → Option Value} {base : Heap}
def okKind (R : List Room1) (i : Nat) : Prop := (kindAt R i = "plain" ∨ kindAt R i = "one" ∨ kindAt R i = "all" ∨ kindAt R i = "keep") ∧ (kindAt R i = "plain" ↔ Rm.kids (hsOf R) i = [])
def spKindX (C CB : Addr) : Sp := fun vs H Q E => ∃ (c : Addr) (R : List Room1) (A : List Arrow) (i : Nat), vs = [.ref c, .int i] ∧ ChartAt C H c R A ∧ i < R.length ∧ (PySem.reprText (kindAt R i)).length ≤ 3000 ∧
  ∀ H', Same H H' → (okKind R i → Q .non H') ∧ (¬ okKind R i → E (.ref CB) Option.none H')
theorem scKindX : FnScope ["chart", "room", "kind", "inner"] ["chart", "room"] (defScope sCheckKind) := ⟨rfl, rfl, rfl, by decide +kernel, rfl, by decide +kernel, by decide +kernel⟩
theorem not_kinds {x : Str} (h : ¬ (x = "plain" ∨ x = "one" ∨ x = "all" ∨ x = "keep")) : inV (.str x) [.str "plain", .str "one", .str "all", .str "keep"] = false := by
  show ((("plain" : Str) == x) || ((("one" : Str) == x) || ((("all" : Str) == x) || ((("keep" : Str) == x) || false)))) = false
  have e1 : (("plain" : Str) == x) = false := beq_eq_false_iff_ne.mpr fun z => h (.inl z.symm)
  have e2 : (("one" : Str) == x) = false := beq_eq_false_iff_ne.mpr fun z => h (.inr (.inl z.symm))
  have e3 : (("all" : Str) == x) = false := beq_eq_false_iff_ne.mpr fun z => h (.inr (.inr (.inl z.symm)))
  have e4 : (("keep" : Str) == x) = false := beq_eq_false_iff_ne.mpr fun z => h (.inr (.inr (.inr z.symm)))
  rw [e1, e2, e3, e4]; rfl
theorem ok_kindX {f C CB fc : Addr} {fd fdc : FuncData} (D : DefAt K mg "check_kind" sCheckKind ["chart", "room"] f fd) (T : Txt K mg C) (B : BadTxt K mg CB) (Dc : DefAt K mg "children" sChildren ["chart", "room"] fc fdc) : FnOk P w K mg base (CXE P w) 2 f fd ["chart", "room"] (spKindX C CB) := by
  have Gc : FnOk P w K mg base CX0 1 fc fdc ["chart", "room"] (spChildren C) := ok_children Dc T
  refine D.fn.okX scKindX (fun vs H Q E h => ?_) (fun cdv A outer s H vs Q E hr h => ?_)
  · obtain ⟨c, R, As, i, rfl, _⟩ := h
    rfl
  obtain ⟨c, R, As, i, rfl, hC, hi, hrep, q⟩ := h
  obtain ⟨aK, hK, sK⟩ := T.kinds
  refine ⟨_, pss_cons (ps_set (i := 2) scKindX.nd rfl (Or.inl rfl) (pe_ix ix_tup (pe_ix ix_list (pe_fld (pv 0) rfl) (pv 1) (fun _ _ => rfl)) (pe_gint T.kind rfl) (fun _ _ => rfl)))
    (pss_cons (ps_if (pt_cmpR op_notIn_seq (pv 2) (pe_glob rfl hK (v := .ref aK) rfl) (by with_unfolding_all rfl)) (pss_one (ps_raise (E := E) wants_out rfl rfl B.mgB B.ex (pa_cons (pe_fstr (pfs_cons pf_text (pfs_cons (pf_int (pv 1)) (pfs_cons pf_text (pfs_cons (pf_repr (pv 2)) pfs_nil))))) pa_nil))) pss_nil)
    (pss_cons (ps_set (i := 3) scKindX.nd rfl (Or.inl rfl) (pe_call Gc hr rfl Dc.mg Dc.fn.kp Dc.bd .nil pass0 (pa_cons (pv 0) (pa_cons (pv 1) pa_nil))))
    (pss_cons (ps_if (PW.pt (pw_and (pt_cmpR op_eq (pv 2) pe_str (nomark _)) (pw_and1 (pt_cmpR op_gt (pe_callB call_len_seq (by rfl) T.len PySem.boot_len (pa_cons (pv 3) pa_nil)) pe_int (nomark _))))) (pss_one (ps_raise (E := E) wants_out rfl rfl B.mgB B.ex (pa_cons (pe_fstr (pfs_cons pf_text (pfs_cons (pf_int (pv 1)) (pfs_cons pf_text pfs_nil)))) pa_nil))) pss_nil)
    (pss_one (ps_if (PW.pt (pw_and (pt_cmpR op_ne (pv 2) pe_str (nomark _)) (pw_and1 (pt_cmpR op_eq (pe_callB call_len_seq (by rfl) T.len PySem.boot_len (pa_cons (pv 3) pa_nil)) pe_int (nomark _))))) (pss_one (ps_raise (E := E) wants_out rfl rfl B.mgB B.ex (pa_cons (pe_fstr (pfs_cons pf_text (pfs_cons (pf_int (pv 1)) (pfs_cons pf_text pfs_nil)))) pa_nil))) pss_nil))))), ?_⟩
  obtain ⟨dx, l, m, ps, qs, h1, h2, h3, h4, h5⟩ := hC.ob
  obtain ⟨p, hp, hp2⟩ := room_at h3 hi
  have hil : (i : Int).natAbs.log2 < 1920 := small_log (Nat.le_trans (Nat.le_of_lt hi) hC.rl)
  unfold okKind at q
  rw [kindAt_get hi] at q hrep
  have one : (1 : Nat) ≤ 100 := by decide
  refine ⟨_, rfl, c, C, dx, _, _, rfl, h1, T.cl, T.nR, flds_rooms l m, _, rfl, l, _, _, _, rfl, rfl, SqL.of h2, hp, p, _, _, _, rfl, rfl, SqT.of hp2, rfl, ?_⟩
  refine ⟨_, rfl, aK, _, rfl, .inr (sK _), rfl, by decide +kernel, _, rfl, ?_⟩
  by_cases hk1 : R[i].2 = "plain" ∨ R[i].2 = "one" ∨ R[i].2 = "all" ∨ R[i].2 = "keep"
  · rw [if_pos rfl, in_kinds hk1]
    refine iteF ?_
    refine ⟨_, rfl, _, rfl, c, R, As, i, rfl, hC, fun d H1 hd s1 e1 => ?_⟩
    obtain ⟨q1, q2⟩ := q H1 s1
    refine ⟨_, rfl, rfl, _, rfl, ?_⟩
    have rz : ∀ {D σ}, σ[1]? = some (some (V.int i)) → ¬ (R[i].2 = "plain" ↔ Rm.kids (hsOf R) i = []) → tRaise CB E (tCons (tF fun σ H => True ∧ (tVar 1 σ H fun v H' => ∃ i : Int, v = .int i ∧ H' = H ∧ i.natAbs.log2 < 1920) ∧ True ∧ True) tNil) D σ H1 :=
      fun hs y => ⟨⟨trivial, ⟨_, hs, i, rfl, rfl, hil⟩, trivial, trivial⟩, fun y' => ⟨one, q2 fun z => y z.2⟩⟩
    by_cases hpl : R[i].2 = "plain"
    · rw [decide_eq_true (show V.str R[i].2 = V.str "plain" by rw [hpl])]
      refine iteT ?_
      refine ⟨_, rfl, d, _, rfl, .inl (SqL.of e1), _, _, rfl, rfl, _, rfl, ?_⟩
      by_cases e0 : Rm.kids (hsOf R) i = []
      · rw [e0]
        refine iteF ?_
        refine ⟨_, rfl, rfl, _, rfl, ?_⟩
        rw [decide_eq_true (show V.str R[i].2 = V.str "plain" by rw [hpl])]
        refine iteF ?_
        refine iteF ?_
        exact q1 ⟨hk1, fun _ => e0, fun _ => hpl⟩
      · have pos : (0 : Int) < (((Rm.kids (hsOf R) i).map V.int).length : Int) := by
          rw [List.length_map]
          have := List.length_pos_iff.mpr e0
          omega
        rw [decide_eq_true pos]
        refine iteT ?_
        exact rz rfl fun z => e0 (z.mp hpl)
    · have ne : ¬ V.str R[i].2 = V.str "plain" := fun z => hpl (by injection z)
      rw [decide_eq_false ne]
      refine iteF ?_
      refine iteF ?_
      refine ⟨_, rfl, rfl, _, rfl, ?_⟩
      rw [decide_eq_false ne]
      refine iteT ?_
      refine ⟨_, rfl, d, _, rfl, .inl (SqL.of e1), rfl, _, rfl, ?_⟩
      by_cases e0 : Rm.kids (hsOf R) i = []
      · rw [e0]
        refine iteT ?_
        exact rz rfl fun z => hpl (z.mpr e0)
      · have nz : ¬ V.int (((Rm.kids (hsOf R) i).map V.int).length : Int) = V.int 0 := fun z => by
          injection z with z
          rw [List.length_map] at z
          exact e0 (List.length_eq_zero_iff.mp (by omega))
        rw [decide_eq_false nz]
        refine iteF ?_
        exact q1 ⟨hk1, fun z => absurd z hpl, fun z => absurd z e0⟩
  · rw [if_pos rfl, not_kinds hk1]
    refine iteT ?_
    exact ⟨⟨trivial, ⟨_, rfl, i, rfl, rfl, hil⟩, trivial, ⟨_, rfl, _, rfl, rfl, hrep⟩, trivial⟩, fun y => ⟨one, (q H (Same.refl H)).2 fun z => hk1 z.1⟩⟩
end
end Toy
namespace Toy
open PySem L2
seal PySem.wpAny
section
variable {P : Program} {w : World} {K : PySem.W.Frag} {mg : Str → Option Value} {base : Heap}
def okRooms (R : List Room1) : Prop := (1 ≤ R.length ∧ R.length ≤ 16) ∧ ∀ i, i < R.length → okHold R i ∧ okKind R i
def spRoomsX (C CB : Addr) : Sp := fun vs H Q E => ∃ (c : Addr) (R : List Room1) (A : List Arrow), vs = [.ref c] ∧ ChartAt C H c R A ∧ (∀ i, i < R.length → (PySem.reprText (kindAt R i)).length ≤ 3000) ∧
  ∀ H', Same H H' → (okRooms R → Q .non H') ∧ (¬ okRooms R → E (.ref CB) Option.none H')
theorem scRoomsX : FnScope ["chart", "room"] ["chart"] (defScope sCheckRooms) := ⟨rfl, rfl, rfl, by decide +kernel, rfl, by decide +kernel, by decide +kernel⟩
theorem ok_roomsX {f C CB fc fh fk : Addr} {fd fdc fdh fdk : FuncData} (D : DefAt K mg "check_rooms" sCheckRooms ["chart"] f fd) (T : Txt K mg C) (B : BadTxt K mg CB) (Dc : DefAt K mg "children" sChildren ["chart", "room"] fc fdc)
    (Dh : DefAt K mg "check_holder" sCheckHolder ["chart", "room"] fh fdh) (Dk : DefAt K mg "check_kind" sCheckKind ["chart", "room"] fk fdk) : FnOk P w K mg base (CXE P w) 3 f fd ["chart"] (spRoomsX C CB) := by
  have Gh : FnOk P w K mg base (CXE P w) 1 fh fdh ["chart", "room"] (spHoldX C CB) := ok_holdX Dh T B
  have Gk : FnOk P w K mg base (CXE P w) 2 fk fdk ["chart", "room"] (spKindX C CB) := ok_kindX Dk T B Dc
  refine D.fn.okX scRoomsX (fun vs H Q E h => ?_) (fun cdv A outer s H vs Q E hr h => ?_)
  · obtain ⟨c, R, As, rfl, _⟩ := h
    rfl
  obtain ⟨c, R, As, rfl, hC, hrep, q⟩ := h
  refine ⟨_, pss_cons (ps_if (pt_not (pt_chain op_le op_le pe_int (pe_callB call_len_seq (by rfl) T.len PySem.boot_len (pa_cons (pe_fld (pv 0) rfl) pa_nil)) (pe_gint T.mostR rfl))) (pss_one (ps_raise (E := E) wants_out rfl rfl B.mgB B.ex (pa_cons (pe_fstr (pfs_cons pf_text (pfs_cons (pf_int (pe_gint T.mostR rfl)) (pfs_cons pf_text pfs_nil)))) pa_nil))) pss_nil)
    (pss_one (ps_for passes_own0 rfl (pi_range1 rfl T.range (pa_cons (pe_callB call_len_seq (by rfl) T.len PySem.boot_len (pa_cons (pe_fld (pv 0) rfl) pa_nil)) pa_nil)) (pg_name (i := 1) scRoomsX.nd rfl (Or.inl rfl))
      (pss_cons (ps_expr (pe_call Gh (hr.mono (by decide)) rfl Dh.mg Dh.fn.kp Dh.bd .nil passes_on (pa_cons (pv 0) (pa_cons (pv 1) pa_nil))))
      (pss_one (ps_expr (pe_call Gk hr rfl Dk.mg Dk.fn.kp Dk.bd .nil passes_on (pa_cons (pv 0) (pa_cons (pv 1) pa_nil)))))))), ?_⟩
  obtain ⟨dx, l, m, ps, qs, h1, h2, h3, h4, h5⟩ := hC.ob
  have hl : (ps.map V.ref).length = R.length := by rw [List.length_map, h3.1, List.length_map]
  have rz : ∀ {D σ}, ¬ okRooms R → tRaise CB E (tCons (tF fun σ H => True ∧ tC (.int 16) σ H (fun v H' => ∃ i : Int, v = .int i ∧ H' = H ∧ i.natAbs.log2 < 1920) ∧ True ∧ True) tNil) D σ H :=
    fun y => ⟨⟨trivial, ⟨16, rfl, rfl, by decide +kernel⟩, trivial, trivial⟩, fun y' => ⟨by show 1 ≤ 100; decide, (q H (Same.refl H)).2 y⟩⟩
  refine ⟨_, rfl, c, C, dx, _, _, rfl, h1, T.cl, T.nR, flds_rooms l m, l, _, rfl, .inl (SqL.of h2), _, _, rfl, rfl, _, rfl, ?_⟩
  by_cases a1 : (1 : Int) ≤ (R.length : Int)
  · rw [hl, decide_eq_true a1]
    refine iteT ?_
    refine ⟨_, _, rfl, rfl, _, rfl, ?_⟩
    by_cases a2 : (R.length : Int) ≤ (16 : Int)
    · rw [decide_eq_true a2]
      refine iteF ?_
      refine ⟨_, rfl, c, C, dx, _, _, rfl, h1, T.cl, T.nR, flds_rooms l m, l, _, rfl, .inl (SqL.of h2), _, rfl, by rw [hl]; omega, by rw [hl]; omega, ?_⟩
      rw [hl]
      refine for_range (fun i σ H1 => ∃ v, σ = [some (.ref c), v] ∧ Same H H1 ∧ ∀ j, j < i → okHold R j ∧ okKind R j) ⟨_, rfl, Same.refl H, fun j hj => absurd hj (Nat.not_lt_zero j)⟩ ?_ ?_
      · rintro i σ H1 hi ⟨v, rfl, (s1 : Same _ _), hok⟩
        have hi' : i < R.length := by omega
        have ei : (0 : Int) + (i : Int) = (i : Int) := by omega
        rw [ei]
        refine ⟨_, rfl, _, rfl, c, R, As, i, rfl, hC.same s1, hi', fun k1 => ?_, fun k1 => (q H1 s1).2 fun z => k1 (z.2 i hi').1⟩
        refine ⟨_, rfl, _, rfl, c, R, As, i, rfl, hC.same s1, hi', hrep i hi', fun H3 s3 => ⟨fun k2 => ?_, fun k2 => (q H3 (s1.trans s3)).2 fun z => k2 (z.2 i hi').2⟩⟩
        refine ⟨_, rfl, s1.trans s3, fun j hj => ?_⟩
        by_cases z : j = i
        · subst z; exact ⟨k1, k2⟩
        · exact hok j (by omega)
      · rintro σ H1 ⟨v, rfl, (s1 : Same _ _), hok⟩
        exact (q H1 s1).1 ⟨⟨by omega, by omega⟩, fun i hi => hok i (by omega)⟩
    · rw [decide_eq_false a2]
      refine iteT ?_
      exact rz fun z => a2 (by have := z.1.2; omega)
  · rw [hl, decide_eq_false a1]
    refine iteF ?_
    refine ⟨_, rfl, ?_⟩
    refine iteT ?_
    exact rz fun z => a1 (by have := z.1.1; omega)
end
end Toy
namespace Toy
open PySem L2
seal PySem.wpAny
section
variable {P : Program} {w : World} {K : PySem.W.Frag} {mg : Str → Option Value} {base : Heap}
def spArrowX (C CB : Addr) : Sp := fun vs H Q E => ∃ (c : Addr) (R : List Room1) (A : List Arrow) (i : Nat) (a : Arrow), vs = [.ref c, .int i] ∧ ChartAt C H c R A ∧ Good R ∧ A[i]? = some a ∧ (GoodA R a → Q .non H) ∧ (¬ GoodA R a → E (.ref CB) Option.none H)
theorem scArrowX : FnScope ["chart", "number", "arrow", "last_room"] ["chart", "number"] (defScope sCheckArrow) := ⟨rfl, rfl, rfl, by decide +kernel, rfl, by decide +kernel, by decide +kernel⟩
theorem ok_arrowX {f C CB fp fs fl fw : Addr} {fd fdp fds fdl fdw : FuncData} (D : DefAt K mg "check_arrow" sCheckArrow ["chart", "number"] f fd) (T : Txt K mg C) (B : BadTxt K mg CB) (Dp : DefAt K mg "check_part" sPart ["number", "name", "part", "least", "most"] fp fdp)
    (Ds : DefAt K mg "scope" sScope ["chart", "source", "target"] fs fds) (Dl : DefAt K mg "lies_in" sLies ["chart", "room", "other"] fl fdl) (Dw : DefAt K mg "within" sWithin ["chart", "room", "other"] fw fdw) : FnOk P w K mg base (CXE P w) 4 f fd ["chart", "number"] (spArrowX C CB) := by
  have Gp : FnOk P w K mg base (CXE P w) 1 fp fdp ["number", "name", "part", "least", "most"] (spPartX CB) := ok_partX Dp B
  have Gs : FnOk P w K mg base CX0 3 fs fds ["chart", "source", "target"] (spScope C) := ok_scope Ds T Dl Dw
  refine D.fn.okX scArrowX (fun vs H Q E h => ?_) (fun cdv A outer s H vs Q E hr h => ?_)
  · obtain ⟨c, R, As, i, a, rfl, _⟩ := h
    rfl
  obtain ⟨c, R, As, i, a, rfl, hC, hG, hia, q1, q2⟩ := h
  have hr1 : Room 1 _ := hr.mono (by decide)
  refine ⟨_, pss_cons (ps_set (i := 2) scArrowX.nd rfl (Or.inl rfl) (pe_ix ix_list (pe_fld (pv 0) rfl) (pv 1) (fun _ _ => rfl)))
    (pss_cons (ps_set (i := 3) scArrowX.nd rfl (Or.inl rfl) (pe_op op_sub (pe_callB call_len_seq (by rfl) T.len PySem.boot_len (pa_cons (pe_fld (pv 0) rfl) pa_nil)) pe_int))
    (pss_cons (ps_expr (pe_call Gp hr1 rfl Dp.mg Dp.fn.kp Dp.bd .nil passes_on (pa_cons (pv 1) (pa_cons pe_str (pa_cons (pe_ix ix_tup (pv 2) (pe_gint T.src rfl) (fun _ _ => rfl)) (pa_cons pe_int (pa_cons (pv 3) pa_nil)))))))
    (pss_cons (ps_expr (pe_call Gp hr1 rfl Dp.mg Dp.fn.kp Dp.bd .nil passes_on (pa_cons (pv 1) (pa_cons pe_str (pa_cons (pe_ix ix_tup (pv 2) (pe_gint T.evt rfl) (fun _ _ => rfl)) (pa_cons pe_int (pa_cons (pe_gint T.lastE rfl) pa_nil)))))))
    (pss_cons (ps_expr (pe_call Gp hr1 rfl Dp.mg Dp.fn.kp Dp.bd .nil passes_on (pa_cons (pv 1) (pa_cons pe_str (pa_cons (pe_ix ix_tup (pv 2) (pe_gint T.grd rfl) (fun _ _ => rfl)) (pa_cons (pe_gint T.nil rfl) (pa_cons (pv 3) pa_nil)))))))
    (pss_cons (ps_expr (pe_call Gp hr1 rfl Dp.mg Dp.fn.kp Dp.bd .nil passes_on (pa_cons (pv 1) (pa_cons pe_str (pa_cons (pe_ix ix_tup (pv 2) (pe_gint T.tgt rfl) (fun _ _ => rfl)) (pa_cons pe_int (pa_cons (pv 3) pa_nil)))))))
    (pss_cons (ps_expr (pe_call Gp hr1 rfl Dp.mg Dp.fn.kp Dp.bd .nil passes_on (pa_cons (pv 1) (pa_cons pe_str (pa_cons (pe_ix ix_tup (pv 2) (pe_gint T.ded rfl) (fun _ _ => rfl)) (pa_cons pe_int (pa_cons (pe_gint T.lastD rfl) pa_nil)))))))
    (pss_one (ps_if (pt_cmp (pc_isN (pe_call Gs hr rfl Ds.mg Ds.fn.kp Ds.bd .nil pass0 (pa_cons (pv 0) (pa_cons (pe_ix ix_tup (pv 2) (pe_gint T.src rfl) (fun _ _ => rfl)) (pa_cons (pe_ix ix_tup (pv 2) (pe_gint T.tgt rfl) (fun _ _ => rfl)) pa_nil)))))) (pss_one (ps_raise (E := E) wants_out rfl rfl B.mgB B.ex (pa_cons (pe_fstr (pfs_cons pf_text (pfs_cons (pf_int (pv 1)) (pfs_cons pf_text pfs_nil)))) pa_nil))) pss_nil)))))))), ?_⟩
  obtain ⟨hi, rfl⟩ := List.getElem?_eq_some_iff.mp hia
  obtain ⟨dx, l, m, ps, qs, h1, h2, h3, h4, h5⟩ := hC.ob
  obtain ⟨p, hp, hp2⟩ := arrow_at h5 hi
  have hl : (ps.map V.ref).length = R.length := by rw [List.length_map, h3.1, List.length_map]
  have hmost := hG.most
  have hil : (i : Int).natAbs.log2 < 1920 := small_log (Nat.le_trans (Nat.le_of_lt hi) hC.al)
  have hpos := hG.tree.pos
  rw [hsOf_len] at hpos
  have hrl : ((R.length : Int) - 1).natAbs.log2 < 1920 := by
    have e : ((R.length : Int) - 1) = ((R.length - 1 : Nat) : Int) := by omega
    rw [e]; exact small_log (by omega)
  have lgs : (0 : Int).natAbs.log2 < 1920 ∧ (-1 : Int).natAbs.log2 < 1920 ∧ (3 : Int).natAbs.log2 < 1920 ∧ (99 : Int).natAbs.log2 < 1920 := by decide +kernel
  obtain ⟨g0, g1, g3, g99⟩ := lgs
  refine ⟨_, rfl, c, C, dx, _, _, rfl, h1, T.cl, T.nA, flds_arrows l m, _, rfl, m, _, _, _, rfl, rfl, SqL.of h4, hp, ?_⟩
  refine ⟨_, rfl, c, C, dx, _, _, rfl, h1, T.cl, T.nR, flds_rooms l m, l, _, rfl, .inl (SqL.of h2), _, _, rfl, rfl, ?_⟩
  rw [hl]
  refine ⟨_, rfl, _, rfl, p, _, _, _, rfl, rfl, SqT.of hp2, rfl, _, rfl, _, _, _, _, _, rfl, by decide +kernel, hil, g0, hrl, fun b1 => ?_, fun b1 => q2 fun z => b1 ?_⟩
  rotate_left
  · obtain ⟨sn, es, hs⟩ := z.src
    constructor <;> (rw [es]; omega)
  refine ⟨_, rfl, _, rfl, p, _, _, _, rfl, rfl, SqT.of hp2, rfl, _, _, _, _, _, rfl, by decide +kernel, hil, g0, g3, fun b2 => ?_, fun b2 => q2 fun z => b2 z.evt⟩
  refine ⟨_, rfl, _, rfl, p, _, _, _, rfl, rfl, SqT.of hp2, rfl, _, rfl, _, _, _, _, _, rfl, by decide +kernel, hil, g1, hrl, fun b3 => ?_, fun b3 => q2 fun z => b3 ⟨z.grd.1, by have := z.grd.2; omega⟩⟩
  refine ⟨_, rfl, _, rfl, p, _, _, _, rfl, rfl, SqT.of hp2, rfl, _, rfl, _, _, _, _, _, rfl, by decide +kernel, hil, g0, hrl, fun b4 => ?_, fun b4 => q2 fun z => b4 ?_⟩
  rotate_left
  · obtain ⟨tn, et, ht⟩ := z.tgt
    constructor <;> (rw [et]; omega)
  refine ⟨_, rfl, _, rfl, p, _, _, _, rfl, rfl, SqT.of hp2, rfl, _, _, _, _, _, rfl, by decide +kernel, hil, g0, g99, fun b5 => ?_, fun b5 => q2 fun z => b5 z.ded⟩
  obtain ⟨sn, es⟩ : ∃ sn : Nat, As[i].1 = (sn : Int) := ⟨As[i].1.toNat, by have := b1.1; omega⟩
  obtain ⟨tn, et⟩ : ∃ tn : Nat, As[i].2.2.2.1 = (tn : Int) := ⟨As[i].2.2.2.1.toNat, by have := b4.1; omega⟩
  have hs : sn < R.length := by have := b1.2; omega
  have ht : tn < R.length := by have := b4.2; omega
  refine ⟨_, rfl, _, rfl, p, _, _, _, rfl, rfl, SqT.of hp2, rfl, _, rfl, p, _, _, _, rfl, rfl, SqT.of hp2, rfl, c, R, As, sn, tn, (by rw [es, et]; rfl), hC, hG.tree, hs, ht, _, rfl, ?_⟩
  cases hsc : scopeOf R sn tn with
  | some pp =>
    refine iteF ?_
    exact q1 ⟨⟨sn, es, hs⟩, b2, ⟨b3.1, by have := b3.2; omega⟩, ⟨tn, et, ht⟩, b5, pp, by rw [es, et, Int.toNat_natCast, Int.toNat_natCast]; exact hsc⟩
  | none =>
    refine iteT ?_
    refine ⟨⟨trivial, ⟨_, rfl, i, rfl, rfl, hil⟩, trivial, trivial⟩, fun y => ⟨by show 1 ≤ 100; decide, q2 fun z => ?_⟩⟩
    obtain ⟨pp, e⟩ := z.sc
    rw [es, et, Int.toNat_natCast, Int.toNat_natCast, hsc] at e
    cases e
end
end Toy
namespace Toy
open PySem L2
seal PySem.wpAny
section
variable {P : Program} {w : World} {K : PySem.W.Frag} {mg : Str → Option Value} {base : Heap}
def okArrows (R : List Room1) (A : List Arrow) : Prop := A.length ≤ 20 ∧ ∀ a ∈ A, GoodA R a
def spArrowsX (C CB : Addr) : Sp := fun vs H Q E => ∃ (c : Addr) (R : List Room1) (A : List Arrow), vs = [.ref c] ∧ ChartAt C H c R A ∧ Good R ∧ (okArrows R A → Q .non H) ∧ (¬ okArrows R A → E (.ref CB) Option.none H)
theorem scArrowsX : FnScope ["chart", "number"] ["chart"] (defScope sCheckArrows) := ⟨rfl, rfl, rfl, by decide +kernel, rfl, by decide +kernel, by decide +kernel⟩
theorem ok_arrowsX {f C CB fa : Addr} {fd fda : FuncData} (D : DefAt K mg "check_arrows" sCheckArrows ["chart"] f fd) (T : Txt K mg C) (B : BadTxt K mg CB) (Da : DefAt K mg "check_arrow" sCheckArrow ["chart", "number"] fa fda) (Ga : FnOk P w K mg base (CXE P w) 4 fa fda ["chart", "number"] (spArrowX C CB)) :
    FnOk P w K mg base (CXE P w) 5 f fd ["chart"] (spArrowsX C CB) := by
  refine D.fn.okX scArrowsX (fun vs H Q E h => ?_) (fun cdv A outer s H vs Q E hr h => ?_)
  · obtain ⟨c, R, As, rfl, _⟩ := h
    rfl
  obtain ⟨c, R, As, rfl, hC, hG, q1, q2⟩ := h
  refine ⟨_, pss_cons (ps_if (pt_cmpR op_gt (pe_callB call_len_seq (by rfl) T.len PySem.boot_len (pa_cons (pe_fld (pv 0) rfl) pa_nil)) (pe_gint T.mostA rfl) (nomark _)) (pss_one (ps_raise (E := E) wants_out rfl rfl B.mgB B.ex (pa_cons (pe_fstr (pfs_cons pf_text (pfs_cons (pf_int (pe_gint T.mostA rfl)) (pfs_cons pf_text pfs_nil)))) pa_nil))) pss_nil)
    (pss_one (ps_for passes_own0 rfl (pi_range1 rfl T.range (pa_cons (pe_callB call_len_seq (by rfl) T.len PySem.boot_len (pa_cons (pe_fld (pv 0) rfl) pa_nil)) pa_nil)) (pg_name (i := 1) scArrowsX.nd rfl (Or.inl rfl))
      (pss_one (ps_expr (pe_call Ga hr rfl Da.mg Da.fn.kp Da.bd .nil passes_on (pa_cons (pv 0) (pa_cons (pv 1) pa_nil))))))), ?_⟩
  obtain ⟨dx, l, m, ps, qs, h1, h2, h3, h4, h5⟩ := hC.ob
  have hl : (qs.map V.ref).length = As.length := by rw [List.length_map, h5.1, List.length_map]
  refine ⟨_, rfl, c, C, dx, _, _, rfl, h1, T.cl, T.nA, flds_arrows l m, m, _, rfl, .inl (SqL.of h4), _, _, rfl, rfl, _, rfl, ?_⟩
  rw [hl]
  by_cases a1 : (20 : Int) < (As.length : Int)
  · rw [decide_eq_true a1]
    refine iteT ?_
    exact ⟨⟨trivial, ⟨20, rfl, rfl, by decide +kernel⟩, trivial, trivial⟩, fun y' => ⟨by show 1 ≤ 100; decide, q2 fun z => by have := z.1; omega⟩⟩
  · rw [decide_eq_false a1]
    refine iteF ?_
    refine ⟨_, rfl, c, C, dx, _, _, rfl, h1, T.cl, T.nA, flds_arrows l m, m, _, rfl, .inl (SqL.of h4), _, rfl, by rw [hl]; omega, by rw [hl]; omega, ?_⟩
    rw [hl]
    refine for_range (fun i σ H1 => ∃ v, σ = [some (.ref c), v] ∧ H1 = H ∧ ∀ a ∈ As.take i, GoodA R a) ⟨_, rfl, rfl, fun a z => absurd z (by simp)⟩ ?_ ?_
    · rintro i σ H1 hi ⟨v, rfl, rfl, hok⟩
      have hi' : i < As.length := by omega
      have ei : (0 : Int) + (i : Int) = (i : Int) := by omega
      rw [ei]
      refine ⟨_, rfl, _, rfl, c, R, As, i, As[i], rfl, hC, hG, List.getElem?_eq_getElem hi', fun k1 => ?_, fun k1 => q2 fun z => k1 (z.2 _ (List.getElem_mem hi'))⟩
      refine ⟨_, rfl, rfl, fun a z => ?_⟩
      rw [List.take_add_one, List.getElem?_eq_getElem hi'] at z
      rcases List.mem_append.mp z with z | z
      · exact hok a z
      · have : a = As[i] := by simpa using z
        rw [this]; exact k1
    · rintro σ H1 ⟨v, rfl, rfl, hok⟩
      have en : ((As.length : Int)).toNat = As.length := by omega
      rw [en, List.take_length] at hok
      exact q1 ⟨by omega, hok⟩
theorem good_of {R : List Room1} (h : okRooms R) : Good R := by
  refine ⟨⟨by rw [hsOf_len]; exact h.1.1, ?_, fun i h0 hi => ?_⟩, h.1.2, fun i r hr => ?_⟩
  · have := (h.2 0 h.1.1).1
    unfold okHold at this
    rwa [if_pos rfl] at this
  · rw [hsOf_len] at hi
    have := (h.2 i hi).1
    unfold okHold at this
    rwa [if_neg (by omega)] at this
  · obtain ⟨hi, rfl⟩ := List.getElem?_eq_some_iff.mp hr
    have := (h.2 i hi).2
    unfold okKind at this
    rwa [kindAt_get hi] at this
def spInitX (C CB : Addr) : Sp := fun vs H Q E => ∃ (c dx a b : Addr) (ps qs : List Addr) (R : List Room1) (As : List Arrow), vs = [.ref c, .ref a, .ref b] ∧ H c = some (.ins C dx []) ∧ H a = some (.lst (ps.map V.ref)) ∧ Items H ps (R.map rV) ∧ H b = some (.lst (qs.map V.ref)) ∧ Items H qs (As.map aV) ∧
  R.length ≤ 100 ∧ As.length ≤ 100 ∧ (∀ i, i < R.length → (PySem.reprText (kindAt R i)).length ≤ 3000) ∧
  ∀ H', (∀ x o, H x = some o → x ≠ c → H' x = some o) →
    (okRooms R → okArrows R As → (∀ H'', (∀ x o, H' x = some o → x ≠ a → x ≠ b → H'' x = some o) → ChartAt C H'' c R As) → Q .non H') ∧ (¬ (okRooms R ∧ okArrows R As) → E (.ref CB) Option.none H')
theorem scInitX : FnScope ["self", "rooms", "arrows"] ["self", "rooms", "arrows"] (defScope sInit) := ⟨rfl, rfl, rfl, by decide +kernel, rfl, by decide +kernel, by decide +kernel⟩
theorem ok_initX {f C CB fr fa : Addr} {fd fdr fda : FuncData} (F : Fun K "__init__" "Chart.__init__" sInit f fd) (T : Txt K mg C) (Dr : DefAt K mg "check_rooms" sCheckRooms ["chart"] fr fdr) (Da : DefAt K mg "check_arrows" sCheckArrows ["chart"] fa fda)
    (Gr : FnOk P w K mg base (CXE P w) 3 fr fdr ["chart"] (spRoomsX C CB)) (Ga : FnOk P w K mg base (CXE P w) 5 fa fda ["chart"] (spArrowsX C CB)) : FnOk P w K mg base (CXE P w) 6 f fd ["self", "rooms", "arrows"] (spInitX C CB) := by
  refine F.okX scInitX (fun vs H Q E h => ?_) (fun cdv A outer s H vs Q E hr h => ?_)
  · obtain ⟨c, dx, a, b, ps, qs, R, As, rfl, _⟩ := h
    rfl
  obtain ⟨c, dx, a, b, ps, qs, R, As, rfl, hc, ha, hI, hb, hJ, hR1, hA1, hrep, q⟩ := h
  refine ⟨_, pss_cons (ps_fld (pv 0) (pe_callTy call_list_of (by rfl) T.list (by decide +kernel) (pa_cons (pv 1) pa_nil)) rfl)
    (pss_cons (ps_fld (pv 0) (pe_callTy call_list_of (by rfl) T.list (by decide +kernel) (pa_cons (pv 2) pa_nil)) rfl)
    (pss_cons (ps_expr (pe_call Gr (hr.mono (by decide)) rfl Dr.mg Dr.fn.kp Dr.bd .nil passes_on (pa_cons (pv 0) pa_nil)))
    (pss_one (ps_expr (pe_call Ga hr rfl Da.mg Da.fn.kp Da.bd .nil passes_on (pa_cons (pv 0) pa_nil)))))), ?_⟩
  refine ⟨_, rfl, a, _, rfl, .inl (SqL.of ha), fun l hl => ?_⟩
  have ncl : c ≠ l := ne_of_none hc hl
  refine ⟨_, rfl, c, C, dx, _, rfl, (by rw [upd_ne ncl]; exact hc), T.cl, T.nR, (by show 0 < 1000; decide), ?_⟩
  have nbl : b ≠ l := ne_of_none hb hl
  have nbc : b ≠ c := ne_of hb hc (by intro z; cases z)
  have nac : a ≠ c := ne_of ha hc (by intro z; cases z)
  have nal : a ≠ l := ne_of_none ha hl
  refine ⟨_, rfl, b, _, rfl, .inl (SqL.of (by rw [upd_ne nbc, upd_ne nbl]; exact hb)), fun m hm => ?_⟩
  have ncm : c ≠ m := ne_of_none upd_same hm
  have hm' : H m = Option.none := by
    have z := hm
    rw [upd_ne ncm.symm] at z
    by_cases e : m = l
    · rw [e, upd_same] at z; cases z
    · rw [upd_ne e] at z; exact z
  have nml : m ≠ l := fun e => by
    rw [e, upd_ne ncl.symm, upd_same] at hm
    cases hm
  refine ⟨_, rfl, c, C, dx, _, rfl, (by rw [upd_ne ncm]; exact upd_same), T.cl, T.nA, (by show 1 < 1000; decide), ?_⟩
  have keep : ∀ x o, H x = some o → x ≠ c → (upd (upd (upd (upd H l (.lst (ps.map V.ref))) c (.ins C dx (putF "rooms" (.ref l) []))) m (.lst (qs.map V.ref))) c (.ins C dx (putF "arrows" (.ref m) (putF "rooms" (.ref l) [])))) x = some o := fun x o e n => by
    rw [upd_ne n, upd_ne (ne_of_none e hm'), upd_ne n, upd_ne (ne_of_none e hl)]; exact e
  have hcl : (upd (upd (upd (upd H l (.lst (ps.map V.ref))) c (.ins C dx (putF "rooms" (.ref l) []))) m (.lst (qs.map V.ref))) c (.ins C dx (putF "arrows" (.ref m) (putF "rooms" (.ref l) [])))) l = some (.lst (ps.map V.ref)) := by
    rw [upd_ne ncl.symm, upd_ne nml.symm, upd_ne ncl.symm, upd_same]
  have hcm : (upd (upd (upd (upd H l (.lst (ps.map V.ref))) c (.ins C dx (putF "rooms" (.ref l) []))) m (.lst (qs.map V.ref))) c (.ins C dx (putF "arrows" (.ref m) (putF "rooms" (.ref l) [])))) m = some (.lst (qs.map V.ref)) := by
    rw [upd_ne ncm.symm, upd_same]
  have ntc : ∀ p o, H p = some (.tup o) → p ≠ c := fun p o e => ne_of e hc (by intro z; cases z)
  generalize hH2 : (upd (upd (upd (upd H l (.lst (ps.map V.ref))) c (.ins C dx (putF "rooms" (.ref l) []))) m (.lst (qs.map V.ref))) c (.ins C dx (putF "arrows" (.ref m) (putF "rooms" (.ref l) [])))) = H2 at keep hcl hcm ⊢
  have hcc : H2 c = some (.ins C dx (flds l m)) := by rw [← hH2]; exact upd_same
  have hI2 : Items H2 ps (R.map rV) := ⟨hI.1, fun i p o e1 e2 => keep _ _ (hI.2 i p o e1 e2) (ntc _ _ (hI.2 i p o e1 e2))⟩
  have hJ2 : Items H2 qs (As.map aV) := ⟨hJ.1, fun i p o e1 e2 => keep _ _ (hJ.2 i p o e1 e2) (ntc _ _ (hJ.2 i p o e1 e2))⟩
  have hC2 : ChartAt C H2 c R As := ⟨⟨dx, l, m, ps, qs, hcc, hcl, hI2, hcm, hJ2⟩, hR1, hA1⟩
  refine ⟨_, rfl, c, R, As, rfl, hC2, hrep, fun H3 s3 => ⟨fun k1 => ?_, fun k1 => (q H3 fun x o e n => s3 _ _ (keep x o e n)).2 fun z => k1 z.1⟩⟩
  refine ⟨_, rfl, c, R, As, rfl, hC2.same s3, good_of k1, fun k2 => ?_, fun k2 => (q H3 fun x o e n => s3 _ _ (keep x o e n)).2 fun z => k2 z.2⟩
  refine (q H3 (fun x o e n => s3 _ _ (keep x o e n))).1 k1 k2 (fun H4 k4 => ?_)
  have nma : m ≠ a := fun e => by rw [e, ha] at hm'; cases hm'
  have nmb : m ≠ b := fun e => by rw [e, hb] at hm'; cases hm'
  have nta : ∀ p o, H p = some (.tup o) → p ≠ a := fun p o e => ne_of e ha (by intro z; cases z)
  have ntb : ∀ p o, H p = some (.tup o) → p ≠ b := fun p o e => ne_of e hb (by intro z; cases z)
  refine ⟨⟨dx, l, m, ps, qs, k4 _ _ (s3 _ _ hcc) nac.symm nbc.symm, k4 _ _ (s3 _ _ hcl) nal.symm nbl.symm, ⟨hI.1, fun i p o e1 e2 => k4 _ _ (s3 _ _ (hI2.2 i p o e1 e2)) (nta _ _ (hI.2 i p o e1 e2)) (ntb _ _ (hI.2 i p o e1 e2))⟩,
    k4 _ _ (s3 _ _ hcm) nma nmb, ⟨hJ.1, fun i p o e1 e2 => k4 _ _ (s3 _ _ (hJ2.2 i p o e1 e2)) (nta _ _ (hJ.2 i p o e1 e2)) (ntb _ _ (hJ.2 i p o e1 e2))⟩⟩, hR1, hA1⟩
end
end Toy
namespace Toy
open PySem L2
seal PySem.wpAny
section
variable {P : Program} {w : World} {K : PySem.W.Frag} {mg : Str → Option Value} {base : Heap}
theorem call_isxK {X : Cx} {K : PySem.W.Frag} (hK : X.K = K) : CallR X (.builtin "isinstance") (fun xs H Q => ∃ a C d n, xs = [.ref a, .ty n] ∧ H a = some (XO a C d) ∧ PySem.W.kitCls K C (.type n) = some true ∧ Q (.bl true) H) := by
  subst hK
  exact call_isx
structure TakenTxt (K : PySem.W.Frag) (mg : Str → Option Value) (CE CC CT CB : Addr) : Prop where
  mgE : mg "ChartError" = some (.ref CE)
  mgC : mg "Clash" = some (.ref CC)
  mgT : mg "TooMany" = some (.ref CT)
  mgB : mg "BadChart" = some (.ref CB)
  vE : mg "ValueError" = none
  bE : PySem.W.subIn K (.ref CE) (.type "BaseException") = some true
  bC : PySem.W.subIn K (.ref CC) (.type "BaseException") = some true
  bT : PySem.W.subIn K (.ref CT) (.type "BaseException") = some true
  bB : PySem.W.subIn K (.ref CB) (.type "BaseException") = some true
  kE : PySem.W.kitCls K (.ref CB) (.ref CE) = some true
  kC : PySem.W.kitCls K (.ref CB) (.ref CC) = some false
  kT : PySem.W.kitCls K (.ref CB) (.ref CT) = some false
  kB : PySem.W.kitCls K (.ref CB) (.ref CB) = some true
  kV : PySem.W.kitCls K (.ref CB) (.type "ValueError") = some true
def okAll (R : List Room1) (As : List Arrow) : Prop := okRooms R ∧ okArrows R As
end
end Toy
namespace Toy
open PySem L2
seal PySem.wpAny
section
variable {P : Program} {w : World} {K : PySem.W.Frag} {mg : Str → Option Value} {base : Heap}
structure RoomsAt (H : Hp) (r : Addr) (R : List Room1) : Prop where
  ob : ∃ ps, H r = some (.lst (ps.map V.ref)) ∧ Items H ps (R.map rV)
end
end Toy
namespace Toy
open PySem L2
seal PySem.wpAny
section
variable {P : Program} {w : World} {K : PySem.W.Frag} {mg : Str → Option Value} {base : Heap}
structure ArrowsAt (H : Hp) (a : Addr) (A : List Arrow) : Prop where
  ob : ∃ qs, H a = some (.lst (qs.map V.ref)) ∧ Items H qs (A.map aV)
end
end Toy
namespace Toy
open PySem L2
seal PySem.wpAny
section
variable {P : Program} {w : World} {K : PySem.W.Frag} {mg : Str → Option Value} {base : Heap}
theorem comp_tup {K : PySem.W.Frag} {a : Addr} {xs : List V} {g : TG} {tt : TT} {te : TE} {D : Addr} {Q : VK} {σ : St} {H : Hp} (Pv : Nat → List V → St → Hp → Prop) (h0 : Pv 0 [] σ (upd H D (.lst [])))
    (hl : ∀ i ys σ H, i ≤ xs.length → H D = some (.lst ys) → Pv i ys σ H → SqT K H a xs)
    (hs : ∀ i x ys σ H, xs[i]? = some x → H D = some (.lst ys) → Pv i ys σ H → g x σ H fun σ2 H2 => tt σ2 H2 fun b H3 =>
      if b = true then te σ2 H3 fun y H4 => H4 D = some (.lst ys) ∧ ys.length < sizeLine ∧ Pv (i + 1) (ys ++ [y]) σ2 (upd H4 D (.lst (ys ++ [y]))) else H3 D = some (.lst ys) ∧ Pv (i + 1) ys σ2 H3)
    (hd : ∀ ys σ H, H D = some (.lst ys) → Pv xs.length ys σ H → Q (.ref D) H) :
    tLoop (Itt K a) g tt te D Q σ (upd H D (.lst [])) := by
  refine ⟨fun i m σ H => m = xs.length - i ∧ i ≤ xs.length ∧ ∃ ys, H D = some (.lst ys) ∧ Pv i ys σ H, ⟨xs.length, by simp, Nat.zero_le _, [], upd_same, h0⟩, ?_⟩
  rintro i m σ H ⟨rfl, hi, ys, hD, p⟩
  have hq := hl i ys σ H hi hD p
  by_cases hlt : i < xs.length
  · refine .inr ⟨⟨xs, xs[i], hq, by simp [hlt]⟩, fun y σ' H' => H' D = some (.lst ys) ∧ ys.length < sizeLine ∧ Pv (i + 1) (ys ++ [y]) σ' (upd H' D (.lst (ys ++ [y]))), fun σ' H' => H' D = some (.lst ys) ∧ Pv (i + 1) ys σ' H',
      fun y σ' H' q => ⟨ys, q.1, q.2.1, xs.length - (i + 1), by omega, rfl, hlt, _, upd_same, q.2.2⟩, fun σ' H' q => ⟨xs.length - (i + 1), by omega, rfl, hlt, ys, q⟩, fun x H' y => ?_⟩
    obtain ⟨e, y⟩ := y
    subst e
    exact hs i x ys σ _ (y xs hq) hD p
  · have e : i = xs.length := by omega
    subst e
    exact .inl ⟨⟨xs, hq, Nat.le_refl _⟩, hd ys σ H hD p⟩
structure NTxt (K : PySem.W.Frag) (mg : Str → Option Value) : Prop where
  dash : ∃ t, mg "DASH" = some (.str "-" t)
  fig : ∃ t, mg "FIGURES" = some (.str "0123456789" t)
  rw3 : ∃ t, mg "ROOM_WORDS" = some (.int 3 t)
  aw6 : ∃ t, mg "ARROW_WORDS" = some (.int 6 t)
  tstr : mg "str" = none
  all : mg "all" = none
  ss : PySem.W.kitOne K (.type "str") (.type "str") = some true
theorem pe_gstr {X : Cx} {x i : Str} {pos : Pos} (h : ∃ t, X.mg x = some (.str i t)) (hg : Gl X x) (hd : (x == ("__debug__" : Str)) = false := by decide) : PE X (.Name x pos) (tC (.str i)) := by
  obtain ⟨t, h⟩ := h
  exact pe_glob hg h ⟨t, rfl⟩ hd
def mk1 (n : Int) : Str := if n = -1 then "-" else Str.ofString (toString n)
theorem mk1_none : mk1 (-1) = "-" := if_pos rfl
theorem mk1_nat (n : Nat) : mk1 (n : Int) = wd n := if_neg (by omega)
def Num (n : Int) : Prop := n = -1 ∨ ∃ k : Nat, n = (k : Int) ∧ k < 100
def okW (x : Str) : Bool := !x.cps.toList.contains 32 && !x.cps.toList.contains 10 && decide (x.length ≤ 10)
theorem okW_wd : ∀ n, n < 100 → okW (wd n) = true := by decide +kernel
theorem okW_mk {n : Int} (h : Num n) : okW (mk1 n) = true := by
  rcases h with rfl | ⟨k, rfl, hk⟩
  · rw [mk1_none]; decide +kernel
  · rw [mk1_nat]; exact okW_wd k hk
theorem okW_un {x : Str} (h : okW x = true) : 32 ∉ x.cps.toList ∧ 10 ∉ x.cps.toList ∧ x.length ≤ 10 := by
  unfold okW at h
  rw [Bool.and_eq_true, Bool.and_eq_true, Bool.not_eq_true', Bool.not_eq_true', decide_eq_true_iff] at h
  obtain ⟨⟨h1, h2⟩, h3⟩ := h
  refine ⟨fun z => ?_, fun z => ?_, h3⟩
  · rw [List.contains_iff_mem.mpr z] at h1; cases h1
  · rw [List.contains_iff_mem.mpr z] at h2; cases h2
def sp1 : Str := " "
def nl1 : Str := "\n"
theorem sp1_is : sp1 = ⟨#[32]⟩ := by decide +kernel
theorem nl1_is : nl1 = ⟨#[10]⟩ := by decide +kernel
def rWords (r : Room1) : List Str := ["room", mk1 r.1, r.2]
def aWords (a : Arrow) : List Str := ["arrow", mk1 a.1, mk1 a.2.1, mk1 a.2.2.1, mk1 a.2.2.2.1, mk1 a.2.2.2.2]
def rLine (r : Room1) : Str := Txt.join sp1 (rWords r)
def aLine (a : Arrow) : Str := Txt.join sp1 (aWords a)
def linesOf (R : List Room1) (A : List Arrow) : List Str := R.map rLine ++ A.map aLine
def textOf (R : List Room1) (A : List Arrow) : Str := Txt.join nl1 (linesOf R A)
structure WordsOk (ws : List Str) : Prop where
  ne : ws ≠ []
  ok : ∀ x ∈ ws, okW x = true
  few : ws.length ≤ 6
theorem line_split {ws : List Str} (h : WordsOk ws) : Txt.split (Txt.join sp1 ws) sp1 = ws := by
  rw [sp1_is]
  exact split_join h.ne fun x hx => (okW_un (h.ok x hx)).1
theorem jn_mem {c d : Nat} : ∀ {ls : List (List Nat)}, d ∈ jn c ls → d = c ∨ ∃ x ∈ ls, d ∈ x
  | [], h => by cases h
  | [x], h => .inr ⟨x, List.mem_cons_self, h⟩
  | x :: y :: r, h => by
    have h' : d ∈ x ++ c :: jn c (y :: r) := h
    rcases List.mem_append.mp h' with z | z
    · exact .inr ⟨x, List.mem_cons_self, z⟩
    · rcases List.mem_cons.mp z with z | z
      · exact .inl z
      · rcases jn_mem z with z | ⟨u, hu, z⟩
        · exact .inl z
        · exact .inr ⟨u, List.mem_cons_of_mem _ hu, z⟩
theorem line_free {ws : List Str} (h : WordsOk ws) : 10 ∉ (Txt.join sp1 ws).cps.toList := by
  rw [sp1_is, join_is, join_cps]
  intro z
  rcases jn_mem z with z | ⟨x, hx, z⟩
  · cases z
  · obtain ⟨p, hp, rfl⟩ := List.mem_map.mp hx
    exact (okW_un (h.ok p hp)).2.1 z
theorem join_len {ws : List Str} {n : Nat} (h : ∀ x ∈ ws, x.length ≤ n) : (Txt.join sp1 ws).length ≤ (n + 1) * ws.length := by
  rw [join_is]
  refine Nat.le_trans (StrLaws.join_length_le sp1 ws) ?_
  have hs : (ws.map (·.length)).sum ≤ n * ws.length := by
    induction ws with
    | nil => exact Nat.zero_le _
    | cons t ts ih =>
      have a := h t List.mem_cons_self
      have b := ih fun x hx => h x (List.mem_cons_of_mem _ hx)
      rw [List.map_cons, List.sum_cons, List.length_cons, Nat.mul_add]
      omega
  have e : sp1.length = 1 := by decide +kernel
  rw [e, Nat.add_mul]
  omega
theorem line_len {ws : List Str} (h : WordsOk ws) : (Txt.join sp1 ws).length ≤ 66 := by
  have := join_len fun x hx => (okW_un (h.ok x hx)).2.2
  have h6 := h.few
  have : (10 + 1) * ws.length ≤ 11 * 6 := Nat.mul_le_mul_left _ h6
  omega
theorem line_joinOk {ws : List Str} (h : WordsOk ws) : JoinOk sp1 ws = true := by
  refine joinOk_of (fun t ht => ?_) ?_ (by decide +kernel)
  · have := (okW_un (h.ok t ht)).2.2
    omega
  · have := h.few
    omega
theorem rWords_ok {r : Room1} (h : Num r.1) (hk : r.2 = "plain" ∨ r.2 = "one" ∨ r.2 = "all" ∨ r.2 = "keep") : WordsOk (rWords r) := by
  refine ⟨by simp [rWords], fun x hx => ?_, by show 3 ≤ 6; decide⟩
  simp only [rWords, List.mem_cons, List.not_mem_nil, or_false] at hx
  rcases hx with rfl | rfl | rfl
  · decide +kernel
  · exact okW_mk h
  · rcases hk with e | e | e | e <;> rw [e] <;> decide +kernel
def ANum (a : Arrow) : Prop := Num a.1 ∧ Num a.2.1 ∧ Num a.2.2.1 ∧ Num a.2.2.2.1 ∧ Num a.2.2.2.2
theorem aWords_ok {a : Arrow} (h : ANum a) : WordsOk (aWords a) := by
  refine ⟨by simp [aWords], fun x hx => ?_, by show 6 ≤ 6; decide⟩
  simp only [aWords, List.mem_cons, List.not_mem_nil, or_false] at hx
  obtain ⟨h1, h2, h3, h4, h5⟩ := h
  rcases hx with rfl | rfl | rfl | rfl | rfl | rfl
  · decide +kernel
  · exact okW_mk h1
  · exact okW_mk h2
  · exact okW_mk h3
  · exact okW_mk h4
  · exact okW_mk h5
theorem num_good {R : List Room1} (hG : Good R) {a : Arrow} (h : GoodA R a) : ANum a := by
  have hm := hG.most
  obtain ⟨s, hs, hs2⟩ := h.src
  obtain ⟨t, ht, ht2⟩ := h.tgt
  have he := h.evt
  have hg := h.grd
  have hd := h.ded
  refine ⟨.inr ⟨s, hs, by omega⟩, .inr ⟨a.2.1.toNat, by omega, by omega⟩, ?_, .inr ⟨t, ht, by omega⟩, .inr ⟨a.2.2.2.2.toNat, by omega, by omega⟩⟩
  by_cases z : a.2.2.1 = -1
  · exact .inl z
  · exact .inr ⟨a.2.2.1.toNat, by omega, by omega⟩
def spMark : Sp := fun vs H Q _ => ∃ n : Int, vs = [.int n] ∧ Num n ∧ Q (.str (mk1 n)) H
theorem scNumWord : FnScope ["number"] ["number"] (defScope sNumWord) := ⟨rfl, rfl, rfl, by decide +kernel, rfl, by decide +kernel, by decide +kernel⟩
theorem ok_numWord {f C : Addr} {fd : FuncData} (D : DefAt K mg "number_word" sNumWord ["number"] f fd) (T : Txt K mg C) (N : NTxt K mg) : FnOk P w K mg base CX0 1 f fd ["number"] spMark := by
  refine D.fn.ok scNumWord (fun vs H Q E h => ?_) (fun cdv A outer s H vs Q E hr h => ?_)
  · obtain ⟨n, rfl, _⟩ := h
    rfl
  obtain ⟨n, rfl, hn, q⟩ := h
  refine ⟨_, pss_cons (ps_if (pt_cmpR op_eq (pv 0) (pe_gint T.nil rfl) (nomark _)) (pss_one (ps_ret (pe_gstr N.dash rfl))) pss_nil)
    (pss_one (ps_ret (pe_callTy call_str_int (by rfl) N.tstr (by decide +kernel) (pa_cons (pv 0) pa_nil)))), ?_⟩
  refine ⟨_, rfl, rfl, _, rfl, ?_⟩
  refine ite2 (fun z => ?_) (fun z => ?_)
  · have e : n = -1 := by
      have := of_decide_eq_true z
      injection this
    rw [e, mk1_none] at q
    exact q
  · have e : ¬ n = -1 := fun e => z (by rw [e]; exact decide_eq_true rfl)
    rcases hn with e' | ⟨k, rfl, hk⟩
    · exact absurd e' e
    · refine ⟨_, rfl, _, rfl, small_log (by omega), ?_⟩
      rw [mk1_nat] at q
      exact q
theorem scMark : FnScope ["number"] ["number"] (defScope sMark) := ⟨rfl, rfl, rfl, by decide +kernel, rfl, by decide +kernel, by decide +kernel⟩
theorem ok_mark {f : Addr} {fd : FuncData} (D : DefAt K mg "_law_mark" sMark ["number"] f fd) (N : NTxt K mg) : FnOk P w K mg base CX0 1 f fd ["number"] spMark := by
  refine D.fn.ok scMark (fun vs H Q E h => ?_) (fun cdv A outer s H vs Q E hr h => ?_)
  · obtain ⟨n, rfl, _⟩ := h
    rfl
  obtain ⟨n, rfl, hn, q⟩ := h
  refine ⟨_, pss_cons (ps_if (pt_cmpR op_eq (pv 0) (pe_un un_neg pe_int) (nomark _)) (pss_one (ps_ret pe_str)) pss_nil)
    (pss_one (ps_ret (pe_callTy call_str_int (by rfl) N.tstr (by decide +kernel) (pa_cons (pv 0) pa_nil)))), ?_⟩
  refine ⟨_, rfl, _, rfl, rfl, _, rfl, ?_⟩
  refine ite2 (fun z => ?_) (fun z => ?_)
  · have e : n = -1 := by
      have := of_decide_eq_true z
      injection this
    rw [e, mk1_none] at q
    exact q
  · have e : ¬ n = -1 := fun e => z (by rw [e]; exact decide_eq_true rfl)
    rcases hn with e' | ⟨k, rfl, hk⟩
    · exact absurd e' e
    · refine ⟨_, rfl, _, rfl, small_log (by omega), ?_⟩
      rw [mk1_nat] at q
      exact q
def spRoomLine : Sp := fun vs H Q _ => ∃ (p : Addr) (r : Room1), vs = [.ref p] ∧ H p = some (.tup (rV r)) ∧ Num r.1 ∧ WordsOk (rWords r) ∧ ∀ H', Same H H' → Q (.str (rLine r)) H'
theorem scRoomLine : FnScope ["room"] ["room"] (defScope sRoomLine) := ⟨rfl, rfl, rfl, by decide +kernel, rfl, by decide +kernel, by decide +kernel⟩
theorem ok_roomLine {f C fn : Addr} {fd fdn : FuncData} (D : DefAt K mg "room_line" sRoomLine ["room"] f fd) (T : Txt K mg C) (N : NTxt K mg) (Dn : DefAt K mg "number_word" sNumWord ["number"] fn fdn) : FnOk P w K mg base CX0 2 f fd ["room"] spRoomLine := by
  have Gn : FnOk P w K mg base CX0 1 fn fdn ["number"] spMark := ok_numWord Dn T N
  refine D.fn.ok scRoomLine (fun vs H Q E h => ?_) (fun cdv A outer s H vs Q E hr h => ?_)
  · obtain ⟨p, r, rfl, _⟩ := h
    rfl
  obtain ⟨p, r, rfl, hp, hn, hw, q⟩ := h
  refine ⟨_, pss_one (ps_ret (pe_bm PySem.F.plainAttrs_str PySem.F.slot_str_join PySem.F.type_str_join mt_join pe_str (pa_cons (pe_lst (pa_cons pe_str (pa_cons (pe_call Gn hr rfl Dn.mg Dn.fn.kp Dn.bd .nil pass0 (pa_cons (pe_ix ix_tup (pv 0) (pe_gint T.hold rfl) (fun _ _ => rfl)) pa_nil)) (pa_cons (pe_ix ix_tup (pv 0) (pe_gint T.kind rfl) (fun _ _ => rfl)) pa_nil)))) pa_nil))), ?_⟩
  refine ⟨rfl, _, rfl, p, _, _, _, rfl, rfl, SqT.of hp, rfl, r.1, rfl, hn, _, rfl, p, _, _, _, rfl, rfl, SqT.of hp, rfl, (by show 3 ≤ sizeLine; decide), fun l hl => ?_⟩
  refine ⟨sp1, l, rWords r, rfl, rfl, SqL.of upd_same, line_joinOk hw, ?_⟩
  exact q _ (same_new hl _)
end
end Toy
namespace Toy
open PySem L2
seal PySem.wpAny
section
variable {P : Program} {w : World} {K : PySem.W.Frag} {mg : Str → Option Value} {base : Heap}
theorem comp_tupA {K : PySem.W.Frag} {a : Addr} {xs : List V} {g : TG} {te : TE} {D : Addr} {Q : VK} {σ : St} {H : Hp} (Pv : Nat → List V → St → Hp → Prop) (h0 : Pv 0 [] σ (upd H D (.lst [])))
    (hl : ∀ i ys σ H, i ≤ xs.length → H D = some (.lst ys) → Pv i ys σ H → SqT K H a xs)
    (hs : ∀ i x ys σ H, xs[i]? = some x → H D = some (.lst ys) → Pv i ys σ H → g x σ H fun σ2 H3 => te σ2 H3 fun y H4 => H4 D = some (.lst ys) ∧ ys.length < sizeLine ∧ Pv (i + 1) (ys ++ [y]) σ2 (upd H4 D (.lst (ys ++ [y]))))
    (hd : ∀ ys σ H, H D = some (.lst ys) → Pv xs.length ys σ H → Q (.ref D) H) : tLoop (Itt K a) g tYes te D Q σ (upd H D (.lst [])) :=
  comp_tup Pv h0 hl (fun i x ys σ H hi hD p => hs i x ys σ H hi hD p) hd
theorem len_app (a b : Str) : (a ++ b).length = a.length + b.length := by
  show (a.cps ++ b.cps).size = a.cps.size + b.cps.size
  rw [Array.size_append]
def aNums (a : Arrow) : List Int := [a.1, a.2.1, a.2.2.1, a.2.2.2.1, a.2.2.2.2]
theorem aNums_num {a : Arrow} (h : ANum a) {i : Nat} {n : Int} (e : (aNums a)[i]? = some n) : Num n := by
  obtain ⟨h1, h2, h3, h4, h5⟩ := h
  have hm := List.mem_of_getElem? e
  simp only [aNums, List.mem_cons, List.not_mem_nil, or_false] at hm
  rcases hm with rfl | rfl | rfl | rfl | rfl
  · exact h1
  · exact h2
  · exact h3
  · exact h4
  · exact h5
theorem aV_nums (a : Arrow) : aV a = (aNums a).map V.int := rfl
def spArrowLine : Sp := fun vs H Q _ => ∃ (p : Addr) (a : Arrow), vs = [.ref p] ∧ H p = some (.tup (aV a)) ∧ ANum a ∧ ∀ H', Same H H' → Q (.str (aLine a)) H'
theorem scArrowLine : FnScope ["arrow"] ["arrow"] (defScope sArrowLine) := ⟨rfl, rfl, rfl, by decide +kernel, rfl, by decide +kernel, by decide +kernel⟩
theorem ok_arrowLine {f C fn : Addr} {fd fdn : FuncData} (D : DefAt K mg "arrow_line" sArrowLine ["arrow"] f fd) (T : Txt K mg C) (N : NTxt K mg) (Dn : DefAt K mg "number_word" sNumWord ["number"] fn fdn) : FnOk P w K mg base CX0 2 f fd ["arrow"] spArrowLine := by
  have Gn : FnOk P w K mg base CX0 1 fn fdn ["number"] spMark := ok_numWord Dn T N
  refine D.fn.ok scArrowLine (fun vs H Q E h => ?_) (fun cdv A outer s H vs Q E hr h => ?_)
  · obtain ⟨p, a, rfl, _⟩ := h
    rfl
  obtain ⟨p, a, rfl, hp, hn, q⟩ := h
  refine ⟨_, pss_one (ps_ret (pe_bm PySem.F.plainAttrs_str PySem.F.slot_str_join PySem.F.type_str_join mt_join pe_str (pa_cons (pe_op op_cat (pe_lst (pa_cons pe_str pa_nil)) (pe_comp ["part"] [Option.none] rfl (pi_tup (pv 0)) (fun _ => pg_name (i := 0) (show (["part"] : List Str).Nodup by decide +kernel) rfl (Or.inl rfl)) (fun _ => pts_nil)
      (fun _ => pe_call Gn hr rfl Dn.mg Dn.fn.kp Dn.bd .nil pass0 (pa_cons (pv 0) pa_nil)) (N := ["arrow"]) (ks := (defScope sArrowLine).names) rfl rfl (by decide +kernel) (by decide +kernel) (by decide +kernel) (by decide +kernel))) pa_nil))), ?_⟩
  refine ⟨rfl, (by show 1 ≤ sizeLine; decide), fun l0 hl0 => ?_⟩
  have s0 := same_new hl0 (.lst [.str "arrow"])
  refine ⟨_, rfl, p, rfl, ⟨_, SqT.of (s0 _ _ hp)⟩, fun bk D1 hD1 => ?_⟩
  refine comp_tupA (K := K) (xs := aV a) (Pv := fun i ys σ H' => ∃ v, σ = [v] ∧ ys = ((aNums a).take i).map (fun n => V.str (mk1 n)) ∧ Same (upd H l0 (.lst [.str "arrow"])) H') ⟨_, rfl, rfl, same_new hD1 _⟩ ?_ ?_ ?_
  · rintro i ys σ H' hi hDi ⟨v, rfl, _, (s : Same _ _)⟩
    exact SqT.of (s _ _ (s0 _ _ hp))
  · rintro i x ys σ H' hx hDi ⟨v, rfl, hys, (s : Same _ _)⟩
    rw [aV_nums, List.getElem?_map] at hx
    cases z : (aNums a)[i]? with
    | none => rw [z] at hx; cases hx
    | some n =>
      rw [z] at hx
      cases hx
      have hi : i < 5 := (List.getElem?_eq_some_iff.mp z).1
      refine ⟨_, rfl, n, rfl, aNums_num hn z, hDi, ?_, ⟨_, rfl, ?_, sameUpd s hD1 _⟩⟩
      · rw [hys, List.length_map, List.length_take]
        exact small1000 (by show min i 5 ≤ 1000; omega)
      · rw [hys, List.take_succ, z, List.map_append]; rfl
  · rintro ys σ H' hDn ⟨v, rfl, hys, (s : Same _ _)⟩
    have hys' : ys = [V.str (mk1 a.1), V.str (mk1 a.2.1), V.str (mk1 a.2.2.1), V.str (mk1 a.2.2.2.1), V.str (mk1 a.2.2.2.2)] := hys
    subst hys'
    refine ⟨l0, D1, _, _, rfl, rfl, s _ _ upd_same, hDn, (by show 6 ≤ sizeLine; decide), fun l hl => ?_⟩
    refine ⟨sp1, l, aWords a, rfl, rfl, SqL.of upd_same, line_joinOk (aWords_ok hn), ?_⟩
    exact q _ (s0.trans (s.trans (same_new hl _)))
structure ChartNum (R : List Room1) (A : List Arrow) : Prop where
  rn : ∀ r ∈ R, Num r.1 ∧ WordsOk (rWords r)
  an : ∀ a ∈ A, ANum a
  rl : R.length ≤ 100
  al : A.length ≤ 100
theorem lines_len {R : List Room1} {A : List Arrow} (h : ChartNum R A) : ∀ x ∈ linesOf R A, x.length ≤ 66 ∧ 10 ∉ x.cps.toList := by
  intro x hx
  rcases List.mem_append.mp hx with z | z
  · obtain ⟨r, hr, rfl⟩ := List.mem_map.mp z
    exact ⟨line_len (h.rn r hr).2, line_free (h.rn r hr).2⟩
  · obtain ⟨a, ha, rfl⟩ := List.mem_map.mp z
    exact ⟨line_len (aWords_ok (h.an a ha)), line_free (aWords_ok (h.an a ha))⟩
theorem lines_count {R : List Room1} {A : List Arrow} (h : ChartNum R A) : (linesOf R A).length ≤ 200 := by
  unfold linesOf
  rw [List.length_append, List.length_map, List.length_map]
  have := h.rl
  have := h.al
  omega
theorem lines_joinOk {R : List Room1} {A : List Arrow} (h : ChartNum R A) : JoinOk nl1 (linesOf R A) = true := by
  refine joinOk_of (fun t ht => ?_) ?_ (by decide +kernel)
  · have := (lines_len h t ht).1
    omega
  · have := lines_count h
    omega
def spShown (C : Addr) : Sp := fun vs H Q _ => ∃ (c : Addr) (R : List Room1) (A : List Arrow), vs = [.ref c] ∧ ChartAt C H c R A ∧ ChartNum R A ∧ ∀ H', Same H H' → Q (.str (textOf R A)) H'
theorem scShown : FnScope ["chart", "lines"] ["chart"] (defScope sShown) := ⟨rfl, rfl, rfl, by decide +kernel, rfl, by decide +kernel, by decide +kernel⟩
theorem ok_shown {f C fr fa fn : Addr} {fd fdr fda fdn : FuncData} (D : DefAt K mg "shown" sShown ["chart"] f fd) (T : Txt K mg C) (N : NTxt K mg) (Dr : DefAt K mg "room_line" sRoomLine ["room"] fr fdr) (Da : DefAt K mg "arrow_line" sArrowLine ["arrow"] fa fda) (Dn : DefAt K mg "number_word" sNumWord ["number"] fn fdn) : FnOk P w K mg base CX0 3 f fd ["chart"] (spShown C) := by
  have Gr : FnOk P w K mg base CX0 2 fr fdr ["room"] spRoomLine := ok_roomLine Dr T N Dn
  have Ga : FnOk P w K mg base CX0 2 fa fda ["arrow"] spArrowLine := ok_arrowLine Da T N Dn
  refine D.fn.ok scShown (fun vs H Q E h => ?_) (fun cdv A outer s H vs Q E hr h => ?_)
  · obtain ⟨c, R, A, rfl, _⟩ := h
    rfl
  obtain ⟨c, R, As, rfl, hC, hN, q⟩ := h
  refine ⟨_, pss_cons (ps_set (i := 1) scShown.nd rfl (Or.inl rfl) (pe_op op_cat (pe_comp ["room"] [Option.none] rfl (pi_list (pe_fld (pv 0) rfl)) (fun _ => pg_name (i := 0) (show (["room"] : List Str).Nodup by decide +kernel) rfl (Or.inl rfl)) (fun _ => pts_nil)
        (fun _ => pe_call Gr hr rfl Dr.mg Dr.fn.kp Dr.bd .nil pass0 (pa_cons (pv 0) pa_nil)) (N := ["chart", "lines"]) (ks := (defScope sShown).names) rfl rfl (by decide +kernel) (by decide +kernel) (by decide +kernel) (by decide +kernel))
      (pe_comp ["arrow"] [Option.none] rfl (pi_list (pe_fld (pv 0) rfl)) (fun _ => pg_name (i := 0) (show (["arrow"] : List Str).Nodup by decide +kernel) rfl (Or.inl rfl)) (fun _ => pts_nil)
        (fun _ => pe_call Ga hr rfl Da.mg Da.fn.kp Da.bd .nil pass0 (pa_cons (pv 0) pa_nil)) (N := ["chart", "lines"]) (ks := (defScope sShown).names) rfl rfl (by decide +kernel) (by decide +kernel) (by decide +kernel) (by decide +kernel))))
    (pss_one (ps_ret (pe_bm PySem.F.plainAttrs_str PySem.F.slot_str_join PySem.F.type_str_join mt_join pe_str (pa_cons (pv 1) pa_nil)))), ?_⟩
  obtain ⟨dx, l, m, ps, qs, h1, h2, h3, h4, h5⟩ := hC.ob
  have hrl := hN.rl
  have hal := hN.al
  refine ⟨_, rfl, c, C, dx, _, _, rfl, h1, T.cl, T.nR, flds_rooms l m, l, rfl, ⟨_, SqL.of h2⟩, fun bk D1 hD1 => ?_⟩
  refine comp_listA (K := K) (xs := ps.map V.ref) (Pv := fun i ys σ H' => ∃ v, σ = [v] ∧ ys = (R.take i).map (fun r => V.str (rLine r)) ∧ Same H H') ⟨_, rfl, rfl, same_new hD1 _⟩ ?_ ?_ ?_
  · rintro i ys σ H' hi hDi ⟨v, rfl, _, (s : Same _ _)⟩
    exact SqL.of (s _ _ h2)
  · rintro i x ys σ H' hx hDi ⟨v, rfl, hys, (s : Same _ _)⟩
    have hi : i < R.length := by
      have z := (List.getElem?_eq_some_iff.mp hx).1
      rw [List.length_map, h3.1, List.length_map] at z; exact z
    obtain ⟨p, hp, rfl⟩ : ∃ p, ps[i]? = some p ∧ V.ref p = x := by
      rw [List.getElem?_map] at hx
      cases z : ps[i]? with
      | none => rw [z] at hx; simp at hx
      | some p => rw [z] at hx; exact ⟨p, rfl, by simpa using hx⟩
    have hRi := List.getElem?_eq_getElem hi
    have hpi : H p = some (.tup (rV R[i])) := h3.2 i p _ hp (by rw [List.getElem?_map, hRi]; rfl)
    obtain ⟨n1, n2⟩ := hN.rn _ (List.getElem_mem hi)
    refine ⟨_, rfl, p, R[i], rfl, s _ _ hpi, n1, n2, fun H2 s2 => ⟨s2 _ _ hDi, ?_, ⟨_, rfl, ?_, sameUpd (s.trans s2) hD1 _⟩⟩⟩
    · rw [hys, List.length_map, List.length_take]; exact small1000 (by omega)
    · rw [hys, List.take_succ, hRi, List.map_append]; rfl
  rintro ys σ H1 hDn ⟨v, rfl, hys, (s1 : Same _ _)⟩
  rw [List.length_map, h3.1, List.length_map, List.take_length] at hys
  refine ⟨_, rfl, c, C, dx, _, _, rfl, s1 _ _ h1, T.cl, T.nA, flds_arrows l m, m, rfl, ⟨_, SqL.of (s1 _ _ h4)⟩, fun bk D2 hD2 => ?_⟩
  refine comp_listA (K := K) (xs := qs.map V.ref) (Pv := fun i zs σ H' => ∃ v, σ = [v] ∧ zs = (As.take i).map (fun a => V.str (aLine a)) ∧ Same H1 H') ⟨_, rfl, rfl, same_new hD2 _⟩ ?_ ?_ ?_
  · rintro i zs σ H' hi hDi ⟨v, rfl, _, (s : Same _ _)⟩
    exact SqL.of (s _ _ (s1 _ _ h4))
  · rintro i x zs σ H' hx hDi ⟨v, rfl, hzs, (s : Same _ _)⟩
    have hi : i < As.length := by
      have z := (List.getElem?_eq_some_iff.mp hx).1
      rw [List.length_map, h5.1, List.length_map] at z; exact z
    obtain ⟨p, hp, rfl⟩ : ∃ p, qs[i]? = some p ∧ V.ref p = x := by
      rw [List.getElem?_map] at hx
      cases z : qs[i]? with
      | none => rw [z] at hx; simp at hx
      | some p => rw [z] at hx; exact ⟨p, rfl, by simpa using hx⟩
    have hAi := List.getElem?_eq_getElem hi
    have hpi : H p = some (.tup (aV As[i])) := h5.2 i p _ hp (by rw [List.getElem?_map, hAi]; rfl)
    refine ⟨_, rfl, p, As[i], rfl, s _ _ (s1 _ _ hpi), hN.an _ (List.getElem_mem hi), fun H2 s2 => ⟨s2 _ _ hDi, ?_, ⟨_, rfl, ?_, sameUpd (s.trans s2) hD2 _⟩⟩⟩
    · rw [hzs, List.length_map, List.length_take]; exact small1000 (by omega)
    · rw [hzs, List.take_succ, hAi, List.map_append]; rfl
  rintro zs σ H2 hDm ⟨v, rfl, hzs, (s2 : Same _ _)⟩
  rw [List.length_map, h5.1, List.length_map, List.take_length] at hzs
  refine ⟨D1, D2, _, _, rfl, rfl, s2 _ _ hDn, hDm, ?_, fun ln hln => ?_⟩
  · rw [hys, hzs, List.length_map, List.length_map]; exact Nat.le_of_lt (small1000 (by omega))
  have eL : ys ++ zs = (linesOf R As).map V.str := by
    rw [hys, hzs]
    unfold linesOf
    rw [List.map_append, List.map_map, List.map_map]; rfl
  refine ⟨rfl, _, rfl, nl1, ln, linesOf R As, rfl, rfl, SqL.of (by rw [upd_same, eL]), lines_joinOk hN, ?_⟩
  exact q _ (s1.trans (s2.trans (same_new hln _)))
end
end Toy
namespace Toy
open PySem L2
seal PySem.wpAny
section
variable {P : Program} {w : World} {K : PySem.W.Frag} {mg : Str → Option Value} {base : Heap}
theorem rLine_is (r : Room1) : ("room " : Str) ++ mk1 r.1 ++ (" " : Str) ++ r.2 = rLine r := by
  refine cps_inj ?_
  unfold rLine rWords
  rw [sp1_is, join_is, join_cps, cps_app, cps_app, cps_app]
  have e1 : ("room " : Str).cps.toList = ("room" : Str).cps.toList ++ [32] := by decide +kernel
  have e2 : (" " : Str).cps.toList = [32] := by decide +kernel
  rw [e1, e2]
  show _ = ("room" : Str).cps.toList ++ 32 :: ((mk1 r.1).cps.toList ++ 32 :: r.2.cps.toList)
  simp [List.append_assoc]
def aMarks (a : Arrow) : List Str := [mk1 a.1, mk1 a.2.1, mk1 a.2.2.1, mk1 a.2.2.2.1, mk1 a.2.2.2.2]
theorem aLine_is (a : Arrow) : ("arrow " : Str) ++ Txt.join sp1 (aMarks a) = aLine a := by
  refine cps_inj ?_
  unfold aLine aWords aMarks
  rw [sp1_is, join_is, join_is, cps_app, join_cps, join_cps]
  have e1 : ("arrow " : Str).cps.toList = ("arrow" : Str).cps.toList ++ [32] := by decide +kernel
  rw [e1, List.append_assoc]
  rfl
theorem aMarks_ok {a : Arrow} (h : ANum a) : WordsOk (aMarks a) := by
  have g := aWords_ok h
  refine ⟨by simp [aMarks], fun x hx => g.ok x (List.mem_cons_of_mem _ hx), by show 5 ≤ 6; decide⟩
def spLText : Sp := fun vs H Q _ => ∃ (r a : Addr) (R : List Room1) (A : List Arrow), vs = [.ref r, .ref a] ∧ RoomsAt H r R ∧ ArrowsAt H a A ∧ ChartNum R A ∧ ∀ H', Same H H' → Q (.str (textOf R A)) H'
theorem scLText : FnScope ["rooms", "arrows", "lines", "arrow"] ["rooms", "arrows"] (defScope sLText) := ⟨rfl, rfl, rfl, by decide +kernel, rfl, by decide +kernel, by decide +kernel⟩
theorem ok_ltext {f C fm : Addr} {fd fdm : FuncData} (D : DefAt K mg "_law_text" sLText ["rooms", "arrows"] f fd) (T : Txt K mg C) (N : NTxt K mg) (Dm : DefAt K mg "_law_mark" sMark ["number"] fm fdm) : FnOk P w K mg base CX0 2 f fd ["rooms", "arrows"] spLText := by
  have Gm : FnOk P w K mg base CX0 1 fm fdm ["number"] spMark := ok_mark Dm N
  refine D.fn.ok scLText (fun vs H Q E h => ?_) (fun cdv A outer s H vs Q E hr h => ?_)
  · obtain ⟨r, a, R, A, rfl, _⟩ := h
    rfl
  obtain ⟨r, a, R, As, rfl, hR, hA, hN, q⟩ := h
  refine ⟨_, pss_cons (ps_comp (i := 2) ["room"] [Option.none] rfl scLText.nd rfl rfl (pi_list (pv 0)) (fun _ => pg_name (i := 0) (show (["room"] : List Str).Nodup by decide +kernel) rfl (Or.inl rfl)) (fun _ => pts_nil)
      (fun _ => pe_op op_add_str (pe_op op_add_str (pe_op op_add_str pe_str (pe_call Gm hr rfl Dm.mg Dm.fn.kp Dm.bd .nil pass0 (pa_cons (pe_ix ix_tup (pv 0) pe_int (fun _ _ => rfl)) pa_nil))) pe_str) (pe_ix ix_tup (pv 0) pe_int (fun _ _ => rfl)))
      (N := ["rooms", "arrows", "lines", "arrow"]) (ks := (defScope sLText).names) rfl rfl (by decide +kernel) (by decide +kernel) (by decide +kernel) (by decide +kernel))
    (pss_cons (ps_for PassesOwn.never rfl (pi_list (pv 1)) (pg_name (i := 3) scLText.nd rfl (Or.inl rfl))
      (pss_one (ps_expr (pe_bm PySem.F.plainAttrs_list PySem.F.slot_list_append PySem.F.type_list_append mt_append (pv 2) (pa_cons (pe_op op_add_str pe_str (pe_bm PySem.F.plainAttrs_str PySem.F.slot_str_join PySem.F.type_str_join mt_join pe_str
        (pa_cons (pe_comp ["number"] [Option.none] rfl (pi_tup (pv 3)) (fun _ => pg_name (i := 0) (show (["number"] : List Str).Nodup by decide +kernel) rfl (Or.inl rfl)) (fun _ => pts_nil)
          (fun _ => pe_call Gm hr rfl Dm.mg Dm.fn.kp Dm.bd .nil pass0 (pa_cons (pv 0) pa_nil)) (N := ["rooms", "arrows", "lines", "arrow"]) (ks := (defScope sLText).names) rfl rfl (by decide +kernel) (by decide +kernel) (by decide +kernel) (by decide +kernel)) pa_nil))) pa_nil)))))
    (pss_one (ps_ret (pe_bm PySem.F.plainAttrs_str PySem.F.slot_str_join PySem.F.type_str_join mt_join pe_str (pa_cons (pv 2) pa_nil))))), ?_⟩
  obtain ⟨ps, h2, h3⟩ := hR.ob
  obtain ⟨qs, h4, h5⟩ := hA.ob
  have hrl := hN.rl
  have hal := hN.al
  refine ⟨_, rfl, r, rfl, ⟨_, SqL.of h2⟩, fun bk D1 hD1 => ?_⟩
  refine comp_listA (K := K) (xs := ps.map V.ref) (Pv := fun i ys σ H' => ∃ v, σ = [v] ∧ ys = (R.take i).map (fun r => V.str (rLine r)) ∧ Same H H') ⟨_, rfl, rfl, same_new hD1 _⟩ ?_ ?_ ?_
  · rintro i ys σ H' hi hDi ⟨v, rfl, _, (s : Same _ _)⟩
    exact SqL.of (s _ _ h2)
  · rintro i x ys σ H' hx hDi ⟨v, rfl, hys, (s : Same _ _)⟩
    have hi : i < R.length := by
      have z := (List.getElem?_eq_some_iff.mp hx).1
      rw [List.length_map, h3.1, List.length_map] at z; exact z
    obtain ⟨p, hp, rfl⟩ : ∃ p, ps[i]? = some p ∧ V.ref p = x := by
      rw [List.getElem?_map] at hx
      cases z : ps[i]? with
      | none => rw [z] at hx; simp at hx
      | some p => rw [z] at hx; exact ⟨p, rfl, by simpa using hx⟩
    have hRi := List.getElem?_eq_getElem hi
    have hpi : H p = some (.tup (rV R[i])) := h3.2 i p _ hp (by rw [List.getElem?_map, hRi]; rfl)
    obtain ⟨n1, n2⟩ := hN.rn _ (List.getElem_mem hi)
    have w1 := (okW_un (n2.ok _ (show mk1 R[i].1 ∈ rWords R[i] by simp [rWords]))).2.2
    have w2 := (okW_un (n2.ok _ (show R[i].2 ∈ rWords R[i] by simp [rWords]))).2.2
    have l1 : ("room " : Str).length = 5 := by decide +kernel
    have l2 : (" " : Str).length = 1 := by decide +kernel
    refine ⟨_, rfl, p, _, _, _, rfl, rfl, SqT.of (s _ _ hpi), rfl, R[i].1, rfl, n1, _, _, rfl, rfl, Nat.le_of_lt (small1000 (by rw [l1]; omega)), _, _, rfl, rfl, Nat.le_of_lt (small1000 (by rw [len_app, l1, l2]; omega)), _, rfl, p, _, _, _, rfl, rfl, SqT.of (s _ _ hpi), rfl, _, _, rfl, rfl, Nat.le_of_lt (small1000 (by rw [len_app, len_app, l1, l2]; omega)), hDi, ?_, ⟨_, rfl, ?_, sameUpd s hD1 _⟩⟩
    · rw [hys, List.length_map, List.length_take]; exact small1000 (by omega)
    · rw [rLine_is, hys, List.take_succ, hRi, List.map_append]; rfl
  rintro ys σ H1 hDn ⟨v, rfl, hys, (s1 : Same _ _)⟩
  rw [List.length_map, h3.1, List.length_map, List.take_length] at hys
  subst hys
  refine ⟨_, rfl, a, rfl, ⟨_, SqL.of (s1 _ _ h4)⟩, ?_⟩
  refine for_list (K := K) (xs := qs.map V.ref) (fun i σ H' => ∃ v, σ = [some (.ref r), some (.ref a), some (.ref D1), v] ∧ Same H H' ∧ H' D1 = some (.lst (R.map (fun r => V.str (rLine r)) ++ (As.take i).map (fun a => V.str (aLine a))))) ⟨_, rfl, s1, by rw [List.take_zero, List.map_nil, List.append_nil]; exact hDn⟩ ?_ ?_ ?_
  · rintro i σ H' hi ⟨v, rfl, (s : Same _ _), _⟩
    exact SqL.of (s _ _ h4)
  · rintro i x σ H' hx ⟨v, rfl, (s : Same _ _), eD⟩
    have hi : i < As.length := by
      have z := (List.getElem?_eq_some_iff.mp hx).1
      rw [List.length_map, h5.1, List.length_map] at z; exact z
    obtain ⟨p, hp, rfl⟩ : ∃ p, qs[i]? = some p ∧ V.ref p = x := by
      rw [List.getElem?_map] at hx
      cases z : qs[i]? with
      | none => rw [z] at hx; simp at hx
      | some p => rw [z] at hx; exact ⟨p, rfl, by simpa using hx⟩
    have hAi := List.getElem?_eq_getElem hi
    have hpi : H p = some (.tup (aV As[i])) := h5.2 i p _ hp (by rw [List.getElem?_map, hAi]; rfl)
    have hn := hN.an _ (List.getElem_mem hi)
    refine ⟨_, rfl, .inl ⟨rfl, _, SqL.of eD⟩, rfl, _, rfl, p, rfl, ⟨_, SqT.of (s _ _ hpi)⟩, fun bk D2 hD2 => ?_⟩
    refine comp_tupA (K := K) (xs := aV As[i]) (Pv := fun j ys σ H2 => ∃ v, σ = [v] ∧ ys = ((aNums As[i]).take j).map (fun n => V.str (mk1 n)) ∧ Same H' H2) ⟨_, rfl, rfl, same_new hD2 _⟩ ?_ ?_ ?_
    · rintro j ys σ H2 hj hDj ⟨v, rfl, _, (s2 : Same _ _)⟩
      exact SqT.of (s2 _ _ (s _ _ hpi))
    · rintro j x ys σ H2 hx hDj ⟨v, rfl, hys, (s2 : Same _ _)⟩
      rw [aV_nums, List.getElem?_map] at hx
      cases z : (aNums As[i])[j]? with
      | none => rw [z] at hx; cases hx
      | some n =>
        rw [z] at hx
        cases hx
        have hj5 : j < 5 := (List.getElem?_eq_some_iff.mp z).1
        refine ⟨_, rfl, n, rfl, aNums_num hn z, hDj, ?_, ⟨_, rfl, ?_, sameUpd s2 hD2 _⟩⟩
        · rw [hys, List.length_map, List.length_take]
          exact small1000 (by show min j 5 ≤ 1000; omega)
        · rw [hys, List.take_succ, z, List.map_append]; rfl
    · rintro ys σ H2 hDn2 ⟨v, rfl, hys, (s2 : Same _ _)⟩
      have hys' : ys = (aMarks As[i]).map V.str := hys
      subst hys'
      have wl := line_len (aMarks_ok hn)
      have l1 : ("arrow " : Str).length = 6 := by decide +kernel
      refine ⟨sp1, D2, aMarks As[i], rfl, rfl, SqL.of hDn2, line_joinOk (aMarks_ok hn), _, _, rfl, rfl, Nat.le_of_lt (small1000 (by rw [l1]; omega)), D1, _, _, rfl, rfl, s2 _ _ eD, ?_, ?_⟩
      · rw [List.length_append, List.length_map, List.length_map, List.length_take]; exact small1000 (by omega)
      · refine ⟨_, rfl, sameUpd (s.trans s2) hD1 _, ?_⟩
        rw [upd_same, aLine_is, List.take_succ, hAi, List.map_append, List.append_assoc]; rfl
  · rintro σ H' ⟨v, rfl, (s : Same _ _), eD⟩
    rw [List.length_map, h5.1, List.length_map, List.take_length] at eD
    have eL : R.map (fun r => V.str (rLine r)) ++ As.map (fun a => V.str (aLine a)) = (linesOf R As).map V.str := by
      unfold linesOf
      rw [List.map_append, List.map_map, List.map_map]; rfl
    rw [eL] at eD
    refine ⟨rfl, _, rfl, nl1, D1, linesOf R As, rfl, rfl, SqL.of eD, lines_joinOk hN, ?_⟩
    exact q _ s
end
end Toy
namespace Toy
open PySem L2
seal PySem.wpAny
section
variable {P : Program} {w : World} {K : PySem.W.Frag} {mg : Str → Option Value} {base : Heap}
theorem wd_facts : ∀ n, n < 100 → (wd n).cps.all (fun c => decide (48 ≤ c) && decide (c ≤ 57)) = true ∧ (wd n).cps.all (fun c => decide (c < 128)) = true ∧ 1 ≤ (wd n).length ∧ (wd n).length ≤ 2 ∧ ¬ wd n = ("-" : Str) := by decide +kernel
def figS : Str := "0123456789"
theorem fig_in : ∀ c, c < 58 → 48 ≤ c → (!(Builtin.Str.occurrences figS ⟨#[c]⟩ 0 figS.length 1).isEmpty) = true := by decide +kernel
theorem len99 : (Str.ofString (toString (99 : Int))).length = 2 := by decide +kernel
theorem all_true (k : Nat) : (List.replicate k true).all id = true := by
  rw [List.all_eq_true]
  intro x hx
  rw [List.eq_of_mem_replicate hx]; rfl
def spReadNum : Sp := fun vs H Q _ => ∃ n : Int, vs = [.str (mk1 n)] ∧ Num n ∧ ∀ H', Same H H' → Q (.int n) H'
theorem scReadNum : FnScope ["word"] ["word"] (defScope sReadNum) := ⟨rfl, rfl, rfl, by decide +kernel, rfl, by decide +kernel, by decide +kernel⟩
theorem ok_readNum {f C : Addr} {fd : FuncData} (D : DefAt K mg "read_number" sReadNum ["word"] f fd) (T : Txt K mg C) (N : NTxt K mg) : FnOk P w K mg base CX0 1 f fd ["word"] spReadNum := by
  refine D.fn.ok scReadNum (fun vs H Q E h => ?_) (fun cdv A outer s H vs Q E hr h => ?_)
  · obtain ⟨n, rfl, _⟩ := h
    rfl
  obtain ⟨n, rfl, hn, q⟩ := h
  refine ⟨_, pss_cons (ps_if (pt_cmpR op_eq (pv 0) (pe_gstr N.dash rfl) (nomark _)) (pss_one (ps_ret (pe_gint T.nil rfl))) pss_nil)
    (pss_cons (ps_if (pt_not (pt_chain op_le op_le pe_int (pe_callB call_len_str (by rfl) T.len PySem.boot_len (pa_cons (pv 0) pa_nil)) (pe_callB call_len_str (by rfl) T.len PySem.boot_len (pa_cons (pe_callTy call_str_int (by rfl) N.tstr (by decide +kernel) (pa_cons (pe_gint T.lastD rfl) pa_nil)) pa_nil)))) pss_never pss_nil)
    (pss_cons (ps_if (pt_not (pt_val (pe_callB call_all_bools (by rfl) N.all (by decide +kernel) (pa_cons (pe_comp ["sign"] [Option.none] rfl (pi_str (pv 0)) (fun _ => pg_name (i := 0) (show (["sign"] : List Str).Nodup by decide +kernel) rfl (Or.inl rfl)) (fun _ => pts_nil)
        (fun _ => pe_cmpR op_in_str (pv 0) (pe_gstr N.fig rfl) (by rfl)) (N := ["word"]) (ks := (defScope sReadNum).names) rfl rfl (by decide +kernel) (by decide +kernel) (by decide +kernel) (by decide +kernel)) pa_nil)))) pss_never pss_nil)
    (pss_one (ps_ret (pe_callTy call_int_word (by rfl) T.tint (by decide +kernel) (pa_cons (pv 0) pa_nil)))))), ?_⟩
  refine ⟨_, rfl, rfl, _, rfl, ?_⟩
  rcases hn with rfl | ⟨k, rfl, hk⟩
  · refine ite2 (fun z => ?_) (fun z => absurd (decide_eq_true (by rw [mk1_none])) z)
    exact q H fun _ _ e => e
  · obtain ⟨f1, f2, f3, f4, f5⟩ := wd_facts k hk
    rw [mk1_nat]
    refine ite2 (fun z => absurd (of_decide_eq_true z) fun e => f5 (by injection e)) (fun _ => ?_)
    refine ⟨_, rfl, _, rfl, Nat.le_of_lt (small1000 (by omega)), _, _, rfl, rfl, _, rfl, ?_⟩
    refine ite2 (fun _ => ?_) (fun z => absurd (decide_eq_true (by omega)) z)
    refine ⟨_, rfl, small_log (i := 99) (by omega), _, rfl, Nat.le_of_lt (small1000 (by rw [len99]; decide)), _, _, rfl, rfl, _, rfl, ?_⟩
    refine ite2 (fun z => absurd z (by rw [decide_eq_true (show ((wd k).length : Int) ≤ ((Str.ofString (toString (99 : Int))).length : Int) by rw [len99]; omega)]; decide)) (fun _ => ?_)
    refine ⟨_, rfl, wd k, rfl, f2, fun bk D1 hD1 => ?_⟩
    refine comp_strA (x := wd k) (Pv := fun i ys σ H' => ∃ v, σ = [v] ∧ ys = (List.replicate i true).map V.bl ∧ Same H H') ⟨_, rfl, rfl, same_new hD1 _⟩ ?_ ?_
    · rintro i c ys σ H' hc hDi ⟨v, rfl, hys, (s : Same _ _)⟩
      have hi : i < (wd k).cps.size := (Array.getElem?_eq_some_iff.mp hc).1
      have hi' : (wd k).length = (wd k).cps.size := rfl
      have hc2 : (decide (48 ≤ c) && decide (c ≤ 57)) = true := by
        have := Array.all_eq_true.mp f1 i hi
        have e : (wd k).cps[i] = c := (Array.getElem?_eq_some_iff.mp hc).2
        rw [e] at this
        simpa using this
      rw [Bool.and_eq_true, decide_eq_true_iff, decide_eq_true_iff] at hc2
      refine ⟨_, rfl, _, _, rfl, rfl, hDi, by rw [hys, List.length_map, List.length_replicate]; exact small1000 (by omega), ⟨_, rfl, ?_, sameUpd s hD1 _⟩⟩
      rw [hys, List.replicate_succ', List.map_append]
      have := fig_in c (by omega) hc2.1
      show _ ++ [V.bl (!(Builtin.Str.occurrences figS ⟨#[c]⟩ 0 figS.length 1).isEmpty)] = _
      rw [this]; rfl
    · rintro ys σ H' hDn ⟨v, rfl, hys, (s : Same _ _)⟩
      subst hys
      refine ⟨rfl, D1, _, rfl, SqL.of hDn, _, rfl, ?_⟩
      rw [all_true]
      refine iteF ?_
      exact ⟨_, rfl, k, hk, rfl, q H' s⟩
end
end Toy
namespace Toy
open PySem L2
seal PySem.wpAny
section
variable {P : Program} {w : World} {K : PySem.W.Frag} {mg : Str → Option Value} {base : Heap}
theorem join_lenG {sep : Str} (hs1 : sep.length = 1) {ws : List Str} {n : Nat} (h : ∀ x ∈ ws, x.length ≤ n) : (Txt.join sep ws).length ≤ (n + 1) * ws.length := by
  rw [join_is]
  refine Nat.le_trans (StrLaws.join_length_le sep ws) ?_
  have hs : (ws.map (·.length)).sum ≤ n * ws.length := by
    induction ws with
    | nil => exact Nat.zero_le _
    | cons t ts ih =>
      have a := h t List.mem_cons_self
      have b := ih fun x hx => h x (List.mem_cons_of_mem _ hx)
      rw [List.map_cons, List.sum_cons, List.length_cons, Nat.mul_add]
      omega
  rw [hs1, Nat.add_mul]
  omega
theorem big_ok {n : Nat} (h : n ≤ 1000000) : n ≤ sizeLine := by
  rw [sizeLine_eq]; omega
theorem text_len {R : List Room1} {A : List Arrow} (h : ChartNum R A) : (textOf R A).length ≤ 13400 := by
  have h1 := join_lenG (sep := nl1) (by decide +kernel) (ws := linesOf R A) (n := 66) fun x hx => (lines_len h x hx).1
  have h2 := lines_count h
  have h3 : (66 + 1) * (linesOf R A).length ≤ 67 * 200 := Nat.mul_le_mul_left _ h2
  unfold textOf
  omega
theorem parts_le (x y : Str) : (Builtin.Str.partsBetween x (Builtin.Str.occurrences x y 0 x.length (x.length + 1)) y.length).length ≤ x.length + 2 := by
  rw [PyProof.Rows.len_partsBetween]
  have := StrLaws.occ_length_le x y 0 x.length (x.length + 1)
  omega
theorem text_split {R : List Room1} {A : List Arrow} (h : ChartNum R A) (h0 : R ≠ []) : Txt.split (textOf R A) nl1 = linesOf R A := by
  unfold textOf
  rw [nl1_is]
  refine split_join ?_ fun x hx => (lines_len h x hx).2
  unfold linesOf
  cases R with
  | nil => exact absurd rfl h0
  | cons r R => simp
def spRead (C : Addr) : Sp := fun vs H Q _ => ∃ (R : List Room1) (A : List Arrow), vs = [.str (textOf R A)] ∧ ChartNum R A ∧ R ≠ [] ∧ Good R ∧ A.length ≤ 20 ∧ (∀ a ∈ A, GoodA R a) ∧ ∀ (c : Addr) (H' : Hp), Same H H' → ChartAt C H' c R A → Q (.ref c) H'
theorem scRead : FnScope ["text", "rooms", "arrows", "line", "words", "chart"] ["text"] (defScope sRead) := ⟨rfl, rfl, rfl, by decide +kernel, rfl, by decide +kernel, by decide +kernel⟩
theorem ok_read {f C fi fs fn : Addr} {fd fdi fds fdn : FuncData} (D : DefAt K mg "read" sRead ["text"] f fd) (T : Txt K mg C) (N : NTxt K mg) (M : Mk K C fi) (bi : Binds K fdi ["self", "rooms", "arrows"] [])
    (Gi : FnOk P w K mg base CX0 6 fi fdi ["self", "rooms", "arrows"] (spInit C)) (Ds : DefAt K mg "shown" sShown ["chart"] fs fds) (Gs : FnOk P w K mg base CX0 3 fs fds ["chart"] (spShown C)) (Dn : DefAt K mg "read_number" sReadNum ["word"] fn fdn) : FnOk P w K mg base CX0 8 f fd ["text"] (spRead C) := by
  have Gn : FnOk P w K mg base CX0 1 fn fdn ["word"] spReadNum := ok_readNum Dn T N
  refine D.fn.ok scRead (fun vs H Q E h => ?_) (fun cdv A outer s H vs Q E hr h => ?_)
  · obtain ⟨R, A, rfl, _⟩ := h
    rfl
  obtain ⟨R, As, rfl, hN, h0, hG, h20, hA, q⟩ := h
  have hr1 : Room 1 _ := hr.mono (by decide)
  have hr3 : Room 3 _ := hr.mono (by decide)
  refine ⟨_, pss_cons (ps_set (i := 1) scRead.nd rfl (Or.inl rfl) (pe_lst pa_nil))
    (pss_cons (ps_set (i := 2) scRead.nd rfl (Or.inl rfl) (pe_lst pa_nil))
    (pss_cons (ps_for PassesOwn.never rfl (pi_list (pe_bm PySem.F.plainAttrs_str PySem.F.slot_str_split PySem.F.type_str_split mt_split (pv 0) (pa_cons pe_str pa_nil))) (pg_name (i := 3) scRead.nd rfl (Or.inl rfl))
      (pss_cons (ps_set (i := 4) scRead.nd rfl (Or.inl rfl) (pe_bm PySem.F.plainAttrs_str PySem.F.slot_str_split PySem.F.type_str_split mt_split (pv 3) (pa_cons pe_str pa_nil)))
      (pss_one (ps_if (PW.pt (pw_and (pt_cmpR op_eq (pe_ix ix_list (pv 4) pe_int (fun _ _ => rfl)) pe_str (nomark _)) (pw_and1 (pt_cmpR op_eq (pe_callB call_len_seq (by rfl) T.len PySem.boot_len (pa_cons (pv 4) pa_nil)) (pe_gint N.rw3 rfl) (nomark _)))))
        (pss_one (ps_expr (pe_bm PySem.F.plainAttrs_list PySem.F.slot_list_append PySem.F.type_list_append mt_append (pv 1) (pa_cons (pe_tup (pa_cons (pe_call Gn hr1 rfl Dn.mg Dn.fn.kp Dn.bd .nil pass0 (pa_cons (pe_ix ix_list (pv 4) pe_int (fun _ _ => rfl)) pa_nil)) (pa_cons (pe_ix ix_list (pv 4) pe_int (fun _ _ => rfl)) pa_nil))) pa_nil))))
        (pss_one (ps_if (PW.pt (pw_and (pt_cmpR op_eq (pe_ix ix_list (pv 4) pe_int (fun _ _ => rfl)) pe_str (nomark _)) (pw_and1 (pt_cmpR op_eq (pe_callB call_len_seq (by rfl) T.len PySem.boot_len (pa_cons (pv 4) pa_nil)) (pe_gint N.aw6 rfl) (nomark _)))))
          (pss_one (ps_expr (pe_bm PySem.F.plainAttrs_list PySem.F.slot_list_append PySem.F.type_list_append mt_append (pv 2) (pa_cons (pe_callTy call_tuple_of (by rfl) T.tup (by decide +kernel) (pa_cons (pe_comp ["word"] [Option.none] rfl (pi_list (pe_slice sl_list (pv 4) (po_some pe_int) po_none)) (fun _ => pg_name (i := 0) (show (["word"] : List Str).Nodup by decide +kernel) rfl (Or.inl rfl)) (fun _ => pts_nil)
            (fun _ => pe_call Gn hr1 rfl Dn.mg Dn.fn.kp Dn.bd .nil pass0 (pa_cons (pv 0) pa_nil)) (N := ["text", "rooms", "arrows", "line", "words", "chart"]) (ks := (defScope sRead).names) rfl rfl (by decide +kernel) (by decide +kernel) (by decide +kernel) (by decide +kernel)) pa_nil)) pa_nil))))
          pss_never))))))
    (pss_cons (ps_set (i := 5) scRead.nd rfl (Or.inl rfl) (pe_make M Gi hr rfl T.mgC bi .nil pass0 (pa_cons (pv 1) (pa_cons (pv 2) pa_nil))))
    (pss_cons (ps_if (pt_cmpR op_ne (pe_call Gs hr3 rfl Ds.mg Ds.fn.kp Ds.bd .nil pass0 (pa_cons (pv 5) pa_nil)) (pv 0) (nomark _)) pss_never pss_nil)
    (pss_one (ps_ret (pv 5))))))), ?_⟩
  have hrl := hN.rl
  have hal := hN.al
  refine ⟨(by show 0 ≤ sizeLine; decide), fun ro hro => ⟨(by show 0 ≤ sizeLine; decide), fun ar har => ?_⟩⟩
  have sa := same_new hro (.lst [])
  have sb := same_new har (.lst [])
  have har0 : H ar = Option.none := sa.free har
  have nra : ro ≠ ar := ne_of_none upd_same har
  have s0 := sa.trans sb
  have tl := text_len hN
  refine ⟨_, rfl, rfl, textOf R As, nl1, rfl, rfl, by decide +kernel, big_ok (by omega), big_ok (Nat.le_trans (parts_le _ _) (by omega)), (by rw [text_split hN h0]; exact big_ok (Nat.le_trans (lines_count hN) (by omega))), fun sl hsl => ⟨sl, rfl, ⟨_, SqL.of upd_same⟩, ?_⟩⟩
  have ssl := same_new hsl (.lst ((Txt.split (textOf R As) nl1).map V.str))
  have esl : (upd (upd (upd H ro (.lst [])) ar (.lst [])) sl (.lst ((Txt.split (textOf R As) nl1).map V.str))) sl = some (.lst ((linesOf R As).map V.str)) := by rw [upd_same, text_split hN h0]
  have ero := ssl _ _ (sb _ _ (show (upd H ro (.lst [])) ro = some (.lst []) from upd_same))
  have ear := ssl _ _ (show (upd (upd H ro (.lst [])) ar (.lst [])) ar = some (.lst []) from upd_same)
  have nsr : sl ≠ ro := (ne_of_none (sb _ _ (show (upd H ro (.lst [])) ro = some (.lst []) from upd_same)) hsl).symm
  have nsa : sl ≠ ar := (ne_of_none (show (upd (upd H ro (.lst [])) ar (.lst [])) ar = some (.lst []) from upd_same) hsl).symm
  have s1 := s0.trans ssl
  rw [text_split hN h0] at ero ear s1 ⊢
  rw [text_split hN h0] at esl
  generalize upd (upd (upd H ro (.lst [])) ar (.lst [])) sl (.lst ((linesOf R As).map V.str)) = H1 at esl ero ear s1 ⊢
  refine for_list (K := K) (xs := (linesOf R As).map V.str) (fun i σ H' => ∃ v3 v4 ps qs, σ = [some (.str (textOf R As)), some (.ref ro), some (.ref ar), v3, v4, Option.none] ∧ Same H H' ∧ H' sl = some (.lst ((linesOf R As).map V.str)) ∧ H' ro = some (.lst (ps.map V.ref)) ∧ Items H' ps ((R.take i).map rV) ∧ H' ar = some (.lst (qs.map V.ref)) ∧ Items H' qs ((As.take (i - R.length)).map aV))
    ⟨_, _, [], [], rfl, s1, esl, ero, ⟨by simp, fun j p o a1 => by simp at a1⟩, ear, ⟨by simp, fun j p o a1 => by simp at a1⟩⟩ ?_ ?_ ?_
  · rintro i σ H' hi ⟨v3, v4, ps, qs, rfl, _, e, _⟩
    exact SqL.of e
  · rintro i x σ H' hx ⟨v3, v4, ps, qs, rfl, (s : Same _ _), es', er', hI, ea', hJ⟩
    rw [List.getElem?_map] at hx
    by_cases hi : i < R.length
    · have hRi := List.getElem?_eq_getElem hi
      have hLi : (linesOf R As)[i]? = some (rLine R[i]) := by
        unfold linesOf
        rw [List.getElem?_append_left (by rw [List.length_map]; exact hi), List.getElem?_map, hRi]; rfl
      rw [hLi] at hx
      have hx' : x = V.str (rLine R[i]) := (Option.some.inj hx).symm
      subst hx'
      obtain ⟨n1, n2⟩ := hN.rn _ (List.getElem_mem hi)
      have ll := line_len n2
      refine ⟨_, rfl, rfl, rLine R[i], sp1, rfl, rfl, by decide +kernel, big_ok (by unfold rLine; omega), big_ok (Nat.le_trans (parts_le _ _) (by unfold rLine; omega)), ?_, fun wl hwl => ?_⟩
      · show (Txt.split (Txt.join sp1 (rWords R[i])) sp1).length ≤ sizeLine
        rw [line_split n2]; exact big_ok (by show 3 ≤ 1000000; decide)
      have esp : Txt.split (rLine R[i]) sp1 = rWords R[i] := line_split n2
      rw [esp]
      have sw := same_new hwl (.lst ((rWords R[i]).map V.str))
      have ew : (upd H' wl (.lst ((rWords R[i]).map V.str))) wl = some (.lst [.str "room", .str (mk1 R[i].1), .str R[i].2]) := upd_same
      have s2 := s.trans sw
      have es2 := sw _ _ es'
      have er2 := sw _ _ er'
      have ea2 := sw _ _ ea'
      have hI2 := hI.same sw
      have hJ2 := hJ.same sw
      generalize upd H' wl (.lst ((rWords R[i]).map V.str)) = H2 at s2 es2 er2 ea2 hI2 hJ2 ew ⊢
      refine ⟨_, rfl, wl, _, _, _, rfl, rfl, SqL.of ew, rfl, rfl, _, rfl, ?_⟩
      refine ite2 (fun _ => ?_) (fun z => absurd (decide_eq_true rfl) z)
      refine ⟨_, rfl, wl, _, rfl, .inl (SqL.of ew), rfl, _, rfl, ?_⟩
      refine ite2 (fun _ => ?_) (fun z => absurd (decide_eq_true rfl) z)
      refine ⟨_, rfl, .inl ⟨rfl, _, SqL.of er2⟩, _, rfl, wl, _, _, _, rfl, rfl, SqL.of ew, rfl, R[i].1, rfl, n1, fun H3 s3 => ?_⟩
      refine ⟨_, rfl, wl, _, _, _, rfl, rfl, SqL.of (s3 _ _ ew), rfl, (by show 2 ≤ sizeLine; decide), fun t ht => ?_⟩
      have st := same_new ht (.tup (rV R[i]))
      have nrt : ro ≠ t := ne_of_none (s3 _ _ er2) ht
      refine ⟨ro, _, _, rfl, rfl, (by rw [upd_ne nrt]; exact s3 _ _ er2), ?_, ?_⟩
      · rw [List.length_map, hI2.1, List.length_map, List.length_take]; exact small1000 (by omega)
      · have ne : ∀ b u, H2 b = some u → b ≠ ro → (upd (upd H3 t (.tup (rV R[i]))) ro (.lst (ps.map V.ref ++ [V.ref t]))) b = some u := fun b u e n => by
          rw [upd_ne n]; exact st _ _ (s3 _ _ e)
        refine ⟨_, _, ps ++ [t], qs, rfl, fun b u e => ne b u (s2 _ _ e) (ne_of_none e hro), ne _ _ es2 nsr, ?_, ?_, ne _ _ ea2 nra.symm, ?_⟩
        · rw [upd_same, List.map_append]; rfl
        · rw [List.take_succ, hRi, List.map_append]
          refine Items.snoc ⟨hI2.1, fun j p o a1 a2 => ne _ _ (hI2.2 j p o a1 a2) (ne_of (hI2.2 j p o a1 a2) er2 (by intro z; cases z))⟩ ?_
          show (upd (upd H3 t (.tup (rV R[i]))) ro (.lst (ps.map V.ref ++ [V.ref t]))) t = _
          rw [upd_ne nrt.symm, upd_same]
        · rw [show i + 1 - R.length = i - R.length by omega]
          exact ⟨hJ2.1, fun j p o a1 a2 => ne _ _ (hJ2.2 j p o a1 a2) (ne_of (hJ2.2 j p o a1 a2) er2 (by intro z; cases z))⟩
    · have hLl : i < (linesOf R As).length := by
        cases z : (linesOf R As)[i]? with
        | none => rw [z] at hx; cases hx
        | some _ => exact (List.getElem?_eq_some_iff.mp z).1
      have hi2 : i - R.length < As.length := by
        unfold linesOf at hLl
        rw [List.length_append, List.length_map, List.length_map] at hLl
        omega
      have hAi := List.getElem?_eq_getElem hi2
      have hLi : (linesOf R As)[i]? = some (aLine As[i - R.length]) := by
        unfold linesOf
        rw [List.getElem?_append_right (by rw [List.length_map]; omega), List.length_map, List.getElem?_map, hAi]; rfl
      rw [hLi] at hx
      have hx' : x = V.str (aLine As[i - R.length]) := (Option.some.inj hx).symm
      subst hx'
      have hn := hN.an _ (List.getElem_mem hi2)
      generalize As[i - R.length] = ao at hn hAi hLi ⊢
      have n2 := aWords_ok hn
      have ll := line_len n2
      refine ⟨_, rfl, rfl, aLine ao, sp1, rfl, rfl, by decide +kernel, big_ok (by unfold aLine; omega), big_ok (Nat.le_trans (parts_le _ _) (by unfold aLine; omega)), ?_, fun wl hwl => ?_⟩
      · show (Txt.split (Txt.join sp1 (aWords ao)) sp1).length ≤ sizeLine
        rw [line_split n2]; exact big_ok (by show 6 ≤ 1000000; decide)
      have esp : Txt.split (aLine ao) sp1 = aWords ao := line_split n2
      rw [esp]
      have sw := same_new hwl (.lst ((aWords ao).map V.str))
      have ew : (upd H' wl (.lst ((aWords ao).map V.str))) wl = some (.lst (.str "arrow" :: (aMarks ao).map V.str)) := upd_same
      have s2 := s.trans sw
      have es2 := sw _ _ es'
      have er2 := sw _ _ er'
      have ea2 := sw _ _ ea'
      have hI2 := hI.same sw
      have hJ2 := hJ.same sw
      generalize upd H' wl (.lst ((aWords ao).map V.str)) = H2 at s2 es2 er2 ea2 hI2 hJ2 ew ⊢
      refine ⟨_, rfl, wl, _, _, _, rfl, rfl, SqL.of ew, rfl, rfl, _, rfl, ?_⟩
      refine ite2 (fun z => absurd (of_decide_eq_true z) (by decide +kernel)) (fun _ => ?_)
      refine iteF ?_
      refine ⟨_, rfl, wl, _, _, _, rfl, rfl, SqL.of ew, rfl, rfl, _, rfl, ?_⟩
      refine ite2 (fun _ => ?_) (fun z => absurd (decide_eq_true rfl) z)
      refine ⟨_, rfl, wl, _, rfl, .inl (SqL.of ew), rfl, _, rfl, ?_⟩
      refine ite2 (fun _ => ?_) (fun z => absurd (decide_eq_true rfl) z)
      refine ⟨_, rfl, .inl ⟨rfl, _, SqL.of ea2⟩, _, rfl, 1, rfl, wl, _, rfl, SqL.of ew, fun l4 hl4 => ?_⟩
      have s4 := same_new hl4 (.lst (cutV (.str "arrow" :: (aMarks ao).map V.str) (some 1) Option.none))
      have e4 : (upd H2 l4 (.lst (cutV (.str "arrow" :: (aMarks ao).map V.str) (some 1) Option.none))) l4 = some (.lst ((aMarks ao).map V.str)) := by rw [upd_same, cut1]; rfl
      have ea4 := s4 _ _ ea2
      generalize upd H2 l4 (.lst (cutV (.str "arrow" :: (aMarks ao).map V.str) (some 1) Option.none)) = H4 at s4 e4 ea4 ⊢
      refine ⟨l4, rfl, ⟨_, SqL.of e4⟩, fun bk D1 hD1 => ?_⟩
      refine comp_listA (K := K) (xs := (aMarks ao).map V.str) (Pv := fun j ys σ H5 => ∃ v, σ = [v] ∧ ys = ((aNums ao).take j).map V.int ∧ Same H4 H5) ⟨_, rfl, rfl, same_new hD1 _⟩ ?_ ?_ ?_
      · rintro j ys σ H5 hj hDj ⟨v, rfl, _, (s5 : Same _ _)⟩
        exact SqL.of (s5 _ _ e4)
      · rintro j x ys σ H5 hx hDj ⟨v, rfl, hys, (s5 : Same _ _)⟩
        have em : (aMarks ao).map V.str = (aNums ao).map fun n => V.str (mk1 n) := rfl
        rw [em, List.getElem?_map] at hx
        cases z : (aNums ao)[j]? with
        | none => rw [z] at hx; cases hx
        | some n =>
          rw [z] at hx
          cases hx
          have hj5 : j < 5 := (List.getElem?_eq_some_iff.mp z).1
          refine ⟨_, rfl, n, rfl, aNums_num hn z, fun H6 s6 => ⟨s6 _ _ hDj, ?_, ⟨_, rfl, ?_, sameUpd (s5.trans s6) hD1 _⟩⟩⟩
          · rw [hys, List.length_map, List.length_take]
            exact small1000 (by show min j 5 ≤ 1000; omega)
          · rw [hys, List.take_succ, z, List.map_append]; rfl
      · rintro ys σ H5 hDn ⟨v, rfl, hys, (s5 : Same _ _)⟩
        have hys' : ys = aV ao := hys
        subst hys'
        refine ⟨D1, _, rfl, .inl ⟨SqL.of hDn, fun t ht => ?_⟩⟩
        have s25 := s4.trans s5
        have st := same_new ht (.tup (aV ao))
        have nat : ar ≠ t := ne_of_none (s5 _ _ ea4) ht
        refine ⟨ar, _, _, rfl, rfl, (by rw [upd_ne nat]; exact s5 _ _ ea4), ?_, ?_⟩
        · rw [List.length_map, hJ2.1, List.length_map, List.length_take]; exact small1000 (by omega)
        · have ne : ∀ b u, H2 b = some u → b ≠ ar → (upd (upd H5 t (.tup (aV ao))) ar (.lst (qs.map V.ref ++ [V.ref t]))) b = some u := fun b u e n => by
            rw [upd_ne n]; exact st _ _ (s25 _ _ e)
          refine ⟨_, _, ps, qs ++ [t], rfl, fun b u e => ne b u (s2 _ _ e) (ne_of_none e har0), ne _ _ es2 nsa, ne _ _ er2 nra, ?_, ?_, ?_⟩
          · rw [List.take_of_length_le (by omega)]
            rw [List.take_of_length_le (by omega)] at hI2
            exact ⟨hI2.1, fun j p o a1 a2 => ne _ _ (hI2.2 j p o a1 a2) (ne_of (hI2.2 j p o a1 a2) ea2 (by intro z; cases z))⟩
          · rw [upd_same, List.map_append]; rfl
          · rw [show i + 1 - R.length = (i - R.length) + 1 by omega, List.take_succ, hAi, List.map_append]
            refine Items.snoc ⟨hJ2.1, fun j p o a1 a2 => ne _ _ (hJ2.2 j p o a1 a2) (ne_of (hJ2.2 j p o a1 a2) ea2 (by intro z; cases z))⟩ ?_
            show (upd (upd H5 t (.tup (aV ao))) ar (.lst (qs.map V.ref ++ [V.ref t]))) t = _
            rw [upd_ne nat.symm, upd_same]
  · rintro σ H' ⟨v3, v4, ps, qs, rfl, (s : Same _ _), es', er', hI, ea', hJ⟩
    have hlen : ((linesOf R As).map V.str).length = R.length + As.length := by
      unfold linesOf
      rw [List.length_map, List.length_append, List.length_map, List.length_map]
    rw [hlen, List.take_of_length_le (by omega)] at hI
    rw [hlen, List.take_of_length_le (by omega)] at hJ
    refine ⟨_, rfl, _, rfl, fun c dx hc hdx ncd => ?_⟩
    have kc : ∀ x o, H' x = some o → (upd (upd H' dx (.own c)) c (.ins C dx [])) x = some o := fun x o e => by
      rw [upd_ne (ne_of_none e hc), upd_ne (ne_of_none e hdx)]; exact e
    refine ⟨c, dx, ro, ar, ps, qs, R, As, rfl, upd_same, kc _ _ er', hI.same fun x o e => kc _ _ e, kc _ _ ea', hJ.same fun x o e => kc _ _ e, hG, h20, hA, fun H11 k11 hCh => ⟨rfl, ?_⟩⟩
    have s11 : Same H' H11 := fun x o e => k11 _ _ (kc _ _ e) (ne_of_none e hc)
    have hC11 := hCh H11 fun x o e _ _ => e
    refine ⟨_, rfl, c, R, As, rfl, hC11, hN, fun H12 s12 => ⟨_, rfl, rfl, _, rfl, ?_⟩⟩
    refine ite2 (fun z => absurd z (by simp)) (fun _ => ?_)
    exact ⟨_, rfl, q c H12 (s.trans (s11.trans s12)) (hC11.same s12)⟩
end
end Toy
namespace Toy
open PySem L2
seal PySem.wpAny
section
variable {P : Program} {w : World} {K : PySem.W.Frag} {mg : Str → Option Value} {base : Heap}
def shapes (n : Nat) (ds : List PyData) : Prop := PyData.canLayAll0 ds = true ∧ PyData.depthAll ds ≤ n ∧ PyData.eqvAll ds ds = true
def shape (n : Nat) (d : PyData) : Prop := PyData.canLay0 d = true ∧ PyData.depth d ≤ n ∧ PyData.eqv d d = true
theorem shapes_map {β : Type} {g : β → PyData} {n : Nat} : ∀ bs : List β, (∀ b ∈ bs, shape n (g b)) → shapes n (bs.map g)
  | [], _ => ⟨rfl, by simp [PyData.depthAll], rfl⟩
  | b :: bs, h => by
    obtain ⟨i1, i2, i3⟩ := shapes_map bs fun x hx => h x (List.mem_cons_of_mem _ hx)
    obtain ⟨j1, j2, j3⟩ := h b List.mem_cons_self
    refine ⟨?_, ?_, ?_⟩
    · simp only [List.map_cons, PyData.canLayAll0, i1, j1, Bool.and_true]
    · simp only [List.map_cons, PyData.depthAll]; omega
    · simp only [List.map_cons, PyData.eqvAll, i3, j3, Bool.and_true]
theorem shape_list {n : Nat} {ds : List PyData} (h : shapes n ds) : shape (n + 1) (.list ds) := by
  obtain ⟨a, b, c⟩ := h
  exact ⟨by simpa only [PyData.canLay0] using a, by simp only [PyData.depth]; omega, by simpa only [PyData.eqv] using c⟩
theorem shape_tuple {n : Nat} {ds : List PyData} (h : shapes n ds) : shape (n + 1) (.tuple ds) := by
  obtain ⟨a, b, c⟩ := h
  exact ⟨by simpa only [PyData.canLay0] using a, by simp only [PyData.depth]; omega, by simpa only [PyData.eqv] using c⟩
theorem shape_int (i : Int) : shape 0 (.int i) := ⟨rfl, by simp [PyData.depth], by simp only [PyData.eqv, beq_self_eq_true]⟩
theorem shape_ints (xs : List Int) : shapes 0 (xs.map PyData.int) := shapes_map xs fun i _ => shape_int i
theorem shaped_of {n : Nat} {d : PyData} (h : shape n d) (hn : n ≤ 8) : SeqAt.shaped d = true := by
  obtain ⟨a, b, _⟩ := h
  unfold SeqAt.shaped
  rw [Bool.and_eq_true]
  exact ⟨a, decide_eq_true (by omega)⟩
end
end Toy
namespace Toy
open PySem L2
seal PySem.wpAny
section
variable {P : Program} {w : World} {K : PySem.W.Frag} {mg : Str → Option Value} {base : Heap}
def roomD (r : Room1) : PyData := .tuple [.int r.1, .str r.2]
def arrD (a : Arrow) : PyData := .tuple ([a.1, a.2.1, a.2.2.1, a.2.2.2.1, a.2.2.2.2].map PyData.int)
theorem items_rd {K : PySem.W.Frag} {H : Hp} {β : Type} {g : β → List V} {d : β → PyData} (hb : ∀ b p, H p = some (.tup (g b)) → RdV K H (.ref p) (d b)) : ∀ {ps : List Addr} {bs : List β}, Items H ps (bs.map g) → RdVs K H (ps.map V.ref) (bs.map d)
  | [], [], _ => .nil
  | [], _ :: _, h => by have := h.1; simp at this
  | _ :: _, [], h => by have := h.1; simp at this
  | p :: ps, b :: bs, h => .cons (hb b p (h.2 0 p (g b) rfl rfl)) (items_rd hb ⟨by have := h.1; simpa using this, fun i q o a1 a2 => h.2 (i + 1) q o (by simpa using a1) (by simpa using a2)⟩)
theorem rooms_rd {K : PySem.W.Frag} {H : Hp} {ps : List Addr} {R : List Room1} (h : Items H ps (R.map rV)) : RdVs K H (ps.map V.ref) (R.map roomD) :=
  items_rd (fun b p e => .tup (SqT.of e) (.cons (.int _) (.cons (.str _) .nil))) h
theorem arrs_rd {K : PySem.W.Frag} {H : Hp} {ps : List Addr} {A : List Arrow} (h : Items H ps (A.map aV)) : RdVs K H (ps.map V.ref) (A.map arrD) :=
  items_rd (fun b p e => .tup (SqT.of e) (.cons (.int _) (.cons (.int _) (.cons (.int _) (.cons (.int _) (.cons (.int _) .nil)))))) h
theorem shape_room {r : Room1} (h : PyData.strOk r.2 = true) : shape 1 (roomD r) := by
  refine ⟨?_, ?_, ?_⟩
  · simp only [roomD, PyData.canLay0, PyData.canLayAll0, h, Bool.and_true]
  · simp only [roomD, PyData.depth, PyData.depthAll]; omega
  · simp only [roomD, PyData.eqv, PyData.eqvAll, beq_self_eq_true, Bool.and_true]
theorem kind_ok {k : Str} (h : k = "plain" ∨ k = "one" ∨ k = "all" ∨ k = "keep") : PyData.strOk k = true := by
  rcases h with rfl | rfl | rfl | rfl <;> decide +kernel
theorem good_kind {R : List Room1} (hG : Good R) : ∀ r ∈ R, r.2 = "plain" ∨ r.2 = "one" ∨ r.2 = "all" ∨ r.2 = "keep" := fun r hr => by
  obtain ⟨i, hi, rfl⟩ := List.mem_iff_getElem.mp hr
  exact (hG.kind i _ (List.getElem?_eq_getElem hi)).1
theorem shape_R {R : List Room1} (hG : Good R) : shape 2 (.list (R.map roomD)) := shape_list (shapes_map R fun r hr => shape_room (kind_ok (good_kind hG r hr)))
theorem shape_A (A : List Arrow) : shape 2 (.list (A.map arrD)) := shape_list (shapes_map A fun a _ => shape_tuple (shape_ints _))
theorem chart_num {R : List Room1} (hG : Good R) {A : List Arrow} (h20 : A.length ≤ 20) (hA : ∀ a ∈ A, GoodA R a) : ChartNum R A := by
  have hm := hG.most
  refine ⟨fun r hr => ?_, fun a ha => num_good hG (hA a ha), by omega, by omega⟩
  obtain ⟨i, hi, rfl⟩ := List.mem_iff_getElem.mp hr
  have e := hsOf_get (List.getElem?_eq_getElem hi)
  have hn : Num R[i].1 := by
    rw [← e]
    by_cases h0 : i = 0
    · subst h0
      exact .inl hG.tree.root
    · have := hG.tree.up i (by omega) (by rw [hsOf_len]; exact hi)
      exact .inr ⟨(Rm.hold (hsOf R) i).toNat, by omega, by omega⟩
  exact ⟨hn, rWords_ok hn (good_kind hG _ (List.getElem_mem hi))⟩
end
end Toy
namespace Toy
open PySem L2
seal PySem.wpAny
section
variable {P : Program} {w : World} {K : PySem.W.Frag} {mg : Str → Option Value} {base : Heap}
def Asc (x : Str) : Prop := ∀ c ∈ x.cps.toList, c < 128
theorem asc_all {x : Str} (h : Asc x) : x.cps.all (fun c => decide (c < 128)) = true := by
  rw [Array.all_eq_true]
  intro i hi
  exact decide_eq_true (h _ (by rw [Array.mem_toList_iff]; exact Array.getElem_mem hi))
theorem fig_only : ∀ c, c < 128 → (!(Builtin.Str.occurrences figS ⟨#[c]⟩ 0 figS.length 1).isEmpty) = true → 48 ≤ c ∧ c < 58 := by decide +kernel
theorem fig_of {x : Str} (h : ∀ c ∈ x.cps.toList, 48 ≤ c ∧ c < 58) (h1 : 1 ≤ x.length) (h2 : x.length ≤ 2) : Fig x := by
  obtain ⟨⟨l⟩⟩ := x
  have h1' : 1 ≤ l.length := h1
  have h2' : l.length ≤ 2 := h2
  match l, h1', h2', h with
  | [a], _, _, h =>
    have := h a (by simp)
    exact ⟨a - 48, 0, by omega, by omega, .inl (by rw [show 48 + (a - 48) = a by omega])⟩
  | [a, b], _, _, h =>
    have ha := h a (by simp)
    have hb := h b (by simp)
    exact ⟨a - 48, b - 48, by omega, by omega, .inr (by rw [show 48 + (a - 48) = a by omega, show 48 + (b - 48) = b by omega])⟩
  | a :: b :: c :: r, _, h, _ => simp at h
def spReadNumX (CB : Addr) : Sp := fun vs H Q E => ∃ x : Str, vs = [.str x] ∧ Asc x ∧ x.length ≤ 1000 ∧ ∀ H', Same H H' → (∀ n, Num n → Q (.int n) H') ∧ E (.ref CB) Option.none H'
theorem ok_readNumX {f C CB : Addr} {fd : FuncData} (D : DefAt K mg "read_number" sReadNum ["word"] f fd) (T : Txt K mg C) (N : NTxt K mg) (B : BadTxt K mg CB) : FnOk P w K mg base (CXE P w) 1 f fd ["word"] (spReadNumX CB) := by
  refine D.fn.okX scReadNum (fun vs H Q E h => ?_) (fun cdv A outer s H vs Q E hr h => ?_)
  · obtain ⟨x, rfl, _⟩ := h
    rfl
  obtain ⟨x, rfl, ha, hl, q⟩ := h
  refine ⟨_, pss_cons (ps_if (pt_cmpR op_eq (pv 0) (pe_gstr N.dash rfl) (nomark _)) (pss_one (ps_ret (pe_gint T.nil rfl))) pss_nil)
    (pss_cons (ps_if (pt_not (pt_chain op_le op_le pe_int (pe_callB call_len_str (by rfl) T.len PySem.boot_len (pa_cons (pv 0) pa_nil)) (pe_callB call_len_str (by rfl) T.len PySem.boot_len (pa_cons (pe_callTy call_str_int (by rfl) N.tstr (by decide +kernel) (pa_cons (pe_gint T.lastD rfl) pa_nil)) pa_nil)))) (pss_one (ps_raise (E := E) wants_out rfl rfl B.mgB B.ex (pa_cons pe_str pa_nil))) pss_nil)
    (pss_cons (ps_if (pt_not (pt_val (pe_callB call_all_bools (by rfl) N.all (by decide +kernel) (pa_cons (pe_comp ["sign"] [Option.none] rfl (pi_str (pv 0)) (fun _ => pg_name (i := 0) (show (["sign"] : List Str).Nodup by decide +kernel) rfl (Or.inl rfl)) (fun _ => pts_nil)
        (fun _ => pe_cmpR op_in_str (pv 0) (pe_gstr N.fig rfl) (by rfl)) (N := ["word"]) (ks := (defScope sReadNum).names) rfl rfl (by decide +kernel) (by decide +kernel) (by decide +kernel) (by decide +kernel)) pa_nil)))) (pss_one (ps_raise (E := E) wants_out rfl rfl B.mgB B.ex (pa_cons pe_str pa_nil))) pss_nil)
    (pss_one (ps_ret (pe_callTy call_int_fig (by rfl) T.tint (by decide +kernel) (pa_cons (pv 0) pa_nil)))))), ?_⟩
  have q0 := q H fun _ _ e => e
  refine ⟨_, rfl, rfl, _, rfl, ?_⟩
  refine ite2 (fun z => ?_) (fun z => ?_)
  · exact q0.1 (-1) (.inl rfl)
  refine ⟨_, rfl, _, rfl, Nat.le_of_lt (small1000 (by omega)), _, _, rfl, rfl, _, rfl, ?_⟩
  by_cases h1 : 1 ≤ x.length
  · rw [decide_eq_true (show (1 : Int) ≤ (x.length : Int) by omega)]
    refine iteT ?_
    refine ⟨_, rfl, small_log (i := 99) (by omega), _, rfl, Nat.le_of_lt (small1000 (by rw [len99]; decide)), _, _, rfl, rfl, _, rfl, ?_⟩
    rw [len99]
    by_cases h2 : x.length ≤ 2
    · rw [decide_eq_true (show (x.length : Int) ≤ ((2 : Nat) : Int) by omega)]
      refine iteF ?_
      refine ⟨_, rfl, x, rfl, asc_all ha, fun bk D1 hD1 => ?_⟩
      refine comp_strA (x := x) (Pv := fun i ys σ H' => ∃ v, σ = [v] ∧ ys = ((x.cps.toList.take i).map (fun c => !(Builtin.Str.occurrences figS ⟨#[c]⟩ 0 figS.length 1).isEmpty)).map V.bl ∧ Same H H') ⟨_, rfl, rfl, same_new hD1 _⟩ ?_ ?_
      · rintro i c ys σ H' hc hDi ⟨v, rfl, hys, (s : Same _ _)⟩
        have hi : i < x.cps.size := (Array.getElem?_eq_some_iff.mp hc).1
        have hi' : x.length = x.cps.size := rfl
        have hc' : x.cps.toList[i]? = some c := by rw [Array.getElem?_toList]; exact hc
        refine ⟨_, rfl, _, _, rfl, rfl, hDi, by rw [hys, List.length_map, List.length_map, List.length_take]; exact small1000 (by omega), ⟨_, rfl, ?_, sameUpd s hD1 _⟩⟩
        rw [hys, List.take_succ, hc', List.map_append, List.map_append]; rfl
      · rintro ys σ H' hDn ⟨v, rfl, hys, (s : Same _ _)⟩
        have q1 := q H' s
        have hz : x.cps.toList.take x.cps.size = x.cps.toList := List.take_of_length_le (by rw [Array.length_toList]; exact Nat.le_refl _)
        rw [hz] at hys
        subst hys
        refine ⟨rfl, D1, _, rfl, SqL.of hDn, _, rfl, ?_⟩
        refine ite2 (fun z => ?_) (fun z => ?_)
        · exact ⟨by show 1 ≤ 100; decide, q1.2⟩
        · have hall : ((x.cps.toList.map (fun c => !(Builtin.Str.occurrences figS ⟨#[c]⟩ 0 figS.length 1).isEmpty)).all id) = true := by
            cases zz : ((x.cps.toList.map (fun c => !(Builtin.Str.occurrences figS ⟨#[c]⟩ 0 figS.length 1).isEmpty)).all id) with
            | true => rfl
            | false => rw [zz] at z; exact absurd rfl z
          refine ⟨_, rfl, x, rfl, fig_of (fun c hc => ?_) h1 h2, fun n hn => q1.1 n (.inr ⟨n, rfl, hn⟩)⟩
          exact fig_only c (ha c hc) (List.all_eq_true.mp hall _ (List.mem_map.mpr ⟨c, hc, rfl⟩))
    · rw [decide_eq_false (show ¬ (x.length : Int) ≤ ((2 : Nat) : Int) by omega)]
      refine iteT ?_
      exact ⟨by show 1 ≤ 100; decide, q0.2⟩
  · rw [decide_eq_false (show ¬ (1 : Int) ≤ (x.length : Int) by omega)]
    refine iteF ?_
    refine ⟨_, rfl, ?_⟩
    refine iteT ?_
    exact ⟨by show 1 ≤ 100; decide, q0.2⟩
end
end Toy
namespace Toy
open PySem L2
seal PySem.wpAny
section
variable {P : Program} {w : World} {K : PySem.W.Frag} {mg : Str → Option Value} {base : Heap}
theorem jn_sub {c : Nat} : ∀ {ls : List (List Nat)} {x : List Nat}, x ∈ ls → x.length ≤ (jn c ls).length ∧ ∀ d ∈ x, d ∈ jn c ls
  | [], _, h => by cases h
  | [y], x, h => by
    rw [List.mem_singleton.mp h]
    exact ⟨Nat.le_refl _, fun d hd => hd⟩
  | y :: z :: r, x, h => by
    have e : jn c (y :: z :: r) = y ++ c :: jn c (z :: r) := rfl
    rw [e]
    rcases List.mem_cons.mp h with rfl | h
    · exact ⟨by rw [List.length_append]; omega, fun d hd => List.mem_append_left _ hd⟩
    · obtain ⟨g1, g2⟩ := jn_sub (c := c) h
      exact ⟨by rw [List.length_append, List.length_cons]; omega, fun d hd => List.mem_append_right _ (List.mem_cons_of_mem _ (g2 d hd))⟩
theorem jn_cnt {c : Nat} : ∀ {ls : List (List Nat)}, ls.length ≤ (jn c ls).length + 1
  | [] => Nat.zero_le _
  | [y] => by simp
  | y :: z :: r => by
    have e : jn c (y :: z :: r) = y ++ c :: jn c (z :: r) := rfl
    have := jn_cnt (c := c) (ls := z :: r)
    rw [e, List.length_append, List.length_cons (a := y), List.length_cons (a := c)]
    omega
theorem split_cps (t : Str) (c : Nat) : t.cps.toList = jn c ((Txt.split t ⟨#[c]⟩).map fun x => x.cps.toList) := by
  rw [← join_cps, StrLaws.join_split]
theorem split_part {t : Str} {c : Nat} {x : Str} (h : x ∈ Txt.split t ⟨#[c]⟩) : x.length ≤ t.length ∧ ∀ d ∈ x.cps.toList, d ∈ t.cps.toList := by
  obtain ⟨g1, g2⟩ := jn_sub (c := c) (List.mem_map.mpr ⟨x, h, rfl⟩)
  rw [← split_cps] at g1 g2
  refine ⟨?_, g2⟩
  rw [Array.length_toList, Array.length_toList] at g1
  exact g1
theorem split_cnt (t : Str) (c : Nat) : (Txt.split t ⟨#[c]⟩).length ≤ t.length + 1 := by
  have := jn_cnt (c := c) (ls := (Txt.split t ⟨#[c]⟩).map fun x => x.cps.toList)
  rw [← split_cps, List.length_map, Array.length_toList] at this
  exact this
structure TxtOk (t : Str) : Prop where
  asc : Asc t
  len : t.length ≤ 10000
  few : (Txt.split t nl1).length ≤ 100
  short : ∀ l ∈ Txt.split t nl1, l.length ≤ 250
def NoChart (t : Str) : Prop := ∀ R A, okAll R A → ¬ textOf R A = t
def spReadBad (CB : Addr) : Sp := fun vs H Q E => ∃ t : Str, vs = [.str t] ∧ TxtOk t ∧ NoChart t ∧ ∀ H', Same H H' → E (.ref CB) Option.none H'
theorem ok_readX {f C CB fi fs fn : Addr} {fd fdi fds fdn : FuncData} (D : DefAt K mg "read" sRead ["text"] f fd) (T : Txt K mg C) (N : NTxt K mg) (B : BadTxt K mg CB) (M : Mk K C fi) (bi : Binds K fdi ["self", "rooms", "arrows"] [])
    (Gi : FnOk P w K mg base (CXE P w) 6 fi fdi ["self", "rooms", "arrows"] (spInitX C CB)) (Ds : DefAt K mg "shown" sShown ["chart"] fs fds) (Gs : FnOk P w K mg base CX0 3 fs fds ["chart"] (spShown C)) (Dn : DefAt K mg "read_number" sReadNum ["word"] fn fdn) : FnOk P w K mg base (CXE P w) 8 f fd ["text"] (spReadBad CB) := by
  have Gn : FnOk P w K mg base (CXE P w) 1 fn fdn ["word"] (spReadNumX CB) := ok_readNumX Dn T N B
  refine D.fn.okX scRead (fun vs H Q E h => ?_) (fun cdv A outer s H vs Q E hr h => ?_)
  · obtain ⟨t, rfl, _⟩ := h
    rfl
  obtain ⟨t, rfl, hT, hno, q⟩ := h
  have hr1 : Room 1 _ := hr.mono (by decide)
  have hr3 : Room 3 _ := hr.mono (by decide)
  refine ⟨_, pss_cons (ps_set (i := 1) scRead.nd rfl (Or.inl rfl) (pe_lst pa_nil))
    (pss_cons (ps_set (i := 2) scRead.nd rfl (Or.inl rfl) (pe_lst pa_nil))
    (pss_cons (ps_for passes_own0 rfl (pi_list (pe_bm PySem.F.plainAttrs_str PySem.F.slot_str_split PySem.F.type_str_split mt_split (pv 0) (pa_cons pe_str pa_nil))) (pg_name (i := 3) scRead.nd rfl (Or.inl rfl))
      (pss_cons (ps_set (i := 4) scRead.nd rfl (Or.inl rfl) (pe_bm PySem.F.plainAttrs_str PySem.F.slot_str_split PySem.F.type_str_split mt_split (pv 3) (pa_cons pe_str pa_nil)))
      (pss_one (ps_if (PW.pt (pw_and (pt_cmpR op_eq (pe_ix ix_list (pv 4) pe_int (fun _ _ => rfl)) pe_str (nomark _)) (pw_and1 (pt_cmpR op_eq (pe_callB call_len_seq (by rfl) T.len PySem.boot_len (pa_cons (pv 4) pa_nil)) (pe_gint N.rw3 rfl) (nomark _)))))
        (pss_one (ps_expr (pe_bm PySem.F.plainAttrs_list PySem.F.slot_list_append PySem.F.type_list_append mt_append (pv 1) (pa_cons (pe_tup (pa_cons (pe_call Gn hr1 rfl Dn.mg Dn.fn.kp Dn.bd .nil passes_on (pa_cons (pe_ix ix_list (pv 4) pe_int (fun _ _ => rfl)) pa_nil)) (pa_cons (pe_ix ix_list (pv 4) pe_int (fun _ _ => rfl)) pa_nil))) pa_nil))))
        (pss_one (ps_if (PW.pt (pw_and (pt_cmpR op_eq (pe_ix ix_list (pv 4) pe_int (fun _ _ => rfl)) pe_str (nomark _)) (pw_and1 (pt_cmpR op_eq (pe_callB call_len_seq (by rfl) T.len PySem.boot_len (pa_cons (pv 4) pa_nil)) (pe_gint N.aw6 rfl) (nomark _)))))
          (pss_one (ps_expr (pe_bm PySem.F.plainAttrs_list PySem.F.slot_list_append PySem.F.type_list_append mt_append (pv 2) (pa_cons (pe_callTy call_tuple_of (by rfl) T.tup (by decide +kernel) (pa_cons (pe_compX ["word"] [Option.none] rfl (pi_list (pe_slice sl_list (pv 4) (po_some pe_int) po_none)) (fun _ => pg_name (i := 0) (show (["word"] : List Str).Nodup by decide +kernel) rfl (Or.inl rfl)) (fun _ => pts_nil)
            (fun _ => pe_call Gn hr1 rfl Dn.mg Dn.fn.kp Dn.bd .nil passes_blk (pa_cons (pv 0) pa_nil)) (by decide +kernel) (by decide +kernel) (by decide +kernel) (by decide +kernel)) pa_nil)) pa_nil))))
          (pss_one (ps_raise (E := E) wants_out rfl rfl B.mgB B.ex (pa_cons pe_str pa_nil)))))))))
    (pss_cons (ps_set (i := 5) scRead.nd rfl (Or.inl rfl) (pe_make M Gi hr rfl T.mgC bi .nil passes_on (pa_cons (pv 1) (pa_cons (pv 2) pa_nil))))
    (pss_cons (ps_if (pt_cmpR op_ne (pe_call Gs hr3 rfl Ds.mg Ds.fn.kp Ds.bd .nil pass0 (pa_cons (pv 5) pa_nil)) (pv 0) (nomark _)) (pss_one (ps_raise (E := E) wants_out rfl rfl B.mgB B.ex (pa_cons pe_str pa_nil))) pss_nil)
    pss_never)))), ?_⟩
  have tl := hT.len
  refine ⟨(by show 0 ≤ sizeLine; decide), fun ro hro => ⟨(by show 0 ≤ sizeLine; decide), fun ar har => ?_⟩⟩
  have sa := same_new hro (.lst [])
  have sb := same_new har (.lst [])
  have har0 : H ar = Option.none := sa.free har
  have nra : ro ≠ ar := ne_of_none upd_same har
  have s0 := sa.trans sb
  refine ⟨_, rfl, rfl, t, nl1, rfl, rfl, by decide +kernel, big_ok (by omega), big_ok (Nat.le_trans (parts_le _ _) (by omega)), big_ok (Nat.le_trans hT.few (by omega)), fun sl hsl => ⟨sl, rfl, ⟨_, SqL.of upd_same⟩, ?_⟩⟩
  have ssl := same_new hsl (.lst ((Txt.split t nl1).map V.str))
  have esl : (upd (upd (upd H ro (.lst [])) ar (.lst [])) sl (.lst ((Txt.split t nl1).map V.str))) sl = some (.lst ((Txt.split t nl1).map V.str)) := upd_same
  have ero := ssl _ _ (sb _ _ (show (upd H ro (.lst [])) ro = some (.lst []) from upd_same))
  have ear := ssl _ _ (show (upd (upd H ro (.lst [])) ar (.lst [])) ar = some (.lst []) from upd_same)
  have nsr : sl ≠ ro := (ne_of_none (sb _ _ (show (upd H ro (.lst [])) ro = some (.lst []) from upd_same)) hsl).symm
  have nsa : sl ≠ ar := (ne_of_none (show (upd (upd H ro (.lst [])) ar (.lst [])) ar = some (.lst []) from upd_same) hsl).symm
  have s1 := s0.trans ssl
  have hfew := hT.few
  have hshort := hT.short
  have hascl : ∀ l ∈ Txt.split t nl1, Asc l := fun l hl c hc => hT.asc c ((split_part (c := 10) (by rw [← nl1_is]; exact hl)).2 c hc)
  generalize upd (upd (upd H ro (.lst [])) ar (.lst [])) sl (.lst ((Txt.split t nl1).map V.str)) = H1 at esl ero ear s1 ⊢
  generalize Txt.split t nl1 = Ls at esl hfew hshort hascl ⊢
  refine for_list (K := K) (xs := Ls.map V.str) (fun i σ H' => ∃ v3 v4 ps qs, ∃ (R : List Room1) (As : List Arrow), σ = [some (.str t), some (.ref ro), some (.ref ar), v3, v4, Option.none] ∧ Same H H' ∧ H' sl = some (.lst (Ls.map V.str)) ∧ H' ro = some (.lst (ps.map V.ref)) ∧ Items H' ps (R.map rV) ∧ H' ar = some (.lst (qs.map V.ref)) ∧ Items H' qs (As.map aV) ∧ R.length ≤ i ∧ As.length ≤ i ∧ ∀ r ∈ R, Asc r.2 ∧ r.2.length ≤ 250)
    ⟨_, _, [], [], [], [], rfl, s1, esl, ero, ⟨by simp, fun j p o a1 => by simp at a1⟩, ear, ⟨by simp, fun j p o a1 => by simp at a1⟩, Nat.zero_le _, Nat.zero_le _, fun r hr => by cases hr⟩ ?_ ?_ ?_
  · rintro i σ H' hi ⟨v3, v4, ps, qs, R, As, rfl, _, e, _⟩
    exact SqL.of e
  · rintro i x σ H' hx ⟨v3, v4, ps, qs, R, As, rfl, (s : Same _ _), es', er', hI, ea', hJ, hRl, hAl, hRk⟩
    rw [List.getElem?_map] at hx
    obtain ⟨l, hl, rfl⟩ : ∃ l, Ls[i]? = some l ∧ V.str l = x := by
      cases z : Ls[i]? with
      | none => rw [z] at hx; cases hx
      | some l => rw [z] at hx; exact ⟨l, rfl, by simpa using hx⟩
    have hiL := (List.getElem?_eq_some_iff.mp hl).1
    have hlm := List.mem_of_getElem? hl
    have hl250 := hshort l hlm
    have hlasc := hascl l hlm
    have hcnt : (Txt.split l sp1).length ≤ 251 := by
      have := split_cnt l 32
      rw [← sp1_is] at this
      omega
    have hpos := PyProof.Rows.split_pos l sp1
    have hwp : ∀ w ∈ Txt.split l sp1, Asc w ∧ w.length ≤ 250 := fun w hw => by
      obtain ⟨g1, g2⟩ := split_part (c := 32) (by rw [← sp1_is]; exact hw)
      exact ⟨fun c hc => hlasc c (g2 c hc), by omega⟩
    refine ⟨_, rfl, rfl, l, sp1, rfl, rfl, by decide +kernel, big_ok (by omega), big_ok (Nat.le_trans (parts_le _ _) (by omega)), big_ok (by omega), fun wl hwl => ?_⟩
    generalize Txt.split l sp1 = ws at hcnt hpos hwp ⊢
    have sw := same_new hwl (.lst (ws.map V.str))
    have ew : (upd H' wl (.lst (ws.map V.str))) wl = some (.lst (ws.map V.str)) := upd_same
    have s2 := s.trans sw
    have es2 := sw _ _ es'
    have er2 := sw _ _ er'
    have ea2 := sw _ _ ea'
    have hI2 := hI.same sw
    have hJ2 := hJ.same sw
    generalize upd H' wl (.lst (ws.map V.str)) = H2 at s2 es2 er2 ea2 hI2 hJ2 ew ⊢
    obtain ⟨w0, wr, rfl⟩ : ∃ w0 wr, ws = w0 :: wr := by
      cases ws with
      | nil => cases hpos
      | cons a r => exact ⟨a, r, rfl⟩
    have e0 : atI ((w0 :: wr).map V.str) 0 = some (.str w0) := atI_nat (j := 0) rfl
    have ene : ¬ ("room" : Str) = "arrow" := by decide +kernel
    refine ⟨_, rfl, wl, _, _, _, rfl, rfl, SqL.of ew, e0, rfl, _, rfl, ?_⟩
    by_cases h0 : w0 = "room"
    · rw [decide_eq_true (show V.str w0 = V.str "room" by rw [h0])]
      refine iteT ?_
      refine ⟨_, rfl, wl, _, rfl, .inl (SqL.of ew), rfl, _, rfl, ?_⟩
      by_cases h3 : (w0 :: wr).length = 3
      · rw [decide_eq_true (show V.int ((((w0 :: wr).map V.str).length : Nat) : Int) = V.int 3 by rw [List.length_map, h3]; rfl)]
        refine iteT ?_
        obtain ⟨w1, w2, rfl⟩ : ∃ w1 w2, wr = [w1, w2] := by
          match wr, h3 with
          | [a, b], _ => exact ⟨a, b, rfl⟩
        obtain ⟨a1, a2⟩ := hwp w1 (by simp)
        have a3 := hwp w2 (by simp)
        refine ⟨_, rfl, .inl ⟨rfl, _, SqL.of er2⟩, _, rfl, wl, _, _, _, rfl, rfl, SqL.of ew, rfl, w1, rfl, a1, by omega, fun H3 s3 => ⟨fun n hn => ?_, q H3 (s2.trans s3)⟩⟩
        refine ⟨_, rfl, wl, _, _, _, rfl, rfl, SqL.of (s3 _ _ ew), rfl, (by show 2 ≤ sizeLine; decide), fun t ht => ?_⟩
        have st := same_new ht (.tup (rV (n, w2)))
        have nrt : ro ≠ t := ne_of_none (s3 _ _ er2) ht
        refine ⟨ro, _, _, rfl, rfl, (by rw [upd_ne nrt]; exact s3 _ _ er2), ?_, ?_⟩
        · rw [List.length_map, hI2.1, List.length_map]; exact small1000 (by omega)
        · have ne : ∀ b u, H2 b = some u → b ≠ ro → (upd (upd H3 t (.tup (rV (n, w2)))) ro (.lst (ps.map V.ref ++ [V.ref t]))) b = some u := fun b u e n => by
            rw [upd_ne n]; exact st _ _ (s3 _ _ e)
          refine ⟨_, _, ps ++ [t], qs, R ++ [(n, w2)], As, rfl, fun b u e => ne b u (s2 _ _ e) (ne_of_none e hro), ne _ _ es2 nsr, ?_, ?_, ne _ _ ea2 nra.symm, ?_, by rw [List.length_append]; show R.length + 1 ≤ i + 1; omega, by omega, fun r hr => ?_⟩
          · rw [upd_same, List.map_append]; rfl
          · rw [List.map_append]
            refine Items.snoc ⟨hI2.1, fun j p o a1 a2 => ne _ _ (hI2.2 j p o a1 a2) (ne_of (hI2.2 j p o a1 a2) er2 (by intro z; cases z))⟩ ?_
            show (upd (upd H3 t (.tup (rV (n, w2)))) ro (.lst (ps.map V.ref ++ [V.ref t]))) t = _
            rw [upd_ne nrt.symm, upd_same]
          · exact ⟨hJ2.1, fun j p o a1 a2 => ne _ _ (hJ2.2 j p o a1 a2) (ne_of (hJ2.2 j p o a1 a2) er2 (by intro z; cases z))⟩
          · rcases List.mem_append.mp hr with z | z
            · exact hRk r z
            · rw [List.mem_singleton.mp z]; exact a3
      · rw [decide_eq_false (show ¬ V.int ((((w0 :: wr).map V.str).length : Nat) : Int) = V.int 3 from fun z => h3 (by injection z with z; rw [List.length_map] at z; omega))]
        refine iteF ?_
        refine ⟨_, rfl, wl, _, _, _, rfl, rfl, SqL.of ew, e0, rfl, _, rfl, ?_⟩
        rw [decide_eq_false (show ¬ V.str w0 = V.str "arrow" from fun z => ene (by injection z with z; rw [← h0]; exact z))]
        refine iteF ?_
        refine iteF ?_
        exact ⟨by show 1 ≤ 100; decide, q H2 s2⟩
    · rw [decide_eq_false (show ¬ V.str w0 = V.str "room" from fun z => h0 (by injection z))]
      refine iteF ?_
      refine iteF ?_
      refine ⟨_, rfl, wl, _, _, _, rfl, rfl, SqL.of ew, e0, rfl, _, rfl, ?_⟩
      by_cases h1 : w0 = "arrow"
      · rw [decide_eq_true (show V.str w0 = V.str "arrow" by rw [h1])]
        refine iteT ?_
        refine ⟨_, rfl, wl, _, rfl, .inl (SqL.of ew), rfl, _, rfl, ?_⟩
        by_cases h6 : (w0 :: wr).length = 6
        · rw [decide_eq_true (show V.int ((((w0 :: wr).map V.str).length : Nat) : Int) = V.int 6 by rw [List.length_map, h6]; rfl)]
          refine iteT ?_
          have h5 : wr.length = 5 := by simpa using h6
          refine ⟨_, rfl, .inl ⟨rfl, _, SqL.of ea2⟩, _, rfl, 1, rfl, wl, _, rfl, SqL.of ew, fun l4 hl4 => ?_⟩
          have s4 := same_new hl4 (.lst (cutV ((w0 :: wr).map V.str) (some 1) Option.none))
          have e4 : (upd H2 l4 (.lst (cutV ((w0 :: wr).map V.str) (some 1) Option.none))) l4 = some (.lst (wr.map V.str)) := by rw [upd_same, cut1]; rfl
          have ea4 := s4 _ _ ea2
          generalize upd H2 l4 (.lst (cutV ((w0 :: wr).map V.str) (some 1) Option.none)) = H4 at s4 e4 ea4 ⊢
          refine ⟨l4, rfl, ⟨_, SqL.of e4⟩, fun bk D1 hD1 => ?_⟩
          refine comp_listA (K := K) (xs := wr.map V.str) (Pv := fun j ys σ H5 => ∃ v ns, σ = [v] ∧ ys = ns.map V.int ∧ ns.length = j ∧ Same H4 H5) ⟨_, [], rfl, rfl, rfl, same_new hD1 _⟩ ?_ ?_ ?_
          · rintro j ys σ H5 hj hDj ⟨v, ns, rfl, _, _, (s5 : Same _ _)⟩
            exact SqL.of (s5 _ _ e4)
          · rintro j x ys σ H5 hx hDj ⟨v, ns, rfl, hys, hnl, (s5 : Same _ _)⟩
            rw [List.getElem?_map] at hx
            obtain ⟨wj, hwj, rfl⟩ : ∃ wj, wr[j]? = some wj ∧ V.str wj = x := by
              cases z : wr[j]? with
              | none => rw [z] at hx; cases hx
              | some wj => rw [z] at hx; exact ⟨wj, rfl, by simpa using hx⟩
            have hj5 := (List.getElem?_eq_some_iff.mp hwj).1
            obtain ⟨a1, a2⟩ := hwp wj (List.mem_cons_of_mem _ (List.mem_of_getElem? hwj))
            refine ⟨_, rfl, wj, rfl, a1, by omega, fun H6 s6 => ⟨fun n hn => ⟨s6 _ _ hDj, ?_, ⟨_, ns ++ [n], rfl, ?_, by simp [hnl], sameUpd (s5.trans s6) hD1 _⟩⟩, q H6 (s2.trans (s4.trans (s5.trans s6)))⟩⟩
            · rw [hys, List.length_map, hnl]; exact small1000 (by omega)
            · rw [hys, List.map_append]; rfl
          · rintro ys σ H5 hDn ⟨v, ns, rfl, hys, hnl, (s5 : Same _ _)⟩
            rw [List.length_map, h5] at hnl
            obtain ⟨ao, hao⟩ : ∃ ao : Arrow, ns.map V.int = aV ao := by
              match ns, hnl with
              | [a, b, c, d, e], _ => exact ⟨(a, b, c, d, e), rfl⟩
            rw [hao] at hys
            subst hys
            refine ⟨D1, _, rfl, .inl ⟨SqL.of hDn, fun t ht => ?_⟩⟩
            have s25 := s4.trans s5
            have st := same_new ht (.tup (aV ao))
            have nat : ar ≠ t := ne_of_none (s5 _ _ ea4) ht
            refine ⟨ar, _, _, rfl, rfl, (by rw [upd_ne nat]; exact s5 _ _ ea4), ?_, ?_⟩
            · rw [List.length_map, hJ2.1, List.length_map]; exact small1000 (by omega)
            · have ne : ∀ b u, H2 b = some u → b ≠ ar → (upd (upd H5 t (.tup (aV ao))) ar (.lst (qs.map V.ref ++ [V.ref t]))) b = some u := fun b u e n => by
                rw [upd_ne n]; exact st _ _ (s25 _ _ e)
              refine ⟨_, _, ps, qs ++ [t], R, As ++ [ao], rfl, fun b u e => ne b u (s2 _ _ e) (ne_of_none e har0), ne _ _ es2 nsa, ne _ _ er2 nra, ?_, ?_, ?_, by omega, by rw [List.length_append]; show As.length + 1 ≤ i + 1; omega, hRk⟩
              · exact ⟨hI2.1, fun j p o a1 a2 => ne _ _ (hI2.2 j p o a1 a2) (ne_of (hI2.2 j p o a1 a2) ea2 (by intro z; cases z))⟩
              · rw [upd_same, List.map_append]; rfl
              · rw [List.map_append]
                refine Items.snoc ⟨hJ2.1, fun j p o a1 a2 => ne _ _ (hJ2.2 j p o a1 a2) (ne_of (hJ2.2 j p o a1 a2) ea2 (by intro z; cases z))⟩ ?_
                show (upd (upd H5 t (.tup (aV ao))) ar (.lst (qs.map V.ref ++ [V.ref t]))) t = _
                rw [upd_ne nat.symm, upd_same]
        · rw [decide_eq_false (show ¬ V.int ((((w0 :: wr).map V.str).length : Nat) : Int) = V.int 6 from fun z => h6 (by injection z with z; rw [List.length_map] at z; omega))]
          refine iteF ?_
          exact ⟨by show 1 ≤ 100; decide, q H2 s2⟩
      · rw [decide_eq_false (show ¬ V.str w0 = V.str "arrow" from fun z => h1 (by injection z))]
        refine iteF ?_
        refine iteF ?_
        exact ⟨by show 1 ≤ 100; decide, q H2 s2⟩
  · rintro σ H' ⟨v3, v4, ps, qs, R, As, rfl, (s : Same _ _), es', er', hI, ea', hJ, hRl, hAl, hRk⟩
    rw [List.length_map] at hRl hAl
    refine ⟨_, rfl, _, rfl, fun c dx hc hdx ncd => ?_⟩
    have kc : ∀ x o, H' x = some o → (upd (upd H' dx (.own c)) c (.ins C dx [])) x = some o := fun x o e => by
      rw [upd_ne (ne_of_none e hc), upd_ne (ne_of_none e hdx)]; exact e
    refine ⟨c, dx, ro, ar, ps, qs, R, As, rfl, upd_same, kc _ _ er', hI.same fun x o e => kc _ _ e, kc _ _ ea', hJ.same fun x o e => kc _ _ e, by omega, by omega, fun i hi => ?_, fun H11 k11 => ⟨fun k1 k2 hCh => ⟨rfl, ?_⟩, fun k1 => ?_⟩⟩
    · rw [kindAt_get hi]
      obtain ⟨g1, g2⟩ := hRk _ (List.getElem_mem hi)
      have := StrLaws.reprText_len R[i].2 fun c hc => Nat.lt_of_lt_of_le (g1 c hc) (by decide)
      omega
    · have s11 : Same H' H11 := fun x o e => k11 _ _ (kc _ _ e) (ne_of_none e hc)
      have hC11 := hCh H11 fun x o e _ _ => e
      have hN := chart_num (good_of k1) k2.1 k2.2
      refine ⟨_, rfl, c, R, As, rfl, hC11, hN, fun H12 s12 => ⟨_, rfl, rfl, _, rfl, ?_⟩⟩
      have hne : decide (V.str (textOf R As) = V.str t) = false := decide_eq_false fun e => hno R As ⟨k1, k2⟩ (by injection e)
      rw [hne]
      refine iteT ?_
      exact ⟨by show 1 ≤ 100; decide, q H12 (s.trans (s11.trans s12))⟩
    · have s11 : Same H' H11 := fun x o e => k11 _ _ (kc _ _ e) (ne_of_none e hc)
      exact q H11 (s.trans s11)
end
end Toy
namespace Toy
open PySem L2
seal PySem.wpAny
section
variable {P : Program} {w : World} {K : PySem.W.Frag} {mg : Str → Option Value} {base : Heap}
theorem FnOk.up {nb : Bool} {k : Nat} {f : Addr} {fd : FuncData} {ps : List Str} {sp : Sp} (F : FnOk P w K mg base CX0 k f fd ps sp) : FnOk P w K mg base (CXN nb P w) k f fd ps sp :=
  ⟨F.len, fun A outer s H args us vs Q E hr he hb hv hs => codeAny_mono (F.run A outer s H args us vs Q E hr he hb hv hs) fun r s' hq => by
    cases r with
    | error e => exact False.elim hq
    | ok fl => cases fl <;> exact hq⟩
theorem FnOk.both {CX : CXT} {k : Nat} {f : Addr} {fd : FuncData} {ps : List Str} {sp sp' : Sp} (F : FnOk P w K mg base CX k f fd ps sp) (F' : FnOk P w K mg base CX k f fd ps sp') : FnOk P w K mg base CX k f fd ps (fun vs H Q E => sp vs H Q E ∨ sp' vs H Q E) :=
  ⟨fun vs H Q E h => h.elim (F.len vs H Q E) (F'.len vs H Q E), fun A outer s H args us vs Q E hr he hb hv hs => hs.elim (fun h => F.run A outer s H args us vs Q E hr he hb hv h) fun h => F'.run A outer s H args us vs Q E hr he hb hv h⟩
def spReadAll (C CB : Addr) : Sp := fun vs H Q E => spRead C vs H Q E ∨ spReadBad CB vs H Q E
structure ChartTxt (t : Str) (R : List Room1) (A : List Arrow) : Prop where
  is : t = textOf R A
  num : ChartNum R A
  ne : R ≠ []
  good : Good R
  al : A.length ≤ 20
  ga : ∀ a ∈ A, GoodA R a
def spReadBy : Sp := fun vs H Q _ => ∃ t : Str, vs = [.str t] ∧ ((∃ R A, ChartTxt t R A ∧ ∀ H', Same H H' → Q (.int 0) H') ∨ (TxtOk t ∧ NoChart t ∧ ∀ H', Same H H' → Q (.int 3) H'))
theorem scReadBy : FnScope ["text", "refused"] ["text"] (defScope sReadBy) := ⟨rfl, rfl, rfl, by decide +kernel, rfl, by decide +kernel, by decide +kernel⟩
theorem ok_readBy {f C CE CC CT CB fr : Addr} {fd fdr : FuncData} (D : DefAt K mg "_law_read_by" sReadBy ["text"] f fd) (T : Txt K mg C) (S : TakenTxt K mg CE CC CT CB) (Dr : DefAt K mg "read" sRead ["text"] fr fdr) (Gr : FnOk P w K mg base (CXE P w) 8 fr fdr ["text"] (spReadAll C CB)) : FnOk P w K mg base CX0 9 f fd ["text"] spReadBy := by
  refine D.fn.ok scReadBy (fun vs H Q E h => ?_) (fun cdv A outer s H vs Q E hr h => ?_)
  · obtain ⟨t, rfl, _⟩ := h
    rfl
  obtain ⟨t, rfl, h⟩ := h
  refine ⟨_, pss_cons (ps_set (i := 1) scReadBy.nd rfl (Or.inl rfl) pe_int)
    (pss_cons (ps_try (px_call Gr rfl hr rfl Dr.mg Dr.fn.kp Dr.bd (pa_cons (pv 0) pa_nil))
      (ph_cons rfl S.mgC S.bC (fun _ => pss_one (ps_set (i := 1) scReadBy.nd rfl (Or.inl rfl) pe_int))
      (ph_cons rfl S.mgT S.bT (fun _ => pss_one (ps_set (i := 1) scReadBy.nd rfl (Or.inl rfl) pe_int))
      (ph_cons rfl S.mgB S.bB (fun _ => pss_one (ps_set (i := 1) scReadBy.nd rfl (Or.inl rfl) pe_int)) ph_none))))
    (pss_one (ps_ret (pv 1)))), ?_⟩
  rcases h with ⟨R, As, hC, q⟩ | ⟨hT, hno, q⟩
  · have e := hC.is
    subst e
    refine ⟨_, rfl, .inl ⟨R, As, rfl, hC.num, hC.ne, hC.good, hC.al, hC.ga, fun c H' s' _ => ?_⟩⟩
    exact ⟨_, rfl, q H' s'⟩
  · refine ⟨_, rfl, .inr ⟨t, rfl, hT, hno, fun H' s' => ?_⟩⟩
    refine ⟨false, S.kC, ?_⟩
    refine iteF ?_
    refine ⟨false, S.kT, ?_⟩
    refine iteF ?_
    refine ⟨true, S.kB, ?_⟩
    refine iteT ?_
    exact ⟨_, rfl, q H' s'⟩
def spBaseT : Sp := fun vs H Q _ => ∃ t : Str, vs = [.str t] ∧ TxtOk t ∧ NoChart t ∧ ∀ H', Same H H' → Q (.bl true) H'
theorem scBaseT : FnScope ["text", "refused", "e"] ["text"] (defScope sBaseT) := ⟨rfl, rfl, rfl, by decide +kernel, rfl, by decide +kernel, by decide +kernel⟩
theorem ok_baseT {f C CE CC CT CB fr : Addr} {fd fdr : FuncData} (D : DefAt K mg "_law_base_takes" sBaseT ["text"] f fd) (T : Txt K mg C) (S : TakenTxt K mg CE CC CT CB) (Dr : DefAt K mg "read" sRead ["text"] fr fdr) (Gr : FnOk P w K mg base (CXE P w) 8 fr fdr ["text"] (spReadAll C CB)) : FnOk P w K mg base CX0 9 f fd ["text"] spBaseT := by
  refine D.fn.ok scBaseT (fun vs H Q E h => ?_) (fun cdv A outer s H vs Q E hr h => ?_)
  · obtain ⟨t, rfl, _⟩ := h
    rfl
  obtain ⟨t, rfl, hT, hno, q⟩ := h
  refine ⟨_, pss_cons (ps_set (i := 1) scBaseT.nd rfl (Or.inl rfl) pe_bl)
    (pss_cons (ps_try (px_call Gr rfl hr rfl Dr.mg Dr.fn.kp Dr.bd (pa_cons (pv 0) pa_nil))
      (ph_as (i := 2) rfl S.mgE S.bE scBaseT.nd rfl rfl (fun _ => pss_one (ps_set (i := 1) scBaseT.nd rfl (Or.inl rfl) (pe_callB (id := "isinstance") (call_isxK (K := K) rfl) (by rfl) T.inst (by decide +kernel) (pa_cons (pv 2) (pa_cons (pe_bltn (by rfl) S.vE (by decide +kernel) (v := .ty "ValueError") rfl) pa_nil))))) ph_none))
    (pss_one (ps_ret (pv 1)))), ?_⟩
  refine ⟨_, rfl, .inr ⟨t, rfl, hT, hno, fun H' s' => ?_⟩⟩
  refine ⟨true, S.kE, ?_⟩
  rw [if_pos rfl]
  intro x hx
  refine ⟨_, rfl, x, .ref CB, Option.none, "ValueError", rfl, upd_same, S.kV, ?_⟩
  exact ⟨_, rfl, q _ (sameUpd s' (by
    cases z : H x with
    | none => rfl
    | some o => have := s' _ _ z; rw [hx] at this; cases this) _)⟩
end
end Toy
namespace Toy
open PySem L2
seal PySem.wpAny
section
variable {P : Program} {w : World} {K : PySem.W.Frag} {mg : Str → Option Value} {base : Heap}
def KindW (k : Str) : Prop := k = "plain" ∨ k = "one" ∨ k = "all" ∨ k = "keep"
def GW (ws : List Str) : Prop := (∃ r : Room1, Num r.1 ∧ KindW r.2 ∧ ws = rWords r) ∨ (∃ a : Arrow, ANum a ∧ ws = aWords a)
def GL (l : Str) : Prop := ∃ ws, GW ws ∧ l = Txt.join sp1 ws
theorem gw_ok {ws : List Str} (h : GW ws) : WordsOk ws := by
  rcases h with ⟨r, h1, h2, rfl⟩ | ⟨a, h1, rfl⟩
  · exact rWords_ok h1 h2
  · exact aWords_ok h1
theorem asc_mk {n : Int} (h : Num n) : Asc (mk1 n) := by
  rcases h with rfl | ⟨k, rfl, hk⟩
  · rw [mk1_none]
    intro c hc
    have e : ("-" : Str).cps.toList = [45] := by decide +kernel
    rw [e] at hc
    rw [List.mem_singleton.mp hc]; decide
  · rw [mk1_nat]
    obtain ⟨_, f2, _⟩ := wd_facts k hk
    intro c hc
    rw [Array.mem_toList_iff] at hc
    obtain ⟨i, hi, rfl⟩ := Array.mem_iff_getElem.mp hc
    exact of_decide_eq_true (Array.all_eq_true.mp f2 i hi)
def ascB (x : Str) : Bool := x.cps.toList.all fun c => decide (c < 128)
theorem asc_of {x : Str} (h : ascB x = true) : Asc x := fun c hc => of_decide_eq_true (List.all_eq_true.mp h c hc)
theorem gw_asc {ws : List Str} (h : GW ws) : ∀ w ∈ ws, Asc w := by
  intro w hw
  rcases h with ⟨r, h1, h2, rfl⟩ | ⟨a, ⟨h1, h2, h3, h4, h5⟩, rfl⟩
  · simp only [rWords, List.mem_cons, List.not_mem_nil, or_false] at hw
    rcases hw with rfl | rfl | rfl
    · exact asc_of (by decide +kernel)
    · exact asc_mk h1
    · rcases h2 with e | e | e | e <;> rw [e] <;> exact asc_of (by decide +kernel)
  · simp only [aWords, List.mem_cons, List.not_mem_nil, or_false] at hw
    rcases hw with rfl | rfl | rfl | rfl | rfl | rfl
    · exact asc_of (by decide +kernel)
    · exact asc_mk h1
    · exact asc_mk h2
    · exact asc_mk h3
    · exact asc_mk h4
    · exact asc_mk h5
theorem not_gl {ws : List Str} (h0 : ws ≠ []) (hf : ∀ w ∈ ws, 32 ∉ w.cps.toList) (h : ¬ GW ws) : ¬ GL (Txt.join sp1 ws) := fun ⟨ws2, g, e⟩ => by
  have e1 : Txt.split (Txt.join sp1 ws) sp1 = ws := by
    rw [sp1_is]
    exact split_join h0 hf
  rw [e, line_split (gw_ok g)] at e1
  rw [← e1] at h
  exact h g
theorem lines_gl {R : List Room1} {A : List Arrow} (h : okAll R A) : ∀ l ∈ linesOf R A, GL l := by
  intro l hl
  have hG := good_of h.1
  have hN := chart_num hG h.2.1 h.2.2
  rcases List.mem_append.mp hl with z | z
  · obtain ⟨r, hr, rfl⟩ := List.mem_map.mp z
    exact ⟨_, .inl ⟨r, (hN.rn r hr).1, good_kind hG r hr, rfl⟩, rfl⟩
  · obtain ⟨a, ha, rfl⟩ := List.mem_map.mp z
    exact ⟨_, .inr ⟨a, hN.an a ha, rfl⟩, rfl⟩
structure LOk (Ls : List Str) : Prop where
  ne : Ls ≠ []
  free : ∀ l ∈ Ls, 10 ∉ l.cps.toList
  len : Ls.length ≤ 40
  short : ∀ l ∈ Ls, l.length ≤ 200
  asc : ∀ l ∈ Ls, Asc l
theorem LOk.split {Ls : List Str} (h : LOk Ls) : Txt.split (Txt.join nl1 Ls) nl1 = Ls := by
  rw [nl1_is]
  exact split_join h.ne h.free
theorem LOk.txt {Ls : List Str} (h : LOk Ls) : TxtOk (Txt.join nl1 Ls) := by
  have hl := h.len
  refine ⟨fun c hc => ?_, ?_, by rw [h.split]; omega, fun l hl => ?_⟩
  · rw [nl1_is, join_is, join_cps] at hc
    rcases jn_mem hc with z | ⟨x, hx, z⟩
    · rw [z]; decide
    · obtain ⟨p, hp, rfl⟩ := List.mem_map.mp hx
      exact h.asc p hp c z
  · have := join_lenG (sep := nl1) (by decide +kernel) h.short
    have h3 : (200 + 1) * Ls.length ≤ 201 * 40 := Nat.mul_le_mul_left _ hl
    omega
  · rw [h.split] at hl
    have := h.short l hl
    omega
theorem LOk.no {Ls : List Str} (h : LOk Ls) (hn : ∀ R A, okAll R A → ¬ linesOf R A = Ls) : NoChart (Txt.join nl1 Ls) := fun R A hok e => by
  have hG := good_of hok.1
  have hN := chart_num hG hok.2.1 hok.2.2
  have h0 : R ≠ [] := fun e => by
    have := hok.1.1.1
    rw [e] at this
    cases this
  have e1 := text_split hN h0
  rw [e, h.split] at e1
  exact hn R A hok e1.symm
theorem LOk.bad {Ls : List Str} (h : LOk Ls) (hb : ∃ l ∈ Ls, ¬ GL l) : NoChart (Txt.join nl1 Ls) := h.no fun R A hok e => by
  obtain ⟨l, hl, hg⟩ := hb
  exact hg (lines_gl hok l (by rw [e]; exact hl))
structure Spoilt (x : Str) : Prop where
  parts : ∃ xs : List Str, xs ≠ [] ∧ x = Txt.join nl1 xs ∧ (∀ y ∈ xs, 10 ∉ y.cps.toList ∧ y.length ≤ 200) ∧ xs.length ≤ 2 ∧ ∃ y ∈ xs, ¬ GL y
  asc : Asc x
  len : x.length ≤ 300
theorem spoilt_one {x : Str} (h1 : 10 ∉ x.cps.toList) (h2 : x.length ≤ 200) (h3 : Asc x) (h4 : ¬ GL x) : Spoilt x :=
  ⟨⟨[x], by simp, by rw [join_is]; rfl, fun y hy => by rw [List.mem_singleton.mp hy]; exact ⟨h1, h2⟩, by simp, x, List.mem_singleton_self x, h4⟩, h3, by omega⟩
theorem jn_flat {c : Nat} {xs : List (List Nat)} (hx : xs ≠ []) : ∀ {A B : List (List Nat)}, jn c (A ++ jn c xs :: B) = jn c (A ++ xs ++ B)
  | [], B => by
    induction xs with
    | nil => exact absurd rfl hx
    | cons y r ih =>
      cases r with
      | nil => rfl
      | cons z r =>
        have ih' := ih (by simp)
        cases B with
        | nil =>
          show jn c (y :: z :: r) = jn c ((y :: z :: r) ++ [])
          rw [List.append_nil]
        | cons b B =>
          have ih2 : jn c (z :: r) ++ c :: jn c (b :: B) = jn c ((z :: r) ++ (b :: B)) := ih'
          show (y ++ c :: jn c (z :: r)) ++ c :: jn c (b :: B) = y ++ c :: jn c ((z :: r) ++ (b :: B))
          rw [List.append_assoc, List.cons_append, ih2]
  | [a], B => by
    have := jn_flat (c := c) hx (A := []) (B := B)
    cases h : xs ++ B with
    | nil =>
      cases xs with
      | nil => exact absurd rfl hx
      | cons _ _ => cases h
    | cons u w =>
      have e : ([a] ++ xs ++ B) = a :: u :: w := by rw [List.append_assoc, h]; rfl
      have e2 : ([] ++ xs ++ B) = u :: w := by rw [List.nil_append, h]
      rw [e2] at this
      rw [e]
      show a ++ c :: jn c (jn c xs :: B) = a ++ c :: jn c (u :: w)
      rw [show jn c (jn c xs :: B) = jn c (u :: w) from this]
  | a :: a2 :: A, B => by
    have := jn_flat (c := c) hx (A := a2 :: A) (B := B)
    show a ++ c :: jn c (a2 :: (A ++ jn c xs :: B)) = a ++ c :: jn c (a2 :: (A ++ xs ++ B))
    rw [show jn c (a2 :: (A ++ jn c xs :: B)) = jn c (a2 :: (A ++ xs ++ B)) from this]
theorem spoilt_text {As Bs : List Str} {x : Str} (h : Spoilt x) (h1 : ∀ l ∈ As ++ Bs, 10 ∉ l.cps.toList ∧ l.length ≤ 200 ∧ Asc l) (h2 : (As ++ Bs).length ≤ 38) : TxtOk (Txt.join nl1 (As ++ x :: Bs)) ∧ NoChart (Txt.join nl1 (As ++ x :: Bs)) := by
  obtain ⟨xs, x0, hx, x1, x2, x3⟩ := h.parts
  have e : Txt.join nl1 (As ++ x :: Bs) = Txt.join nl1 (As ++ xs ++ Bs) := by
    refine cps_inj ?_
    rw [nl1_is, join_is, join_is, join_cps, join_cps, List.map_append, List.map_cons, List.map_append, List.map_append]
    have ex : x.cps.toList = jn 10 (xs.map fun x => x.cps.toList) := by rw [hx, nl1_is, join_is, join_cps]
    rw [ex]
    exact jn_flat (by cases xs with | nil => exact absurd rfl x0 | cons _ _ => simp)
  have hasc : ∀ y ∈ xs, Asc y := fun y hy c hc => h.asc c (by
    rw [hx, nl1_is, join_is, join_cps]
    exact (jn_sub (List.mem_map.mpr ⟨y, hy, rfl⟩)).2 c hc)
  have hL : LOk (As ++ xs ++ Bs) := by
    refine ⟨by cases xs with | nil => exact absurd rfl x0 | cons _ _ => simp, fun l hl => ?_, ?_, fun l hl => ?_, fun l hl => ?_⟩
    · rcases List.mem_append.mp hl with z | z
      · rcases List.mem_append.mp z with z | z
        · exact (h1 l (List.mem_append_left _ z)).1
        · exact (x1 l z).1
      · exact (h1 l (List.mem_append_right _ z)).1
    · rw [List.length_append] at h2
      rw [List.length_append, List.length_append]
      omega
    · rcases List.mem_append.mp hl with z | z
      · rcases List.mem_append.mp z with z | z
        · exact (h1 l (List.mem_append_left _ z)).2.1
        · exact (x1 l z).2
      · exact (h1 l (List.mem_append_right _ z)).2.1
    · rcases List.mem_append.mp hl with z | z
      · rcases List.mem_append.mp z with z | z
        · exact (h1 l (List.mem_append_left _ z)).2.2
        · exact hasc l z
      · exact (h1 l (List.mem_append_right _ z)).2.2
  rw [e]
  obtain ⟨y, hy, hg⟩ := x3
  exact ⟨hL.txt, hL.bad ⟨y, List.mem_append_left _ (List.mem_append_right _ hy), hg⟩⟩
end
end Toy
namespace Toy
open PySem L2
seal PySem.wpAny
section
variable {P : Program} {w : World} {K : PySem.W.Frag} {mg : Str → Option Value} {base : Heap}
theorem wd_shape : ∀ n, n < 100 → (wd n).cps.toList.length = 1 ∨ ((wd n).cps.toList.length = 2 ∧ (wd n).cps.toList.all (fun c => decide (48 ≤ c) && decide (c < 58)) = true ∧ (wd n).cps.toList.head? ≠ some 48) := by decide +kernel
def isMk (w : Str) : Prop := ∃ n, Num n ∧ w = mk1 n
theorem mk_shape {w : Str} (h : isMk w) : w.cps.toList.length = 1 ∨ (w.cps.toList.length = 2 ∧ (∀ c ∈ w.cps.toList, 48 ≤ c ∧ c < 58) ∧ w.cps.toList.head? ≠ some 48) := by
  obtain ⟨n, hn, rfl⟩ := h
  rcases hn with rfl | ⟨k, rfl, hk⟩
  · rw [mk1_none]; exact .inl (by decide +kernel)
  · rw [mk1_nat]
    rcases wd_shape k hk with z | ⟨z1, z2, z3⟩
    · exact .inl z
    · refine .inr ⟨z1, fun c hc => ?_, z3⟩
      have := List.all_eq_true.mp z2 c hc
      rw [Bool.and_eq_true, decide_eq_true_iff, decide_eq_true_iff] at this
      exact this
theorem mk_pos {w : Str} (h : isMk w) : 1 ≤ w.cps.toList.length := by
  rcases mk_shape h with z | z
  · omega
  · omega
theorem kind_pos {w : Str} (h : KindW w) : 1 ≤ w.cps.toList.length := by
  rcases h with rfl | rfl | rfl | rfl <;> decide +kernel
theorem gw_len {ws : List Str} (h : GW ws) : (ws.length = 3 ∧ ws[0]? = some ("room" : Str) ∧ (∀ w, ws[1]? = some w → isMk w) ∧ ∀ w, ws[2]? = some w → KindW w) ∨ (ws.length = 6 ∧ ws[0]? = some ("arrow" : Str) ∧ ∀ (i : Nat) w, 0 < i → ws[i]? = some w → isMk w) := by
  rcases h with ⟨r, h1, h2, rfl⟩ | ⟨a, ⟨h1, h2, h3, h4, h5⟩, rfl⟩
  · refine .inl ⟨rfl, rfl, fun w hw => ?_, fun w hw => ?_⟩
    · cases hw; exact ⟨_, h1, rfl⟩
    · cases hw; exact h2
  · refine .inr ⟨rfl, rfl, fun i w hi hw => ?_⟩
    match i, hi, hw with
    | 1, _, hw => cases hw; exact ⟨_, h1, rfl⟩
    | 2, _, hw => cases hw; exact ⟨_, h2, rfl⟩
    | 3, _, hw => cases hw; exact ⟨_, h3, rfl⟩
    | 4, _, hw => cases hw; exact ⟨_, h4, rfl⟩
    | 5, _, hw => cases hw; exact ⟨_, h5, rfl⟩
    | i + 6, _, hw => cases hw
theorem add_not {w v : Str} (hw : isMk w ∨ KindW w) (hv : v ∈ (["a", ".", "_", "\t", "9999", "-"] : List Str)) : ¬ isMk (w ++ v) ∧ ¬ KindW (w ++ v) := by
  have lw : 1 ≤ w.cps.toList.length := hw.elim mk_pos kind_pos
  have vs : ∃ c r, v.cps.toList = c :: r ∧ (r = [] ∧ ¬ (48 ≤ c ∧ c < 58) ∨ r.length = 3) ∧ ∀ k : Str, KindW k → k.cps.toList.getLast? ≠ (c :: r).getLast? := by
    simp only [List.mem_cons, List.not_mem_nil, or_false] at hv
    rcases hv with rfl | rfl | rfl | rfl | rfl | rfl
    · exact ⟨97, [], by decide +kernel, .inl ⟨rfl, by decide⟩, fun k hk => by rcases hk with rfl | rfl | rfl | rfl <;> decide +kernel⟩
    · exact ⟨46, [], by decide +kernel, .inl ⟨rfl, by decide⟩, fun k hk => by rcases hk with rfl | rfl | rfl | rfl <;> decide +kernel⟩
    · exact ⟨95, [], by decide +kernel, .inl ⟨rfl, by decide⟩, fun k hk => by rcases hk with rfl | rfl | rfl | rfl <;> decide +kernel⟩
    · exact ⟨9, [], by decide +kernel, .inl ⟨rfl, by decide⟩, fun k hk => by rcases hk with rfl | rfl | rfl | rfl <;> decide +kernel⟩
    · exact ⟨57, [57, 57, 57], by decide +kernel, .inr rfl, fun k hk => by rcases hk with rfl | rfl | rfl | rfl <;> decide +kernel⟩
    · exact ⟨45, [], by decide +kernel, .inl ⟨rfl, by decide⟩, fun k hk => by rcases hk with rfl | rfl | rfl | rfl <;> decide +kernel⟩
  obtain ⟨c, r, e, h1, h2⟩ := vs
  refine ⟨fun h => ?_, fun h => ?_⟩
  · have hs := mk_shape h
    rw [cps_app, e, List.length_append, List.length_cons] at hs
    rcases hs with z | ⟨z1, z2, z3⟩
    · omega
    · rcases h1 with ⟨rfl, hc⟩ | hr
      · exact hc (z2 c (by simp))
      · omega
  · refine h2 (w ++ v) h ?_
    rw [cps_app, e, List.getLast?_append]
    cases z : (c :: r).getLast? with
    | none => simp at z
    | some _ => rfl
theorem nought_not {w : Str} (hw : isMk w ∨ KindW w) : ¬ isMk (("0" : Str) ++ w) ∧ ¬ KindW (("0" : Str) ++ w) := by
  have lw : 1 ≤ w.cps.toList.length := hw.elim mk_pos kind_pos
  have e : ("0" : Str).cps.toList = [48] := by decide +kernel
  refine ⟨fun h => ?_, fun h => ?_⟩
  · have hs := mk_shape h
    rw [cps_app, e, List.length_append, List.length_cons] at hs
    rcases hs with z | ⟨z1, z2, z3⟩
    · rw [List.length_nil] at z; omega
    · exact z3 rfl
  · have : ∀ k : Str, KindW k → k.cps.toList.head? ≠ some 48 := fun k hk => by rcases hk with rfl | rfl | rfl | rfl <;> decide +kernel
    refine this _ h ?_
    rw [cps_app, e]; rfl
def badW : List Str := ["00", "+0", "", "-1", "--", "0_1", "1e1", "\n", "0.", "x"]
theorem wd_badB : ∀ n, n < 100 → badW.all (fun v => decide (v ≠ wd n)) = true := by decide +kernel
theorem bad_not {v : Str} (hv : v ∈ badW) : ¬ isMk v := fun ⟨n, hn, e⟩ => by
  rcases hn with rfl | ⟨k, rfl, hk⟩
  · rw [mk1_none] at e
    rw [e] at hv
    exact absurd hv (by decide +kernel)
  · rw [mk1_nat] at e
    exact of_decide_eq_true (List.all_eq_true.mp (wd_badB k hk) v hv) e
theorem set_not {ws : List Str} (h : GW ws) {i : Nat} (hi : i < ws.length) {v : Str} (h1 : 0 < i → ¬ isMk v ∧ (¬ KindW v ∨ i = 1)) (h0 : i = 0 → v ≠ "room" ∧ v ≠ "arrow") : ¬ GW (ws.set i v) := fun g => by
  have hl : (ws.set i v).length = ws.length := List.length_set
  have hv : (ws.set i v)[i]? = some v := by rw [List.getElem?_set_self hi]
  by_cases z : i = 0
  · obtain ⟨a1, a2⟩ := h0 z
    subst z
    rcases gw_len g with ⟨_, g0, _⟩ | ⟨_, g0, _⟩
    · rw [hv] at g0; cases g0; exact a1 rfl
    · rw [hv] at g0; cases g0; exact a2 rfl
  · obtain ⟨b1, b2⟩ := h1 (by omega)
    rcases gw_len g with ⟨g3, _, g1, g2⟩ | ⟨_, _, g1⟩
    · by_cases z1 : i = 1
      · subst z1; exact b1 (g1 v hv)
      · have z2 : i = 2 := by omega
        subst z2
        rcases b2 with b2 | b2
        · exact b2 (g2 v hv)
        · omega
    · exact b1 (g1 i v (by omega) hv)
end
end Toy
namespace Toy
open PySem L2
seal PySem.wpAny
section
variable {P : Program} {w : World} {K : PySem.W.Frag} {mg : Str → Option Value} {base : Heap}
theorem jn_cons {c : Nat} {v : List Nat} {A : List (List Nat)} (h : A ≠ []) : jn c (v :: A) = v ++ c :: jn c A := by
  cases A with
  | nil => exact absurd rfl h
  | cons a A => rfl
theorem jn_snoc {c : Nat} {v : List Nat} : ∀ {A : List (List Nat)}, A ≠ [] → jn c (A ++ [v]) = jn c A ++ c :: v
  | [], h => absurd rfl h
  | [a], _ => rfl
  | a :: b :: A, _ => by
    show a ++ c :: jn c ((b :: A) ++ [v]) = (a ++ c :: jn c (b :: A)) ++ c :: v
    rw [jn_snoc (A := b :: A) (by simp), List.append_assoc]; rfl
theorem join_sp (ws : List Str) : (Txt.join sp1 ws).cps.toList = jn 32 (ws.map fun x => x.cps.toList) := by rw [sp1_is, join_is, join_cps]
theorem spc_cps : (" " : Str).cps.toList = [32] := by decide +kernel
theorem map_ne {ws : List Str} (h : ws ≠ []) : (ws.map fun x => x.cps.toList) ≠ [] := by
  cases ws with
  | nil => exact absurd rfl h
  | cons _ _ => simp
theorem join_snoc1 {ws : List Str} (h : ws ≠ []) : Txt.join sp1 ws ++ (" " : Str) = Txt.join sp1 (ws ++ [("" : Str)]) := by
  refine cps_inj ?_
  rw [cps_app, spc_cps, join_sp, join_sp, List.map_append, List.map_cons, List.map_nil, jn_snoc (map_ne h)]; rfl
theorem join_cons1 {ws : List Str} (h : ws ≠ []) : (" " : Str) ++ Txt.join sp1 ws = Txt.join sp1 (("" : Str) :: ws) := by
  refine cps_inj ?_
  rw [cps_app, spc_cps, join_sp, join_sp, List.map_cons, jn_cons (map_ne h)]; rfl
theorem join_snoc0 {ws : List Str} (h : ws ≠ []) : Txt.join sp1 ws ++ (" 0" : Str) = Txt.join sp1 (ws ++ [("0" : Str)]) := by
  refine cps_inj ?_
  have e1 : (" 0" : Str).cps.toList = [32, 48] := by decide +kernel
  have e2 : ("0" : Str).cps.toList = [48] := by decide +kernel
  rw [cps_app, e1, join_sp, join_sp, List.map_append, List.map_cons, List.map_nil, jn_snoc (map_ne h), e2]
structure WOk (w : Str) : Prop where
  sp : 32 ∉ w.cps.toList
  nl : 10 ∉ w.cps.toList
  len : w.length ≤ 20
  asc : Asc w
def wokB (w : Str) : Bool := !w.cps.toList.contains 32 && !w.cps.toList.contains 10 && decide (w.length ≤ 20) && ascB w
theorem wok_of {w : Str} (h : wokB w = true) : WOk w := by
  unfold wokB at h
  rw [Bool.and_eq_true, Bool.and_eq_true, Bool.and_eq_true, Bool.not_eq_true', Bool.not_eq_true', decide_eq_true_iff] at h
  obtain ⟨⟨⟨h1, h2⟩, h3⟩, h4⟩ := h
  refine ⟨fun z => ?_, fun z => ?_, h3, asc_of h4⟩
  · rw [List.contains_iff_mem.mpr z] at h1; cases h1
  · rw [List.contains_iff_mem.mpr z] at h2; cases h2
theorem gw_wok {ws : List Str} (h : GW ws) : ∀ w ∈ ws, WOk w ∧ w.length ≤ 10 := fun w hw => by
  obtain ⟨a, b, c⟩ := okW_un ((gw_ok h).ok w hw)
  exact ⟨⟨a, b, by omega, gw_asc h w hw⟩, c⟩
theorem gw_ne {ws : List Str} (h : GW ws) : ws ≠ [] := (gw_ok h).ne
theorem gw_three {ws : List Str} (h : GW ws) : ws.length = 3 ∨ ws.length = 6 := by
  rcases gw_len h with z | z
  · exact .inl z.1
  · exact .inr z.1
theorem spoilt_words {ws : List Str} (h0 : ws ≠ []) (hw : ∀ w ∈ ws, WOk w) (hl : ws.length ≤ 7) (hn : ¬ GW ws) : Spoilt (Txt.join sp1 ws) := by
  refine spoilt_one (fun z => ?_) ?_ (fun c hc => ?_) (not_gl h0 (fun w h => (hw w h).sp) hn)
  · rw [join_sp] at z
    rcases jn_mem z with z | ⟨x, hx, z⟩
    · cases z
    · obtain ⟨p, hp, rfl⟩ := List.mem_map.mp hx
      exact (hw p hp).nl z
  · have := join_len (n := 20) fun x hx => (hw x hx).len
    have h3 : (20 + 1) * ws.length ≤ 21 * 7 := Nat.mul_le_mul_left _ hl
    omega
  · rw [join_sp] at hc
    rcases jn_mem hc with z | ⟨x, hx, z⟩
    · rw [z]; decide
    · obtain ⟨p, hp, rfl⟩ := List.mem_map.mp hx
      exact (hw p hp).asc c z
theorem wok_set {ws : List Str} {i : Nat} {v : Str} (h : ∀ w ∈ ws, WOk w) (hv : WOk v) : ∀ w ∈ ws.set i v, WOk w := fun w hw => by
  rcases List.mem_or_eq_of_mem_set hw with z | z
  · exact h w z
  · rw [z]; exact hv
theorem wok_nil : WOk ("" : Str) := wok_of (by decide +kernel)
theorem sp_1 {ws : List Str} (h : GW ws) : Spoilt (Txt.join sp1 ws ++ (" " : Str)) := by
  have h3 := gw_three h
  rw [join_snoc1 (gw_ne h)]
  refine spoilt_words (by simp) (fun w hw => ?_) (by rw [List.length_append]; show ws.length + 1 ≤ 7; omega) fun g => ?_
  · rcases List.mem_append.mp hw with z | z
    · exact (gw_wok h w z).1
    · rw [List.mem_singleton.mp z]; exact wok_nil
  · have := gw_three g
    rw [List.length_append] at this
    simp at this
    omega
theorem sp_2 {ws : List Str} (h : GW ws) : Spoilt ((" " : Str) ++ Txt.join sp1 ws) := by
  have h3 := gw_three h
  rw [join_cons1 (gw_ne h)]
  refine spoilt_words (by simp) (fun w hw => ?_) (by rw [List.length_cons]; omega) fun g => ?_
  · rcases List.mem_cons.mp hw with z | z
    · rw [z]; exact wok_nil
    · exact (gw_wok h w z).1
  · have := gw_three g
    rw [List.length_cons] at this
    omega
theorem sp_6 {ws : List Str} (h : GW ws) : Spoilt (Txt.join sp1 ws ++ (" 0" : Str)) := by
  have h3 := gw_three h
  rw [join_snoc0 (gw_ne h)]
  refine spoilt_words (by simp) (fun w hw => ?_) (by rw [List.length_append]; show ws.length + 1 ≤ 7; omega) fun g => ?_
  · rcases List.mem_append.mp hw with z | z
    · exact (gw_wok h w z).1
    · rw [List.mem_singleton.mp z]; exact wok_of (by decide +kernel)
  · have := gw_three g
    rw [List.length_append] at this
    simp at this
    omega
theorem sp_5 {ws : List Str} (h : GW ws) : Spoilt (Txt.join sp1 (ws.take (ws.length - 1))) := by
  have h3 := gw_three h
  have hl : (ws.take (ws.length - 1)).length = ws.length - 1 := by rw [List.length_take]; omega
  refine spoilt_words (fun z => ?_) (fun w hw => (gw_wok h w (List.mem_of_mem_take hw)).1) (by omega) fun g => ?_
  · rw [z] at hl
    simp at hl
    omega
  · have := gw_three g
    omega
theorem sp_set {ws : List Str} (h : GW ws) {i : Nat} (hi : i < ws.length) {v : Str} (hv : WOk v) (h1 : 0 < i → ¬ isMk v ∧ (¬ KindW v ∨ i = 1)) (h0 : i = 0 → v ≠ "room" ∧ v ≠ "arrow") : Spoilt (Txt.join sp1 (ws.set i v)) := by
  have h3 := gw_three h
  have hl : (ws.set i v).length = ws.length := List.length_set
  refine spoilt_words (fun z => ?_) (wok_set (fun w hw => (gw_wok h w hw).1) hv) (by omega) (set_not h hi h1 h0)
  rw [z] at hl
  simp at hl
  omega
theorem head_room : ("room" : Str).cps.toList = [114, 111, 111, 109] := by decide +kernel
theorem head_arrow : ("arrow" : Str).cps.toList = [97, 114, 114, 111, 119] := by decide +kernel
theorem gw_cut {ws : List Str} (h : GW ws) : ∃ w0 w1 r, ws = w0 :: w1 :: r ∧ r ≠ [] ∧ (w0 = "room" ∨ w0 = "arrow") ∧ 1 ≤ w1.cps.toList.length := by
  rcases h with ⟨x, h1, h2, rfl⟩ | ⟨a, ⟨h1, h2, h3, h4, h5⟩, rfl⟩
  · exact ⟨_, _, _, rfl, by simp, .inl rfl, mk_pos ⟨_, h1, rfl⟩⟩
  · exact ⟨_, _, _, rfl, by simp, .inr rfl, mk_pos ⟨_, h1, rfl⟩⟩
theorem gl_head {x : Str} (h : GL x) : x.cps.toList.head? = some 114 ∨ x.cps.toList.head? = some 97 := by
  obtain ⟨ws, g, rfl⟩ := h
  obtain ⟨w0, w1, r, rfl, hr, hw, _⟩ := gw_cut g
  rw [join_sp, List.map_cons, jn_cons (by simp)]
  rcases hw with rfl | rfl
  · rw [head_room]; exact .inl rfl
  · rw [head_arrow]; exact .inr rfl
theorem gl_two {x : Str} {u y : List Nat} (e : x.cps.toList = u ++ 32 :: 32 :: y) (hu : 32 ∉ u) : ¬ GL x := fun ⟨ws, g, hx⟩ => by
  have hok := gw_wok g
  obtain ⟨w0, w1, r, rfl, hr, _, hw⟩ := gw_cut g
  rw [hx, join_sp, List.map_cons, jn_cons (by simp), List.map_cons, jn_cons (map_ne hr)] at e
  obtain ⟨_, e2⟩ := first_cut e (hok w0 (by simp)).1.sp hu
  have := (hok w1 (by simp)).1.sp
  cases z : w1.cps.toList with
  | nil => rw [z] at hw; cases hw
  | cons a b =>
    rw [z] at e2 this
    have e3 : a = 32 := (List.cons.inj e2).1
    exact this (by rw [e3]; exact List.mem_cons_self)
theorem join_mem {sep : Str} : ∀ {ws : List Str} {d : Nat}, d ∈ (Str.join sep ws).cps.toList → d ∈ sep.cps.toList ∨ ∃ w ∈ ws, d ∈ w.cps.toList
  | [], d, h => by cases h
  | [x], d, h => .inr ⟨x, List.mem_cons_self, h⟩
  | x :: y :: r, d, h => by
    have e : Str.join sep (x :: y :: r) = x ++ sep ++ Str.join sep (y :: r) := rfl
    rw [e, cps_app, cps_app] at h
    rcases List.mem_append.mp h with z | z
    · rcases List.mem_append.mp z with z | z
      · exact .inr ⟨x, List.mem_cons_self, z⟩
      · exact .inl z
    · rcases join_mem z with z | ⟨w, hw, z⟩
      · exact .inl z
      · exact .inr ⟨w, List.mem_cons_of_mem _ hw, z⟩
def sp2 : Str := ⟨#[32, 32]⟩
theorem sp_3 {ws : List Str} (h : GW ws) : Spoilt (Txt.replace (Txt.join sp1 ws) sp1 sp2) := by
  have hok := gw_wok h
  have h3 := gw_three h
  have e : Txt.replace (Txt.join sp1 ws) sp1 sp2 = Str.join sp2 ws := by
    refine cps_inj ?_
    rw [sp1_is, join_is]
    refine (StrLaws.replace_double _ 32).trans ?_
    exact StrLaws.dbl_join 32 ws fun p hp => (hok p hp).1.sp
  rw [e]
  have key : (Str.join sp2 ws).cps.toList.length ≤ 200 := by
    have h1 := StrLaws.join_length_le sp2 ws
    have hs : (ws.map (·.length)).sum ≤ 10 * ws.length := by
      clear h1 e h3 h
      induction ws with
      | nil => exact Nat.zero_le _
      | cons t ts ih =>
        have a := (hok t List.mem_cons_self).2
        have b := ih fun x hx => hok x (List.mem_cons_of_mem _ hx)
        rw [List.map_cons, List.sum_cons, List.length_cons, Nat.mul_add]
        omega
    have e2 : sp2.length = 2 := rfl
    rw [e2] at h1
    rw [Array.length_toList]
    have : (Str.join sp2 ws).length = (Str.join sp2 ws).cps.size := rfl
    rw [← this]
    omega
  refine spoilt_one (fun z => ?_) (by rw [Array.length_toList] at key; exact key) (fun c hc => ?_) ?_
  · rcases join_mem z with z | ⟨w, hw, z⟩
    · exact absurd z (by decide)
    · exact (hok w hw).1.nl z
  · rcases join_mem hc with z | ⟨w, hw, z⟩
    · have : c ∈ [32, 32] := z
      simp at this
      omega
    · exact (hok w hw).1.asc c z
  · obtain ⟨w0, w1, r, rfl, hr, _, hw⟩ := gw_cut h
    refine gl_two (u := w0.cps.toList) (y := (Str.join sp2 (w1 :: r)).cps.toList) ?_ (hok w0 (by simp)).1.sp
    show (w0 ++ sp2 ++ Str.join sp2 (w1 :: r)).cps.toList = _
    rw [cps_app, cps_app, List.append_assoc]; rfl
theorem sp_4 {ws : List Str} (h : GW ws) : Asc (Txt.join sp1 ws) ∧ Spoilt (Txt.upper (Txt.join sp1 ws)) := by
  have hok := gw_wok h
  have hasc : Asc (Txt.join sp1 ws) := fun c hc => by
    rw [join_sp] at hc
    rcases jn_mem hc with z | ⟨x, hx, z⟩
    · rw [z]; decide
    · obtain ⟨p, hp, rfl⟩ := List.mem_map.mp hx
      exact (hok p hp).1.asc c z
  have hu := upper_cps hasc
  have hlen : (Txt.upper (Txt.join sp1 ws)).length = (Txt.join sp1 ws).length := by
    have := congrArg List.length hu
    rw [List.length_map, Array.length_toList, Array.length_toList] at this
    exact this
  refine ⟨hasc, spoilt_one (fun z => ?_) ?_ (fun c hc => ?_) fun g => ?_⟩
  · rw [hu] at z
    obtain ⟨c, hc, e⟩ := List.mem_map.mp z
    have : c = 10 := by
      unfold up1 at e
      split at e <;> omega
    exact line_free (gw_ok h) (by rw [← this]; exact hc)
  · have := line_len (gw_ok h)
    omega
  · rw [hu] at hc
    obtain ⟨d, hd, e⟩ := List.mem_map.mp hc
    have := hasc d hd
    unfold up1 at e
    split at e <;> omega
  · have hg := gl_head (x := Txt.join sp1 ws) ⟨ws, h, rfl⟩
    have h2 := gl_head g
    rw [hu, List.head?_map] at h2
    rcases hg with e | e <;> rw [e] at h2 <;> rcases h2 with z | z <;> exact absurd z (by decide)
theorem sp_10 : Spoilt ("" : Str) := by
  have e : ("" : Str).cps.toList = [] := by decide +kernel
  refine spoilt_one (by rw [e]; simp) (by decide +kernel) (asc_of (by decide +kernel)) fun g => ?_
  have := gl_head g
  rw [e] at this
  rcases this with z | z <;> cases z
theorem sp_nl {ws : List Str} (h : GW ws) : Spoilt (Txt.join sp1 (ws.set 1 ("\n" : Str))) := by
  have hok := gw_wok h
  have h3 := gw_three h
  have hasc := gw_asc h
  obtain ⟨w0, w1, r, rfl, hr, _, hw⟩ := gw_cut h
  have en : ("\n" : Str).cps.toList = [10] := by decide +kernel
  have ee : ("" : Str).cps.toList = [] := by decide +kernel
  have s1 : (w0 :: w1 :: r).set 1 ("\n" : Str) = w0 :: ("\n" : Str) :: r := rfl
  rw [s1]
  have wa : ∀ w ∈ [w0, ("" : Str)], WOk w := fun w hw => by
    simp only [List.mem_cons, List.not_mem_nil, or_false] at hw
    rcases hw with rfl | rfl
    · exact (hok w (by simp)).1
    · exact wok_nil
  have wb : ∀ w ∈ ("" : Str) :: r, WOk w := fun w hw => by
    rcases List.mem_cons.mp hw with rfl | z
    · exact wok_nil
    · exact (hok w (by simp [z])).1
  have lr : r.length ≤ 4 := by simp at h3; omega
  have free : ∀ {us : List Str}, (∀ w ∈ us, WOk w) → us.length ≤ 7 → 10 ∉ (Txt.join sp1 us).cps.toList ∧ (Txt.join sp1 us).length ≤ 200 := fun {us} hu hl => by
    refine ⟨fun z => ?_, ?_⟩
    · rw [join_sp] at z
      rcases jn_mem z with z | ⟨x, hx, z⟩
      · cases z
      · obtain ⟨p, hp, rfl⟩ := List.mem_map.mp hx
        exact (hu p hp).nl z
    · have := join_len (n := 20) fun x hx => (hu x hx).len
      have h3 : (20 + 1) * us.length ≤ 21 * 7 := Nat.mul_le_mul_left _ hl
      omega
  refine ⟨⟨[Txt.join sp1 [w0, ("" : Str)], Txt.join sp1 (("" : Str) :: r)], by simp, ?_, fun y hy => ?_, by simp, _, List.mem_cons_self, ?_⟩, fun c hc => ?_, ?_⟩
  · refine cps_inj ?_
    rw [join_sp, nl1_is, join_is, join_cps, List.map_cons, List.map_cons, jn_cons (by simp), jn_cons (map_ne hr), en, List.map_cons, List.map_cons, List.map_nil, join_sp, join_sp, List.map_cons, List.map_cons, List.map_nil, List.map_cons, jn_cons (map_ne hr), ee]
    show w0.cps.toList ++ 32 :: ([10] ++ 32 :: jn 32 _) = (w0.cps.toList ++ 32 :: []) ++ 10 :: ([] ++ 32 :: jn 32 _)
    rw [List.append_assoc]; rfl
  · rcases List.mem_cons.mp hy with rfl | z
    · exact free wa (by simp)
    · rw [List.mem_singleton.mp z]; exact free wb (by rw [List.length_cons]; omega)
  · refine not_gl (by simp) (fun w hw => (wa w hw).sp) fun g => ?_
    have := gw_three g
    simp at this
  · rw [join_sp] at hc
    rcases jn_mem hc with z | ⟨x, hx, z⟩
    · rw [z]; decide
    · obtain ⟨p, hp, rfl⟩ := List.mem_map.mp hx
      rcases List.mem_cons.mp hp with rfl | hp
      · exact hasc p (by simp) c z
      · rcases List.mem_cons.mp hp with rfl | hp
        · rw [en] at z; rw [List.mem_singleton.mp z]; decide
        · exact hasc p (by simp [hp]) c z
  · have := join_len (ws := w0 :: ("\n" : Str) :: r) (n := 20) fun x hx => by
      rcases List.mem_cons.mp hx with rfl | hx
      · have := (hok x (by simp)).2; omega
      · rcases List.mem_cons.mp hx with rfl | hx
        · decide +kernel
        · have := (hok x (by simp [hx])).2; omega
    rw [List.length_cons, List.length_cons] at this
    have h4 : (20 + 1) * (r.length + 1 + 1) ≤ 21 * 6 := Nat.mul_le_mul_left _ (by omega)
    omega
end
end Toy
namespace Toy
open PySem L2
seal PySem.wpAny
section
variable {P : Program} {w : World} {K : PySem.W.Frag} {mg : Str → Option Value} {base : Heap}
theorem cutTo (xs : List V) (k : Nat) : cutV xs Option.none (some (k : Int)) = xs.take k := by
  unfold cutV
  rw [HT.sIx_nat, HT.sIx_none, List.drop_zero, Nat.sub_zero]
  by_cases h : k ≤ xs.length
  · rw [Nat.min_eq_left h]
  · rw [Nat.min_eq_right (by omega), List.take_length, List.take_of_length_le (by omega)]
theorem ixN_nat {n k : Nat} (h : k < n) : ixN n (k : Int) = some k := by
  unfold ixN
  rw [if_pos (by omega), if_pos (by omega), Int.toNat_natCast]
theorem skip_if {n k : Int} {A B : Prop} (h : n ≠ k) (b : B) : if decide (V.int n = V.int k) = true then A else B := by
  rw [if_neg (show ¬ decide (V.int n = V.int k) = true from fun z => h (by have := of_decide_eq_true z; injection this))]
  exact b
theorem take_if {n : Int} {A B : Prop} (a : A) : if decide (V.int n = V.int n) = true then A else B := by
  rw [if_pos (decide_eq_true rfl)]
  exact a
theorem at_mod {L : List Str} (c : Int) {m : Nat} (hm : L.length = m) (h0 : 0 < m) : ∃ v ∈ L, atI (L.map V.str) (c % (m : Int)) = some (.str v) := by
  have b0 := Int.emod_nonneg c (show (m : Int) ≠ 0 by omega)
  have b1 := Int.emod_lt_of_pos c (show (0 : Int) < m by omega)
  obtain ⟨j, hj⟩ : ∃ j : Nat, c % (m : Int) = (j : Int) := ⟨(c % (m : Int)).toNat, by omega⟩
  rw [hj]
  have hjl : j < L.length := by omega
  exact ⟨L[j], List.getElem_mem hjl, atI_nat (by rw [List.getElem?_map, List.getElem?_eq_getElem hjl]; rfl)⟩
def LW (w : Int) : Prop := w = 1 ∨ w = 2 ∨ w = 3 ∨ w = 4 ∨ w = 5 ∨ w = 6 ∨ w = 7 ∨ w = 8 ∨ w = 9 ∨ w = 10 ∨ w = 19
def spLine : Sp := fun vs H Q _ => ∃ (w cell : Int) (ws : List Str), vs = [.int w, .str (Txt.join sp1 ws), .int cell] ∧ GW ws ∧ LW w ∧ ∀ x H', Same H H' → Spoilt x → Q (.str x) H'
theorem scLine : FnScope ["way", "line", "cell", "words", "spot"] ["way", "line", "cell"] (defScope sLine) := ⟨rfl, rfl, rfl, by decide +kernel, rfl, by decide +kernel, by decide +kernel⟩
def sevenW : List Str := ["", "Room", "rooms", "arrows", "door", "#"]
def nineW : List Str := ["a", ".", "_", "\t", "9999", "-"]
theorem seven_ok : ∀ v ∈ sevenW, WOk v ∧ v ≠ "room" ∧ v ≠ "arrow" := by
  intro v hv
  simp only [sevenW, List.mem_cons, List.not_mem_nil, or_false] at hv
  rcases hv with rfl | rfl | rfl | rfl | rfl | rfl <;> exact ⟨wok_of (by decide +kernel), by decide +kernel, by decide +kernel⟩
theorem bad_ok : ∀ v ∈ badW, v = ("\n" : Str) ∨ WOk v := by
  intro v hv
  simp only [badW, List.mem_cons, List.not_mem_nil, or_false] at hv
  rcases hv with rfl | rfl | rfl | rfl | rfl | rfl | rfl | rfl | rfl | rfl <;> first | exact .inr (wok_of (by decide +kernel)) | exact .inl rfl
theorem wok_app {w v : Str} (h : WOk w) (hl : w.length ≤ 10) (g : WOk v) (gl : v.length ≤ 10) : WOk (w ++ v) := by
  refine ⟨fun z => ?_, fun z => ?_, by rw [len_app]; omega, fun c hc => ?_⟩
  · rw [cps_app] at z
    rcases List.mem_append.mp z with z | z
    · exact h.sp z
    · exact g.sp z
  · rw [cps_app] at z
    rcases List.mem_append.mp z with z | z
    · exact h.nl z
    · exact g.nl z
  · rw [cps_app] at hc
    rcases List.mem_append.mp hc with z | z
    · exact h.asc c z
    · exact g.asc c z
theorem nine_ok : ∀ v ∈ nineW, WOk v ∧ v.length ≤ 10 := by
  intro v hv
  simp only [nineW, List.mem_cons, List.not_mem_nil, or_false] at hv
  rcases hv with rfl | rfl | rfl | rfl | rfl | rfl <;> exact ⟨wok_of (by decide +kernel), by decide +kernel⟩
theorem gw_at {ws : List Str} (h : GW ws) {i : Nat} (h0 : 0 < i) {w : Str} (hw : ws[i]? = some w) : isMk w ∨ KindW w := by
  rcases gw_len h with ⟨l, _, g1, g2⟩ | ⟨_, _, g1⟩
  · have hi := (List.getElem?_eq_some_iff.mp hw).1
    by_cases z : i = 1
    · subst z; exact .inl (g1 w hw)
    · have z2 : i = 2 := by omega
      subst z2; exact .inr (g2 w hw)
  · exact .inl (g1 i w h0 hw)
theorem ok_line {f C : Addr} {fd : FuncData} (D : DefAt K mg "_law_line" sLine ["way", "line", "cell"] f fd) (T : Txt K mg C) : FnOk P w K mg base CX0 1 f fd ["way", "line", "cell"] spLine := by
  refine D.fn.ok scLine (fun vs H Q E h => ?_) (fun cdv A outer s H vs Q E hr h => ?_)
  · obtain ⟨w, cell, ws, rfl, _⟩ := h
    rfl
  obtain ⟨w, cell, ws, rfl, hg, hw, q⟩ := h
  refine ⟨_, pss_cons (ps_set (i := 3) scLine.nd rfl (Or.inl rfl) (pe_bm PySem.F.plainAttrs_str PySem.F.slot_str_split PySem.F.type_str_split mt_split (pv 1) (pa_cons pe_str pa_nil)))
    (pss_cons (ps_set (i := 4) scLine.nd rfl (Or.inl rfl) (pe_op op_add pe_int (pe_op op_mod (pv 2) (pe_op op_sub (pe_callB call_len_seq (by rfl) T.len PySem.boot_len (pa_cons (pv 3) pa_nil)) pe_int))))
    (pss_cons (ps_if (pt_cmpR op_eq (pv 0) pe_int (nomark _)) (pss_one (ps_set (i := 1) scLine.nd rfl (Or.inl rfl) (pe_op op_add_str (pv 1) pe_str))) pss_nil)
    (pss_cons (ps_if (pt_cmpR op_eq (pv 0) pe_int (nomark _)) (pss_one (ps_set (i := 1) scLine.nd rfl (Or.inl rfl) (pe_op op_add_str pe_str (pv 1)))) pss_nil)
    (pss_cons (ps_replace 0 1 scLine.nd rfl (Or.inl rfl) rfl (Or.inl rfl) (Or.inl rfl) (by decide +kernel) (by decide +kernel))
    (pss_cons (ps_if (pt_cmpR op_eq (pv 0) pe_int (nomark _)) (pss_one (ps_set (i := 1) scLine.nd rfl (Or.inl rfl) (pe_bm0 PySem.F.plainAttrs_str PySem.F.slot_str_upper PySem.F.type_str_upper mt_upper (pv 1)))) pss_nil)
    (pss_cons (ps_if (pt_cmpR op_eq (pv 0) pe_int (nomark _)) (pss_one (ps_set (i := 1) scLine.nd rfl (Or.inl rfl) (pe_bm PySem.F.plainAttrs_str PySem.F.slot_str_join PySem.F.type_str_join mt_join pe_str (pa_cons (pe_slice sl_list (pv 3) po_none (po_some (pe_op op_sub (pe_callB call_len_seq (by rfl) T.len PySem.boot_len (pa_cons (pv 3) pa_nil)) pe_int))) pa_nil)))) pss_nil)
    (pss_cons (ps_if (pt_cmpR op_eq (pv 0) pe_int (nomark _)) (pss_one (ps_set (i := 1) scLine.nd rfl (Or.inl rfl) (pe_op op_add_str (pv 1) pe_str))) pss_nil)
    (pss_cons (ps_if (pt_cmpR op_eq (pv 0) pe_int (nomark _)) (pss_cons (ps_asg (pe_ix ix_list (pe_lst (pa_cons pe_str (pa_cons pe_str (pa_cons pe_str (pa_cons pe_str (pa_cons pe_str (pa_cons pe_str pa_nil))))))) (pe_op op_mod (pe_op op_fdiv (pv 2) pe_int) pe_int) (fun _ _ => rfl)) (pg_sub (pv 3) pe_int set_list))
      (pss_one (ps_set (i := 1) scLine.nd rfl (Or.inl rfl) (pe_bm PySem.F.plainAttrs_str PySem.F.slot_str_join PySem.F.type_str_join mt_join pe_str (pa_cons (pv 3) pa_nil))))) pss_nil)
    (pss_cons (ps_if (pt_cmpR op_eq (pv 0) pe_int (nomark _)) (pss_cons (ps_asg (pe_ix ix_list (pe_lst (pa_cons pe_str (pa_cons pe_str (pa_cons pe_str (pa_cons pe_str (pa_cons pe_str (pa_cons pe_str (pa_cons pe_str (pa_cons pe_str (pa_cons pe_str (pa_cons pe_str pa_nil))))))))))) (pe_op op_mod (pe_op op_fdiv (pv 2) pe_int) pe_int) (fun _ _ => rfl)) (pg_sub (pv 3) pe_int set_list))
      (pss_one (ps_set (i := 1) scLine.nd rfl (Or.inl rfl) (pe_bm PySem.F.plainAttrs_str PySem.F.slot_str_join PySem.F.type_str_join mt_join pe_str (pa_cons (pv 3) pa_nil))))) pss_nil)
    (pss_cons (ps_if (pt_cmpR op_eq (pv 0) pe_int (nomark _)) (pss_cons (ps_asg (pe_op op_add_str (pe_ix ix_list (pv 3) (pv 4) (fun _ _ => rfl)) (pe_ix ix_list (pe_lst (pa_cons pe_str (pa_cons pe_str (pa_cons pe_str (pa_cons pe_str (pa_cons pe_str (pa_cons pe_str pa_nil))))))) (pe_op op_mod (pe_op op_fdiv (pv 2) pe_int) pe_int) (fun _ _ => rfl))) (pg_sub (pv 3) (pv 4) set_list))
      (pss_one (ps_set (i := 1) scLine.nd rfl (Or.inl rfl) (pe_bm PySem.F.plainAttrs_str PySem.F.slot_str_join PySem.F.type_str_join mt_join pe_str (pa_cons (pv 3) pa_nil))))) pss_nil)
    (pss_cons (ps_if (pt_cmpR op_eq (pv 0) pe_int (nomark _)) (pss_one (ps_set (i := 1) scLine.nd rfl (Or.inl rfl) pe_str)) pss_nil)
    (pss_cons (ps_if (pt_cmpR op_eq (pv 0) pe_int (nomark _)) (pss_cons (ps_asg (pe_op op_add_str pe_str (pe_ix ix_list (pv 3) (pv 4) (fun _ _ => rfl))) (pg_sub (pv 3) (pv 4) set_list))
      (pss_one (ps_set (i := 1) scLine.nd rfl (Or.inl rfl) (pe_bm PySem.F.plainAttrs_str PySem.F.slot_str_join PySem.F.type_str_join mt_join pe_str (pa_cons (pv 3) pa_nil))))) pss_nil)
    (pss_one (ps_ret (pv 1))))))))))))))), ?_⟩
  have hok := gw_ok hg
  have h3 := gw_three hg
  have hwok := gw_wok hg
  have hll := line_len hok
  have hsp := line_split hok
  refine ⟨_, rfl, rfl, Txt.join sp1 ws, sp1, rfl, rfl, by decide +kernel, big_ok (by omega), big_ok (Nat.le_trans (parts_le _ _) (by omega)), by rw [hsp]; exact big_ok (by omega), fun wl hwl => ?_⟩
  rw [hsp]
  have sw := same_new hwl (.lst (ws.map V.str))
  have ew : (upd H wl (.lst (ws.map V.str))) wl = some (.lst (ws.map V.str)) := upd_same
  generalize upd H wl (.lst (ws.map V.str)) = H1 at sw ew ⊢
  have hml : ((ws.map V.str).length : Int) - 1 = ((ws.length - 1 : Nat) : Int) := by rw [List.length_map]; omega
  refine ⟨_, rfl, _, rfl, wl, _, rfl, .inl (SqL.of ew), _, _, rfl, rfl, _, _, rfl, rfl, (by show (0 : Int) < _; rw [hml]; omega), _, _, rfl, rfl, ?_⟩
  have b0 := Int.emod_nonneg cell (show ((ws.length - 1 : Nat) : Int) ≠ 0 by omega)
  have b1 := Int.emod_lt_of_pos cell (show (0 : Int) < ((ws.length - 1 : Nat) : Int) by omega)
  obtain ⟨i, hi, i0, i1⟩ : ∃ i : Nat, 1 + cell % ((ws.length - 1 : Nat) : Int) = (i : Int) ∧ 0 < i ∧ i < ws.length := ⟨(1 + cell % ((ws.length - 1 : Nat) : Int)).toNat, by omega, by omega, by omega⟩
  rw [← hml] at hi
  have hi' : V.int (1 + cell % (((ws.map V.str).length : Int) - 1)) = V.int (i : Int) := congrArg V.int hi
  generalize hz : V.int (i : Int) = zi at hi'
  dsimp only [gName]
  rw [hi']
  subst hz
  have hwi := List.getElem?_eq_getElem i1
  have hati : atI (ws.map V.str) (i : Int) = some (.str ws[i]) := atI_nat (by rw [List.getElem?_map, hwi]; rfl)
  have hgi := gw_at hg i0 hwi
  have hoi := hwok _ (List.getElem_mem i1)
  have jok : ∀ {us : List Str}, us.length ≤ 7 → (∀ u ∈ us, u.length ≤ 1000) → JoinOk sp1 us = true := fun {us} h1 h2 => joinOk_of h2 (by omega) (by decide +kernel)
  have setlen : ∀ (j : Nat) (v : Str), v.length ≤ 1000 → ∀ u ∈ ws.set j v, u.length ≤ 1000 := fun j v hv u hu => by
    rcases List.mem_or_eq_of_mem_set hu with z | z
    · have := (hwok u z).2; omega
    · rw [z]; exact hv
  have setmap : ∀ (j : Nat) (v : Str), (ws.map V.str).set j (V.str v) = (ws.set j v).map V.str := fun j v => by rw [List.map_set]
  have l1 : (" " : Str).length = 1 := by decide +kernel
  have l2 : (" 0" : Str).length = 2 := by decide +kernel
  rcases hw with rfl | rfl | rfl | rfl | rfl | rfl | rfl | rfl | rfl | rfl | rfl
  ·
    repeat (first | (refine ⟨_, rfl, rfl, _, rfl, skip_if (by decide) ?_⟩) | (refine ⟨_, _, rfl, rfl, fun z => absurd z (by decide), fun _ => ?_⟩))
    refine ⟨_, rfl, rfl, _, rfl, take_if ?_⟩
    refine ⟨_, rfl, _, _, rfl, rfl, Nat.le_of_lt (small1000 (by rw [l1]; omega)), ?_⟩
    repeat (first | (refine ⟨_, rfl, rfl, _, rfl, skip_if (by decide) ?_⟩) | (refine ⟨_, _, rfl, rfl, fun z => absurd z (by decide), fun _ => ?_⟩))
    exact ⟨_, rfl, q _ H1 sw (sp_1 hg)⟩
  ·
    repeat (first | (refine ⟨_, rfl, rfl, _, rfl, skip_if (by decide) ?_⟩) | (refine ⟨_, _, rfl, rfl, fun z => absurd z (by decide), fun _ => ?_⟩))
    refine ⟨_, rfl, rfl, _, rfl, take_if ?_⟩
    refine ⟨_, rfl, _, _, rfl, rfl, Nat.le_of_lt (small1000 (by rw [l1]; omega)), ?_⟩
    repeat (first | (refine ⟨_, rfl, rfl, _, rfl, skip_if (by decide) ?_⟩) | (refine ⟨_, _, rfl, rfl, fun z => absurd z (by decide), fun _ => ?_⟩))
    exact ⟨_, rfl, q _ H1 sw (sp_2 hg)⟩
  ·
    repeat (first | (refine ⟨_, rfl, rfl, _, rfl, skip_if (by decide) ?_⟩) | (refine ⟨_, _, rfl, rfl, fun z => absurd z (by decide), fun _ => ?_⟩))
    refine ⟨_, _, rfl, rfl, fun _ => ⟨by omega, ?_⟩, fun z => absurd rfl z⟩
    repeat (first | (refine ⟨_, rfl, rfl, _, rfl, skip_if (by decide) ?_⟩) | (refine ⟨_, _, rfl, rfl, fun z => absurd z (by decide), fun _ => ?_⟩))
    have e2 : ("  " : Str) = sp2 := by decide +kernel
    exact ⟨_, rfl, q _ H1 sw (by rw [e2]; exact sp_3 hg)⟩
  ·
    repeat (first | (refine ⟨_, rfl, rfl, _, rfl, skip_if (by decide) ?_⟩) | (refine ⟨_, _, rfl, rfl, fun z => absurd z (by decide), fun _ => ?_⟩))
    refine ⟨_, rfl, rfl, _, rfl, take_if ?_⟩
    refine ⟨_, rfl, rfl, _, rfl, rfl, (sp_4 hg).1, by omega, ?_⟩
    repeat (first | (refine ⟨_, rfl, rfl, _, rfl, skip_if (by decide) ?_⟩) | (refine ⟨_, _, rfl, rfl, fun z => absurd z (by decide), fun _ => ?_⟩))
    exact ⟨_, rfl, q _ H1 sw (sp_4 hg).2⟩
  ·
    repeat (first | (refine ⟨_, rfl, rfl, _, rfl, skip_if (by decide) ?_⟩) | (refine ⟨_, _, rfl, rfl, fun z => absurd z (by decide), fun _ => ?_⟩))
    refine ⟨_, rfl, rfl, _, rfl, take_if ?_⟩
    refine ⟨rfl, _, rfl, _, rfl, wl, _, rfl, .inl (SqL.of ew), _, _, rfl, rfl, _, rfl, wl, _, rfl, SqL.of ew, fun l4 hl4 => ?_⟩
    have e4 : (upd H1 l4 (.lst (cutV (ws.map V.str) Option.none (some (((ws.map V.str).length : Int) - 1))))) l4 = some (.lst ((ws.take (ws.length - 1)).map V.str)) := by rw [upd_same, hml, cutTo, List.map_take]
    refine ⟨sp1, l4, ws.take (ws.length - 1), rfl, rfl, SqL.of e4, jok (by rw [List.length_take]; omega) (fun u hu => by have := (hwok u (List.mem_of_mem_take hu)).2; omega), ?_⟩
    repeat (first | (refine ⟨_, rfl, rfl, _, rfl, skip_if (by decide) ?_⟩) | (refine ⟨_, _, rfl, rfl, fun z => absurd z (by decide), fun _ => ?_⟩))
    exact ⟨_, rfl, q _ _ (sw.trans (same_new hl4 _)) (sp_5 hg)⟩
  ·
    repeat (first | (refine ⟨_, rfl, rfl, _, rfl, skip_if (by decide) ?_⟩) | (refine ⟨_, _, rfl, rfl, fun z => absurd z (by decide), fun _ => ?_⟩))
    refine ⟨_, rfl, rfl, _, rfl, take_if ?_⟩
    refine ⟨_, rfl, _, _, rfl, rfl, Nat.le_of_lt (small1000 (by rw [l2]; omega)), ?_⟩
    repeat (first | (refine ⟨_, rfl, rfl, _, rfl, skip_if (by decide) ?_⟩) | (refine ⟨_, _, rfl, rfl, fun z => absurd z (by decide), fun _ => ?_⟩))
    exact ⟨_, rfl, q _ H1 sw (sp_6 hg)⟩
  ·
    repeat (first | (refine ⟨_, rfl, rfl, _, rfl, skip_if (by decide) ?_⟩) | (refine ⟨_, _, rfl, rfl, fun z => absurd z (by decide), fun _ => ?_⟩))
    refine ⟨_, rfl, rfl, _, rfl, take_if ?_⟩
    refine ⟨(by show 6 ≤ sizeLine; decide), fun l hl => ?_⟩
    obtain ⟨v, hv, hat⟩ := at_mod (L := sevenW) (cell / 8) (m := 6) rfl (by decide)
    obtain ⟨v1, v2, v3⟩ := seven_ok v hv
    have vl := v1.len
    refine ⟨_, rfl, _, _, rfl, rfl, ⟨by decide, by decide⟩, _, _, rfl, rfl, (by show (0 : Int) < _; decide), l, _, _, _, rfl, rfl, SqL.of upd_same, hat, _, rfl, wl, _, 0, 0, rfl, rfl, (same_new hl _) _ _ ew, ixN_nat (k := 0) (by rw [List.length_map]; omega), ?_⟩
    refine ⟨rfl, _, rfl, sp1, wl, ws.set 0 v, rfl, rfl, SqL.of (by rw [upd_same, setmap]), jok (by rw [List.length_set]; omega) (setlen 0 v (by omega)), ?_⟩
    repeat (first | (refine ⟨_, rfl, rfl, _, rfl, skip_if (by decide) ?_⟩) | (refine ⟨_, _, rfl, rfl, fun z => absurd z (by decide), fun _ => ?_⟩))
    exact ⟨_, rfl, q _ _ (sameUpd (sw.trans (same_new hl _)) hwl _) (sp_set hg (by omega) v1 (fun z => absurd z (by decide)) fun _ => ⟨v2, v3⟩)⟩
  ·
    repeat (first | (refine ⟨_, rfl, rfl, _, rfl, skip_if (by decide) ?_⟩) | (refine ⟨_, _, rfl, rfl, fun z => absurd z (by decide), fun _ => ?_⟩))
    refine ⟨_, rfl, rfl, _, rfl, take_if ?_⟩
    refine ⟨(by show 10 ≤ sizeLine; decide), fun l hl => ?_⟩
    obtain ⟨v, hv, hat⟩ := at_mod (L := badW) (cell / 8) (m := 10) rfl (by decide)
    have vl : v.length ≤ 1000 := by
      rcases bad_ok v hv with z | z
      · rw [z]; decide +kernel
      · have := z.len; omega
    refine ⟨_, rfl, _, _, rfl, rfl, ⟨by decide, by decide⟩, _, _, rfl, rfl, (by show (0 : Int) < _; decide), l, _, _, _, rfl, rfl, SqL.of upd_same, hat, _, rfl, wl, _, 1, 1, rfl, rfl, (same_new hl _) _ _ ew, ixN_nat (k := 1) (by rw [List.length_map]; omega), ?_⟩
    refine ⟨rfl, _, rfl, sp1, wl, ws.set 1 v, rfl, rfl, SqL.of (by rw [upd_same, setmap]), jok (by rw [List.length_set]; omega) (setlen 1 v vl), ?_⟩
    repeat (first | (refine ⟨_, rfl, rfl, _, rfl, skip_if (by decide) ?_⟩) | (refine ⟨_, _, rfl, rfl, fun z => absurd z (by decide), fun _ => ?_⟩))
    refine ⟨_, rfl, q _ _ (sameUpd (sw.trans (same_new hl _)) hwl _) ?_⟩
    rcases bad_ok v hv with z | z
    · rw [z]; exact sp_nl hg
    · exact sp_set hg (by omega) z (fun _ => ⟨bad_not hv, .inr rfl⟩) fun z => absurd z (by decide)
  ·
    repeat (first | (refine ⟨_, rfl, rfl, _, rfl, skip_if (by decide) ?_⟩) | (refine ⟨_, _, rfl, rfl, fun z => absurd z (by decide), fun _ => ?_⟩))
    refine ⟨_, rfl, rfl, _, rfl, take_if ?_⟩
    refine ⟨_, rfl, _, rfl, wl, _, _, _, rfl, rfl, SqL.of ew, hati, (by show 6 ≤ sizeLine; decide), fun l hl => ?_⟩
    obtain ⟨v, hv, hat⟩ := at_mod (L := nineW) (cell / 8) (m := 6) rfl (by decide)
    obtain ⟨v1, v2⟩ := nine_ok v hv
    have wlen := hoi.2
    refine ⟨_, rfl, _, _, rfl, rfl, ⟨by decide, by decide⟩, _, _, rfl, rfl, (by show (0 : Int) < _; decide), l, _, _, _, rfl, rfl, SqL.of upd_same, hat, _, _, rfl, rfl, Nat.le_of_lt (small1000 (by omega)), _, rfl, _, rfl, wl, _, (i : Int), i, rfl, rfl, (same_new hl _) _ _ ew, ixN_nat (by rw [List.length_map]; exact i1), ?_⟩
    refine ⟨rfl, _, rfl, sp1, wl, ws.set i (ws[i] ++ v), rfl, rfl, SqL.of (by rw [upd_same, setmap]), jok (by rw [List.length_set]; omega) (setlen i _ (by rw [len_app]; omega)), ?_⟩
    repeat (first | (refine ⟨_, rfl, rfl, _, rfl, skip_if (by decide) ?_⟩) | (refine ⟨_, _, rfl, rfl, fun z => absurd z (by decide), fun _ => ?_⟩))
    have na := add_not hgi hv
    exact ⟨_, rfl, q _ _ (sameUpd (sw.trans (same_new hl _)) hwl _) (sp_set hg i1 (wok_app hoi.1 hoi.2 v1 v2) (fun _ => ⟨na.1, .inl na.2⟩) fun z => absurd z (by omega))⟩
  ·
    repeat (first | (refine ⟨_, rfl, rfl, _, rfl, skip_if (by decide) ?_⟩) | (refine ⟨_, _, rfl, rfl, fun z => absurd z (by decide), fun _ => ?_⟩))
    refine ⟨_, rfl, rfl, _, rfl, take_if ?_⟩
    repeat (first | (refine ⟨_, rfl, rfl, _, rfl, skip_if (by decide) ?_⟩) | (refine ⟨_, _, rfl, rfl, fun z => absurd z (by decide), fun _ => ?_⟩))
    exact ⟨_, rfl, q _ H1 sw sp_10⟩
  ·
    repeat (first | (refine ⟨_, rfl, rfl, _, rfl, skip_if (by decide) ?_⟩) | (refine ⟨_, _, rfl, rfl, fun z => absurd z (by decide), fun _ => ?_⟩))
    refine ⟨_, rfl, rfl, _, rfl, take_if ?_⟩
    have wlen := hoi.2
    have l0 : ("0" : Str).length = 1 := by decide +kernel
    refine ⟨_, rfl, _, rfl, wl, _, _, _, rfl, rfl, SqL.of ew, hati, _, _, rfl, rfl, Nat.le_of_lt (small1000 (by rw [l0]; omega)), _, rfl, _, rfl, wl, _, (i : Int), i, rfl, rfl, ew, ixN_nat (by rw [List.length_map]; exact i1), ?_⟩
    refine ⟨rfl, _, rfl, sp1, wl, ws.set i (("0" : Str) ++ ws[i]), rfl, rfl, SqL.of (by rw [upd_same, setmap]), jok (by rw [List.length_set]; omega) (setlen i _ (by rw [len_app, l0]; omega)), ?_⟩
    have na := nought_not hgi
    exact ⟨_, rfl, q _ _ (sameUpd sw hwl _) (sp_set hg i1 (wok_app (wok_of (by decide +kernel)) (by rw [l0]; decide) hoi.1 hoi.2) (fun _ => ⟨na.1, .inl na.2⟩) fun z => absurd z (by omega))⟩
end
end Toy
namespace Toy
open PySem L2
seal PySem.wpAny
section
variable {P : Program} {w : World} {K : PySem.W.Frag} {mg : Str → Option Value} {base : Heap}
def isR (l : Str) : Bool := decide (l.cps.toList.head? = some 114)
theorem isR_r (r : Room1) : isR (rLine r) = true := by
  unfold isR rLine rWords
  rw [join_sp, List.map_cons, jn_cons (by simp), head_room]; rfl
theorem isR_a (a : Arrow) : isR (aLine a) = false := by
  unfold isR aLine aWords
  rw [join_sp, List.map_cons, jn_cons (by simp), head_arrow]; rfl
theorem lines_isR (R : List Room1) (A : List Arrow) : (linesOf R A).map isR = List.replicate R.length true ++ List.replicate A.length false := by
  unfold linesOf
  rw [List.map_append, List.map_map, List.map_map]
  congr 1
  · refine List.eq_replicate_iff.mpr ⟨by simp, fun b hb => ?_⟩
    obtain ⟨r, _, rfl⟩ := List.mem_map.mp hb
    exact isR_r r
  · refine List.eq_replicate_iff.mpr ⟨by simp, fun b hb => ?_⟩
    obtain ⟨r, _, rfl⟩ := List.mem_map.mp hb
    exact isR_a r
theorem tf_no : ∀ {a b : Nat} {X Y : List Bool}, List.replicate a true ++ List.replicate b false = X ++ false :: Y → ∀ y ∈ Y, y = false
  | 0, b, X, Y, h, y, hy => by
    rw [List.replicate_zero, List.nil_append] at h
    have : y ∈ List.replicate b false := by rw [h]; exact List.mem_append_right _ (List.mem_cons_of_mem _ hy)
    exact List.eq_of_mem_replicate this
  | a + 1, b, [], Y, h, y, hy => by
    rw [List.replicate_succ] at h
    cases h
  | a + 1, b, x :: X, Y, h, y, hy => by
    rw [List.replicate_succ] at h
    exact tf_no (List.cons.inj h).2 y hy
theorem no_back {R : List Room1} {A : List Arrow} {X Y : List Str} {x y : Str} (hx : isR x = false) (hy : isR y = true) (hm : y ∈ Y) : ¬ linesOf R A = X ++ x :: Y := fun e => by
  have h := lines_isR R A
  rw [e, List.map_append, List.map_cons, hx] at h
  have := tf_no h.symm (isR y) (List.mem_map.mpr ⟨y, hm, rfl⟩)
  rw [hy] at this
  cases this
theorem cnt_tf (a b : Nat) : (List.replicate a true ++ List.replicate b false).count true = a := by
  rw [List.count_append, List.count_replicate, List.count_replicate]; simp
theorem lines_cnt {R : List Room1} {A : List Arrow} {Ls : List Str} (e : linesOf R A = Ls) : R.length = (Ls.map isR).count true ∧ R.length + A.length = Ls.length := by
  constructor
  · rw [← e, lines_isR, cnt_tf]
  · rw [← e]
    unfold linesOf
    rw [List.length_append, List.length_map, List.length_map]
def r0L : List Room1 := [(-1, "one"), (0, "plain"), (0, "plain"), (0, "plain")]
theorem r0_good : Good r0L := by
  refine ⟨⟨by decide, by decide, fun i h0 hi => ?_⟩, by decide, fun i r hr => ?_⟩
  · match i, h0, hi with
    | 1, _, _ => decide
    | 2, _, _ => decide
    | 3, _, _ => decide
    | k + 4, _, hi => exact absurd hi (by show ¬ k + 4 < 4; omega)
  · match i, hr with
    | 0, hr => cases hr; exact ⟨.inr (.inl rfl), by decide +kernel⟩
    | 1, hr => cases hr; exact ⟨.inl rfl, by decide +kernel⟩
    | 2, hr => cases hr; exact ⟨.inl rfl, by decide +kernel⟩
    | 3, hr => cases hr; exact ⟨.inl rfl, by decide +kernel⟩
    | k + 4, hr => cases hr
theorem r0_scope : ∀ s, s < 4 → ∀ t, t < 4 → 0 < s → 0 < t → scopeOf r0L s t = some 0 := by decide +kernel
def ar0 (c : Int) : Arrow := (1 + c % 3, c / 3 % 4, c / 12 % 5 - 1, 1 + c / 60 % 3, c / 7 % 100)
theorem ar0_good (c : Int) : GoodA r0L (ar0 c) := by
  have hl : r0L.length = 4 := rfl
  refine ⟨⟨(1 + c % 3).toNat, ?_, by rw [hl]; omega⟩, ?_, ?_, ⟨(1 + c / 60 % 3).toNat, ?_, by rw [hl]; omega⟩, ?_, 0, ?_⟩
  · show 1 + c % 3 = _; omega
  · show 0 ≤ c / 3 % 4 ∧ c / 3 % 4 ≤ 3; omega
  · show -1 ≤ c / 12 % 5 - 1 ∧ c / 12 % 5 - 1 < ((4 : Nat) : Int); omega
  · show 1 + c / 60 % 3 = _; omega
  · show 0 ≤ c / 7 % 100 ∧ c / 7 % 100 ≤ 99; omega
  · exact r0_scope (1 + c % 3).toNat (by omega) (1 + c / 60 % 3).toNat (by omega) (by omega) (by omega)
theorem gl_ok {l : Str} (h : GL l) : 10 ∉ l.cps.toList ∧ l.length ≤ 200 ∧ Asc l := by
  obtain ⟨ws, g, rfl⟩ := h
  have := line_len (gw_ok g)
  exact ⟨line_free (gw_ok g), by omega, (sp_4 g).1⟩
theorem okAll_of {R : List Room1} {A : List Arrow} (hG : Good R) (hA : A.length ≤ 20 ∧ ∀ a ∈ A, GoodA R a) : okAll R A := by
  refine ⟨⟨⟨?_, hG.most⟩, fun i hi => ⟨?_, ?_⟩⟩, hA⟩
  · have := hG.tree.pos
    rw [hsOf_len] at this
    exact this
  · unfold okHold
    by_cases z : i = 0
    · subst z; rw [if_pos rfl]; exact hG.tree.root
    · rw [if_neg z]; exact hG.tree.up i (by omega) (by rw [hsOf_len]; exact hi)
  · unfold okKind
    rw [kindAt_get hi]
    exact hG.kind i _ (List.getElem?_eq_getElem hi)
def sA1 : Str := "arrow 1 0 - 2 0"
def sR0 : Str := "room 0 plain"
def sA0 : Str := "arrow 0 0 - 1 0"
def sA4 : Str := "arrow 1 4 - 2 0"
theorem sA1_is : sA1 = aLine (1, 0, -1, 2, 0) := by decide +kernel
theorem sA0_is : sA0 = aLine (0, 0, -1, 1, 0) := by decide +kernel
theorem sA4_is : sA4 = aLine (1, 4, -1, 2, 0) := by decide +kernel
theorem sR0_is : sR0 = rLine (0, "plain") := by decide +kernel
theorem gl_a {a : Arrow} (h : ANum a) : GL (aLine a) := ⟨_, .inr ⟨a, h, rfl⟩, rfl⟩
theorem gl_r {r : Room1} (h : Num r.1) (h2 : KindW r.2) : GL (rLine r) := ⟨_, .inl ⟨r, h, h2, rfl⟩, rfl⟩
theorem num_k {k : Nat} (h : k < 100) : Num (k : Int) := .inr ⟨k, rfl, h⟩
theorem gl_A1 : GL sA1 := by rw [sA1_is]; exact gl_a ⟨num_k (k := 1) (by decide), num_k (k := 0) (by decide), .inl rfl, num_k (k := 2) (by decide), num_k (k := 0) (by decide)⟩
theorem gl_A0 : GL sA0 := by rw [sA0_is]; exact gl_a ⟨num_k (k := 0) (by decide), num_k (k := 0) (by decide), .inl rfl, num_k (k := 1) (by decide), num_k (k := 0) (by decide)⟩
theorem gl_A4 : GL sA4 := by rw [sA4_is]; exact gl_a ⟨num_k (k := 1) (by decide), num_k (k := 4) (by decide), .inl rfl, num_k (k := 2) (by decide), num_k (k := 0) (by decide)⟩
theorem gl_R0 : GL sR0 := by rw [sR0_is]; exact gl_r (num_k (k := 0) (by decide)) (.inl rfl)
theorem last_arrow {R : List Room1} {A : List Arrow} {X : List Str} {a : Arrow} (hn : ∀ x ∈ A, ANum x) (ha : ANum a) (e : linesOf R A = X ++ [aLine a]) : ∃ x ∈ A, mk1 x.1 = mk1 a.1 ∧ mk1 x.2.1 = mk1 a.2.1 := by
  have hA : A ≠ [] := fun z => by
    subst z
    unfold linesOf at e
    rw [List.map_nil, List.append_nil] at e
    have : aLine a ∈ R.map rLine := by rw [e]; simp
    obtain ⟨r, _, er⟩ := List.mem_map.mp this
    have h1 := isR_r r
    rw [er, isR_a] at h1
    cases h1
  obtain ⟨A', x, rfl⟩ : ∃ A' x, A = A' ++ [x] := ⟨A.dropLast, A.getLast hA, (List.dropLast_concat_getLast hA).symm⟩
  have e2 : linesOf R (A' ++ [x]) = linesOf R A' ++ [aLine x] := by
    unfold linesOf
    rw [List.map_append, List.append_assoc]; rfl
  rw [e2] at e
  have e3 : aLine x = aLine a := by
    have := congrArg List.getLast? e
    simpa using this
  have hx := hn x (by simp)
  have e4 : aWords x = aWords a := by
    rw [← line_split (aWords_ok hx), ← line_split (aWords_ok ha)]
    show Txt.split (aLine x) sp1 = Txt.split (aLine a) sp1
    rw [e3]
  unfold aWords at e4
  injection e4 with _ e4
  injection e4 with h1 e4
  injection e4 with h2 _
  exact ⟨x, by simp, h1, h2⟩
theorem wd_0 : ∀ n, n < 100 → wd n = wd 0 → n = 0 := by decide +kernel
theorem wd_4 : ∀ n, n < 100 → wd n = wd 4 → n = 4 := by decide +kernel
theorem wd_d : ∀ n, n < 100 → ¬ ("-" : Str) = wd n := by decide +kernel
theorem mk_0 {n : Int} (h : Num n) (e : mk1 n = mk1 0) : n = 0 := by
  have e0 : mk1 0 = wd 0 := mk1_nat 0
  rw [e0] at e
  rcases h with rfl | ⟨k, rfl, hk⟩
  · rw [mk1_none] at e; exact absurd e (wd_d 0 (by decide))
  · rw [mk1_nat] at e; rw [wd_0 k hk e]; rfl
theorem mk_4 {n : Int} (h : Num n) (e : mk1 n = mk1 4) : n = 4 := by
  have e0 : mk1 4 = wd 4 := mk1_nat 4
  rw [e0] at e
  rcases h with rfl | ⟨k, rfl, hk⟩
  · rw [mk1_none] at e; exact absurd e (wd_d 4 (by decide))
  · rw [mk1_nat] at e; rw [wd_4 k hk e]; rfl
theorem no_17 {X : List Str} : ∀ R A, okAll R A → ¬ linesOf R A = X ++ [sA0] := fun R A h e => by
  have hG := good_of h.1
  rw [sA0_is] at e
  obtain ⟨x, hx, e1, _⟩ := last_arrow (fun y hy => num_good hG (h.2.2 y hy)) ⟨num_k (k := 0) (by decide), num_k (k := 0) (by decide), .inl rfl, num_k (k := 1) (by decide), num_k (k := 0) (by decide)⟩ e
  have g := h.2.2 x hx
  have z := mk_0 (num_good hG g).1 e1
  obtain ⟨p, hp⟩ := g.sc
  unfold scopeOf at hp
  rw [z] at hp
  have hroot := hG.tree.root
  have : Rm.chain (hsOf R) (0 : Int).toNat = [0] := Rm.chain_top (by show ¬ 0 ≤ Rm.hold (hsOf R) 0; rw [hroot]; decide)
  rw [this] at hp
  cases hp
theorem no_18 {X : List Str} : ∀ R A, okAll R A → ¬ linesOf R A = X ++ [sA4] := fun R A h e => by
  have hG := good_of h.1
  rw [sA4_is] at e
  obtain ⟨x, hx, _, e2⟩ := last_arrow (fun y hy => num_good hG (h.2.2 y hy)) ⟨num_k (k := 1) (by decide), num_k (k := 4) (by decide), .inl rfl, num_k (k := 2) (by decide), num_k (k := 0) (by decide)⟩ e
  have g := h.2.2 x hx
  have z := mk_4 (num_good hG g).2.1 e2
  have := g.evt.2
  omega
theorem no_16 : ∀ R A, okAll R A → ¬ linesOf R A = [rLine (-1, "one")] := fun R A h e => by
  have hG := good_of h.1
  obtain ⟨h1, h2⟩ := lines_cnt e
  have hc : ([rLine (-1, "one")].map isR).count true = 1 := by rw [List.map_cons, List.map_nil, isR_r]; rfl
  rw [hc] at h1
  obtain ⟨r, rfl⟩ : ∃ r, R = [r] := by
    match R, h1 with
    | [r], _ => exact ⟨r, rfl⟩
  have hN := chart_num hG h.2.1 h.2.2
  have hr := hN.rn r (by simp)
  have e3 : rLine r = rLine (-1, "one") := by
    have := congrArg List.head? e
    unfold linesOf at this
    simpa using this
  have e4 : rWords r = rWords (-1, "one") := by
    rw [← line_split hr.2, ← line_split (rWords_ok (r := (-1, "one")) (.inl rfl) (.inr (.inl rfl)))]
    show Txt.split (rLine r) sp1 = Txt.split (rLine (-1, "one")) sp1
    rw [e3]
  unfold rWords at e4
  injection e4 with _ e4
  injection e4 with _ e4
  injection e4 with e5 _
  have hk := (hG.kind 0 r rfl).2
  have hroot := hG.tree.root
  have hkids : Rm.kids (hsOf [r]) 0 = [] := by
    cases z : Rm.kids (hsOf [r]) 0 with
    | nil => rfl
    | cons k ks =>
      exfalso
      have hm : k ∈ Rm.kids (hsOf [r]) 0 := by rw [z]; exact List.mem_cons_self
      have hh : Rm.hold [r.1] 0 = -1 := hroot
      unfold Rm.kids at hm
      simp [hsOf] at hm
      obtain ⟨a, ⟨rfl, h2⟩, _⟩ := hm
      rw [hh] at h2
      exact absurd h2 (by decide)
  have := hk.mpr hkids
  rw [e5] at this
  exact absurd this (by decide +kernel)
theorem no_21 {X : List Str} {m : Nat} (hX : (X.map isR).count true = 4) (hl : X.length + m = 25) : ∀ R A, okAll R A → ¬ linesOf R A = X ++ List.replicate m sA1 := fun R A h e => by
  obtain ⟨h1, h2⟩ := lines_cnt e
  have hr : isR sA1 = false := by rw [sA1_is]; exact isR_a _
  rw [List.map_append, List.count_append, hX, List.map_replicate, hr, List.count_replicate] at h1
  rw [List.length_append, List.length_replicate] at h2
  have := h.2.1
  simp at h1
  omega
theorem no_22 {X Y : List Str} (hX : (X.map isR).count true = 4) : ∀ R A, okAll R A → ¬ linesOf R A = X ++ List.replicate 13 sR0 ++ Y := fun R A h e => by
  obtain ⟨h1, _⟩ := lines_cnt e
  have hr : isR sR0 = true := by rw [sR0_is]; exact isR_r _
  rw [List.map_append, List.map_append, List.count_append, List.count_append, hX, List.map_replicate, hr, List.count_replicate] at h1
  have := h.1.1.2
  simp at h1
  omega
end
end Toy
namespace Toy
open PySem L2
seal PySem.wpAny
section
variable {P : Program} {w : World} {K : PySem.W.Frag} {mg : Str → Option Value} {base : Heap}
theorem cutN (xs : List V) (k : Nat) : cutV xs (some (k : Int)) Option.none = xs.drop k := by
  unfold cutV
  rw [HT.sIx_nat, HT.sIx_none]
  by_cases h : k ≤ xs.length
  · rw [Nat.min_eq_left h]
    exact List.take_of_length_le (by rw [List.length_drop]; exact Nat.le_refl _)
  · rw [Nat.min_eq_right (by omega), List.drop_length, List.drop_eq_nil_of_le (by omega)]
    simp
theorem lok_of {Ls : List Str} (h0 : Ls ≠ []) (hl : Ls.length ≤ 40) (h : ∀ l ∈ Ls, 10 ∉ l.cps.toList ∧ l.length ≤ 200 ∧ Asc l) : LOk Ls := ⟨h0, fun l m => (h l m).1, hl, fun l m => (h l m).2.1, fun l m => (h l m).2.2⟩
theorem nil_ok : 10 ∉ ("" : Str).cps.toList ∧ ("" : Str).length ≤ 200 ∧ Asc ("" : Str) := ⟨by decide +kernel, by decide +kernel, asc_of (by decide +kernel)⟩
theorem nil_not : ¬ GL ("" : Str) := fun g => by
  have e : ("" : Str).cps.toList = [] := by decide +kernel
  have := gl_head g
  rw [e] at this
  rcases this with z | z <;> cases z
theorem set_cut {α : Type} : ∀ {l : List α} {i : Nat} {x : α}, i < l.length → l.set i x = l.take i ++ x :: l.drop (i + 1)
  | [], _, _, h => by cases h
  | a :: l, 0, x, _ => rfl
  | a :: l, i + 1, x, h => by
    rw [List.set_cons_succ, set_cut (l := l) (i := i) (by simpa using h)]; rfl
def BadT (t : Str) : Prop := TxtOk t ∧ NoChart t
def spSpoil : Sp := fun vs H Q _ => ∃ (w cell : Int) (l : Addr) (As : List Arrow), vs = [.int w, .ref l, .int cell] ∧ H l = some (.lst ((linesOf r0L As).map V.str)) ∧ 1 ≤ As.length ∧ As.length ≤ 20 ∧ (∀ a ∈ As, GoodA r0L a) ∧ 0 ≤ w ∧ w ≤ 22 ∧ w ≠ 20 ∧
  ∀ t H', (∀ x o, H x = some o → x ≠ l → H' x = some o) → ((w = 0 ∧ t = textOf r0L As) ∨ (w ≠ 0 ∧ BadT t)) → Q (.str t) H'
theorem scSpoil : FnScope ["way", "lines", "cell", "place"] ["way", "lines", "cell"] (defScope sSpoil) := ⟨rfl, rfl, rfl, by decide +kernel, rfl, by decide +kernel, by decide +kernel⟩
theorem ok_spoil {f C fl : Addr} {fd fdl : FuncData} (D : DefAt K mg "_law_spoiled" sSpoil ["way", "lines", "cell"] f fd) (T : Txt K mg C) (Dl : DefAt K mg "_law_line" sLine ["way", "line", "cell"] fl fdl) : FnOk P w K mg base CX0 2 f fd ["way", "lines", "cell"] spSpoil := by
  have Gl : FnOk P w K mg base CX0 1 fl fdl ["way", "line", "cell"] spLine := ok_line Dl T
  refine D.fn.ok scSpoil (fun vs H Q E h => ?_) (fun cdv A outer s H vs Q E hr h => ?_)
  · obtain ⟨w, cell, l, As, rfl, _⟩ := h
    rfl
  obtain ⟨w, cell, l, As, rfl, hl, ha1, ha20, hgA, hw0, hw22, hw20, q⟩ := h
  refine ⟨_, pss_cons (ps_set (i := 3) scSpoil.nd rfl (Or.inl rfl) (pe_op op_mod (pv 2) (pe_callB call_len_seq (by rfl) T.len PySem.boot_len (pa_cons (pv 1) pa_nil))))
    (pss_cons (ps_if (PW.pt (pw_or (pt_chain op_le op_le pe_int (pv 0) pe_int) (pw_or1 (pt_cmpR op_eq (pv 0) pe_int (nomark _))))) (pss_one (ps_asg (pe_call Gl hr rfl Dl.mg Dl.fn.kp Dl.bd .nil pass0 (pa_cons (pv 0) (pa_cons (pe_ix ix_list (pv 1) (pv 3) (fun _ _ => rfl)) (pa_cons (pe_op op_fdiv (pv 2) pe_int) pa_nil)))) (pg_sub (pv 1) (pv 3) set_list))) pss_nil)
    (pss_cons (ps_if (pt_cmpR op_eq (pv 0) pe_int (nomark _)) (pss_one (ps_expr (pe_bm PySem.F.plainAttrs_list PySem.F.slot_list_append PySem.F.type_list_append mt_append (pv 1) (pa_cons pe_str pa_nil)))) pss_nil)
    (pss_cons (ps_if (pt_cmpR op_eq (pv 0) pe_int (nomark _)) (pss_one (ps_expr (pe_bm PySem.F.plainAttrs_list PySem.F.slot_list_insert PySem.F.type_list_insert mt_insert (pv 1) (pa_cons pe_int (pa_cons pe_str pa_nil))))) pss_nil)
    (pss_cons (ps_if (pt_cmpR op_eq (pv 0) pe_int (nomark _)) (pss_one (ps_expr (pe_bm PySem.F.plainAttrs_list PySem.F.slot_list_append PySem.F.type_list_append mt_append (pv 1) (pa_cons (pe_ix ix_list (pv 1) pe_int (fun _ _ => rfl)) pa_nil)))) pss_nil)
    (pss_cons (ps_if (pt_cmpR op_eq (pv 0) pe_int (nomark _)) (pss_one (ps_expr (pe_bm PySem.F.plainAttrs_list PySem.F.slot_list_append PySem.F.type_list_append mt_append (pv 1) (pa_cons pe_str pa_nil)))) pss_nil)
    (pss_cons (ps_if (pt_cmpR op_eq (pv 0) pe_int (nomark _)) (pss_one (ps_expr (pe_bm PySem.F.plainAttrs_list PySem.F.slot_list_insert PySem.F.type_list_insert mt_insert (pv 1) (pa_cons (pe_op op_mod (pv 2) pe_int) (pa_cons pe_str pa_nil))))) pss_nil)
    (pss_cons (ps_if (pt_cmpR op_eq (pv 0) pe_int (nomark _)) (pss_one (ps_set (i := 1) scSpoil.nd rfl (Or.inl rfl) (pe_slice sl_list (pv 1) po_none (po_some pe_int)))) pss_nil)
    (pss_cons (ps_if (pt_cmpR op_eq (pv 0) pe_int (nomark _)) (pss_one (ps_expr (pe_bm PySem.F.plainAttrs_list PySem.F.slot_list_append PySem.F.type_list_append mt_append (pv 1) (pa_cons pe_str pa_nil)))) pss_nil)
    (pss_cons (ps_if (pt_cmpR op_eq (pv 0) pe_int (nomark _)) (pss_one (ps_expr (pe_bm PySem.F.plainAttrs_list PySem.F.slot_list_append PySem.F.type_list_append mt_append (pv 1) (pa_cons pe_str pa_nil)))) pss_nil)
    (pss_cons (ps_if (pt_cmpR op_eq (pv 0) pe_int (nomark _)) (pss_one (ps_expr (pe_bm PySem.F.plainAttrs_list PySem.F.slot_list_extend PySem.F.type_list_extend mt_extend (pv 1) (pa_cons (pe_comp ["k"] [Option.none] rfl (pi_range1 rfl T.range (pa_cons (pe_op op_sub pe_int (pe_callB call_len_seq (by rfl) T.len PySem.boot_len (pa_cons (pv 1) pa_nil))) pa_nil)) (fun _ => pg_name (i := 0) (show (["k"] : List Str).Nodup by decide +kernel) rfl (Or.inl rfl)) (fun _ => pts_nil) (fun _ => pe_str)
        (N := ["way", "lines", "cell", "place"]) (ks := (defScope sSpoil).names) rfl rfl (by decide +kernel) (by decide +kernel) (by decide +kernel) (by decide +kernel)) pa_nil)))) pss_nil)
    (pss_cons (ps_if (pt_cmpR op_eq (pv 0) pe_int (nomark _)) (pss_one (ps_set (i := 1) scSpoil.nd rfl (Or.inl rfl) (pe_op op_cat (pe_op op_cat (pe_slice sl_list (pv 1) po_none (po_some pe_int)) (pe_comp ["k"] [Option.none] rfl (pi_range1 rfl T.range (pa_cons pe_int pa_nil)) (fun _ => pg_name (i := 0) (show (["k"] : List Str).Nodup by decide +kernel) rfl (Or.inl rfl)) (fun _ => pts_nil) (fun _ => pe_str)
        (N := ["way", "lines", "cell", "place"]) (ks := (defScope sSpoil).names) rfl rfl (by decide +kernel) (by decide +kernel) (by decide +kernel) (by decide +kernel))) (pe_slice sl_list (pv 1) (po_some pe_int) po_none)))) pss_nil)
    (pss_one (ps_ret (pe_bm PySem.F.plainAttrs_str PySem.F.slot_str_join PySem.F.type_str_join mt_join pe_str (pa_cons (pv 1) pa_nil))))))))))))))), ?_⟩
  have hokA : okAll r0L As := okAll_of r0_good ⟨ha20, hgA⟩
  have hB : ∀ x ∈ linesOf r0L As, GL x := lines_gl hokA
  have hLl : (linesOf r0L As).length = 4 + As.length := by
    unfold linesOf
    rw [List.length_append, List.length_map, List.length_map]; rfl
  have hcnt : ((linesOf r0L As).map isR).count true = 4 := by rw [lines_isR, cnt_tf]; rfl
  have hcnt4 : (((linesOf r0L As).take 4).map isR).count true = 4 := by
    have e : (linesOf r0L As).take 4 = r0L.map rLine := by
      unfold linesOf
      rw [List.take_append_of_le_length (by simp [r0L])]; rfl
    rw [e]
    simp [r0L, isR_r]
  have hfirst : (linesOf r0L As)[0]? = some (rLine (-1, "one")) := rfl
  have hthird : (linesOf r0L As)[3]? = some (rLine (0, "plain")) := rfl
  obtain ⟨a0, As', eA⟩ : ∃ a0 As', As = a0 :: As' := by
    cases As with
    | nil => cases ha1
    | cons a r => exact ⟨a, r, rfl⟩
  have hcut : linesOf r0L As = r0L.map rLine ++ aLine a0 :: As'.map aLine := by rw [eA]; rfl
  have htext : textOf r0L As = Txt.join nl1 (linesOf r0L As) := rfl
  generalize hLs : linesOf r0L As = Ls at hl hB hLl hcnt hcnt4 hfirst hthird hcut htext
  have hBk : ∀ x ∈ Ls, 10 ∉ x.cps.toList ∧ x.length ≤ 200 ∧ Asc x := fun x hx => gl_ok (hB x hx)
  have jok : ∀ {us : List Str}, us.length ≤ 100 → (∀ u ∈ us, u.length ≤ 1000) → JoinOk nl1 us = true := fun {us} h1 h2 => joinOk_of h2 (by omega) (by decide +kernel)
  have hBl : ∀ x ∈ Ls, x.length ≤ 1000 := fun x hx => by have := (hBk x hx).2.1; omega
  have hml : (ls : List Str) → (ls.map V.str).length = ls.length := fun ls => List.length_map _
  have b0 := Int.emod_nonneg cell (show ((4 + As.length : Nat) : Int) ≠ 0 by omega)
  have b1 := Int.emod_lt_of_pos cell (show (0 : Int) < ((4 + As.length : Nat) : Int) by omega)
  obtain ⟨p, hp, hpl⟩ : ∃ p : Nat, cell % ((4 + As.length : Nat) : Int) = (p : Int) ∧ p < Ls.length := ⟨(cell % ((4 + As.length : Nat) : Int)).toNat, by omega, by omega⟩
  refine ⟨_, rfl, _, rfl, l, _, rfl, .inl (SqL.of hl), _, _, rfl, rfl, (by show (0 : Int) < _; rw [hml]; omega), ?_⟩
  dsimp only [gName]
  rw [hml, hLl, hp]
  have sapp : ∀ (x : Str), Ls.map V.str ++ [V.str x] = (Ls ++ [x]).map V.str := fun x => by rw [List.map_append]; rfl
  have kp : ∀ {H2 : Hp} {o : HO}, Same H H2 → ∀ x o', H x = some o' → x ≠ l → (upd H2 l o) x = some o' := fun s2 x o' e n => by rw [upd_ne n]; exact s2 _ _ e
  have sm : Same H H := fun _ _ e => e
  have app_ok : ∀ (x : Str), (10 ∉ x.cps.toList ∧ x.length ≤ 200 ∧ Asc x) → LOk (Ls ++ [x]) := fun x hx => lok_of (by simp) (by rw [List.length_append]; show Ls.length + 1 ≤ 40; omega) fun y hy => by
    rcases List.mem_append.mp hy with z | z
    · exact hBk y z
    · rw [List.mem_singleton.mp z]; exact hx
  have app_l : ∀ (x : Str), x.length ≤ 1000 → ∀ u ∈ Ls ++ [x], u.length ≤ 1000 := fun x hx u hu => by
    rcases List.mem_append.mp hu with z | z
    · exact hBl u z
    · rw [List.mem_singleton.mp z]; exact hx
  have hcase : (w = 0 ∨ w = 11 ∨ w = 12 ∨ w = 13 ∨ w = 14 ∨ w = 15 ∨ w = 16 ∨ w = 17 ∨ w = 18 ∨ w = 21 ∨ w = 22) ∨ LW w := by
    unfold LW
    omega
  rcases hcase with hw | hw
  · rcases hw with rfl | rfl | rfl | rfl | rfl | rfl | rfl | rfl | rfl | rfl | rfl
    ·
      refine ⟨_, rfl, _, _, rfl, rfl, _, rfl, iteF ?_⟩
      refine ⟨_, rfl, iteF ?_⟩
      repeat (refine ⟨_, rfl, rfl, _, rfl, skip_if (by decide) ?_⟩)
      exact ⟨rfl, _, rfl, nl1, l, Ls, rfl, rfl, SqL.of hl, jok (by omega) hBl, q _ _ (fun x o e _ => e) (.inl ⟨rfl, htext.symm⟩)⟩
    ·
      refine ⟨_, rfl, _, _, rfl, rfl, _, rfl, iteT ?_⟩
      refine ⟨_, _, rfl, rfl, _, rfl, iteF ?_⟩
      repeat (refine ⟨_, rfl, rfl, _, rfl, skip_if (by decide) ?_⟩)
      refine ⟨_, rfl, rfl, _, rfl, take_if ?_⟩
      refine ⟨_, rfl, .inl ⟨rfl, _, SqL.of hl⟩, l, _, _, rfl, rfl, hl, small1000 (by rw [hml]; omega), ?_⟩
      repeat (refine ⟨_, rfl, rfl, _, rfl, skip_if (by decide) ?_⟩)
      have hL := app_ok ("" : Str) nil_ok
      exact ⟨rfl, _, rfl, nl1, l, Ls ++ [("" : Str)], rfl, rfl, SqL.of (by rw [upd_same]; exact congrArg (fun z => some (HO.lst z)) (sapp _)), jok (by rw [List.length_append]; show Ls.length + 1 ≤ 100; omega) (app_l ("" : Str) (by have := (nil_ok).2.1; omega)), q _ _ (kp sm) (.inr ⟨by decide, hL.txt, hL.bad ⟨("" : Str), by simp, nil_not⟩⟩)⟩
    ·
      refine ⟨_, rfl, _, _, rfl, rfl, _, rfl, iteT ?_⟩
      refine ⟨_, _, rfl, rfl, _, rfl, iteF ?_⟩
      repeat (refine ⟨_, rfl, rfl, _, rfl, skip_if (by decide) ?_⟩)
      refine ⟨_, rfl, rfl, _, rfl, take_if ?_⟩
      refine ⟨_, rfl, .inl ⟨rfl, _, SqL.of hl⟩, l, _, 0, _, rfl, rfl, hl, Nat.zero_le _, by rw [hml]; omega, ?_⟩
      repeat (refine ⟨_, rfl, rfl, _, rfl, skip_if (by decide) ?_⟩)
      have hL : LOk (("" : Str) :: Ls) := lok_of (by simp) (by rw [List.length_cons]; omega) fun y hy => by
        rcases List.mem_cons.mp hy with z | z
        · rw [z]; exact nil_ok
        · exact hBk y z
      exact ⟨rfl, _, rfl, nl1, l, ("" : Str) :: Ls, rfl, rfl, SqL.of (by rw [upd_same]; rfl), jok (by rw [List.length_cons]; omega) (fun u hu => by have := (hL.short u hu); omega), q _ _ (kp sm) (.inr ⟨by decide, hL.txt, hL.bad ⟨("" : Str), by simp, nil_not⟩⟩)⟩
    ·
      refine ⟨_, rfl, _, _, rfl, rfl, _, rfl, iteT ?_⟩
      refine ⟨_, _, rfl, rfl, _, rfl, iteF ?_⟩
      repeat (refine ⟨_, rfl, rfl, _, rfl, skip_if (by decide) ?_⟩)
      refine ⟨_, rfl, rfl, _, rfl, take_if ?_⟩
      refine ⟨_, rfl, .inl ⟨rfl, _, SqL.of hl⟩, _, rfl, l, _, _, _, rfl, rfl, SqL.of hl, atI_nat (j := 0) (by rw [List.getElem?_map, hfirst]; rfl), l, _, _, rfl, rfl, hl, small1000 (by rw [hml]; omega), ?_⟩
      repeat (refine ⟨_, rfl, rfl, _, rfl, skip_if (by decide) ?_⟩)
      have hL := app_ok (rLine (-1, "one")) (gl_ok (gl_r (r := (-1, "one")) (.inl rfl) (.inr (.inl rfl))))
      exact ⟨rfl, _, rfl, nl1, l, Ls ++ [(rLine (-1, "one"))], rfl, rfl, SqL.of (by rw [upd_same]; exact congrArg (fun z => some (HO.lst z)) (sapp _)), jok (by rw [List.length_append]; show Ls.length + 1 ≤ 100; omega) (app_l (rLine (-1, "one")) (by have := ((gl_ok (gl_r (r := (-1, "one")) (.inl rfl) (.inr (.inl rfl))))).2.1; omega)), q _ _ (kp sm) (.inr ⟨by decide, hL.txt, hL.no fun R A hok e => no_back (X := r0L.map rLine) (Y := As'.map aLine ++ [rLine (-1, "one")]) (y := rLine (-1, "one")) (isR_a a0) (isR_r _) (by simp) (e.trans (by rw [hcut, List.append_assoc, List.cons_append]))⟩)⟩
    ·
      refine ⟨_, rfl, _, _, rfl, rfl, _, rfl, iteT ?_⟩
      refine ⟨_, _, rfl, rfl, _, rfl, iteF ?_⟩
      repeat (refine ⟨_, rfl, rfl, _, rfl, skip_if (by decide) ?_⟩)
      refine ⟨_, rfl, rfl, _, rfl, take_if ?_⟩
      refine ⟨_, rfl, .inl ⟨rfl, _, SqL.of hl⟩, l, _, _, rfl, rfl, hl, small1000 (by rw [hml]; omega), ?_⟩
      repeat (refine ⟨_, rfl, rfl, _, rfl, skip_if (by decide) ?_⟩)
      have hL := app_ok sR0 (gl_ok gl_R0)
      exact ⟨rfl, _, rfl, nl1, l, Ls ++ [sR0], rfl, rfl, SqL.of (by rw [upd_same]; exact congrArg (fun z => some (HO.lst z)) (sapp _)), jok (by rw [List.length_append]; show Ls.length + 1 ≤ 100; omega) (app_l sR0 (by have := ((gl_ok gl_R0)).2.1; omega)), q _ _ (kp sm) (.inr ⟨by decide, hL.txt, hL.no fun R A hok e => no_back (X := r0L.map rLine) (Y := As'.map aLine ++ [sR0]) (y := sR0) (isR_a a0) (by rw [sR0_is]; exact isR_r _) (by simp) (e.trans (by rw [hcut, List.append_assoc, List.cons_append]))⟩)⟩
    ·
      refine ⟨_, rfl, _, _, rfl, rfl, _, rfl, iteT ?_⟩
      refine ⟨_, _, rfl, rfl, _, rfl, iteF ?_⟩
      repeat (refine ⟨_, rfl, rfl, _, rfl, skip_if (by decide) ?_⟩)
      refine ⟨_, rfl, rfl, _, rfl, take_if ?_⟩
      have c0 := Int.emod_nonneg cell (show (4 : Int) ≠ 0 by decide)
      have c1 := Int.emod_lt_of_pos cell (show (0 : Int) < 4 by decide)
      obtain ⟨k, hk, hk4⟩ : ∃ k : Nat, cell % 4 = (k : Int) ∧ k < 4 := ⟨(cell % 4).toNat, by omega, by omega⟩
      refine ⟨_, rfl, .inl ⟨rfl, _, SqL.of hl⟩, _, rfl, _, _, rfl, rfl, (by show (0 : Int) < _; decide), l, _, k, V.str sA1, rfl, (by show [V.int (cell % 4), V.str sA1] = [V.int (k : Int), V.str sA1]; rw [hk]), hl, by rw [hml]; omega, by rw [hml]; omega, ?_⟩
      repeat (refine ⟨_, rfl, rfl, _, rfl, skip_if (by decide) ?_⟩)
      have hL : LOk (Ls.take k ++ sA1 :: Ls.drop k) := lok_of (by simp) (by rw [List.length_append, List.length_cons, List.length_take, List.length_drop]; omega) fun y hy => by
        rcases List.mem_append.mp hy with z | z
        · exact hBk y (List.mem_of_mem_take z)
        · rcases List.mem_cons.mp z with z | z
          · rw [z]; exact gl_ok gl_A1
          · exact hBk y (List.mem_of_mem_drop z)
      have hmem : rLine (0, "plain") ∈ Ls.drop k := List.mem_of_getElem? (i := 3 - k) (by rw [List.getElem?_drop, show k + (3 - k) = 3 by omega]; exact hthird)
      exact ⟨rfl, _, rfl, nl1, l, Ls.take k ++ sA1 :: Ls.drop k, rfl, rfl, SqL.of (by rw [upd_same, List.map_append, List.map_cons, List.map_take, List.map_drop]), jok (by have := hL.len; omega) (fun u hu => by have := (hL.short u hu); omega), q _ _ (kp sm) (.inr ⟨by decide, hL.txt, hL.no fun R A hok e => no_back (by rw [sA1_is]; exact isR_a _) (isR_r _) hmem e⟩)⟩
    ·
      refine ⟨_, rfl, _, _, rfl, rfl, _, rfl, iteT ?_⟩
      refine ⟨_, _, rfl, rfl, _, rfl, iteF ?_⟩
      repeat (refine ⟨_, rfl, rfl, _, rfl, skip_if (by decide) ?_⟩)
      refine ⟨_, rfl, rfl, _, rfl, take_if ?_⟩
      refine ⟨_, rfl, _, rfl, l, _, rfl, SqL.of hl, fun l4 hl4 => ?_⟩
      repeat (refine ⟨_, rfl, rfl, _, rfl, skip_if (by decide) ?_⟩)
      have e1 : Ls.take 1 = [rLine (-1, "one")] := by
        cases hz : Ls with
        | nil => rw [hz] at hfirst; cases hfirst
        | cons x r => rw [hz] at hfirst; cases hfirst; rfl
      have e4 : (upd H l4 (.lst (cutV (Ls.map V.str) Option.none (some 1)))) l4 = some (.lst ([rLine (-1, "one")].map V.str)) := by
        rw [upd_same, ← e1, List.map_take]
        exact congrArg (fun z => some (HO.lst z)) (cutTo (Ls.map V.str) 1)
      have hL : LOk [rLine (-1, "one")] := lok_of (by simp) (by simp) fun y hy => by rw [List.mem_singleton.mp hy]; exact gl_ok (gl_r (r := (-1, "one")) (.inl rfl) (.inr (.inl rfl)))
      exact ⟨rfl, _, rfl, nl1, l4, [rLine (-1, "one")], rfl, rfl, SqL.of e4, jok (by simp) (fun u hu => by have := (hL.short u hu); omega), q _ _ (fun x o e _ => (same_new hl4 _) _ _ e) (.inr ⟨by decide, hL.txt, hL.no no_16⟩)⟩
    ·
      refine ⟨_, rfl, _, _, rfl, rfl, _, rfl, iteT ?_⟩
      refine ⟨_, _, rfl, rfl, _, rfl, iteF ?_⟩
      repeat (refine ⟨_, rfl, rfl, _, rfl, skip_if (by decide) ?_⟩)
      refine ⟨_, rfl, rfl, _, rfl, take_if ?_⟩
      refine ⟨_, rfl, .inl ⟨rfl, _, SqL.of hl⟩, l, _, _, rfl, rfl, hl, small1000 (by rw [hml]; omega), ?_⟩
      repeat (refine ⟨_, rfl, rfl, _, rfl, skip_if (by decide) ?_⟩)
      have hL := app_ok sA0 (gl_ok gl_A0)
      exact ⟨rfl, _, rfl, nl1, l, Ls ++ [sA0], rfl, rfl, SqL.of (by rw [upd_same]; exact congrArg (fun z => some (HO.lst z)) (sapp _)), jok (by rw [List.length_append]; show Ls.length + 1 ≤ 100; omega) (app_l sA0 (by have := ((gl_ok gl_A0)).2.1; omega)), q _ _ (kp sm) (.inr ⟨by decide, hL.txt, hL.no no_17⟩)⟩
    ·
      refine ⟨_, rfl, _, _, rfl, rfl, _, rfl, iteT ?_⟩
      refine ⟨_, _, rfl, rfl, _, rfl, iteF ?_⟩
      repeat (refine ⟨_, rfl, rfl, _, rfl, skip_if (by decide) ?_⟩)
      refine ⟨_, rfl, rfl, _, rfl, take_if ?_⟩
      refine ⟨_, rfl, .inl ⟨rfl, _, SqL.of hl⟩, l, _, _, rfl, rfl, hl, small1000 (by rw [hml]; omega), ?_⟩
      repeat (refine ⟨_, rfl, rfl, _, rfl, skip_if (by decide) ?_⟩)
      have hL := app_ok sA4 (gl_ok gl_A4)
      exact ⟨rfl, _, rfl, nl1, l, Ls ++ [sA4], rfl, rfl, SqL.of (by rw [upd_same]; exact congrArg (fun z => some (HO.lst z)) (sapp _)), jok (by rw [List.length_append]; show Ls.length + 1 ≤ 100; omega) (app_l sA4 (by have := ((gl_ok gl_A4)).2.1; omega)), q _ _ (kp sm) (.inr ⟨by decide, hL.txt, hL.no no_18⟩)⟩
    ·
      refine ⟨_, rfl, _, _, rfl, rfl, _, rfl, iteT ?_⟩
      refine ⟨_, _, rfl, rfl, _, rfl, iteF ?_⟩
      repeat (refine ⟨_, rfl, rfl, _, rfl, skip_if (by decide) ?_⟩)
      refine ⟨_, rfl, rfl, _, rfl, take_if ?_⟩
      refine ⟨_, rfl, .inl ⟨rfl, _, SqL.of hl⟩, _, rfl, l, _, rfl, .inl (SqL.of hl), _, _, rfl, rfl, _, rfl, by rw [hml]; omega, by rw [hml]; omega, fun bk D hD => ?_⟩
      obtain ⟨m, hm, hm25⟩ : ∃ m : Nat, (25 - ((Ls.map V.str).length : Int)).toNat = m ∧ Ls.length + m = 25 := ⟨(25 - ((Ls.map V.str).length : Int)).toNat, rfl, by rw [hml]; omega⟩
      rw [hm]
      refine comp_rangeA (Pv := fun i ys σ H' => ∃ v, σ = [v] ∧ ys = (List.replicate i sA1).map V.str ∧ Same H H') ⟨_, rfl, rfl, same_new hD _⟩ ?_ ?_
      · rintro i ys σ H' hi hDi ⟨v, rfl, hys, (s' : Same _ _)⟩
        exact ⟨hDi, by rw [hys, hml, List.length_replicate]; exact small1000 (by omega), ⟨_, rfl, by rw [hys, List.replicate_succ', List.map_append]; rfl, sameUpd s' hD _⟩⟩
      rintro ys σ H2 hD2 ⟨v, rfl, hys, (s2 : Same _ _)⟩
      rw [hys] at hD2
      refine ⟨l, D, _, _, rfl, rfl, s2 _ _ hl, hD2, by rw [hml, hml, List.length_replicate]; exact Nat.le_of_lt (small1000 (by omega)), ?_⟩
      repeat (refine ⟨_, rfl, rfl, _, rfl, skip_if (by decide) ?_⟩)
      have hL : LOk (Ls ++ List.replicate m sA1) := lok_of (by cases hz : Ls with | nil => rw [hz] at hLl; simp at hLl; omega | cons _ _ => simp) (by rw [List.length_append, List.length_replicate]; omega) fun y hy => by
        rcases List.mem_append.mp hy with z | z
        · exact hBk y z
        · rw [List.eq_of_mem_replicate z]; exact gl_ok gl_A1
      exact ⟨rfl, _, rfl, nl1, l, Ls ++ List.replicate m sA1, rfl, rfl, SqL.of (by rw [upd_same, List.map_append]), jok (by have := hL.len; omega) (fun u hu => by have := (hL.short u hu); omega), q _ _ (kp s2) (.inr ⟨by decide, hL.txt, hL.no (no_21 hcnt hm25)⟩)⟩
    ·
      refine ⟨_, rfl, _, _, rfl, rfl, _, rfl, iteT ?_⟩
      refine ⟨_, _, rfl, rfl, _, rfl, iteF ?_⟩
      repeat (refine ⟨_, rfl, rfl, _, rfl, skip_if (by decide) ?_⟩)
      refine ⟨_, rfl, rfl, _, rfl, take_if ?_⟩
      refine ⟨_, rfl, _, rfl, l, _, rfl, SqL.of hl, fun l4 hl4 => ?_⟩
      have s4 := same_new hl4 (.lst (cutV (Ls.map V.str) Option.none (some 4)))
      have e4 : (upd H l4 (.lst (cutV (Ls.map V.str) Option.none (some 4)))) l4 = some (.lst ((Ls.take 4).map V.str)) := by
        rw [upd_same, List.map_take]
        exact congrArg (fun z => some (HO.lst z)) (cutTo (Ls.map V.str) 4)
      generalize upd H l4 (.lst (cutV (Ls.map V.str) Option.none (some 4))) = H4 at s4 e4 ⊢
      refine ⟨13, rfl, by decide, by decide, fun bk D hD => ?_⟩
      refine comp_rangeA (n := 13) (Pv := fun i ys σ H' => ∃ v, σ = [v] ∧ ys = (List.replicate i sR0).map V.str ∧ Same H4 H') ⟨_, rfl, rfl, same_new hD _⟩ ?_ ?_
      · rintro i ys σ H' hi hDi ⟨v, rfl, hys, (s' : Same _ _)⟩
        exact ⟨hDi, by rw [hys, hml, List.length_replicate]; exact small1000 (by omega), ⟨_, rfl, by rw [hys, List.replicate_succ', List.map_append]; rfl, sameUpd s' hD _⟩⟩
      rintro ys σ H5 hD5 ⟨v, rfl, hys, (s5 : Same _ _)⟩
      rw [hys] at hD5
      have s45 := s4.trans s5
      refine ⟨l4, D, _, _, rfl, rfl, s5 _ _ e4, hD5, by rw [hml, hml, List.length_replicate, List.length_take]; exact Nat.le_of_lt (small1000 (by omega)), fun p6 hp6 => ?_⟩
      have s6 := same_new hp6 (.lst ((Ls.take 4).map V.str ++ (List.replicate 13 sR0).map V.str))
      have e6 : (upd H5 p6 (.lst ((Ls.take 4).map V.str ++ (List.replicate 13 sR0).map V.str))) p6 = some (.lst ((Ls.take 4).map V.str ++ (List.replicate 13 sR0).map V.str)) := upd_same
      generalize upd H5 p6 (.lst ((Ls.take 4).map V.str ++ (List.replicate 13 sR0).map V.str)) = H6 at s6 e6 ⊢
      have s06 := s45.trans s6
      refine ⟨_, rfl, _, rfl, l, _, rfl, SqL.of (s06 _ _ hl), fun l7 hl7 => ?_⟩
      have s7 := same_new hl7 (.lst (cutV (Ls.map V.str) (some 4) Option.none))
      have e7 : (upd H6 l7 (.lst (cutV (Ls.map V.str) (some 4) Option.none))) l7 = some (.lst ((Ls.drop 4).map V.str)) := by
        rw [upd_same, List.map_drop]
        exact congrArg (fun z => some (HO.lst z)) (cutN (Ls.map V.str) 4)
      generalize upd H6 l7 (.lst (cutV (Ls.map V.str) (some 4) Option.none)) = H7 at s7 e7 ⊢
      refine ⟨p6, l7, _, _, rfl, rfl, s7 _ _ e6, e7, by rw [List.length_append, hml, hml, hml, List.length_replicate, List.length_take, List.length_drop]; exact Nat.le_of_lt (small1000 (by omega)), fun l8 hl8 => ?_⟩
      repeat (refine ⟨_, rfl, rfl, _, rfl, skip_if (by decide) ?_⟩)
      have hL : LOk (Ls.take 4 ++ List.replicate 13 sR0 ++ Ls.drop 4) := lok_of (by simp) (by rw [List.length_append, List.length_append, List.length_replicate, List.length_take, List.length_drop]; omega) fun y hy => by
        rcases List.mem_append.mp hy with z | z
        · rcases List.mem_append.mp z with z | z
          · exact hBk y (List.mem_of_mem_take z)
          · rw [List.eq_of_mem_replicate z]; exact gl_ok gl_R0
        · exact hBk y (List.mem_of_mem_drop z)
      exact ⟨rfl, _, rfl, nl1, l8, Ls.take 4 ++ List.replicate 13 sR0 ++ Ls.drop 4, rfl, rfl, SqL.of (by rw [upd_same, List.map_append, List.map_append]), jok (by have := hL.len; omega) (fun u hu => by have := (hL.short u hu); omega), q _ _ (fun x o e _ => (s06.trans (s7.trans (same_new hl8 _))) _ _ e) (.inr ⟨by decide, hL.txt, hL.no (no_22 hcnt4)⟩)⟩
  · have hpm := List.getElem_mem hpl
    obtain ⟨ws, hg, hws⟩ := hB _ hpm
    have hatp : atI (Ls.map V.str) (p : Int) = some (.str (Txt.join sp1 ws)) := atI_nat (by rw [List.getElem?_map, List.getElem?_eq_getElem hpl, hws]; rfl)
    have hLW := hw
    have hpart : ∀ x ∈ Ls.take p ++ Ls.drop (p + 1), 10 ∉ x.cps.toList ∧ x.length ≤ 200 ∧ Asc x := fun x hx => by
      rcases List.mem_append.mp hx with z | z
      · exact hBk x (List.mem_of_mem_take z)
      · exact hBk x (List.mem_of_mem_drop z)
    have hpart2 : (Ls.take p ++ Ls.drop (p + 1)).length ≤ 38 := by rw [List.length_append, List.length_take, List.length_drop]; omega
    have hset : ∀ x : Str, (Ls.map V.str).set p (V.str x) = (Ls.set p x).map V.str := fun x => by rw [List.map_set]
    have setl : ∀ x : Str, x.length ≤ 1000 → ∀ u ∈ Ls.set p x, u.length ≤ 1000 := fun x hx u hu => by
      rcases List.mem_or_eq_of_mem_set hu with z | z
      · exact hBl u z
      · rw [z]; exact hx
    have hne : w ≠ 0 := by unfold LW at hw; omega
    rcases hw with rfl | rfl | rfl | rfl | rfl | rfl | rfl | rfl | rfl | rfl | rfl
    all_goals first
      | (refine ⟨_, rfl, _, _, rfl, rfl, _, rfl, iteT ?_⟩; refine ⟨_, _, rfl, rfl, _, rfl, iteT ?_⟩)
      | (refine ⟨_, rfl, _, _, rfl, rfl, _, rfl, iteT ?_⟩; refine ⟨_, _, rfl, rfl, _, rfl, iteF ?_⟩; refine ⟨_, rfl, rfl, _, rfl, take_if ?_⟩)
    all_goals
      refine ⟨_, rfl, _, rfl, _, rfl, l, _, _, _, rfl, rfl, SqL.of hl, hatp, _, rfl, _, _, rfl, rfl, ⟨by decide, by decide⟩, _, _, ws, rfl, hg, hLW, fun x H2 s2 hx => ?_⟩
      refine ⟨_, rfl, _, rfl, l, _, (p : Int), p, rfl, rfl, s2 _ _ hl, ixN_nat (by rw [hml]; exact hpl), ?_⟩
      repeat (refine ⟨_, rfl, rfl, _, rfl, skip_if (by decide) ?_⟩)
      refine ⟨rfl, _, rfl, nl1, l, Ls.set p x, rfl, rfl, SqL.of (by rw [upd_same, hset]), jok (by rw [List.length_set]; omega) (setl x (by have := hx.len; omega)), q _ _ (kp s2) (.inr ⟨hne, ?_⟩)⟩
      rw [set_cut hpl]
      exact spoilt_text hx hpart hpart2
end
end Toy
namespace Toy
open PySem L2
seal PySem.wpAny
section
variable {P : Program} {w : World} {K : PySem.W.Frag} {mg : Str → Option Value} {base : Heap}
def spLaw (K : PySem.W.Frag) : Sp := fun vs H Q _ => ∃ (a : Addr) (ns : List Int), vs = [.ref a] ∧ SqL K H a (ns.map V.int) ∧ ns.length ≤ 63 ∧ ∀ H', Q (.bl true) H'
theorem scLaw : FnScope ["script", "rooms", "arrows", "k", "cell", "way", "text", "refused", "back"] ["script"] (defScope sLaw) := ⟨rfl, rfl, rfl, by decide +kernel, rfl, by decide +kernel, by decide +kernel⟩
def arsL (ns : List Int) (n : Nat) : List Arrow := (List.range n).map fun k => ar0 (Rm.cell ns (3 + k))
theorem arsL_len (ns : List Int) (n : Nat) : (arsL ns n).length = n := by unfold arsL; rw [List.length_map, List.length_range]
theorem arsL_good (ns : List Int) (n : Nat) : ∀ a ∈ arsL ns n, GoodA r0L a := fun a ha => by
  obtain ⟨k, _, rfl⟩ := List.mem_map.mp ha
  exact ar0_good _
theorem out_in : ∀ n, n < 23 → n ≠ 0 → n ≠ 20 → (if true then !inV (.int ((n : Nat) : Int)) [.int 0, .int 20] else inV (.int ((n : Nat) : Int)) [.int 0, .int 20]) = true := by decide +kernel
theorem in_in : ∀ n, n < 23 → (n = 0 ∨ n = 20) → (if true then !inV (.int ((n : Nat) : Int)) [.int 0, .int 20] else inV (.int ((n : Nat) : Int)) [.int 0, .int 20]) = false := by decide +kernel
theorem ok_law {f C fcell ftx fsp frb fbt frd : Addr} {fd fdcell fdtx fdsp fdrb fdbt fdrd : FuncData} (D : DefAt K mg "law" sLaw ["script"] f fd) (T : Txt K mg C)
    (Dc : DefAt K mg "_law_cell_at" sCell ["script", "k"] fcell fdcell)
    (Dt : DefAt K mg "_law_text" sLText ["rooms", "arrows"] ftx fdtx) (Gt : FnOk P w K mg base CX0 2 ftx fdtx ["rooms", "arrows"] spLText)
    (Dsp : DefAt K mg "_law_spoiled" sSpoil ["way", "lines", "cell"] fsp fdsp) (Gsp : FnOk P w K mg base CX0 2 fsp fdsp ["way", "lines", "cell"] spSpoil)
    (Drb : DefAt K mg "_law_read_by" sReadBy ["text"] frb fdrb) (Grb : FnOk P w K mg base CX0 9 frb fdrb ["text"] spReadBy)
    (Dbt : DefAt K mg "_law_base_takes" sBaseT ["text"] fbt fdbt) (Gbt : FnOk P w K mg base CX0 9 fbt fdbt ["text"] spBaseT)
    (Dd : DefAt K mg "read" sRead ["text"] frd fdrd) (Gd : FnOk P w K mg base CX0 8 frd fdrd ["text"] (spRead C)) : FnOk P w K mg base CX0 12 f fd ["script"] (spLaw K) := by
  have Gc : FnOk P w K mg base CX0 1 fcell fdcell ["script", "k"] (spCell K) := ok_cell Dc T
  refine D.fn.ok scLaw (fun vs H Q E h => ?_) (fun cdv A outer s H vs Q E hr h => ?_)
  · obtain ⟨a, ns, rfl, _⟩ := h
    rfl
  obtain ⟨a, ns, rfl, hS, hn, q⟩ := h
  have hr1 : Room 1 _ := hr.mono (by decide)
  have hr2 : Room 2 _ := hr.mono (by decide)
  obtain ⟨t6, p6, r6⟩ : ∃ t, PSs (cxOf CX0 P w K mg base ["script", "rooms", "arrows", "k", "cell", "way", "text", "refused", "back"] "law" (defScope sLaw) f cdv A outer s H E).nox ((defBody sLaw).drop 6) t ∧
      ∀ (r ar : Addr) (ps qs : List Addr) (As : List Arrow) (n : Nat) (t0 : Str) (v3 v4 : Option V) (H0 : Hp), n < 23 → As.length ≤ 20 → (∀ x ∈ As, GoodA r0L x) → H0 r = some (.lst (ps.map V.ref)) → Items H0 ps (r0L.map rV) → H0 ar = some (.lst (qs.map V.ref)) → Items H0 qs (As.map aV) →
        (((n = 0 ∨ n = 20) ∧ t0 = textOf r0L As) ∨ (n ≠ 0 ∧ n ≠ 20 ∧ BadT t0)) →
        t { nx := fun _ H' => Q .non H', rt := Q } [some (.ref a), some (.ref r), some (.ref ar), v3, v4, some (.int (n : Int)), some (.str t0), Option.none, Option.none] H0 := by
    refine ⟨_, pss_cons (ps_set (i := 7) scLaw.nd rfl (Or.inl rfl) (pe_call Grb (hr.mono (by decide)) rfl Drb.mg Drb.fn.kp Drb.bd .nil pass0 (pa_cons (pv 6) pa_nil)))
      (pss_cons (ps_if (pt_cmpR op_notIn_seq (pv 5) (pe_tup (pa_cons pe_int (pa_cons pe_int pa_nil))) (by with_unfolding_all rfl)) (pss_one (ps_ret (pe_and (pe_cmpR op_eq (pv 7) pe_int (nomark _)) (pe_one (pe_call Gbt (hr.mono (by decide)) rfl Dbt.mg Dbt.fn.kp Dbt.bd .nil pass0 (pa_cons (pv 6) pa_nil)))))) pss_nil)
      (pss_cons (ps_if (pt_cmpR op_ne (pv 7) pe_int (nomark _)) pss_never pss_nil)
      (pss_cons (ps_set (i := 8) scLaw.nd rfl (Or.inl rfl) (pe_call Gd (hr.mono (by decide)) rfl Dd.mg Dd.fn.kp Dd.bd .nil pass0 (pa_cons (pv 6) pa_nil)))
      (pss_one (ps_ret (pe_and (pe_cmpR (op_eqD hr.units) (pe_fld (pv 8) rfl) (pv 1) (nomark _)) (pe_one (pe_cmpR (op_eqD hr.units) (pe_fld (pv 8) rfl) (pv 2) (nomark _))))))))), ?_⟩
    intro r ar ps qs As n t0 v3 v4 H0 hn23 h20 hA er hI ear hJ hcase
    have hG := r0_good
    rcases hcase with ⟨hn0, ht⟩ | ⟨hn0, hn20, hT⟩
    · have hN := chart_num hG h20 hA
      have hC : ChartTxt t0 r0L As := ⟨ht, hN, by simp [r0L], hG, h20, hA⟩
      refine ⟨_, rfl, t0, rfl, .inl ⟨r0L, As, hC, fun H1 s1 => ?_⟩⟩
      refine ⟨_, rfl, (by show 2 ≤ sizeLine; decide), fun tt htt => ?_⟩
      have s2 := s1.trans (same_new htt (.tup [.int 0, .int 20]))
      have et : (upd H1 tt (.tup [.int 0, .int 20])) tt = some (.tup [.int 0, .int 20]) := upd_same
      generalize upd H1 tt (.tup [.int 0, .int 20]) = H2 at s2 et ⊢
      refine ⟨tt, _, rfl, .inr (SqT.of et), rfl, rfl, _, rfl, ?_⟩
      rw [in_in n hn23 hn0]
      refine iteF ?_
      refine ⟨_, rfl, rfl, _, rfl, ?_⟩
      refine iteNS rfl ?_
      subst ht
      refine ⟨_, rfl, r0L, As, rfl, hN, by simp [r0L], hG, h20, hA, fun b H13 s13 hCb => ?_⟩
      have s03 := s2.trans s13
      obtain ⟨dx', l, m, ps', qs', g1, g2, g3, g4, g5⟩ := hCb.ob
      have shR := shape_R hG
      have shA := shape_A As
      refine ⟨_, rfl, b, C, dx', _, _, rfl, g1, T.cl, T.nR, flds_rooms l m, _, rfl, _, _, .lst (SqL.of g2) (rooms_rd g3), .lst (SqL.of (s03 _ _ er)) (rooms_rd (hI.same s03)), shaped_of shR (by decide), shaped_of shR (by decide), _, rfl, ?_⟩
      rw [show (if (false : Bool) = true then !PyData.eqv (.list (r0L.map roomD)) (.list (r0L.map roomD)) else PyData.eqv (.list (r0L.map roomD)) (.list (r0L.map roomD))) = true from shR.2.2]
      refine iteT ?_
      refine ⟨_, rfl, b, C, dx', _, _, rfl, g1, T.cl, T.nA, flds_arrows l m, _, rfl, _, _, .lst (SqL.of g4) (arrs_rd g5), .lst (SqL.of (s03 _ _ ear)) (arrs_rd (hJ.same s03)), shaped_of shA (by decide), shaped_of shA (by decide), ?_⟩
      rw [show (if (false : Bool) = true then !PyData.eqv (.list (As.map arrD)) (.list (As.map arrD)) else PyData.eqv (.list (As.map arrD)) (.list (As.map arrD))) = true from shA.2.2]
      exact q H13
    · refine ⟨_, rfl, t0, rfl, .inr ⟨hT.1, hT.2, fun H1 s1 => ?_⟩⟩
      refine ⟨_, rfl, (by show 2 ≤ sizeLine; decide), fun tt htt => ?_⟩
      have et : (upd H1 tt (.tup [.int 0, .int 20])) tt = some (.tup [.int 0, .int 20]) := upd_same
      generalize upd H1 tt (.tup [.int 0, .int 20]) = H2 at et ⊢
      refine ⟨tt, _, rfl, .inr (SqT.of et), rfl, rfl, _, rfl, ?_⟩
      rw [out_in n hn23 hn0 hn20]
      refine iteT ?_
      refine ⟨_, rfl, rfl, _, rfl, ?_⟩
      refine iteT ?_
      exact ⟨_, rfl, t0, rfl, hT.1, hT.2, fun H3 _ => q H3⟩
  refine ⟨_, pss_cons (ps_set (i := 1) scLaw.nd rfl (Or.inl rfl) (pe_lst (pa_cons (pe_tup (pa_cons (pe_un un_neg pe_int) (pa_cons pe_str pa_nil))) (pa_cons (pe_tup (pa_cons pe_int (pa_cons pe_str pa_nil))) (pa_cons (pe_tup (pa_cons pe_int (pa_cons pe_str pa_nil))) (pa_cons (pe_tup (pa_cons pe_int (pa_cons pe_str pa_nil))) pa_nil))))))
    (pss_cons (ps_set (i := 2) scLaw.nd rfl (Or.inl rfl) (pe_lst pa_nil))
    (pss_cons (ps_for PassesOwn.never rfl (pi_range1 rfl T.range (pa_cons (pe_op op_add pe_int (pe_op op_mod (pe_call Gc hr1 rfl Dc.mg Dc.fn.kp Dc.bd .nil pass0 (pa_cons (pv 0) (pa_cons pe_int pa_nil))) pe_int)) pa_nil)) (pg_name (i := 3) scLaw.nd rfl (Or.inl rfl))
      (pss_cons (ps_set (i := 4) scLaw.nd rfl (Or.inl rfl) (pe_call Gc hr1 rfl Dc.mg Dc.fn.kp Dc.bd .nil pass0 (pa_cons (pv 0) (pa_cons (pe_op op_add pe_int (pv 3)) pa_nil))))
      (pss_one (ps_expr (pe_bm PySem.F.plainAttrs_list PySem.F.slot_list_append PySem.F.type_list_append mt_append (pv 2) (pa_cons (pe_tup (pa_cons (pe_op op_add pe_int (pe_op op_mod (pv 4) pe_int)) (pa_cons (pe_op op_mod (pe_op op_fdiv (pv 4) pe_int) pe_int) (pa_cons (pe_op op_sub (pe_op op_mod (pe_op op_fdiv (pv 4) pe_int) pe_int) pe_int) (pa_cons (pe_op op_add pe_int (pe_op op_mod (pe_op op_fdiv (pv 4) pe_int) pe_int)) (pa_cons (pe_op op_mod (pe_op op_fdiv (pv 4) pe_int) pe_int) pa_nil)))))) pa_nil))))))
    (pss_cons (ps_set (i := 5) scLaw.nd rfl (Or.inl rfl) (pe_op op_mod (pe_call Gc hr1 rfl Dc.mg Dc.fn.kp Dc.bd .nil pass0 (pa_cons (pv 0) (pa_cons pe_int pa_nil))) pe_int))
    (pss_cons (ps_set (i := 6) scLaw.nd rfl (Or.inl rfl) (pe_call Gt hr2 rfl Dt.mg Dt.fn.kp Dt.bd .nil pass0 (pa_cons (pv 1) (pa_cons (pv 2) pa_nil))))
    (pss_cons (ps_if (pt_cmpR op_ne (pv 5) pe_int (nomark _)) (pss_one (ps_set (i := 6) scLaw.nd rfl (Or.inl rfl) (pe_call Gsp hr2 rfl Dsp.mg Dsp.fn.kp Dsp.bd .nil pass0 (pa_cons (pv 5) (pa_cons (pe_bm PySem.F.plainAttrs_str PySem.F.slot_str_split PySem.F.type_str_split mt_split (pv 6) (pa_cons pe_str pa_nil)) (pa_cons (pe_op op_mod (pe_call Gc hr1 rfl Dc.mg Dc.fn.kp Dc.bd .nil pass0 (pa_cons (pv 0) (pa_cons pe_int pa_nil))) (pe_op op_pow pe_int pe_int)) pa_nil)))))) pss_nil)
    p6))))), ?_⟩
  refine ⟨_, rfl, (by show 2 ≤ sizeLine; decide), fun p0 h0 => ?_⟩
  have s1 := same_new h0 (.tup (rV (-1, "one")))
  have e1 : (upd H p0 (.tup (rV (-1, "one")))) p0 = some (.tup (rV (-1, "one"))) := upd_same
  have es : (upd H p0 (.tup [V.int (-1), V.str "one"])) = upd H p0 (.tup (rV (-1, "one"))) := rfl
  generalize hH1 : upd H p0 (.tup (rV (-1, "one"))) = H1 at s1 e1 es
  show tTup _ _ (upd H p0 (.tup [V.int (-1), V.str "one"])) _
  rw [es]
  refine ⟨(by show 2 ≤ sizeLine; decide), fun p1 h1 => ?_⟩
  have s2 := same_new h1 (.tup (rV (0, "plain")))
  have e2 : (upd H1 p1 (.tup (rV (0, "plain")))) p1 = some (.tup (rV (0, "plain"))) := upd_same
  have es2 : (upd H1 p1 (.tup [V.int 0, V.str "plain"])) = upd H1 p1 (.tup (rV (0, "plain"))) := rfl
  generalize hH2 : upd H1 p1 (.tup (rV (0, "plain"))) = H2 at s2 e2 es2
  show tTup _ _ (upd H1 p1 (.tup [V.int 0, V.str "plain"])) _
  rw [es2]
  refine ⟨(by show 2 ≤ sizeLine; decide), fun p2 h2 => ?_⟩
  have s3 := same_new h2 (.tup (rV (0, "plain")))
  have e3 : (upd H2 p2 (.tup (rV (0, "plain")))) p2 = some (.tup (rV (0, "plain"))) := upd_same
  have es3 : (upd H2 p2 (.tup [V.int 0, V.str "plain"])) = upd H2 p2 (.tup (rV (0, "plain"))) := rfl
  generalize hH3 : upd H2 p2 (.tup (rV (0, "plain"))) = H3 at s3 e3 es3
  show tTup _ _ (upd H2 p2 (.tup [V.int 0, V.str "plain"])) _
  rw [es3]
  refine ⟨(by show 2 ≤ sizeLine; decide), fun p3 h3 => ?_⟩
  have s4 := same_new h3 (.tup (rV (0, "plain")))
  have e4 : (upd H3 p3 (.tup (rV (0, "plain")))) p3 = some (.tup (rV (0, "plain"))) := upd_same
  refine ⟨(by show 4 ≤ sizeLine; decide), fun r hr0 => ?_⟩
  have s5 : Same (upd H3 p3 (.tup (rV (0, "plain")))) (upd (upd H3 p3 (.tup (rV (0, "plain")))) r (.lst ([p0, p1, p2, p3].map V.ref))) := same_new hr0 (.lst ([p0, p1, p2, p3].map V.ref))
  have e5 : (upd (upd H3 p3 (.tup (rV (0, "plain")))) r (.lst ([p0, p1, p2, p3].map V.ref))) r = some (.lst ([p0, p1, p2, p3].map V.ref)) := upd_same
  have k3 := s5 _ _ e4
  have k2 := s5 _ _ (s4 _ _ e3)
  have k1 := s5 _ _ (s4 _ _ (s3 _ _ e2))
  have k0 := s5 _ _ (s4 _ _ (s3 _ _ (s2 _ _ e1)))
  have s05 := s1.trans (s2.trans (s3.trans (s4.trans s5)))
  have es5 : (upd (upd H3 p3 (.tup [V.int 0, V.str "plain"])) r (.lst [V.ref p0, V.ref p1, V.ref p2, V.ref p3])) = upd (upd H3 p3 (.tup (rV (0, "plain")))) r (.lst ([p0, p1, p2, p3].map V.ref)) := rfl
  generalize upd (upd H3 p3 (.tup (rV (0, "plain")))) r (.lst ([p0, p1, p2, p3].map V.ref)) = H5 at s5 e5 k0 k1 k2 k3 s05 es5
  dsimp only [gName]
  rw [es5]
  have hI5 : Items H5 [p0, p1, p2, p3] (r0L.map rV) := ⟨rfl, fun i p o a1 a2 => by
    match i, a1, a2 with
    | 0, a1, a2 => cases a1; cases a2; exact k0
    | 1, a1, a2 => cases a1; cases a2; exact k1
    | 2, a1, a2 => cases a1; cases a2; exact k2
    | 3, a1, a2 => cases a1; cases a2; exact k3⟩
  refine ⟨(by show 0 ≤ sizeLine; decide), fun ar har => ?_⟩
  have s6 := same_new har (.lst [])
  have e6 : (upd H5 ar (.lst [])) ar = some (.lst []) := upd_same
  generalize upd H5 ar (.lst []) = H6 at s6 e6 ⊢
  have b0 := Int.emod_nonneg (Rm.cell ns 1) (show (20 : Int) ≠ 0 by decide)
  have b1 := Int.emod_lt_of_pos (Rm.cell ns 1) (show (0 : Int) < 20 by decide)
  obtain ⟨m, hm, hm1, hm20⟩ : ∃ m : Nat, 1 + Rm.cell ns 1 % 20 = (m : Int) ∧ 1 ≤ m ∧ m ≤ 20 := ⟨(1 + Rm.cell ns 1 % 20).toNat, by omega, by omega, by omega⟩
  refine ⟨_, rfl, a, ns, 1, rfl, (s05.trans s6).seq hS, _, _, rfl, rfl, (by show (0 : Int) < _; decide), _, _, rfl, rfl, _, rfl, by omega, by omega, ?_⟩
  have em : (1 + Rm.cell ns 1 % 20).toNat = m := by omega
  rw [em]
  refine for_range (fun i σ H' => ∃ v3 v4 qs, σ = [some (.ref a), some (.ref r), some (.ref ar), v3, v4, Option.none, Option.none, Option.none, Option.none] ∧ Same H5 H' ∧ H' ar = some (.lst (qs.map V.ref)) ∧ Items H' qs ((arsL ns i).map aV)) ⟨_, _, [], rfl, s6, e6, ⟨rfl, fun i p o a1 => by cases a1⟩⟩ ?_ ?_
  · rintro i σ H7 hi ⟨v3, v4, qs, rfl, (s7 : Same _ _), e7, hJ7⟩
    have ei : (0 : Int) + (i : Int) = (i : Int) := by omega
    rw [ei]
    have e3i : (3 : Int) + (i : Int) = ((3 + i : Nat) : Int) := by omega
    refine ⟨_, rfl, _, rfl, _, _, rfl, rfl, a, ns, 3 + i, (by show [V.ref a, V.int (3 + (i : Int))] = _; rw [e3i]), (s05.trans s7).seq hS, ?_⟩
    generalize hc : Rm.cell ns (3 + i) = c
    have pos : ∀ {k : Int}, 0 < k → (0 : Int) < k := fun h => h
    refine ⟨_, rfl, .inl ⟨rfl, _, SqL.of e7⟩, _, rfl, _, _, rfl, rfl, (by show (0 : Int) < _; decide), _, _, rfl, rfl, _, rfl, _, _, rfl, rfl, ⟨by decide, by decide⟩, _, _, rfl, rfl, (by show (0 : Int) < _; decide), _, rfl, _, _, rfl, rfl, ⟨by decide, by decide⟩, _, _, rfl, rfl, (by show (0 : Int) < _; decide), _, _, rfl, rfl, _, rfl, _, _, rfl, rfl, ⟨by decide, by decide⟩, _, _, rfl, rfl, (by show (0 : Int) < _; decide), _, _, rfl, rfl, _, rfl, _, _, rfl, rfl, ⟨by decide, by decide⟩, _, _, rfl, rfl, (by show (0 : Int) < _; decide), (by show 5 ≤ sizeLine; decide), fun t ht => ?_⟩
    have st := same_new ht (.tup (aV (ar0 c)))
    have nat : ar ≠ t := ne_of_none e7 ht
    refine ⟨ar, _, _, rfl, rfl, (by rw [upd_ne nat]; exact e7), ?_, ?_⟩
    · rw [List.length_map, hJ7.1, List.length_map, arsL_len]; exact small1000 (by omega)
    · have ne : ∀ b u, H7 b = some u → b ≠ ar → (upd (upd H7 t (.tup (aV (ar0 c)))) ar (.lst (qs.map V.ref ++ [V.ref t]))) b = some u := fun b u e n => by
        rw [upd_ne n]; exact st _ _ e
      refine ⟨_, _, qs ++ [t], rfl, fun b u e => ne b u (s7 _ _ e) (ne_of_none e har), ?_, ?_⟩
      · rw [upd_same, List.map_append]; rfl
      · have ea : arsL ns (i + 1) = arsL ns i ++ [ar0 c] := by
          unfold arsL
          rw [List.range_succ, List.map_append, ← hc]; rfl
        rw [ea, List.map_append]
        refine Items.snoc ⟨hJ7.1, fun j p o a1 a2 => ne _ _ (hJ7.2 j p o a1 a2) (ne_of (hJ7.2 j p o a1 a2) e7 (by intro z; cases z))⟩ ?_
        show (upd (upd H7 t (.tup (aV (ar0 c)))) ar (.lst (qs.map V.ref ++ [V.ref t]))) t = _
        rw [upd_ne nat.symm, upd_same]
  · rintro σ H7 ⟨v3, v4, qs, rfl, (s7 : Same _ _), e7, hJ7⟩
    have hAg := arsL_good ns m
    have hAl := arsL_len ns m
    generalize arsL ns m = As at hJ7 hAg hAl
    have s07 := s05.trans s7
    have c0 := Int.emod_nonneg (Rm.cell ns 0) (show (23 : Int) ≠ 0 by decide)
    have c1 := Int.emod_lt_of_pos (Rm.cell ns 0) (show (0 : Int) < 23 by decide)
    obtain ⟨n, hn', hn23⟩ : ∃ n : Nat, Rm.cell ns 0 % 23 = (n : Int) ∧ n < 23 := ⟨(Rm.cell ns 0 % 23).toNat, by omega, by omega⟩
    refine ⟨_, rfl, a, ns, 0, rfl, s07.seq hS, _, _, rfl, rfl, (by show (0 : Int) < _; decide), ?_⟩
    dsimp only [gName]
    rw [hn']
    have hN := chart_num r0_good (A := As) (by omega) hAg
    have er7 := s7 _ _ e5
    have hI7 := hI5.same s7
    refine ⟨_, rfl, _, rfl, r, ar, r0L, As, rfl, ⟨_, er7, hI7⟩, ⟨qs, e7, hJ7⟩, hN, fun H8 s8 => ?_⟩
    have tl := text_len hN
    have tsp := text_split hN (by simp [r0L])
    refine ⟨_, rfl, rfl, _, rfl, ?_⟩
    by_cases z20 : n = 20
    · rw [decide_eq_true (show V.int (n : Int) = V.int 20 by rw [z20]; rfl)]
      refine iteF ?_
      exact r6 r ar _ qs As n _ v3 v4 H8 hn23 (by omega) hAg (s8 _ _ er7) (hI7.same s8) (s8 _ _ e7) (hJ7.same s8) (.inl ⟨.inr z20, rfl⟩)
    · rw [decide_eq_false (show ¬ V.int (n : Int) = V.int 20 from fun z => z20 (by injection z with z; omega))]
      refine iteT ?_
      refine ⟨_, rfl, _, rfl, rfl, textOf r0L As, nl1, rfl, rfl, by decide +kernel, big_ok (by omega), big_ok (Nat.le_trans (parts_le _ _) (by omega)), (by rw [tsp]; exact big_ok (Nat.le_trans (lines_count hN) (by omega))), fun sl hsl => ?_⟩
      have s9 := same_new hsl (.lst ((Txt.split (textOf r0L As) nl1).map V.str))
      have e9 : (upd H8 sl (.lst ((Txt.split (textOf r0L As) nl1).map V.str))) sl = some (.lst ((linesOf r0L As).map V.str)) := by rw [upd_same, tsp]
      generalize upd H8 sl (.lst ((Txt.split (textOf r0L As) nl1).map V.str)) = H9 at s9 e9 ⊢
      refine ⟨_, rfl, a, ns, 2, rfl, (s07.trans (s8.trans s9)).seq hS, _, _, rfl, rfl, ⟨by decide, by decide, by decide⟩, _, _, rfl, rfl, (by show (0 : Int) < _; decide), (n : Int), _, sl, As, rfl, e9, by omega, by omega, hAg, by omega, by omega, by omega, fun t1 H10 k10 hcl => ?_⟩
      have s810 : Same H8 H10 := fun x o e => k10 x o (s9 _ _ e) (ne_of_none e hsl)
      have s710 := s8.trans s810
      refine r6 r ar _ qs As n t1 v3 v4 H10 hn23 (by omega) hAg (s710 _ _ er7) (hI7.same s710) (s710 _ _ e7) (hJ7.same s710) ?_
      rcases hcl with ⟨z0, zt⟩ | ⟨z0, zt⟩
      · exact .inl ⟨.inl (by omega), zt⟩
      · exact .inr ⟨by omega, z20, zt⟩
end
end Toy
namespace Toy
open PySem L2
seal PySem.wpAny
theorem kitCls_ref {K : PySem.W.Frag} {C : Addr} {d : ClassData} {t : Value} {r : Bool} (a : PySem.W.clsIn K C = some d) (b : PySem.W.typeIn K (.ref C) = some (.type "type")) (c : PySem.W.subIn K t (.ref C) = some r) : PySem.W.kitCls K t (.ref C) = some r := by
  show (if ((PySem.W.clsIn K C).isSome && PySem.W.typeIn K (.ref C) == some (.type "type")) = true then PySem.W.subIn K t (.ref C) else none) = some r
  rw [a, b, if_pos (by rw [beq_self_eq_true]; rfl)]
  exact c
theorem kitCls_type {K : PySem.W.Frag} {T : String} {t : Value} {r : Bool} (m : PySem.W.kitMeta T = true) (c : PySem.W.subIn K t (.type T) = some r) : PySem.W.kitCls K t (.type T) = some r := by
  show (if PySem.W.kitMeta T = true then PySem.W.subIn K t (.type T) else none) = some r
  rw [if_pos m]
  exact c
theorem la1 {P : List Value → Prop} (h : ∀ a, P [a]) : ∀ us : List Value, us.length = 1 → P us
  | [a], _ => h a
theorem la2 {P : List Value → Prop} (h : ∀ a b, P [a, b]) : ∀ us : List Value, us.length = 2 → P us
  | [a, b], _ => h a b
theorem la3 {P : List Value → Prop} (h : ∀ a b c, P [a, b, c]) : ∀ us : List Value, us.length = 3 → P us
  | [a, b, c], _ => h a b c
theorem la5 {P : List Value → Prop} (h : ∀ a b c d e, P [a, b, c, d, e]) : ∀ us : List Value, us.length = 5 → P us
  | [a, b, c, d, e], _ => h a b c d e
abbrev gA (K : PySem.W.Frag) (x : Str) (f : Addr) : Prop := PySem.W.nsIn K mainGlobals x = some (some (.ref f))
abbrev gL (K : PySem.W.Frag) (f : Addr) (oc : Value) (od : Option Addr) (x q : Str) (s : Stmt) (kV dc pm : Value) (an : Option Addr) (cd ct : Value) (sl : Array (Option Value)) : Prop := K.lookup f = some ⟨oc, od, .func (PySem.W.fnOf x q (defArgs s) (defBody s) (defScope s) .none kV dc pm an cd ct), sl⟩ ∧ PySem.W.codeIn K cd q = true ∧ PySem.W.keepIn K (.ref f) = true
theorem all_mk {l : PySem.W.OpenLaw} {w : World} {K : PySem.W.Frag} {h : Heap} {mg : Str → Option Value} {fa C CB CE CC CT : Addr} (X : K.In h) (G : h.Ns mainGlobals mg) (hfa : mg "law" = some (.ref fa))
    {cd_BadChart : ClassData}
    {cd_ChartError : ClassData}
    {cd_Clash : ClassData}
    {cd_TooMany : ClassData}
    {t_DASH t_FIGURES : Tok}
    {t_HOLDER : Tok}
    {t_KIND : Tok}
    {t_NONE : Tok}
    {t_SOURCE : Tok}
    {t_EVENT : Tok}
    {t_GUARD : Tok}
    {t_TARGET : Tok}
    {t_DEED : Tok}
    {t_LAST_EVENT : Tok}
    {t_LAST_DEED : Tok}
    {t_MOST_ROOMS : Tok}
    {t_MOST_ARROWS : Tok}
    {t_ROOM_WORDS : Tok}
    {t_ARROW_WORDS : Tok}
    {a_CHOOSING : Addr} {d_CHOOSING : Option Addr} {n_CHOOSING : Nat} {s_CHOOSING : Array (Option Value)} {t_CHOOSING_0 : Tok} {t_CHOOSING_1 : Tok}
    {a_KINDS : Addr} {d_KINDS : Option Addr} {n_KINDS : Nat} {s_KINDS : Array (Option Value)} {t_KINDS_0 : Tok} {t_KINDS_1 : Tok} {t_KINDS_2 : Tok} {t_KINDS_3 : Tok}
    {f1 f2 f3 f4 f5 f6 f7 f8 f9 f10 f11 f12 f13 f14 f15 f16 f17 f18 f19 f20 f21 f22 f23 f24 f25 : Addr} {od1 an1 od2 an2 od3 an3 od4 an4 od5 an5 od6 an6 od7 an7 od8 an8 od9 an9 od10 an10 od11 an11 od12 an12 od13 an13 od14 an14 od15 an15 od16 an16 od17 an17 od18 an18 od19 an19 od20 an20 od21 an21 od22 an22 od23 an23 od24 an24 od25 an25 : Option Addr} {sl1 sl2 sl3 sl4 sl5 sl6 sl7 sl8 sl9 sl10 sl11 sl12 sl13 sl14 sl15 sl16 sl17 sl18 sl19 sl20 sl21 sl22 sl23 sl24 sl25 : Array (Option Value)} {oc1 kV1 dc1 pm1 cd1 ct1 oc2 kV2 dc2 pm2 cd2 ct2 oc3 kV3 dc3 pm3 cd3 ct3 oc4 kV4 dc4 pm4 cd4 ct4 oc5 kV5 dc5 pm5 cd5 ct5 oc6 kV6 dc6 pm6 cd6 ct6 oc7 kV7 dc7 pm7 cd7 ct7 oc8 kV8 dc8 pm8 cd8 ct8 oc9 kV9 dc9 pm9 cd9 ct9 oc10 kV10 dc10 pm10 cd10 ct10 oc11 kV11 dc11 pm11 cd11 ct11 oc12 kV12 dc12 pm12 cd12 ct12 oc13 kV13 dc13 pm13 cd13 ct13 oc14 kV14 dc14 pm14 cd14 ct14 oc15 kV15 dc15 pm15 cd15 ct15 oc16 kV16 dc16 pm16 cd16 ct16 oc17 kV17 dc17 pm17 cd17 ct17 oc18 kV18 dc18 pm18 cd18 ct18 oc19 kV19 dc19 pm19 cd19 ct19 oc20 kV20 dc20 pm20 cd20 ct20 oc21 kV21 dc21 pm21 cd21 ct21 oc22 kV22 dc22 pm22 cd22 ct22 oc23 kV23 dc23 pm23 cd23 ct23 oc24 kV24 dc24 pm24 cd24 ct24 oc25 kV25 dc25 pm25 cd25 ct25 : Value}
    (aC : PySem.W.nsIn K mainGlobals "Chart" = some (some (.ref C))) (pg : PySem.W.plainGet K C Str.empty = true) (hd : PySem.W.hasDictIn K C = true) (po : PySem.W.plainOver K C = true) (sa : PySem.W.findIn K (.ref C) "__setattr__" = some (some (.builtin "object.__setattr__"))) (mk : PySem.W.makesIn K C = true) (kc : PySem.W.keepIn K (.ref C) = true)
    (nR : PySem.W.findIn K (.ref C) "rooms" = some none)
    (nA : PySem.W.findIn K (.ref C) "arrows" = some none)
    (aE_BadChart : PySem.W.nsIn K mainGlobals "BadChart" = some (some (.ref CB))) (cc_BadChart : PySem.W.clsIn K CB = some cd_BadChart) (ct_BadChart : PySem.W.typeIn K (.ref CB) = some (.type "type"))
    (aE_ChartError : PySem.W.nsIn K mainGlobals "ChartError" = some (some (.ref CE))) (cc_ChartError : PySem.W.clsIn K CE = some cd_ChartError) (ct_ChartError : PySem.W.typeIn K (.ref CE) = some (.type "type"))
    (aE_Clash : PySem.W.nsIn K mainGlobals "Clash" = some (some (.ref CC))) (cc_Clash : PySem.W.clsIn K CC = some cd_Clash) (ct_Clash : PySem.W.typeIn K (.ref CC) = some (.type "type"))
    (aE_TooMany : PySem.W.nsIn K mainGlobals "TooMany" = some (some (.ref CT))) (cc_TooMany : PySem.W.clsIn K CT = some cd_TooMany) (ct_TooMany : PySem.W.typeIn K (.ref CT) = some (.type "type"))
    (cs_BadChart_ChartError : PySem.W.subIn K (.ref CB) (.ref CE) = some true)
    (cs_BadChart_Clash : PySem.W.subIn K (.ref CB) (.ref CC) = some false)
    (cs_BadChart_TooMany : PySem.W.subIn K (.ref CB) (.ref CT) = some false)
    (cs_BadChart_BadChart : PySem.W.subIn K (.ref CB) (.ref CB) = some true)
    (st_BadChart_BaseException : PySem.W.subIn K (.ref CB) (.type "BaseException") = some true)
    (st_ChartError_BaseException : PySem.W.subIn K (.ref CE) (.type "BaseException") = some true)
    (st_Clash_BaseException : PySem.W.subIn K (.ref CC) (.type "BaseException") = some true)
    (st_TooMany_BaseException : PySem.W.subIn K (.ref CT) (.type "BaseException") = some true)
    (st_BadChart_ValueError : PySem.W.subIn K (.ref CB) (.type "ValueError") = some true)
    (ex_BadChart : PySem.W.excIn K CB bmV "ValueError.__new__" = true)
    (gDash : PySem.W.nsIn K mainGlobals "DASH" = some (some (.str "-" t_DASH)))
    (gFig : PySem.W.nsIn K mainGlobals "FIGURES" = some (some (.str "0123456789" t_FIGURES)))
    (a1 : PySem.W.findIn K (.ref C) "__init__" = some (some (.ref f1))) (i1 : PySem.W.isFn K (.ref f1) = true)
    (l1 : gL K f1 oc1 od1 "__init__" "Chart.__init__" sInit kV1 dc1 pm1 an1 cd1 ct1 sl1)
    (a2 : gA K "check_rooms" f2)
    (l2 : gL K f2 oc2 od2 "check_rooms" "check_rooms" sCheckRooms kV2 dc2 pm2 an2 cd2 ct2 sl2)
    (a3 : gA K "check_holder" f3)
    (l3 : gL K f3 oc3 od3 "check_holder" "check_holder" sCheckHolder kV3 dc3 pm3 an3 cd3 ct3 sl3)
    (a4 : gA K "check_kind" f4)
    (l4 : gL K f4 oc4 od4 "check_kind" "check_kind" sCheckKind kV4 dc4 pm4 an4 cd4 ct4 sl4)
    (a5 : gA K "check_arrows" f5)
    (l5 : gL K f5 oc5 od5 "check_arrows" "check_arrows" sCheckArrows kV5 dc5 pm5 an5 cd5 ct5 sl5)
    (a6 : gA K "check_arrow" f6)
    (l6 : gL K f6 oc6 od6 "check_arrow" "check_arrow" sCheckArrow kV6 dc6 pm6 an6 cd6 ct6 sl6)
    (a7 : gA K "check_part" f7)
    (l7 : gL K f7 oc7 od7 "check_part" "check_part" sPart kV7 dc7 pm7 an7 cd7 ct7 sl7)
    (a8 : gA K "children" f8)
    (l8 : gL K f8 oc8 od8 "children" "children" sChildren kV8 dc8 pm8 an8 cd8 ct8 sl8)
    (a9 : gA K "within" f9)
    (l9 : gL K f9 oc9 od9 "within" "within" sWithin kV9 dc9 pm9 an9 cd9 ct9 sl9)
    (a10 : gA K "lies_in" f10)
    (l10 : gL K f10 oc10 od10 "lies_in" "lies_in" sLies kV10 dc10 pm10 an10 cd10 ct10 sl10)
    (a11 : gA K "scope" f11)
    (l11 : gL K f11 oc11 od11 "scope" "scope" sScope kV11 dc11 pm11 an11 cd11 ct11 sl11)
    (a12 : gA K "shown" f12)
    (l12 : gL K f12 oc12 od12 "shown" "shown" sShown kV12 dc12 pm12 an12 cd12 ct12 sl12)
    (a13 : gA K "room_line" f13)
    (l13 : gL K f13 oc13 od13 "room_line" "room_line" sRoomLine kV13 dc13 pm13 an13 cd13 ct13 sl13)
    (a14 : gA K "arrow_line" f14)
    (l14 : gL K f14 oc14 od14 "arrow_line" "arrow_line" sArrowLine kV14 dc14 pm14 an14 cd14 ct14 sl14)
    (a15 : gA K "number_word" f15)
    (l15 : gL K f15 oc15 od15 "number_word" "number_word" sNumWord kV15 dc15 pm15 an15 cd15 ct15 sl15)
    (a16 : gA K "read" f16)
    (l16 : gL K f16 oc16 od16 "read" "read" sRead kV16 dc16 pm16 an16 cd16 ct16 sl16)
    (a17 : gA K "read_number" f17)
    (l17 : gL K f17 oc17 od17 "read_number" "read_number" sReadNum kV17 dc17 pm17 an17 cd17 ct17 sl17)
    (a18 : gA K "_law_cell_at" f18)
    (l18 : gL K f18 oc18 od18 "_law_cell_at" "_law_cell_at" sCell kV18 dc18 pm18 an18 cd18 ct18 sl18)
    (a19 : gA K "_law_mark" f19)
    (l19 : gL K f19 oc19 od19 "_law_mark" "_law_mark" sMark kV19 dc19 pm19 an19 cd19 ct19 sl19)
    (a20 : gA K "_law_text" f20)
    (l20 : gL K f20 oc20 od20 "_law_text" "_law_text" sLText kV20 dc20 pm20 an20 cd20 ct20 sl20)
    (a21 : gA K "_law_line" f21)
    (l21 : gL K f21 oc21 od21 "_law_line" "_law_line" sLine kV21 dc21 pm21 an21 cd21 ct21 sl21)
    (a22 : gA K "_law_spoiled" f22)
    (l22 : gL K f22 oc22 od22 "_law_spoiled" "_law_spoiled" sSpoil kV22 dc22 pm22 an22 cd22 ct22 sl22)
    (a23 : gA K "_law_read_by" f23)
    (l23 : gL K f23 oc23 od23 "_law_read_by" "_law_read_by" sReadBy kV23 dc23 pm23 an23 cd23 ct23 sl23)
    (a24 : gA K "_law_base_takes" f24)
    (l24 : gL K f24 oc24 od24 "_law_base_takes" "_law_base_takes" sBaseT kV24 dc24 pm24 an24 cd24 ct24 sl24)
    (a25 : gA K "law" f25)
    (l25 : gL K f25 oc25 od25 "law" "law" sLaw kV25 dc25 pm25 an25 cd25 ct25 sl25)
    (z_len : PySem.W.nsIn K mainGlobals "len" = some none)
    (z_range : PySem.W.nsIn K mainGlobals "range" = some none)
    (z_list : PySem.W.nsIn K mainGlobals "list" = some none)
    (z_isinstance : PySem.W.nsIn K mainGlobals "isinstance" = some none)
    (z_bool : PySem.W.nsIn K mainGlobals "bool" = some none)
    (z_int : PySem.W.nsIn K mainGlobals "int" = some none)
    (z_tuple : PySem.W.nsIn K mainGlobals "tuple" = some none)
    (z_sorted : PySem.W.nsIn K mainGlobals "sorted" = some none)
    (z_enumerate : PySem.W.nsIn K mainGlobals "enumerate" = some none)
    (z_str : PySem.W.nsIn K mainGlobals "str" = some none)
    (z_all : PySem.W.nsIn K mainGlobals "all" = some none)
    (z_ValueError : PySem.W.nsIn K mainGlobals "ValueError" = some none)
    (g_HOLDER : PySem.W.nsIn K mainGlobals "HOLDER" = some (some (.int (0) t_HOLDER)))
    (g_KIND : PySem.W.nsIn K mainGlobals "KIND" = some (some (.int (1) t_KIND)))
    (g_NONE : PySem.W.nsIn K mainGlobals "NONE" = some (some (.int (-1) t_NONE)))
    (g_SOURCE : PySem.W.nsIn K mainGlobals "SOURCE" = some (some (.int (0) t_SOURCE)))
    (g_EVENT : PySem.W.nsIn K mainGlobals "EVENT" = some (some (.int (1) t_EVENT)))
    (g_GUARD : PySem.W.nsIn K mainGlobals "GUARD" = some (some (.int (2) t_GUARD)))
    (g_TARGET : PySem.W.nsIn K mainGlobals "TARGET" = some (some (.int (3) t_TARGET)))
    (g_DEED : PySem.W.nsIn K mainGlobals "DEED" = some (some (.int (4) t_DEED)))
    (g_LAST_EVENT : PySem.W.nsIn K mainGlobals "LAST_EVENT" = some (some (.int (3) t_LAST_EVENT)))
    (g_LAST_DEED : PySem.W.nsIn K mainGlobals "LAST_DEED" = some (some (.int (99) t_LAST_DEED)))
    (g_MOST_ROOMS : PySem.W.nsIn K mainGlobals "MOST_ROOMS" = some (some (.int (16) t_MOST_ROOMS)))
    (g_MOST_ARROWS : PySem.W.nsIn K mainGlobals "MOST_ARROWS" = some (some (.int (20) t_MOST_ARROWS)))
    (g_ROOM_WORDS : PySem.W.nsIn K mainGlobals "ROOM_WORDS" = some (some (.int (3) t_ROOM_WORDS)))
    (g_ARROW_WORDS : PySem.W.nsIn K mainGlobals "ARROW_WORDS" = some (some (.int (6) t_ARROW_WORDS)))
    (g_CHOOSING : PySem.W.nsIn K mainGlobals "CHOOSING" = some (some (.ref a_CHOOSING))) (o_CHOOSING : K.lookup a_CHOOSING = some ⟨.type "tuple", d_CHOOSING, .seq #[.str "one" t_CHOOSING_0, .str "keep" t_CHOOSING_1] n_CHOOSING, s_CHOOSING⟩)
    (g_KINDS : PySem.W.nsIn K mainGlobals "KINDS" = some (some (.ref a_KINDS))) (o_KINDS : K.lookup a_KINDS = some ⟨.type "tuple", d_KINDS, .seq #[.str "plain" t_KINDS_0, .str "one" t_KINDS_1, .str "all" t_KINDS_2, .str "keep" t_KINDS_3] n_KINDS, s_KINDS⟩)
    (kt_list_list : PySem.W.kitOne K (.type "list") (.type "list") = some true)
    (kt_bool_bool : PySem.W.kitOne K (.type "bool") (.type "bool") = some true)
    (kt_int_int : PySem.W.kitOne K (.type "int") (.type "int") = some true)
    (kt_int_bool : PySem.W.kitOne K (.type "int") (.type "bool") = some false)
    (kt_tuple_tuple : PySem.W.kitOne K (.type "tuple") (.type "tuple") = some true)
    (kt_str_str : PySem.W.kitOne K (.type "str") (.type "str") = some true)
    : ∃ fd : FuncData, (∀ (s : Shared) (v : Value), BindsTo s fd ⟨[v], []⟩ [("script", v)]) ∧ ∀ base : Heap, K.In base → base.Ns mainGlobals mg → FnOk l.prog w K mg base CX0 12 fa fd ["script"] (spLaw K) := by
  have e := hfa.symm.trans (PySem.W.mg_of X G a25)
  cases e
  have F1 := fun_mk (st := sInit) l1.1 l1.2.1 l1.2.2
  have b1 := F1.binds (ps := ["self", "rooms", "arrows"]) fun _ _ _ _ _ _ => la3 fun _ _ _ => rfl
  have F2 := fun_mk (st := sCheckRooms) l2.1 l2.2.1 l2.2.2
  have b2 := F2.binds (ps := ["chart"]) fun _ _ _ _ _ _ => la1 fun _ => rfl
  have D2 : DefAt K mg "check_rooms" sCheckRooms ["chart"] _ _ := ⟨F2, b2, PySem.W.mg_of X G a2⟩
  have F3 := fun_mk (st := sCheckHolder) l3.1 l3.2.1 l3.2.2
  have b3 := F3.binds (ps := ["chart", "room"]) fun _ _ _ _ _ _ => la2 fun _ _ => rfl
  have D3 : DefAt K mg "check_holder" sCheckHolder ["chart", "room"] _ _ := ⟨F3, b3, PySem.W.mg_of X G a3⟩
  have F4 := fun_mk (st := sCheckKind) l4.1 l4.2.1 l4.2.2
  have b4 := F4.binds (ps := ["chart", "room"]) fun _ _ _ _ _ _ => la2 fun _ _ => rfl
  have D4 : DefAt K mg "check_kind" sCheckKind ["chart", "room"] _ _ := ⟨F4, b4, PySem.W.mg_of X G a4⟩
  have F5 := fun_mk (st := sCheckArrows) l5.1 l5.2.1 l5.2.2
  have b5 := F5.binds (ps := ["chart"]) fun _ _ _ _ _ _ => la1 fun _ => rfl
  have D5 : DefAt K mg "check_arrows" sCheckArrows ["chart"] _ _ := ⟨F5, b5, PySem.W.mg_of X G a5⟩
  have F6 := fun_mk (st := sCheckArrow) l6.1 l6.2.1 l6.2.2
  have b6 := F6.binds (ps := ["chart", "number"]) fun _ _ _ _ _ _ => la2 fun _ _ => rfl
  have D6 : DefAt K mg "check_arrow" sCheckArrow ["chart", "number"] _ _ := ⟨F6, b6, PySem.W.mg_of X G a6⟩
  have F7 := fun_mk (st := sPart) l7.1 l7.2.1 l7.2.2
  have b7 := F7.binds (ps := ["number", "name", "part", "least", "most"]) fun _ _ _ _ _ _ => la5 fun _ _ _ _ _ => rfl
  have D7 : DefAt K mg "check_part" sPart ["number", "name", "part", "least", "most"] _ _ := ⟨F7, b7, PySem.W.mg_of X G a7⟩
  have F8 := fun_mk (st := sChildren) l8.1 l8.2.1 l8.2.2
  have b8 := F8.binds (ps := ["chart", "room"]) fun _ _ _ _ _ _ => la2 fun _ _ => rfl
  have D8 : DefAt K mg "children" sChildren ["chart", "room"] _ _ := ⟨F8, b8, PySem.W.mg_of X G a8⟩
  have F9 := fun_mk (st := sWithin) l9.1 l9.2.1 l9.2.2
  have b9 := F9.binds (ps := ["chart", "room", "other"]) fun _ _ _ _ _ _ => la3 fun _ _ _ => rfl
  have D9 : DefAt K mg "within" sWithin ["chart", "room", "other"] _ _ := ⟨F9, b9, PySem.W.mg_of X G a9⟩
  have F10 := fun_mk (st := sLies) l10.1 l10.2.1 l10.2.2
  have b10 := F10.binds (ps := ["chart", "room", "other"]) fun _ _ _ _ _ _ => la3 fun _ _ _ => rfl
  have D10 : DefAt K mg "lies_in" sLies ["chart", "room", "other"] _ _ := ⟨F10, b10, PySem.W.mg_of X G a10⟩
  have F11 := fun_mk (st := sScope) l11.1 l11.2.1 l11.2.2
  have b11 := F11.binds (ps := ["chart", "source", "target"]) fun _ _ _ _ _ _ => la3 fun _ _ _ => rfl
  have D11 : DefAt K mg "scope" sScope ["chart", "source", "target"] _ _ := ⟨F11, b11, PySem.W.mg_of X G a11⟩
  have F12 := fun_mk (st := sShown) l12.1 l12.2.1 l12.2.2
  have b12 := F12.binds (ps := ["chart"]) fun _ _ _ _ _ _ => la1 fun _ => rfl
  have D12 : DefAt K mg "shown" sShown ["chart"] _ _ := ⟨F12, b12, PySem.W.mg_of X G a12⟩
  have F13 := fun_mk (st := sRoomLine) l13.1 l13.2.1 l13.2.2
  have b13 := F13.binds (ps := ["room"]) fun _ _ _ _ _ _ => la1 fun _ => rfl
  have D13 : DefAt K mg "room_line" sRoomLine ["room"] _ _ := ⟨F13, b13, PySem.W.mg_of X G a13⟩
  have F14 := fun_mk (st := sArrowLine) l14.1 l14.2.1 l14.2.2
  have b14 := F14.binds (ps := ["arrow"]) fun _ _ _ _ _ _ => la1 fun _ => rfl
  have D14 : DefAt K mg "arrow_line" sArrowLine ["arrow"] _ _ := ⟨F14, b14, PySem.W.mg_of X G a14⟩
  have F15 := fun_mk (st := sNumWord) l15.1 l15.2.1 l15.2.2
  have b15 := F15.binds (ps := ["number"]) fun _ _ _ _ _ _ => la1 fun _ => rfl
  have D15 : DefAt K mg "number_word" sNumWord ["number"] _ _ := ⟨F15, b15, PySem.W.mg_of X G a15⟩
  have F16 := fun_mk (st := sRead) l16.1 l16.2.1 l16.2.2
  have b16 := F16.binds (ps := ["text"]) fun _ _ _ _ _ _ => la1 fun _ => rfl
  have D16 : DefAt K mg "read" sRead ["text"] _ _ := ⟨F16, b16, PySem.W.mg_of X G a16⟩
  have F17 := fun_mk (st := sReadNum) l17.1 l17.2.1 l17.2.2
  have b17 := F17.binds (ps := ["word"]) fun _ _ _ _ _ _ => la1 fun _ => rfl
  have D17 : DefAt K mg "read_number" sReadNum ["word"] _ _ := ⟨F17, b17, PySem.W.mg_of X G a17⟩
  have F18 := fun_mk (st := sCell) l18.1 l18.2.1 l18.2.2
  have b18 := F18.binds (ps := ["script", "k"]) fun _ _ _ _ _ _ => la2 fun _ _ => rfl
  have D18 : DefAt K mg "_law_cell_at" sCell ["script", "k"] _ _ := ⟨F18, b18, PySem.W.mg_of X G a18⟩
  have F19 := fun_mk (st := sMark) l19.1 l19.2.1 l19.2.2
  have b19 := F19.binds (ps := ["number"]) fun _ _ _ _ _ _ => la1 fun _ => rfl
  have D19 : DefAt K mg "_law_mark" sMark ["number"] _ _ := ⟨F19, b19, PySem.W.mg_of X G a19⟩
  have F20 := fun_mk (st := sLText) l20.1 l20.2.1 l20.2.2
  have b20 := F20.binds (ps := ["rooms", "arrows"]) fun _ _ _ _ _ _ => la2 fun _ _ => rfl
  have D20 : DefAt K mg "_law_text" sLText ["rooms", "arrows"] _ _ := ⟨F20, b20, PySem.W.mg_of X G a20⟩
  have F21 := fun_mk (st := sLine) l21.1 l21.2.1 l21.2.2
  have b21 := F21.binds (ps := ["way", "line", "cell"]) fun _ _ _ _ _ _ => la3 fun _ _ _ => rfl
  have D21 : DefAt K mg "_law_line" sLine ["way", "line", "cell"] _ _ := ⟨F21, b21, PySem.W.mg_of X G a21⟩
  have F22 := fun_mk (st := sSpoil) l22.1 l22.2.1 l22.2.2
  have b22 := F22.binds (ps := ["way", "lines", "cell"]) fun _ _ _ _ _ _ => la3 fun _ _ _ => rfl
  have D22 : DefAt K mg "_law_spoiled" sSpoil ["way", "lines", "cell"] _ _ := ⟨F22, b22, PySem.W.mg_of X G a22⟩
  have F23 := fun_mk (st := sReadBy) l23.1 l23.2.1 l23.2.2
  have b23 := F23.binds (ps := ["text"]) fun _ _ _ _ _ _ => la1 fun _ => rfl
  have D23 : DefAt K mg "_law_read_by" sReadBy ["text"] _ _ := ⟨F23, b23, PySem.W.mg_of X G a23⟩
  have F24 := fun_mk (st := sBaseT) l24.1 l24.2.1 l24.2.2
  have b24 := F24.binds (ps := ["text"]) fun _ _ _ _ _ _ => la1 fun _ => rfl
  have D24 : DefAt K mg "_law_base_takes" sBaseT ["text"] _ _ := ⟨F24, b24, PySem.W.mg_of X G a24⟩
  have F25 := fun_mk (st := sLaw) l25.1 l25.2.1 l25.2.2
  have b25 := F25.binds (ps := ["script"]) fun _ _ _ _ _ _ => la1 fun _ => rfl
  have D25 : DefAt K mg "law" sLaw ["script"] _ _ := ⟨F25, b25, PySem.W.mg_of X G a25⟩
  have T : Txt K mg C := ⟨⟨pg, hd, po, sa⟩, nR, nA, PySem.W.mg_of X G aC, PySem.W.mg_none_of X G z_len, PySem.W.mg_none_of X G z_range, PySem.W.mg_none_of X G z_list, PySem.W.mg_none_of X G z_isinstance, PySem.W.mg_none_of X G z_bool, PySem.W.mg_none_of X G z_int, PySem.W.mg_none_of X G z_tuple, PySem.W.mg_none_of X G z_sorted, PySem.W.mg_none_of X G z_enumerate, ⟨_, PySem.W.mg_of X G g_HOLDER⟩, ⟨_, PySem.W.mg_of X G g_KIND⟩, ⟨_, PySem.W.mg_of X G g_NONE⟩, ⟨_, PySem.W.mg_of X G g_SOURCE⟩, ⟨_, PySem.W.mg_of X G g_EVENT⟩, ⟨_, PySem.W.mg_of X G g_GUARD⟩, ⟨_, PySem.W.mg_of X G g_TARGET⟩, ⟨_, PySem.W.mg_of X G g_DEED⟩, ⟨_, PySem.W.mg_of X G g_LAST_EVENT⟩, ⟨_, PySem.W.mg_of X G g_LAST_DEED⟩, ⟨_, PySem.W.mg_of X G g_MOST_ROOMS⟩, ⟨_, PySem.W.mg_of X G g_MOST_ARROWS⟩, ⟨_, PySem.W.mg_of X G g_CHOOSING, fun H => .inr ⟨_, _, _, o_CHOOSING, rfl, rfl, (by show 2 ≤ sizeLine; decide), .cons ⟨_, rfl⟩ (.cons ⟨_, rfl⟩ .nil)⟩⟩, ⟨_, PySem.W.mg_of X G g_KINDS, fun H => .inr ⟨_, _, _, o_KINDS, rfl, rfl, (by show 4 ≤ sizeLine; decide), .cons ⟨_, rfl⟩ (.cons ⟨_, rfl⟩ (.cons ⟨_, rfl⟩ (.cons ⟨_, rfl⟩ .nil)))⟩⟩, kt_list_list, kt_bool_bool, kt_int_int, kt_int_bool, kt_tuple_tuple⟩
  refine ⟨PySem.W.fnOf "law" "law" (defArgs sLaw) (defBody sLaw) (defScope sLaw) .none kV25 dc25 pm25 an25 cd25 ct25, fun s v => .of_eq rfl, fun base _ _ => ?_⟩
  have N : NTxt K mg := ⟨⟨_, PySem.W.mg_of X G gDash⟩, ⟨_, PySem.W.mg_of X G gFig⟩, ⟨_, PySem.W.mg_of X G g_ROOM_WORDS⟩, ⟨_, PySem.W.mg_of X G g_ARROW_WORDS⟩, PySem.W.mg_none_of X G z_str, PySem.W.mg_none_of X G z_all, kt_str_str⟩
  have B : BadTxt K mg CB := ⟨PySem.W.mg_of X G aE_BadChart, ex_BadChart⟩
  have S : TakenTxt K mg CE CC CT CB := ⟨PySem.W.mg_of X G aE_ChartError, PySem.W.mg_of X G aE_Clash, PySem.W.mg_of X G aE_TooMany, PySem.W.mg_of X G aE_BadChart, PySem.W.mg_none_of X G z_ValueError, st_ChartError_BaseException, st_Clash_BaseException, st_TooMany_BaseException, st_BadChart_BaseException, kitCls_ref cc_ChartError ct_ChartError cs_BadChart_ChartError, kitCls_ref cc_Clash ct_Clash cs_BadChart_Clash, kitCls_ref cc_TooMany ct_TooMany cs_BadChart_TooMany, kitCls_ref cc_BadChart ct_BadChart cs_BadChart_BadChart, kitCls_type (by decide +kernel) st_BadChart_ValueError⟩
  have M : Mk K C _ := ⟨mk, a1, i1, kc⟩
  have GiX := ok_initX (P := l.prog) (w := w) (base := base) F1 T D2 D5 (ok_roomsX D2 T B D8 D3 D4) (ok_arrowsX D5 T B D6 (ok_arrowX D6 T B D7 D11 D10 D9))
  have Gi0 := ok_init (P := l.prog) (w := w) (base := base) F1 T D2 D5 (ok_check_rooms D2 T D8 D3 D4) (ok_check_arrows D5 T D6 (ok_check_arrow D6 T D7 D11 D10 D9))
  have Gsh := ok_shown (P := l.prog) (w := w) (base := base) D12 T N D13 D14 D15
  have Gr0 := ok_read (P := l.prog) (w := w) (base := base) D16 T N M b1 Gi0 D12 Gsh D17
  have GrX := ok_readX (P := l.prog) (w := w) (base := base) D16 T N B M b1 GiX D12 Gsh D17
  have Gra := FnOk.both (FnOk.up (nb := false) Gr0) GrX
  exact ok_law D25 T D18 D20 (ok_ltext D20 T N D19) D22 (ok_spoil D22 T D21) D23 (ok_readBy D23 T S D16 Gra) D24 (ok_baseT D24 T S D16 Gra) D16 Gr0
theorem walk {l : PySem.W.OpenLaw} {q : Program} {loose : List Str} {XP : (Str → Option Value) → Heap → Prop} {YP : World → Heap → Prop} {d : DefRec} {K : Params → PySem.W.Frag} (hn : l.most = some 63) (hdf : d.params.defaults = [])
    (hY : ∀ (w : World) (h : Heap), YP w h → (K w.params).In h)
    (F : ∀ (w : World) (mg : Str → Option Value) (fa : Addr) (h : Heap), (K w.params).In h → h.Ns mainGlobals mg → mg d.name = some (.ref fa) →
      ∃ fd : FuncData, (∀ (s : Shared) (u : Value), BindsTo s fd ⟨[u], []⟩ [("script", u)]) ∧ ∀ base : Heap, (K w.params).In base → base.Ns mainGlobals mg → FnOk l.prog w (K w.params) mg base CX0 12 fa fd ["script"] (spLaw (K w.params))) :
    PySem.W.WalkO q loose XP YP l.row.toRowW d [] (fun f vs => PySem.call f vs) :=
  L2.walk_of (n := 63) (k := 12) (x := "script") (CX := fun _ => CX0) (sp := fun w => spLaw (K w.params)) hn (by decide) hdf ⟨rfl, by decide, by decide⟩ hY F (fun _ _ a ns hl _ hS => ⟨a, ns, rfl, hS, hl, fun _ => rfl⟩) fun _ _ _ _ _ z => z
end Toy
def PySem.W.Fast.tw9912318915939489901 : Unit := ()
def PySem.W.Fast.tw10356663067502146626 : Unit := ()
def PySem.W.Fast.tw12144658451966968808 : Unit := ()
def PySem.W.Fast.tw6406911298288274552 : Unit := ()
def PySem.W.Fast.tw13670763710282065482 : Unit := ()
def PySem.W.Fast.tw14677832914295030762 : Unit := ()
def PySem.W.Fast.tw4253761791539702136 : Unit := ()
def PySem.W.Fast.tw1205317196285123558 : Unit := ()
def PySem.W.Fast.tw16890804012013790125 : Unit := ()
def PySem.W.Fast.tw8421367129637938659 : Unit := ()
def PySem.W.Fast.tw11733768982417863667 : Unit := ()
def PySem.W.Fast.tw3112061275060741020 : Unit := ()
def PySem.W.Fast.tw756833914081290552 : Unit := ()
def PySem.W.Fast.tw16033779922082201849 : Unit := ()
def PySem.W.Fast.tw12376924646137418604 : Unit := ()
def PySem.W.Fast.tw2846936388085456632 : Unit := ()
def PySem.W.Fast.tw2409693120244235673 : Unit := ()
def PySem.W.Fast.tw4502878334000529884 : Unit := ()
def PySem.W.Fast.tw6310636563944312812 : Unit := ()
def PySem.W.Fast.tw17140441897360199334 : Unit := ()
def PySem.W.Fast.tw5789991099521131427 : Unit := ()
def PySem.W.Fast.tw1641018328417907922 : Unit := ()
def PySem.W.Fast.tw1097837011200443998 : Unit := ()
def PySem.W.Fast.tw16794777353027840901 : Unit := ()
def PySem.W.Fast.tw6033911150933726580 : Unit := ()
def PySem.W.Fast.tw13981130978118622128 : Unit := ()
def PySem.W.Fast.tw3452538998249629273 : Unit := ()
def PySem.W.Fast.tw17631327899230214784 : Unit := ()
def PySem.W.Fast.tw18412186450571327649 : Unit := ()
def PySem.W.Fast.tw2774250163300814497 : Unit := ()
def PySem.W.Fast.tw9185893005067192007 : Unit := ()
def PySem.W.Fast.tw7010174849718893898 : Unit := ()
def PySem.W.Fast.tw15771915627365255910 : Unit := ()
def PySem.W.Fast.tw1882691065448803920 : Unit := ()
def PySem.W.Fast.tw15409582949055636565 : Unit := ()
def PySem.W.Fast.tw1870187951979604655 : Unit := ()
def PySem.W.Fast.tw16460631266425172396 : Unit := ()
def PySem.W.Fast.tw2193858332481233742 : Unit := ()
def PySem.W.Fast.tw4703691221613867773 : Unit := ()
def PySem.W.Fast.tw7543859448210380981 : Unit := ()
open PySem PySem.W PyProof.Rows
set_option maxRecDepth 100000 in
set_option maxHeartbeats 0 in
theorem PySem.Challenge.cw_chartfold_k19_texts_refused_holds : PySem.Challenge.rw_chartfold_k19_texts_refused.Holds := by
  w_on; o_law; k_head; (case hw => w_witness2)
  k_fill
  refine Toy.walk (l := PySem.Challenge.rw_chartfold_k19_texts_refused) rfl rfl (fun w h Y => PySem.W.kIn_of Y) ?F
  case F =>
    intro w mg fa h KX G hmg
    refine' Toy.all_mk KX G hmg ?_ ?_ ?_ ?_ ?_ ?_ ?_ ?_ ?_ ?_ ?_ ?_ ?_ ?_ ?_ ?_ ?_ ?_ ?_ ?_ ?_ ?_ ?_ ?_ ?_ ?_ ?_ ?_ ?_ ?_ ?_ ?_ ?_ ?_ ?_ ?_ ?_ ?_ ?_ ?_ ?_ ?_ ?_ ?_ ?_ ?_ ?_ ?_ ?_ ?_ ?_ ?_ ?_ ?_ ?_ ?_ ?_ ?_ ?_ ?_ ?_ ?_ ?_ ?_ ?_ ?_ ?_ ?_ ?_ ?_ ?_ ?_ ?_ ?_ ?_ ?_ ?_ ?_ ?_ ?_ ?_ ?_ ?_ ?_ ?_ ?_ ?_ ?_ ?_ ?_ ?_ ?_ ?_ ?_ ?_ ?_ ?_ ?_ ?_ ?_ ?_ ?_ ?_ ?_ ?_ ?_ ?_ ?_ ?_ ?_ ?_ ?_ ?_ ?_ ?_ ?_ ?_ ?_ ?_ ?_
    any_goals (show _=_; first|k_is|kit_is|k_exc)
    any_goals (show _∧_; refine ⟨?_,?_,?_⟩ <;> k_is)
#print axioms PySem.Challenge.cw_chartfold_k19_texts_refused_holds
