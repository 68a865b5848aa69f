import PyProof.Rows.All
import Wide.All
import OpenK.AllK
import Wide.FinOn
import Lean
import PyProof.EqAt
import PyProof.EqKinds
import PyProof.TupleCall
import PySem.Challenge.RW_chartfold_k14_many_states
set_option Elab.async false
set_option linter.all false
set_option maxRecDepth 100000
namespace L2
open PySem PySem.Spec PyProof.Rows
abbrev Key:=Sum Int Str
def keyIs:Key→Value→Bool
  | .inl k,v => Value.isInt k v
  | .inr x,v => Value.isStrOf x v
def keyH (w:World):Key→Int
  | .inl k => hashInt k
  | .inr x => hashStr w x
theorem keyIs_shape:∀ {k:Key} {v:Value},keyIs k v=true→(∃ i t,k=Sum.inl i∧v=Value.int i t)∨(∃ x t,k=Sum.inr x∧v=Value.str x t)
  | .inl i,v,h => by
    obtain ⟨t,e⟩:=Value.isInt_shape (k:=i) (v:=v) h
    exact .inl ⟨i,t,rfl,e⟩
  | .inr x,v,h => by
    obtain ⟨t,e⟩:=Value.isStrOf_shape (x:=x) (v:=v) h
    exact .inr ⟨x,t,rfl,e⟩
theorem key_ll (a b:Int):decide ((Sum.inl a:Key)=Sum.inl b)=(a == b):=by
  by_cases e:a=b
  · subst e; simp
  · have h:¬ (Sum.inl a:Key)=Sum.inl b:=fun q => e (Sum.inl.inj q)
    rw [decide_eq_false h]
    exact (beq_eq_false_iff_ne.mpr e).symm
theorem key_rr (a b:Str):decide ((Sum.inr a:Key)=Sum.inr b)=decide (a=b):=by
  by_cases e:a=b
  · subst e; simp
  · have h:¬ (Sum.inr a:Key)=Sum.inr b:=fun q => e (Sum.inr.inj q)
    rw [decide_eq_false h,decide_eq_false e]
theorem key_lr (a:Int) (b:Str):decide ((Sum.inl a:Key)=Sum.inr b)=false:=decide_eq_false (fun q => nomatch q)
theorem key_rl (a:Str) (b:Int):decide ((Sum.inr a:Key)=Sum.inl b)=false:=decide_eq_false (fun q => nomatch q)
def mixKind (prog:Program) (w:World):PySem.KeyKind prog w Key where
  is:=keyIs
  hash:=keyH w
  inj:=fun v a b ha hb => by
    rcases keyIs_shape ha with ⟨i,t,rfl,rfl⟩ | ⟨x,t,rfl,rfl⟩
    · rcases keyIs_shape hb with ⟨j,u,rfl,e⟩ | ⟨y,u,rfl,e⟩
      · injection e with e1 _; rw [e1]
      · exact nomatch e
    · rcases keyIs_shape hb with ⟨j,u,rfl,e⟩ | ⟨y,u,rfl,e⟩
      · exact nomatch e
      · injection e with e1 _; rw [e1]
  byValue:=fun k v h => by
    rcases keyIs_shape h with ⟨i,t,rfl,rfl⟩ | ⟨x,t,rfl,rfl⟩ <;> rfl
  pyHash:=fun hv h => by
    rcases keyIs_shape hv with ⟨i,t,rfl,rfl⟩ | ⟨x,t,rfl,rfl⟩
    · exact wpAny_pyHash_int h
    · exact wpAny_pyHash_str h
  eqBool:=fun hu hv h => by
    rcases keyIs_shape hu with ⟨i,t,rfl,rfl⟩ | ⟨x,t,rfl,rfl⟩
    · rcases keyIs_shape hv with ⟨j,u,rfl,rfl⟩ | ⟨y,u,rfl,rfl⟩
      · rw [key_ll] at h; exact wpAny_eqBool_int h
      · rw [key_lr] at h; exact SeqAt.EqAt.int_str i t y u _ _ _ _ h
    · rcases keyIs_shape hv with ⟨j,u,rfl,rfl⟩ | ⟨y,u,rfl,rfl⟩
      · rw [key_rl] at h; exact SeqAt.EqAt.str_int x t j u _ _ _ _ h
      · rw [key_rr] at h; exact wpAny_eqBool_str h
  «strs»:=fun k x t v h => by
    rcases keyIs_shape h with ⟨i,u,rfl,e⟩ | ⟨y,u,rfl,e⟩
    · exact nomatch e
    · injection e with e1 _
      subst e1
      cases v <;> rfl
end L2
namespace L2
open PySem PySem.Spec PyProof.Rows
inductive V where
  | non | bl (b:Bool) | int (i:Int) | str (x:Str) | byt (b:Array UInt8) | flt (b:UInt64) | ref (a:Addr) | ty (n:String)
  deriving DecidableEq
def RelV:V→Value→Prop
  | .non,u => u=Value.none
  | .bl b,u => u=Value.bool b
  | .int i,u => ∃ t,u=Value.int i t
  | .str x,u => ∃ t,u=Value.str x t
  | .byt b,u => ∃ t,u=Value.bytes b t
  | .flt b,u => ∃ t,u=Value.float b t
  | .ref a,u => u=Value.ref a
  | .ty n,u => u=Value.type n
abbrev Vals:List V→List Value→Prop:=Paired RelV
theorem Vals.length {xs:List V} {us:List Value} (r:Vals xs us):xs.length=us.length:=Paired.length r
theorem Vals.get:∀ {xs:List V} {us:List Value} {i:Nat} {x:V},Vals xs us→xs[i]? = some x→∃ u,us[i]? = some u∧RelV x u
  | _,_,_,_,.nil,e => by simp at e
  | _,_,0,_,.cons r _,e => by simp at e; subst e; exact ⟨_,rfl,r⟩
  | _,_,i + 1,x,.cons _ t,e => by
    obtain ⟨u,h1,h2⟩:=Vals.get (i:=i) (x:=x) t (by simpa using e)
    exact ⟨u,by simpa using h1,h2⟩
theorem Vals.set {x:V} {u:Value} (r:RelV x u):∀ {xs:List V} {us:List Value} (i:Nat),Vals xs us→Vals (xs.set i x) (us.set i u)
  | _,_,_,.nil => .nil
  | _,_,0,.cons _ t => .cons r t
  | _,_,i + 1,.cons q t => .cons q (Vals.set r i t)
theorem Vals.append:∀ {xs ys:List V} {us ws:List Value},Vals xs us→Vals ys ws→Vals (xs ++ ys) (us ++ ws)
  | _,_,_,_,.nil,s => s
  | _,_,_,_,.cons r t,s => .cons r (Vals.append t s)
theorem Vals.take:∀ {xs:List V} {us:List Value} (n:Nat),Vals xs us→Vals (xs.take n) (us.take n)
  | _,_,0,_ => .nil
  | _,_,_ + 1,.nil => .nil
  | _,_,n + 1,.cons r t => .cons r (Vals.take n t)
theorem Vals.drop:∀ {xs:List V} {us:List Value} (n:Nat),Vals xs us→Vals (xs.drop n) (us.drop n)
  | _,_,0,r => r
  | _,_,_ + 1,.nil => .nil
  | _,_,n + 1,.cons _ t => Vals.drop n t
def RelO:Option V→Option Value→Prop
  | some v,some u => RelV v u
  | none,none => True
  | _,_ => False
def KV {κ : Type}:List (κ×V)→List (κ×Value)→Prop:=Paired fun (p : κ×V) (q : κ×Value) => p.1=q.1∧RelV p.2 q.2
def kV:Key→V
  | .inl i => .int i
  | .inr x => .str x
inductive HO where
  | lst (xs:List V)
  | tup (xs:List V)
  | dK (kvs:List (Key×V)) | dT (kvs:List (List Key×V))
  | set (S:Int→Bool) (n:Nat)
  | ins (C dx:Addr) (fs:List (Str×V))
  | own (x:Addr)
  | xd (fs:List (Str×V))
  | met (f x:Addr)
  | rng (lo hi:Int)
  | frz (o:Obj) (u:HO)
  | tbl (ps:Array Value)
  | ext (φ : Heap→Prop)
abbrev Hp:=Addr→Option HO
def upd (H:Hp) (a:Addr) (o:HO):Hp:=fun b => if b=a then some o else H b
theorem upd_same {H:Hp} {a:Addr} {o:HO}:upd H a o a=some o:=by unfold upd; rw [if_pos rfl]
theorem upd_ne {H:Hp} {a b:Addr} {o:HO} (h:b≠a):upd H a o b=H b:=by unfold upd; rw [if_neg h]
theorem upd_upd {H:Hp} {a:Addr} {o u:HO}:upd (upd H a o) a u=upd H a u:=by
  funext b; unfold upd; split <;> rfl
theorem ne_of {H:Hp} {a b:Addr} {o u:HO} (h:H a=some o) (h':H b=some u) (d:o≠u):a≠b:=by
  intro e; subst e; rw [h] at h'; exact d (Option.some.inj h')
theorem ne_of_none {H:Hp} {a b:Addr} {o:HO} (h:H a=some o) (h':H b=none):a≠b:=by
  intro e; subst e; rw [h] at h'; cases h'
section
variable (P:Program) (w:World)
def ObjOk (H:Hp) (h:Heap) (a:Addr):HO→Prop
  | .lst xs => xs.length≤sizeLine∧∃ (its:List Value) (n:Nat),Vals xs its∧h.get? a=some { cls:=.type "list",data:=.seq its.toArray n }
  | .tup xs => xs.length≤sizeLine∧∃ its:List Value,Vals xs its∧IsTup h a its.toArray
  | .dK kvs => kvs.length≤sizeLine∧(a == sysModules)=false∧∃ vs,KV kvs vs∧h.DictOf (mixKind P w) a vs
  | .dT kvs => kvs.length≤sizeLine∧(a == sysModules)=false∧∃ xs:List (List Key×Addr×Value),
      Paired (fun (p:List Key×V) (q:List Key×Addr×Value) => p.1=q.1∧H q.2.1=some (.tup (p.1.map kV))∧RelV p.2 q.2.2) kvs xs ∧
      ∃ o es ep,h.get? a=some o∧o.ExactDict∧o.data = .dict es ep∧es.toList=xs.map (entryOfKey (tupleKind (mixKind P w)))∧(xs.map (·.1)).Nodup
  | .set S n => h.SetOf (intKind P w) a S n
  | .ins C dx fs => H dx=some (.own a)∧fs.length≤1000∧dx≠a∧h.get? a=some (PySem.W.instObj C dx) ∧
      ∃ mA,h.Ns1 dx mA∧(∀ f,RelO (fs.lookup f) (mA f))∧PySem.Within mA (fs.map (·.1))
  | .own _ => ∃ o,h.get? a=some o
  | .xd fs => ∃ mA,h.Ns1 a mA∧∀ f,RelO (fs.lookup f) (mA f)
  | .rng lo hi => ∃ t u v,h.get? a=some { cls:=.type "range",data:=.fields #[.int lo t,.int hi u,.int 1 v] }
  | .frz o u => h.get? a=some o∧ObjOk H h a u
  | .tbl ps => h.get? a=some { cls:=.none,data:=.fields ps }
  | .met f x => h.get? a=some (PySem.W.methodObj (.ref f) (.ref x))
  | .ext φ => φ h∧(∃ o,h.get? a=some o)∧∀ h1 h2:Heap,φ h1→(∀ o,h1.get? a=some o→h2.get? a=some o)→φ h2
def HOk (H:Hp) (h:Heap):Prop := ∀ a o,H a=some o→ObjOk P w H h a o
end
section
variable {P:Program} {w:World} {H H':Hp} {h h':Heap} {a:Addr} {o:HO}
theorem ObjOk.lt (x:ObjOk P w H h a o):a < h.objs.size:=by
  cases o with
  | lst xs => obtain ⟨_,_,_,_,e⟩:=x; exact Heap.lt_size e
  | tup xs => obtain ⟨_,_,_,p⟩:=x; exact p.lt
  | dK kvs => obtain ⟨_,_,_,_,o,_,_,e,_⟩:=x; exact Heap.lt_size e
  | dT kvs => obtain ⟨_,_,_,_,o,_,_,e,_⟩:=x; exact Heap.lt_size e
  | set S n => obtain ⟨o,_,_,_,e,_⟩:=x; exact Heap.lt_size e
  | ins C dx fs => obtain ⟨_,_,_,e,_⟩:=x; exact Heap.lt_size e
  | own y => obtain ⟨_,e⟩:=x; exact Heap.lt_size e
  | xd fs => obtain ⟨_,⟨_,_,_,e,_⟩,_⟩:=x; exact Heap.lt_size e
  | rng lo hi => obtain ⟨_,_,_,e⟩:=x; exact Heap.lt_size e
  | frz ob u => obtain ⟨e,_⟩:=x; exact Heap.lt_size e
  | tbl ps => exact Heap.lt_size (show h.get? a=some _ from x)
  | met f y => exact Heap.lt_size (show h.get? a=some _ from x)
  | ext φ => obtain ⟨_,⟨_,e⟩,_⟩:=x; exact Heap.lt_size e
theorem Paired.mapP {α β : Type} {F G : α→β→Prop}:∀ {l₁:List α} {l₂:List β},Paired F l₁ l₂→(∀ a b,F a b→G a b)→Paired G l₁ l₂
  | _,_,.nil,_ => .nil
  | _,_,.cons r t,f => .cons (f _ _ r) (Paired.mapP t f)
theorem ObjOk.stay (x:ObjOk P w H h a o) (k:∀ b u,(b=a∨H b=some (.own a))→h.get? b=some u→h'.get? b=some u)
    (ho:∀ b,H b=some (.own a)→H' b=some (.own a)) (ht:∀ b xs,H b=some (.tup xs)→H' b=some (.tup xs)):ObjOk P w H' h' a o:=by
  induction o with
  | lst xs => obtain ⟨z,its,n,r,e⟩:=x; exact ⟨z,its,n,r,k _ _ (.inl rfl) e⟩
  | tup xs => obtain ⟨z,its,r,ob,e,c⟩:=x; exact ⟨z,its,r,ob,k _ _ (.inl rfl) e,c⟩
  | dK kvs => obtain ⟨z,y,vs,r,ob,es,ep,e,c⟩:=x; exact ⟨z,y,vs,r,ob,es,ep,k _ _ (.inl rfl) e,c⟩
  | dT kvs =>
    obtain ⟨z,y,xs,r,ob,es,ep,e,c⟩:=x
    exact ⟨z,y,xs,Paired.mapP r fun p q z => ⟨z.1,ht _ _ z.2.1,z.2.2⟩,ob,es,ep,k _ _ (.inl rfl) e,c⟩
  | set S n => obtain ⟨ob,es,ep,t,e,c⟩:=x; exact ⟨ob,es,ep,t,k _ _ (.inl rfl) e,c⟩
  | ins C dx fs =>
    obtain ⟨d,z,ne,e,mA,⟨od,es,ep,e2,c⟩,r⟩:=x
    exact ⟨ho _ d,z,ne,k _ _ (.inl rfl) e,mA,⟨od,es,ep,k _ _ (.inr d) e2,c⟩,r⟩
  | own y => obtain ⟨ob,e⟩:=x; exact ⟨ob,k _ _ (.inl rfl) e⟩
  | xd fs => obtain ⟨mA,⟨od,es,ep,e,c⟩,r⟩:=x; exact ⟨mA,⟨od,es,ep,k _ _ (.inl rfl) e,c⟩,r⟩
  | rng lo hi => obtain ⟨t,u,v,e⟩:=x; exact ⟨t,u,v,k _ _ (.inl rfl) e⟩
  | frz ob u ih => obtain ⟨e,q⟩:=x; exact ⟨k _ _ (.inl rfl) e,ih q⟩
  | tbl ps =>
    have e:h.get? a=some { cls:=.none,data:=.fields ps }:=x
    show h'.get? a=some { cls:=.none,data:=.fields ps }
    exact k a _ (.inl rfl) e
  | met f y =>
    have e:h.get? a=some (PySem.W.methodObj (.ref f) (.ref y)):=x
    show h'.get? a=some (PySem.W.methodObj (.ref f) (.ref y))
    exact k a _ (.inl rfl) e
  | ext φ => obtain ⟨p,⟨o,e⟩,st⟩:=x; exact ⟨st _ _ p fun o q => k _ _ (.inl rfl) q,⟨o,k _ _ (.inl rfl) e⟩,st⟩
theorem HOk.lt (x:HOk P w H h) (e:H a=some o):a < h.objs.size:=(x a o e).lt
theorem HOk.fresh (x:HOk P w H h) (e:h.objs.size≤a):H a=none:=by
  cases q:H a with
  | none => rfl
  | some u => exact absurd (Nat.lt_of_lt_of_le (x.lt q) e) (Nat.lt_irrefl _)
theorem HOk.kept (x:HOk P w H h) (k:∀ b u,h.get? b=some u→h'.get? b=some u):HOk P w H h':=fun a o e =>
  (x a o e).stay (fun b u _ q => k b u q) (fun _ q => q) fun _ _ q => q
theorem HOk.laid (x:HOk P w H h) (k:∀ b u,h.get? b=some u→h'.get? b=some u) (hp:h.objs.size≤a) (new:ObjOk P w (upd H a o) h' a o):HOk P w (upd H a o) h':=fun b u e => by
  have hn:=x.fresh hp
  by_cases hb:b=a
  · subst hb; rw [upd_same] at e; cases e; exact new
  · rw [upd_ne hb] at e
    exact (x b u e).stay (fun c v _ q => k c v q) (fun c q => by rw [upd_ne (ne_of_none q hn)]; exact q) fun c xs q => by rw [upd_ne (ne_of_none q hn)]; exact q
end
def Rd (H:Hp) (a:Addr) (u:HO):Prop:=H a=some u∨∃ o,H a=some (.frz o u)
theorem Rd.ok {P:Program} {w:World} {H:Hp} {h:Heap} {a:Addr} {u:HO} (r:Rd H a u) (x:HOk P w H h):ObjOk P w H h a u:=by
  rcases r with r | ⟨o,r⟩
  · exact x a u r
  · obtain ⟨_,q⟩:=x a _ r
    exact q
def Mut:Option HO→Prop
  | some (.lst _) => True
  | some (.dK _) => True
  | some (.dT _) => True
  | some (.set _ _) => True
  | some (.ins _ _ _) => True
  | some (.ext _) => True
  | _ => False
section
variable {P:Program} {w:World} {H:Hp} {h h':Heap} {x e:Addr} {o':HO}
theorem HOk.write (ok:HOk P w H h) (mu:Mut (H x)) (he:e=x∨H e=some (.own x)) (k:∀ b u,b≠e→h.get? b=some u→h'.get? b=some u) (heo:∃ u,h'.get? e=some u)
    (new:ObjOk P w (upd H x o') h' x o'):HOk P w (upd H x o') h':=fun b u q => by
  have nown:∀ c y,H c=some (.own y)→c≠x:=fun c y r z => by subst z; rw [r] at mu; exact mu
  have ntup:∀ c xs,H c=some (.tup xs)→c≠x:=fun c xs r z => by subst z; rw [r] at mu; exact mu
  by_cases hb:b=x
  · subst hb; rw [upd_same] at q; cases q; exact new
  · rw [upd_ne hb] at q
    by_cases hbe:b=e
    · have q':H b=some (.own x):=by
        rcases he with z | z
        · exact absurd (hbe.trans z) hb
        · rw [hbe]; exact z
      rw [q] at q'; cases q'
      obtain ⟨v,hv⟩:=heo
      exact ⟨v,by rw [hbe]; exact hv⟩
    · refine (ok b u q).stay (fun c v hc r => k c v ?_ r) (fun c r => by rw [upd_ne (nown c b r)]; exact r) fun c xs r => by rw [upd_ne (ntup c xs r)]; exact r
      rcases hc with rfl | hc
      · exact hbe
      · rintro rfl
        rcases he with z | z
        · exact nown c b hc z
        · rw [hc] at z; cases z; exact hb rfl
end
structure Un (fs ex:List Addr) (H H':Hp) (h h':Heap):Prop where
  keep:∀ b o,h.get? b=some o→H b=none→b ∉ fs→b ∉ ex→h'.get? b=some o
  slot:∀ b o,h.get? b=some o→H b=none→b∈fs→b ∉ ex→∃ sl,h'.get? b=some { o with slots:=sl }
  free:∀ b o,h.get? b=some o→H b=none→b ∉ ex→H' b=none
  there:∀ b o,h.get? b=some o→b ∉ ex→∃ o',h'.get? b=some o'
  tups:∀ b xs,H b=some (.tup xs)→H' b=some (.tup xs)
  frzs:∀ b o u,H b=some (.frz o u)→H' b=some (.frz o u)
  tbls:∀ b ps,H b=some (.tbl ps)→∃ more,H' b=some (.tbl (ps ++ more))
section
variable {fs fs' ex ex':List Addr} {H H1 H2:Hp} {h h1 h2 h':Heap} {a x e:Addr} {o:HO}
theorem Un.any (u:Un fs ex H H1 h h1) {b:Addr} {ob:Obj} (q:h.get? b=some ob) (n:H b=none) (hx:b ∉ ex):∃ sl,h1.get? b=some { ob with slots:=sl }:=by
  by_cases hb:b∈fs
  · exact u.slot b ob q n hb hx
  · exact ⟨ob.slots,u.keep b ob q n hb hx⟩
theorem Un.kept (k:∀ b u,h.get? b=some u→h'.get? b=some u):Un fs ex H H h h' :=
  ⟨fun b ob q _ _ _ => k b ob q,fun b ob q _ _ _ => ⟨ob.slots,k b ob q⟩,fun _ _ _ n _ => n,fun b ob q _ => ⟨ob,k b ob q⟩,fun _ _ q => q,fun _ _ _ q => q,fun _ ps q => ⟨#[],by rw [q]; simp⟩⟩
theorem Un.refl:Un fs ex H H h h:=Un.kept fun _ _ q => q
theorem Un.laid (k:∀ b u,h.get? b=some u→h'.get? b=some u) (hp:h.objs.size≤a) (hn:H a=none):Un fs ex H (upd H a o) h h' where
  keep:=fun b u q _ _ _ => k b u q
  slot:=fun b u q _ _ _ => ⟨u.slots,k b u q⟩
  free:=fun b u q n _ => by rw [upd_ne (Nat.ne_of_lt (Nat.lt_of_lt_of_le (Heap.lt_size q) hp))]; exact n
  there:=fun b u q _ => ⟨u,k b u q⟩
  tups:=fun b xs q => by rw [upd_ne (ne_of_none q hn)]; exact q
  frzs:=fun b u xs q => by rw [upd_ne (ne_of_none q hn)]; exact q
  tbls:=fun b ps q => ⟨#[],by rw [upd_ne (ne_of_none q hn),q]; simp⟩
theorem Un.write (mu:Mut (H x)) (he:e=x∨H e=some (.own x)) (k:∀ b u,b≠e→h.get? b=some u→h'.get? b=some u) (heo:∃ u,h'.get? e=some u):Un fs ex H (upd H x o) h h':=by
  have hx:∀ b,H b=none→b≠x:=fun b n z => by subst z; rw [n] at mu; exact mu
  have hb:∀ b,H b=none→b≠e:=fun b n z => by
    subst z
    rcases he with r | r
    · exact hx b n r
    · rw [n] at r; cases r
  have hm:∀ b u,H b=some u→¬ Mut (some u)→b≠x:=fun b u q nm z => by subst z; rw [q] at mu; exact nm mu
  refine ⟨fun b u q n _ _ => k b u (hb b n) q,fun b u q n _ _ => ⟨u.slots,k b u (hb b n) q⟩,fun b u q n _ => by rw [upd_ne (hx b n)]; exact n,fun b u q _ => ?_,
    fun b xs q => by rw [upd_ne (hm b _ q fun z => z)]; exact q,fun b u xs q => by rw [upd_ne (hm b _ q fun z => z)]; exact q,fun b ps q => ⟨#[],by rw [upd_ne (hm b _ q fun z => z),q]; simp⟩⟩
  by_cases hbe:b=e
  · subst hbe; exact heo
  · exact ⟨u,k b u hbe q⟩
end
def trk (h:Heap) (H:Hp):List Addr:=(List.range h.objs.size).filter fun a => (H a).isSome
def hidT (h:Heap) (H:Hp):Heap:=PySem.W.hideAll h (trk h H)
theorem hidT_size (h:Heap) (H:Hp):(hidT h H).objs.size=h.objs.size:=PySem.W.hideAll_size _ _
theorem hidT_get {h:Heap} {H:Hp} {b:Addr} {o:Obj} (e:h.get? b=some o) (n:H b=none):(hidT h H).get? b=some o :=
  PySem.W.hideAll_get _ e fun hm => by
    have q:(H b).isSome=true:=(List.mem_filter.mp hm).2
    rw [n] at q; simp at q
theorem of_hidT {h:Heap} {H:Hp} {b:Addr} {o:Obj} (e:(hidT h H).get? b=some o):h.get? b=some o∧H b=none:=by
  have e':h.get? b=some o:=PySem.W.of_hideAll (trk h H) e
  refine ⟨e',?_⟩
  cases q:H b with
  | none => rfl
  | some x =>
    have hm:b∈trk h H:=List.mem_filter.mpr ⟨List.mem_range.mpr (Heap.lt_size e'),by simp [q]⟩
    have z:(hidT h H).get? b=none:=PySem.W.hideAll_none (trk h H) hm
    rw [z] at e; cases e
def allNews (g h:Heap) (L:Addr):List (Addr×Obj):=(List.range h.objs.size).filterMap fun a => if a=L∨(g.get? a).isSome=true then none else (h.get? a).map fun o => (a,o)
def rest (g h:Heap) (L d:Addr):List (Addr×Obj):=(allNews g h L).filter fun p => decide (p.1≠d)
end L2
namespace L2
open PySem PySem.Spec PyProof.Rows
structure Mod (K:PySem.W.Frag) (mg:Str→Option Value) (base:Heap):Prop where
  kin:K.In base
  glob:base.Ns mainGlobals mg
  blt:∃ mb,base.Ns builtinsNs mb∧∀ x:Str,x≠"__name__"→mb x=bootBuiltins x
  nolimit:base.NoLimit
structure Cx where
  prog:Program
  w:World
  K:PySem.W.Frag
  mg:Str→Option Value
  base:Heap
  A:Around
  N:List Str
  s₀:Shared
  H₀:Hp
  env:Env
  outer:List Env
  stack:List Env
  ex:List Addr
  fn:Str→Bool
  calm:Bool
  pn:List (Addr×Obj)
  xe:Value→Shared→Prop
def frs (l:List Env):List Addr:=l.filterMap (·.frame)
abbrev Cx.fs (X:Cx):List Addr:=frs X.outer
def Vis (sc:Scope) (x:Str):Prop:=sc.names.lookup x=some .local∨sc.names.lookup x=some .cell∨sc.names.lookup x=some .free
def Loc (sc:Scope) (x:Str):Prop:=sc.names.lookup x=some .local∨sc.names.lookup x=some .cell
def Look (env:Env) (h:Heap) (m:Str→Option Value) (x:Str) (u:Value):Prop :=
  (env.kindOf x=some .local∧m x=some u)∨((env.kindOf x=some .cell∨env.kindOf x=some .free)∧∃ c,env.cells.lookup x=some c∧h.IsCell c (some u))
structure Cx.Ok (X:Cx):Prop where
  mod:Mod X.K X.mg X.base
  kind:X.env.scope.kind = .function
  glob:X.env.globals=mainGlobals
  blt:X.env.builtins=builtinsNs
  above:X.s₀.heap.objs.size≤X.env.locals
  inj:∀ x y c,X.env.cells.lookup x=some c→X.env.cells.lookup y=some c→x=y
  has:∀ x,(X.env.kindOf x=some .cell∨X.env.kindOf x=some .free)→∃ c,X.env.cells.lookup x=some c
  cab:∀ x c,X.fn x=true→X.env.cells.lookup x=some c→X.s₀.heap.objs.size≤c
  hd:X.calm=true→X.A.handled=none
  frames:X.A.frames=some X.stack
  stk:X.stack=X.outer∨(X.stack=X.env :: X.outer∧X.env.frame=some X.env.locals)
  exf:∀ b∈X.ex,b≠X.env.locals∧∀ x c,X.env.cells.lookup x=some c→c≠b
  bs:∀ b o,X.base.get? b=some o→X.s₀.heap.get? b=some o∧X.H₀ b=none
  bsz:X.base.objs.size≤X.s₀.heap.objs.size
  noex:∀ b o,X.base.get? b=some o→b ∉ X.ex
  exfs:∀ b∈X.ex,b ∉ X.fs
  funs:X.s₀.heap.FunFrames X.base X.outer
  frf:∀ b∈X.fs,X.H₀ b=none
structure Inv (X:Cx) (pins:List (Addr×Obj)) (σ : List (Option V)) (H:Hp) (s:Shared):Prop where
  ok:X.Ok
  os:s.os=X.s₀.os
  bare:AllBare s.gens
  base:Un X.fs X.ex X.H₀ H X.s₀.heap s.heap
  loc:∃ m,s.heap.Ns X.env.locals m∧∀ (i:Nat) (x:Str) (v:V),X.N[i]? = some x→σ[i]? = some (some v)→Vis X.env.scope x→∃ u,RelV v u∧Look X.env s.heap m x u
  cell:∀ x c,X.env.cells.lookup x=some c→∃ v,s.heap.IsCell c v
  free:H X.env.locals=none
  freeC:∀ x c,X.env.cells.lookup x=some c→H c=none
  pin:∀ p∈X.pn ++ pins,s.heap.get? p.1=some p.2∧H p.1=none∧p.1≠X.env.locals∧p.1 ∉ X.fs∧∀ v,p.2.data≠.cell v
  hok:HOk X.prog X.w H s.heap
  len : σ.length=X.N.length
section
variable {X:Cx} {pins:List (Addr×Obj)} {σ : List (Option V)} {H H':Hp} {s:Shared} {h':Heap}
theorem Cx.Ok.nofr (ok:X.Ok) {b:Addr} {o:Obj} (e:X.base.get? b=some o):b ∉ X.fs:=fun hb => by
  have:=(ok.funs.mem hb).1
  rw [e] at this; cases this
theorem Inv.bs (I:Inv X pins σ H s):∀ b o,X.base.get? b=some o→s.heap.get? b=some o∧H b=none:=fun b o e =>
  ⟨I.base.keep b o (I.ok.bs b o e).1 (I.ok.bs b o e).2 (I.ok.nofr e) (I.ok.noex b o e),I.base.free b o (I.ok.bs b o e).1 (I.ok.bs b o e).2 (I.ok.noex b o e)⟩
theorem Inv.bk (I:Inv X pins σ H s):∀ b o,X.base.get? b=some o→s.heap.get? b=some o:=fun b o e => (I.bs b o e).1
theorem Inv.mod (I:Inv X pins σ H s):Mod X.K X.mg X.base:=I.ok.mod
theorem Inv.kIn (I:Inv X pins σ H s):X.K.In s.heap:=I.ok.mod.kin.keeps I.bk
theorem Inv.lt (I:Inv X pins σ H s):X.env.locals < s.heap.objs.size:=let ⟨_,hn,_⟩:=I.loc; hn.lt
theorem Inv.sz (I:Inv X pins σ H s):X.s₀.heap.objs.size≤s.heap.objs.size:=Nat.le_trans I.ok.above (Nat.le_of_lt I.lt)
theorem Inv.nofs (I:Inv X pins σ H s) {a:Addr} (h:s.heap.objs.size≤a):a ∉ X.fs:=fun hb => by
  obtain ⟨_,o,ho,_⟩:=I.ok.funs.mem hb
  exact absurd (Nat.lt_of_lt_of_le (Heap.lt_size ho) (Nat.le_trans I.sz h)) (Nat.lt_irrefl _)
theorem Inv.cne (I:Inv X pins σ H s):∀ x c,X.env.cells.lookup x=some c→c≠X.env.locals:=fun x c e z => by
  obtain ⟨v,o,ho,hd⟩:=I.cell x c e
  obtain ⟨m,⟨o',es,ep,ho',hd',_⟩,_⟩:=I.loc
  rw [z,ho'] at ho; cases ho; rw [hd'] at hd; cases hd
theorem Inv.funs (I:Inv X pins σ H s):s.heap.FunFrames X.base X.outer:=by
  have all:∀ (l:List Env),(∀ b∈frs l,b∈X.fs)→X.s₀.heap.FunFrames X.base l→s.heap.FunFrames X.base l:=by
    intro l
    induction l with
    | nil => intro _ _; trivial
    | cons env r ih =>
      intro hs hl
      obtain ⟨hk,⟨L,o,hf,hn,ho,hd⟩,hr⟩:=hl
      have hL:L∈X.fs:=hs L (by unfold frs; rw [List.filterMap_cons,hf]; exact List.mem_cons_self)
      obtain ⟨sl,e⟩:=I.base.slot L o ho (I.ok.frf L hL) hL fun z => I.ok.exfs L z hL
      exact ⟨hk,⟨L,_,hf,hn,e,hd⟩,ih (fun b hb => hs b (by unfold frs; rw [List.filterMap_cons,hf]; exact List.mem_cons_of_mem _ hb)) hr⟩
  exact all X.outer (fun _ hb => hb) I.ok.funs
theorem Inv.stack (I:Inv X pins σ H s):s.heap.FunFrames X.base X.stack:=by
  rcases I.ok.stk with e | ⟨e,hf⟩
  · rw [e]; exact I.funs
  · rw [e]
    obtain ⟨m,hn,_⟩:=I.loc
    refine .cons (by rw [I.ok.kind]; decide) hf hn ?_ I.funs
    exact Heap.get?_none_of_le (Nat.le_trans I.ok.bsz I.ok.above)
theorem Inv.stkSub (I:Inv X pins σ H s):∀ b∈frs X.stack,b∈X.env.locals :: X.fs:=fun b hb => by
  rcases I.ok.stk with e | ⟨e,hf⟩
  · rw [e] at hb; exact List.mem_cons_of_mem _ hb
  · rw [e] at hb
    unfold frs at hb
    rw [List.filterMap_cons,hf] at hb
    exact hb
theorem Inv.stkFree (I:Inv X pins σ H s):∀ b∈frs X.stack,H b=none:=fun b hb => by
  rcases List.mem_cons.mp (I.stkSub b hb) with e | hb
  · rw [e]; exact I.free
  · obtain ⟨_,o,ho,_⟩:=I.ok.funs.mem hb
    exact I.base.free b o ho (I.ok.frf b hb) fun z => I.ok.exfs b z hb
theorem Inv.step {g':Array GenState} {t':Nat} {d':Drawn} {ch:List Addr} (I:Inv X pins σ H s)
    (hch:∀ b∈ch,(b∈X.ex∨X.s₀.heap.objs.size≤b)∧b≠X.env.locals∧(∀ x c,X.env.cells.lookup x=some c→c≠b)∧∀ p∈X.pn ++ pins,p.1≠b)
    (keep:∀ b o,b≠X.env.locals→b ∉ X.fs→b ∉ ch→s.heap.get? b=some o→H b=none→h'.get? b=some o)
    (slot:∀ b o,b≠X.env.locals→b∈X.fs→b ∉ ch→s.heap.get? b=some o→H b=none→∃ sl,h'.get? b=some { o with slots:=sl }) (free:∀ b o,b ∉ ch→s.heap.get? b=some o→H b=none→H' b=none)
    (there:∀ b o,b ∉ ch→s.heap.get? b=some o→∃ o',h'.get? b=some o')
    (tups:∀ b xs,H b=some (.tup xs)→H' b=some (.tup xs)) (frzs:∀ b o u,H b=some (.frz o u)→H' b=some (.frz o u)) (tbls:∀ b ps,H b=some (.tbl ps)→∃ more,H' b=some (.tbl (ps ++ more)))
    (ns:∀ m,s.heap.Ns X.env.locals m→h'.Ns X.env.locals m) (hok:HOk X.prog X.w H' h') (hg:AllBare g') :
    Inv X pins σ H' { s with heap:=h',gens:=g',drawn:=d',toks:=t' }:=by
  have neL:∀ b o,X.s₀.heap.get? b=some o→b≠X.env.locals:=fun b o e => Nat.ne_of_lt (Nat.lt_of_lt_of_le (Heap.lt_size e) I.ok.above)
  have neC:∀ b o,X.s₀.heap.get? b=some o→b ∉ X.ex→b ∉ ch:=fun b o e hx hb => by
    rcases (hch b hb).1 with z | z
    · exact hx z
    · exact absurd (Nat.lt_of_lt_of_le (Heap.lt_size e) z) (Nat.lt_irrefl _)
  have cellK:∀ x c,X.env.cells.lookup x=some c→∀ v,s.heap.IsCell c v→h'.IsCell c v:=fun x c e v ⟨o,ho,hd⟩ => by
    have nch:c ∉ ch:=fun z => (hch c z).2.2.1 x c e rfl
    by_cases hc:c∈X.fs
    · obtain ⟨sl,q⟩:=slot c o (I.cne x c e) hc nch ho (I.freeC x c e)
      exact ⟨_,q,hd⟩
    · exact ⟨o,keep c o (I.cne x c e) hc nch ho (I.freeC x c e),hd⟩
  refine ⟨I.ok,I.os,hg,⟨fun b o e n hb hx => ?_,fun b o e n hb hx => ?_,fun b o e n hx => ?_,fun b o e hx => ?_,fun b xs e => tups b xs (I.base.tups b xs e),fun b o xs e => frzs b o xs (I.base.frzs b o xs e),fun b ps e => ?_⟩,?_,fun x c e => ?_,?_,fun x c e => ?_,fun p hp => ?_,hok,I.len⟩
  · exact keep b o (neL b o e) hb (neC b o e hx) (I.base.keep b o e n hb hx) (I.base.free b o e n hx)
  · obtain ⟨sl,e1⟩:=I.base.slot b o e n hb hx
    obtain ⟨sl',e2⟩:=slot b _ (neL b o e) hb (neC b o e hx) e1 (I.base.free b o e n hx)
    exact ⟨sl',e2⟩
  · obtain ⟨o',e1⟩:=I.base.there b o e hx
    exact free b o' (neC b o e hx) e1 (I.base.free b o e n hx)
  · obtain ⟨o',e1⟩:=I.base.there b o e hx
    exact there b o' (neC b o e hx) e1
  · obtain ⟨m1,e1⟩:=I.base.tbls b ps e
    obtain ⟨m2,e2⟩:=tbls b _ e1
    exact ⟨m1 ++ m2,by rw [e2,Array.append_assoc]⟩
  · obtain ⟨m,hn,hl⟩:=I.loc
    refine ⟨m,ns m hn,fun i x v e1 e2 e3 => ?_⟩
    obtain ⟨u,r,l⟩:=hl i x v e1 e2 e3
    refine ⟨u,r,?_⟩
    rcases l with l | ⟨k,c,e,z⟩
    · exact .inl l
    · exact .inr ⟨k,c,e,cellK x c e _ z⟩
  · obtain ⟨v,z⟩:=I.cell x c e
    exact ⟨v,cellK x c e v z⟩
  · obtain ⟨m,⟨o,_,_,ho,_⟩,_⟩:=I.loc
    exact free _ o (fun z => (hch _ z).2.1 rfl) ho I.free
  · obtain ⟨v,o,ho,hd⟩:=I.cell x c e
    exact free c o (fun z => (hch c z).2.2.1 x c e rfl) ho (I.freeC x c e)
  · obtain ⟨e,n,ne,nf,d⟩:=I.pin p hp
    have nch:p.1 ∉ ch:=fun z => (hch p.1 z).2.2.2 p hp rfl
    exact ⟨keep p.1 p.2 ne nf nch e n,free p.1 p.2 nch e n,ne,nf,d⟩
theorem Inv.un {t':Nat} (I:Inv X pins σ H s) (u:Un X.fs [] H H' s.heap h') (hok:HOk X.prog X.w H' h'):Inv X pins σ H' { s with heap:=h',toks:=t' }:=by
  obtain ⟨m,⟨o,es,ep,ho,r⟩,_⟩:=id I.loc
  obtain ⟨sl,hL⟩:=u.any ho I.free (by simp)
  exact I.step (g':=s.gens) (d':=s.drawn) (ch:=[]) (fun _ z => nomatch z) (fun b o _ hb _ e n => u.keep b o e n hb (by simp)) (fun b o _ hb _ e n => u.slot b o e n hb (by simp)) (fun b o _ e n => u.free b o e n (by simp)) (fun b o _ e => u.there b o e (by simp)) u.tups u.frzs u.tbls (fun m' hm => by
    obtain ⟨o',es',ep',ho',r'⟩:=hm
    rw [ho] at ho'; cases ho'
    exact ⟨_,es',ep',hL,r'⟩) hok I.bare
theorem Inv.call {g':Array GenState} {t':Nat} {d':Drawn} {ch:List Addr} (I:Inv X pins σ H s) (u:Un (frs X.stack) ch H H' s.heap h') (hok:HOk X.prog X.w H' h') (hg:AllBare g')
    (hch:∀ b∈ch,(b∈X.ex∨X.s₀.heap.objs.size≤b)∧b≠X.env.locals∧(∀ x c,X.env.cells.lookup x=some c→c≠b)∧∀ p∈X.pn ++ pins,p.1≠b) :
    Inv X pins σ H' { s with heap:=h',gens:=g',drawn:=d',toks:=t' }:=by
  obtain ⟨m,⟨o,es,ep,ho,r⟩,_⟩:=id I.loc
  obtain ⟨sl,hL⟩:=u.any ho I.free fun z => (hch _ z).2.1 rfl
  exact I.step (ch:=ch) hch (fun b o hL hb hc e n => u.keep b o e n (fun z => (List.mem_cons.mp (I.stkSub b z)).elim hL hb) hc) (fun b o _ _ hc e n => u.any e n hc) (fun b o hc e n => u.free b o e n hc) (fun b o hc e => u.there b o e hc) u.tups u.frzs u.tbls (fun m' hm => by
    obtain ⟨o',es',ep',ho',r'⟩:=hm
    rw [ho] at ho'; cases ho'
    exact ⟨_,es',ep',hL,r'⟩) hok hg
theorem Inv.turned {t':Nat} {it:Addr} (I:Inv X pins σ H s) (k:∀ b o,b≠it→s.heap.get? b=some o→h'.get? b=some o) (hn:H it=none) (hL:it≠X.env.locals)
    (h1:it∈X.ex∨X.s₀.heap.objs.size≤it) (h2:∀ x c,X.env.cells.lookup x=some c→c≠it) (h3:∀ p∈X.pn ++ pins,p.1≠it):Inv X pins σ H { s with heap:=h',toks:=t' }:=by
  have nit:∀ b u,H b=some u→b≠it:=fun b u e z => by rw [z,hn] at e; cases e
  refine I.step (g':=s.gens) (d':=s.drawn) (ch:=[it]) (fun b hb => ?_) (fun b o _ _ hc e _ => k b o (fun z => hc (by simp [z])) e) (fun b o _ _ hc e _ => ⟨o.slots,k b o (fun z => hc (by simp [z])) e⟩) (fun _ _ _ _ n => n)
    (fun b o hc e => ⟨o,k b o (fun z => hc (by simp [z])) e⟩) (fun _ _ e => e) (fun _ _ _ e => e) (fun b ps e => ⟨#[],by rw [e]; simp⟩) (fun m hm => ?_) (fun b u e => ?_) I.bare
  · have e:b=it:=by simpa using hb
    subst e
    exact ⟨h1,hL,h2,h3⟩
  · obtain ⟨o,es,ep,ho,r⟩:=hm
    exact ⟨o,es,ep,k _ o (Ne.symm hL) ho,r⟩
  · refine (I.hok b u e).stay (fun c v hc q => k c v ?_ q) (fun _ q => q) fun _ _ q => q
    rcases hc with z | z
    · rw [z]; exact nit b u e
    · exact nit c _ z
theorem Inv.tok (I:Inv X pins σ H s) (t:Nat):Inv X pins σ H { s with toks:=t }:=I.un (h':=s.heap) (t':=t) Un.refl I.hok
theorem Inv.kept {t':Nat} (I:Inv X pins σ H s) (k:∀ b u,s.heap.get? b=some u→h'.get? b=some u):Inv X pins σ H { s with heap:=h',toks:=t' }:=I.un (Un.kept k) (I.hok.kept k)
theorem Inv.laid {a:Addr} {o:HO} {t':Nat} (I:Inv X pins σ H s) (k:∀ b u,s.heap.get? b=some u→h'.get? b=some u) (hp:s.heap.objs.size≤a) (new:ObjOk X.prog X.w (upd H a o) h' a o) :
    Inv X pins σ (upd H a o) { s with heap:=h',toks:=t' }:=I.un (Un.laid k hp (I.hok.fresh hp)) (I.hok.laid k hp new)
theorem Inv.write {x e:Addr} {o:HO} {t':Nat} (I:Inv X pins σ H s) (mu:Mut (H x)) (he:e=x∨H e=some (.own x)) (k:∀ b u,b≠e→s.heap.get? b=some u→h'.get? b=some u) (heo:∃ u,h'.get? e=some u)
    (new:ObjOk X.prog X.w (upd H x o) h' x o):Inv X pins σ (upd H x o) { s with heap:=h',toks:=t' }:=I.un (Un.write mu he k heo) (I.hok.write mu he k heo new)
theorem Inv.pins_of {pins':List (Addr×Obj)} (I:Inv X pins σ H s) (h:∀ p∈pins',s.heap.get? p.1=some p.2∧H p.1=none∧p.1≠X.env.locals∧p.1 ∉ X.fs∧∀ v,p.2.data≠.cell v):Inv X pins' σ H s :=
  ⟨I.ok,I.os,I.bare,I.base,I.loc,I.cell,I.free,I.freeC,fun p hp => (List.mem_append.mp hp).elim (fun z => I.pin p (List.mem_append_left _ z)) (h p),I.hok,I.len⟩
theorem nodup_ix {N:List Str} (hN:N.Nodup) {i j:Nat} {x:Str} (a:N[i]? = some x) (b:N[j]? = some x):i=j:=by
  obtain ⟨h1,e1⟩:=List.getElem?_eq_some_iff.mp a
  obtain ⟨h2,e2⟩:=List.getElem?_eq_some_iff.mp b
  exact (List.getElem_inj hN).mp (e1.trans e2.symm)
theorem store_ok2 {M:Model} {A:Around} {E:Value→Shared→Prop} {i:Nat} {x:Str} {v:V} {u:Value} {Q:Unit→Shared→Prop} (I:Inv X pins σ H s) (hN:X.N.Nodup) (hi:X.N[i]? = some x) (hx:Loc X.env.scope x) (r:RelV v u)
    (h:∀ s',Inv X pins (σ.set i (some v)) H s'→(∃ a,Heap.SameBut a s.heap s'.heap∧(a=X.env.locals∨X.env.cells.lookup x=some a))→Q () s') (hf:X.fn x=true∨X.env.scope.names.lookup x=some .local:=by first | exact .inl rfl | exact .inr rfl | assumption):wpAny M A (storeName X.env x u) Q E s:=by
  obtain ⟨m,hn,hl⟩:=id I.loc
  have hcls:(X.env.scope.kind == .class || (X.env.scope.kind == .module && X.env.locals != X.env.globals))=false:=by rw [I.ok.kind]; rfl
  have hiσ : i < σ.length:=by rw [I.len]; exact (List.getElem?_eq_some_iff.mp hi).1
  have cne:=I.cne
  have tracked:∀ {a:Addr} {h':Heap},(∃ o,s.heap.get? a=some o∧H a=none)→Heap.SameBut a s.heap h'→HOk X.prog X.w H h':=fun {a h'} ha hs b ob e => by
    obtain ⟨_,_,hfree⟩:=ha
    refine (I.hok b ob e).stay (fun c w' hc q => (hs.2 c ?_).trans q) (fun _ q => q) fun _ _ q => q
    rintro rfl
    rcases hc with rfl | hc
    · rw [hfree] at e; cases e
    · rw [hfree] at hc; cases hc
  rcases hx with hk | hk
  · refine wpAny_storeName_local hk hn (fun h' hn' hs => ?_) hcls
    obtain ⟨oL,_,_,hoL,_⟩:=id hn
    refine h _ ⟨I.ok,I.os,I.bare,⟨fun b o e n hb hx => ?_,fun b o e n hb hx => ?_,I.base.free,fun b o e hx => ?_,I.base.tups,I.base.frzs,I.base.tbls⟩,⟨_,hn',fun j y v' e1 e2 e3 => ?_⟩,fun y c e => ?_,I.free,I.freeC,fun p hp => ?_,tracked ⟨oL,hoL,I.free⟩ hs,by simpa using I.len⟩ ⟨_,hs,.inl rfl⟩
    · exact (hs.2 b (Nat.ne_of_lt (Nat.lt_of_lt_of_le (Heap.lt_size e) I.ok.above))).trans (I.base.keep b o e n hb hx)
    · obtain ⟨sl,e1⟩:=I.base.slot b o e n hb hx
      exact ⟨sl,(hs.2 b (Nat.ne_of_lt (Nat.lt_of_lt_of_le (Heap.lt_size e) I.ok.above))).trans e1⟩
    · obtain ⟨o',e1⟩:=I.base.there b o e hx
      exact ⟨o',(hs.2 b (Nat.ne_of_lt (Nat.lt_of_lt_of_le (Heap.lt_size e) I.ok.above))).trans e1⟩
    · by_cases hj:j=i
      · subst hj
        rw [hi] at e1; cases e1
        rw [List.getElem?_set_self hiσ] at e2
        cases e2
        exact ⟨u,r,.inl ⟨hk,by simp⟩⟩
      · rw [List.getElem?_set_ne (Ne.symm hj)] at e2
        obtain ⟨u',r',q⟩:=hl j y v' e1 e2 e3
        refine ⟨u',r',?_⟩
        rcases q with ⟨k,e⟩ | ⟨k,c,e,z⟩
        · refine .inl ⟨k,?_⟩
          have:y≠x:=fun e => hj (nodup_ix hN e1 (e ▸ hi))
          simp [this,e]
        · exact .inr ⟨k,c,e,z.sameBut hs (cne y c e)⟩
    · obtain ⟨w',z⟩:=I.cell y c e
      exact ⟨w',z.sameBut hs (cne y c e)⟩
    · obtain ⟨e,n,ne,nf,d⟩:=I.pin p hp
      exact ⟨(hs.2 p.1 ne).trans e,n,ne,nf,d⟩
  · have hfn:X.fn x=true:=by
      rcases hf with z | z
      · exact z
      · rw [z] at hk; cases hk
    obtain ⟨c,hc⟩:=I.ok.has x (.inl hk)
    obtain ⟨w',z⟩:=I.cell x c hc
    refine wpAny_storeName_cell I.ok.kind hk hc z (fun h' hc' hs => ?_)
    obtain ⟨oc,hoc,hocd⟩:=id z
    refine h { s with heap:=h' } ⟨I.ok,I.os,I.bare,⟨fun b o e n hb hx => ?_,fun b o e n hb hx => ?_,I.base.free,fun b o e hx => ?_,I.base.tups,I.base.frzs,I.base.tbls⟩,⟨m,hn.sameBut hs (Ne.symm (cne x c hc)),fun j y v' e1 e2 e3 => ?_⟩,fun y c' e => ?_,I.free,I.freeC,fun p hp => ?_,tracked ⟨oc,hoc,I.freeC x c hc⟩ hs,by simpa using I.len⟩ ⟨c,hs,.inr hc⟩
    · exact (hs.2 b (Nat.ne_of_lt (Nat.lt_of_lt_of_le (Heap.lt_size e) (I.ok.cab x c hfn hc)))).trans (I.base.keep b o e n hb hx)
    · obtain ⟨sl,e1⟩:=I.base.slot b o e n hb hx
      exact ⟨sl,(hs.2 b (Nat.ne_of_lt (Nat.lt_of_lt_of_le (Heap.lt_size e) (I.ok.cab x c hfn hc)))).trans e1⟩
    · obtain ⟨o',e1⟩:=I.base.there b o e hx
      exact ⟨o',(hs.2 b (Nat.ne_of_lt (Nat.lt_of_lt_of_le (Heap.lt_size e) (I.ok.cab x c hfn hc)))).trans e1⟩
    · by_cases hj:j=i
      · subst hj
        rw [hi] at e1; cases e1
        rw [List.getElem?_set_self hiσ] at e2
        cases e2
        exact ⟨u,r,.inr ⟨.inl hk,c,hc,hc'⟩⟩
      · rw [List.getElem?_set_ne (Ne.symm hj)] at e2
        obtain ⟨u',r',q⟩:=hl j y v' e1 e2 e3
        refine ⟨u',r',?_⟩
        rcases q with q | ⟨k,c',e,z'⟩
        · exact .inl q
        · refine .inr ⟨k,c',e,z'.sameBut hs ?_⟩
          rintro rfl
          exact hj (nodup_ix hN e1 (I.ok.inj _ _ _ e hc ▸ hi))
    · by_cases hcc:c'=c
      · subst hcc; exact ⟨_,hc'⟩
      · obtain ⟨w2,z2⟩:=I.cell y c' e
        exact ⟨w2,z2.sameBut hs hcc⟩
    · obtain ⟨e,n,ne,nf,d⟩:=I.pin p hp
      refine ⟨(hs.2 p.1 ?_).trans e,n,ne,nf,d⟩
      intro q
      rw [q,hoc] at e
      have q':oc=p.2:=Option.some.inj e
      exact d w' (by rw [← q']; exact hocd)
theorem store_ok {M:Model} {A:Around} {E:Value→Shared→Prop} {i:Nat} {x:Str} {v:V} {u:Value} {Q:Unit→Shared→Prop} (I:Inv X pins σ H s) (hN:X.N.Nodup) (hi:X.N[i]? = some x) (hx:Loc X.env.scope x) (r:RelV v u)
    (h:∀ s',Inv X pins (σ.set i (some v)) H s'→Q () s') (hf:X.fn x=true∨X.env.scope.names.lookup x=some .local:=by first | exact .inl rfl | exact .inr rfl | assumption):wpAny M A (storeName X.env x u) Q E s :=
  store_ok2 I hN hi hx r (fun s' I' _ => h s' I') hf
theorem Inv.call' {s':Shared} {ch:List Addr} (I:Inv X pins σ H s) (ho:s'.os=s.os) (u:Un (frs X.stack) ch H H' s.heap s'.heap) (hok:HOk X.prog X.w H' s'.heap) (hg:AllBare s'.gens)
    (hch:∀ b∈ch,(b∈X.ex∨X.s₀.heap.objs.size≤b)∧b≠X.env.locals∧(∀ x c,X.env.cells.lookup x=some c→c≠b)∧∀ p∈X.pn ++ pins,p.1≠b):Inv X pins σ H' s':=by
  obtain ⟨h',g',d',t',o'⟩:=s'
  have e:o'=s.os:=ho
  subst e
  exact I.call (g':=g') (t':=t') (d':=d') u hok hg hch
end
abbrev XK:=Value→Option Addr→Hp→Prop
abbrev St:=List (Option V)
abbrev VK:=V→Hp→Prop
abbrev TE:=St→Hp→VK→Prop
abbrev TT:=St→Hp→(Bool→Hp→Prop)→Prop
abbrev TA:=St→Hp→(List V→Hp→Prop)→Prop
structure Ends where
  nx:St→Hp→Prop
  rt:VK
  bk:St→Hp→Prop:=fun _ _ => False
  ct:St→Hp→Prop:=fun _ _ => False
abbrev TS:=Ends→St→Hp→Prop
def EP (X:Cx) (pins:List (Addr×Obj)) (σ : St) (Q:VK) (u:Value) (s':Shared):Prop := ∃ v H',Inv X pins σ H' s'∧RelV v u∧Q v H'
def TP (X:Cx) (pins:List (Addr×Obj)) (σ : St) (Q:Bool→Hp→Prop) (b:Bool) (s':Shared):Prop := ∃ H',Inv X pins σ H' s'∧Q b H'
def AP (X:Cx) (pins:List (Addr×Obj)) (σ : St) (Q:List V→Hp→Prop) (us:List Value) (s':Shared):Prop := ∃ vs H',Inv X pins σ H' s'∧Vals vs us∧Q vs H'
def SP (X:Cx) (pins:List (Addr×Obj)) (D:Ends) (f:Flow) (s':Shared):Prop :=
  match f with
  | .next => ∃ σ' H',Inv X pins σ' H' s'∧D.nx σ' H'
  | .brk => ∃ σ' H',Inv X pins σ' H' s'∧D.bk σ' H'
  | .cont => ∃ σ' H',Inv X pins σ' H' s'∧D.ct σ' H'
  | .ret u => ∃ v σ' H',Inv X pins σ' H' s'∧RelV v u∧D.rt v H'
def PE (X:Cx) (e:Expr) (t:TE):Prop :=
  ∀ (pins:List (Addr×Obj)) (s:Shared) (σ : St) (H:Hp) (Q:VK),Inv X pins σ H s→t σ H Q→wpAny (model X.prog X.w) X.A (eval e X.env) (EP X pins σ Q) X.xe s
def PT (X:Cx) (e:Expr) (t:TT):Prop :=
  ∀ (pins:List (Addr×Obj)) (s:Shared) (σ : St) (H:Hp) (Q:Bool→Hp→Prop),Inv X pins σ H s→t σ H Q→wpAny (model X.prog X.w) X.A (isTrue e X.env (eval e X.env)) (TP X pins σ Q) X.xe s
def PW (X:Cx) (e:Expr) (t:TT):Prop :=
  ∀ (whole:Sem Value) (pins:List (Addr×Obj)) (s:Shared) (σ : St) (H:Hp) (Q:Bool→Hp→Prop),Inv X pins σ H s→t σ H Q→wpAny (model X.prog X.w) X.A (isTrue e X.env whole) (TP X pins σ Q) X.xe s
theorem PW.pt {X:Cx} {e:Expr} {t:TT} (h:PW X e t):PT X e t:=h _
def PA (X:Cx) (es:List Expr) (t:TA):Prop :=
  ∀ (pos:Pos) (pins:List (Addr×Obj)) (s:Shared) (σ : St) (H:Hp) (Q:List V→Hp→Prop),Inv X pins σ H s→t σ H Q→wpAny (model X.prog X.w) X.A (spliced (backTo pos (starEach es X.env))) (AP X pins σ Q) X.xe s
def PS (X:Cx) (st:Stmt) (t:TS):Prop :=
  ∀ (pins:List (Addr×Obj)) (s:Shared) (σ : St) (H:Hp) (D:Ends),Inv X pins σ H s→t D σ H→wpAny (model X.prog X.w) X.A (exec st X.env) (SP X pins D) X.xe s
def PSs (X:Cx) (st:List Stmt) (t:TS):Prop :=
  ∀ (pins:List (Addr×Obj)) (s:Shared) (σ : St) (H:Hp) (D:Ends),Inv X pins σ H s→t D σ H→wpAny (model X.prog X.w) X.A (execs st X.env) (SP X pins D) X.xe s
theorem thn {α : Type} {t:Sem α} {Q Q' : α→Shared→Prop} {M:Model} {A:Around} {E:Value→Shared→Prop} {s:Shared} (h:wpAny M A t Q E s) (hQ:∀ a s,Q a s→Q' a s):wpAny M A t Q' E s:=wpAny_mono h hQ fun _ _ x => x
end L2
namespace L2
open PySem PySem.Spec PyProof.Rows
section
variable {X:Cx}
def tVar (i:Nat):TE:=fun σ H Q => ∃ v,σ[i]? = some (some v)∧Q v H
def tC (v:V):TE:=fun _ H Q => Q v H
theorem pe_var {i:Nat} {x:Str} {pos:Pos} (hN:X.N[i]? = some x) (hv:Vis X.env.scope x) (hd:(x == ("__debug__" : Str))=false:=by decide) (hcd:(x == ("__classdict__" : Str))=false:=by decide):PE X (.Name x pos) (tVar i):=by
  intro pins s σ H Q I h
  obtain ⟨v,e,h⟩:=h
  obtain ⟨m,hn,hl⟩:=I.loc
  obtain ⟨u,r,l⟩:=hl i x v hN e hv
  have fin:EP X pins σ Q u s:=⟨v,H,I,r,h⟩
  rcases l with ⟨hk,hm⟩ | ⟨hk,c,hc,hcell⟩
  · exact wpAny_Name (wpAny_loadName_local I.ok.kind hk hn hm fin) hd
  · rcases hk with hk | hk
    · exact wpAny_Name (wpAny_loadName_cell I.ok.kind hk hc hcell fin) hd
    · exact wpAny_Name (wpAny_loadName_free I.ok.kind hk hc hcell fin hcd) hd
theorem pe_int {i j pos}:PE X (.Constant (.int i) j pos) (tC (.int i)):=fun _ _ _ H _ I h => wpAny_Constant_int ⟨.int i,H,I.tok _,⟨_,rfl⟩,h⟩
theorem pe_bl {b j pos}:PE X (.Constant (.bool b) j pos) (tC (.bl b)):=fun _ _ _ H _ I h => Constant_bool ⟨.bl b,H,I,rfl,h⟩
theorem pe_non {j pos}:PE X (.Constant .none j pos) (tC .non):=fun _ _ _ H _ I h => Constant_none ⟨.non,H,I,rfl,h⟩
theorem pe_str {x j pos}:PE X (.Constant (.str x) j pos) (tC (.str x)):=fun _ _ _ H _ I h => Calls.Constant_str ⟨.str x,H,I.tok _,⟨_,rfl⟩,h⟩
def Gl (X:Cx) (x:Str):Prop:=X.env.kindOf x=some .globalImplicit
theorem ld_glob {E:Value→Shared→Prop} {pins:List (Addr×Obj)} {s:Shared} {σ : St} {H:Hp} {x:Str} {u:Value} {pos:Pos} {Q:Value→Shared→Prop} (I:Inv X pins σ H s) (hg:Gl X x) (hm:X.mg x=some u) (h:Q u s)
    (hd:(x == ("__debug__" : Str))=false:=by decide):wpAny (model X.prog X.w) X.A (eval (.Name x pos) X.env) Q E s :=
  Calls.Name_function_global I.ok.kind hg (Calls.loadGlobal_global (by rw [I.ok.glob]; exact I.mod.glob.keeps I.bk) hm h) hd
theorem ld_blt {E:Value→Shared→Prop} {pins:List (Addr×Obj)} {s:Shared} {σ : St} {H:Hp} {x:Str} {u:Value} {pos:Pos} {Q:Value→Shared→Prop} (I:Inv X pins σ H s) (hg:Gl X x) (hm:X.mg x=none) (hv:bootBuiltins x=some u) (h:Q u s)
    (hn:x≠"__name__" := by decide) (hd:(x == ("__debug__" : Str))=false:=by decide):wpAny (model X.prog X.w) X.A (eval (.Name x pos) X.env) Q E s:=by
  obtain ⟨mb,h1,h2⟩:=I.mod.blt
  exact Calls.Name_function_global I.ok.kind hg (Calls.loadGlobal_builtin (by rw [I.ok.glob]; exact I.mod.glob.keeps I.bk) hm (by rw [I.ok.blt]; exact h1.keeps I.bk) ((h2 x hn).trans hv) h) hd
theorem pe_glob {x:Str} {v:V} {u:Value} {pos:Pos} (hg:Gl X x) (hm:X.mg x=some u) (r:RelV v u) (hd:(x == ("__debug__" : Str))=false:=by decide):PE X (.Name x pos) (tC v) :=
  fun _ _ _ H _ I h => ld_glob I hg hm ⟨v,H,I,r,h⟩ hd
theorem pe_bltn {x:Str} {v:V} {u:Value} {pos:Pos} (hg:Gl X x) (hm:X.mg x=none) (hv:bootBuiltins x=some u) (r:RelV v u) (hn:x≠"__name__" := by decide) (hd:(x == ("__debug__" : Str))=false:=by decide):PE X (.Name x pos) (tC v) :=
  fun _ _ _ H _ I h => ld_blt I hg hm hv ⟨v,H,I,r,h⟩ hn hd
variable {a b:Expr} {ta tb:TE} {pos:Pos}
def PC (X:Cx) (op:CmpOp) (a b:Expr) (t:TE):Prop :=
  ∀ (pins:List (Addr×Obj)) (s:Shared) (σ : St) (H:Hp) (Q:VK),Inv X pins σ H s→t σ H Q →
    wpAny (model X.prog X.w) X.A (eval a X.env) (fun v s₁ => wpAny (model X.prog X.w) X.A (eval b X.env) (fun u s₂ => wpAny (model X.prog X.w) X.A (compareOp op v u) (EP X pins σ Q) X.xe s₂) X.xe s₁) X.xe s
theorem nobehind (b:Expr) {op:CmpOp} (h:op≠.In) (h2:op≠.NotIn):behindInMarks op b=false:=by
  have e1:(op == CmpOp.In)=false:=by cases op <;> first | rfl | exact absurd rfl h
  have e2:(op == CmpOp.NotIn)=false:=by cases op <;> first | rfl | exact absurd rfl h2
  cases b <;> simp [behindInMarks,e1,e2]
def tIsN (ta:TE):TE:=fun σ H Q => ta σ H fun x H1 => Q (.bl (decide (x = .non))) H1
theorem RelV.none_iff {x:V} {v:Value} (r:RelV x v):(v == Value.none)=decide (x = .non):=by
  cases x with
  | non => cases r; rfl
  | bl _ => cases r; rfl
  | int _ => obtain ⟨t,rfl⟩:=r; rfl
  | str _ => obtain ⟨t,rfl⟩:=r; rfl
  | byt _ => obtain ⟨t,rfl⟩:=r; rfl
  | flt _ => obtain ⟨t,rfl⟩:=r; rfl
  | ref _ => cases r; rfl
  | ty _ => cases r; rfl
theorem pc_isN {j pos'} (ha:PE X a ta):PC X .Is a (.Constant .none j pos') (tIsN ta):=by
  intro pins s σ H Q I h
  refine thn (ha pins s σ H _ I h) fun v s1 ⟨x,H1,I1,r1,q1⟩ => ?_
  exact Constant_none (is_none_gen ⟨.bl _,H1,I1,by rw [r1.none_iff]; rfl,q1⟩)
def tB (t:TE):TT:=fun σ H Q => t σ H fun x H1 => ∃ c,x = .bl c∧Q c H1
theorem pt_cmp {op:CmpOp} {t:TE} (h:PC X op a b t) (h1:behindInMarks op b=false:=by first | exact nobehind _ (by decide) (by decide) | rfl):PT X (.Compare a [op] [b] pos) (tB t):=by
  intro pins s σ H Q I hw
  refine wpAny_isTrue_Compare1 (thn (h pins s σ H _ I hw) fun v s1 h1 => thn h1 fun u s2 h2 => thn h2 fun c s3 ⟨x,H1,I1,r1,q1⟩ => ?_) h1
  obtain ⟨d,rfl,q⟩:=q1
  cases r1
  exact wpAny_truthy_bool ⟨H1,I1,q⟩
theorem pt_val {e:Expr} {t:TE} (h:PE X e t) (he:∀ whole,isTrue e X.env whole=(do let v ← whole; standAt e.pos; holding [v] (truthy v)):=by intro _; rfl):PT X e (tB t):=by
  intro pins s σ H Q I hw
  refine isTrue_plain (thn (h pins s σ H _ I hw) fun v s1 ⟨x,H1,I1,r1,q1⟩ => ?_) (he _)
  obtain ⟨d,rfl,q⟩:=q1
  cases r1
  exact wpAny_truthy_bool ⟨H1,I1,q⟩
variable {tA tB':TT} {rest:List Expr}
def tAnd (t u:TT):TT:=fun σ H Q => t σ H fun c H1 => if c=true then u σ H1 Q else Q false H1
def tOr (t u:TT):TT:=fun σ H Q => t σ H fun c H1 => if c=true then Q true H1 else u σ H1 Q
def tNot (t:TT):TT:=fun σ H Q => t σ H fun c H1 => Q (!c) H1
theorem pw_and1 (ha:PT X a tA):PW X (.BoolOp .And [a] pos) tA:=by
  intro wh pins s σ H Q I h
  refine isTrue_and (thn (ha pins s σ H Q I h) fun c s1 e => ?_)
  cases c with
  | true => exact isTrue_and_nil e
  | false => exact e
theorem pw_or1 (ha:PT X a tA):PW X (.BoolOp .Or [a] pos) tA:=by
  intro wh pins s σ H Q I h
  refine isTrue_or (thn (ha pins s σ H Q I h) fun c s1 e => ?_)
  cases c with
  | false => exact isTrue_or_nil e
  | true => exact e
theorem pw_and (ha:PT X a tA) (hb:PW X (.BoolOp .And (b :: rest) pos) tB'):PW X (.BoolOp .And (a :: b :: rest) pos) (tAnd tA tB'):=by
  intro wh pins s σ H Q I h
  refine isTrue_and (thn (ha pins s σ H _ I h) fun c s1 ⟨H1,I1,q1⟩ => ?_)
  cases c with
  | true => exact hb wh pins s1 σ H1 Q I1 q1
  | false => exact ⟨H1,I1,q1⟩
theorem pw_or (ha:PT X a tA) (hb:PW X (.BoolOp .Or (b :: rest) pos) tB'):PW X (.BoolOp .Or (a :: b :: rest) pos) (tOr tA tB'):=by
  intro wh pins s σ H Q I h
  refine isTrue_or (thn (ha pins s σ H _ I h) fun c s1 ⟨H1,I1,q1⟩ => ?_)
  cases c with
  | true => exact ⟨H1,I1,q1⟩
  | false => exact hb wh pins s1 σ H1 Q I1 q1
theorem pt_not (ha:PT X a tA):PT X (.UnaryOp .Not a pos) (tNot tA):=by
  intro pins s σ H Q I h
  exact isTrue_not (ha pins s σ H (fun c H1 => Q (!c) H1) I h)
def tAndV (ta tb:TE):TE:=fun σ H Q => ta σ H fun x H1 => ∃ c,x = .bl c∧if c=true then tb σ H1 Q else Q (.bl false) H1
def tOrV (ta tb:TE):TE:=fun σ H Q => ta σ H fun x H1 => ∃ c,x = .bl c∧if c=true then Q (.bl true) H1 else tb σ H1 Q
theorem pe_one {op} {t:TE} (h:PE X a t):PE X (.BoolOp op [a] pos) t:=fun pins s σ H Q I hw => BoolOp_one (h pins s σ H Q I hw)
theorem pe_and (ha:PE X a ta) (hb:PE X (.BoolOp .And (b :: rest) pos) tb):PE X (.BoolOp .And (a :: b :: rest) pos) (tAndV ta tb):=by
  intro pins s σ H Q I h
  refine BoolOp_and (thn (ha pins s σ H _ I h) fun v s1 ⟨x,H1,I1,r1,q1⟩ => ?_)
  obtain ⟨c,rfl,q1⟩:=q1
  cases r1
  refine wpAny_truthy_bool ?_
  cases c with
  | true => exact hb pins s1 σ H1 Q I1 q1
  | false => exact ⟨.bl false,H1,I1,rfl,q1⟩
theorem pe_or (ha:PE X a ta) (hb:PE X (.BoolOp .Or (b :: rest) pos) tb):PE X (.BoolOp .Or (a :: b :: rest) pos) (tOrV ta tb):=by
  intro pins s σ H Q I h
  refine BoolOp_or (thn (ha pins s σ H _ I h) fun v s1 ⟨x,H1,I1,r1,q1⟩ => ?_)
  obtain ⟨c,rfl,q1⟩:=q1
  cases r1
  refine wpAny_truthy_bool ?_
  cases c with
  | false => exact hb pins s1 σ H1 Q I1 q1
  | true => exact ⟨.bl true,H1,I1,rfl,q1⟩
end
end L2
namespace L2
open PySem PySem.Spec PyProof.Rows
def SqL (K:PySem.W.Frag) (H:Hp) (a:Addr) (xs:List V):Prop :=
  Rd H a (.lst xs) ∨
    ∃ (o:Obj) (its:Array Value) (n:Nat),K.lookup a=some o∧o.cls = .type "list"∧o.dict=none∧o.data = .seq its n∧its.size≤sizeLine∧Vals xs its.toList
def SqT (K:PySem.W.Frag) (H:Hp) (a:Addr) (xs:List V):Prop :=
  Rd H a (.tup xs) ∨
    ∃ (o:Obj) (its:Array Value) (n:Nat),K.lookup a=some o∧o.cls = .type "tuple"∧o.data = .seq its n∧its.size≤sizeLine∧Vals xs its.toList
def absV:Value→Option V
  | .none => some .non
  | .bool b => some (.bl b)
  | .int i _ => some (.int i)
  | .str x _ => some (.str x)
  | .bytes b _ => some (.byt b)
  | .float b _ => some (.flt b)
  | .ref a => some (.ref a)
  | .type n => some (.ty n)
  | _ => none
theorem RelV.abs {x:V} {u:Value} (r:RelV x u):absV u=some x:=by
  cases x with
  | non => cases r; rfl
  | bl _ => cases r; rfl
  | int _ => obtain ⟨t,rfl⟩:=r; rfl
  | str _ => obtain ⟨t,rfl⟩:=r; rfl
  | byt _ => obtain ⟨t,rfl⟩:=r; rfl
  | flt _ => obtain ⟨t,rfl⟩:=r; rfl
  | ref _ => cases r; rfl
  | ty _ => cases r; rfl
theorem RelV.inj {x y:V} {u:Value} (r:RelV x u) (q:RelV y u):x=y:=Option.some.inj (r.abs.symm.trans q.abs)
theorem Vals.inj:∀ {xs ys:List V} {us:List Value},Vals xs us→Vals ys us→xs=ys
  | _,_,_,.nil,.nil => rfl
  | _,_,_,.cons r t,.cons r' t' => by rw [r.inj r',Vals.inj t t']
section
variable {X:Cx} {pins:List (Addr×Obj)} {σ : St} {H:Hp} {s:Shared} {a:Addr} {xs ys:List V}
theorem SqL.of {K:PySem.W.Frag} (h:H a=some (.lst xs)):SqL K H a xs:=.inl (.inl h)
theorem SqT.of {K:PySem.W.Frag} (h:H a=some (.tup xs)):SqT K H a xs:=.inl (.inl h)
theorem Inv.list (I:Inv X pins σ H s) (h:SqL X.K H a xs):∃ its:List Value,Vals xs its∧PlainL s.heap a its.toArray∧xs.length≤sizeLine:=by
  rcases h with h | ⟨o,its,n,hk,hc,hd,hs,hz,r⟩
  · obtain ⟨z,its,n,r,e⟩:=h.ok I.hok
    exact ⟨its,r,⟨_,n,e,rfl,rfl,rfl⟩,z⟩
  · refine ⟨its.toList,r,⟨o,n,I.kIn a o hk,hc,hd,by simpa using hs⟩,?_⟩
    have e:=r.length
    simp only [Array.length_toList] at e
    omega
theorem Inv.tuple (I:Inv X pins σ H s) (h:SqT X.K H a xs):∃ its:List Value,Vals xs its∧IsTup s.heap a its.toArray∧xs.length≤sizeLine:=by
  rcases h with h | ⟨o,its,n,hk,hc,hs,hz,r⟩
  · obtain ⟨z,its,r,p⟩:=h.ok I.hok
    exact ⟨its,r,p,z⟩
  · refine ⟨its.toList,r,⟨o,I.kIn a o hk,hc,n,by simpa using hs⟩,?_⟩
    have e:=r.length
    simp only [Array.length_toList] at e
    omega
theorem Inv.list_inj (I:Inv X pins σ H s) (h:SqL X.K H a xs) (h':SqL X.K H a ys):xs=ys:=by
  obtain ⟨its,r,⟨o,n,e,_,_,d⟩,_⟩:=I.list h
  obtain ⟨its',r',⟨o',n',e',_,_,d'⟩,_⟩:=I.list h'
  rw [e] at e'; cases e'
  rw [d] at d'
  injection d' with d1 _
  have:its=its':=by simpa using congrArg Array.toList d1
  subst this
  exact r.inj r'
theorem Inv.tuple_inj (I:Inv X pins σ H s) (h:SqT X.K H a xs) (h':SqT X.K H a ys):xs=ys:=by
  obtain ⟨its,r,⟨o,e,_,n,d⟩,_⟩:=I.tuple h
  obtain ⟨its',r',⟨o',e',_,n',d'⟩,_⟩:=I.tuple h'
  rw [e] at e'; cases e'
  rw [d] at d'
  injection d' with d1 _
  have:its=its':=by simpa using congrArg Array.toList d1
  subst this
  exact r.inj r'
end
abbrev Cx.wish (X:Cx) (E:Value→Shared→Prop):Cx:={ X with xe:=E }
abbrev Cx.nox (X:Cx):Cx:=X.wish fun _ _ => False
theorem Cx.Ok.wish {X:Cx} (ok:X.Ok) (E:Value→Shared→Prop):(X.wish E).Ok :=
  ⟨ok.mod,ok.kind,ok.glob,ok.blt,ok.above,ok.inj,ok.has,ok.cab,ok.hd,ok.frames,ok.stk,ok.exf,ok.bs,ok.bsz,ok.noex,ok.exfs,ok.funs,ok.frf⟩
theorem Cx.Ok.unwish {X:Cx} {E:Value→Shared→Prop} (ok:(X.wish E).Ok):X.Ok :=
  ⟨ok.mod,ok.kind,ok.glob,ok.blt,ok.above,ok.inj,ok.has,ok.cab,ok.hd,ok.frames,ok.stk,ok.exf,ok.bs,ok.bsz,ok.noex,ok.exfs,ok.funs,ok.frf⟩
section
variable {X:Cx} {pins:List (Addr×Obj)} {σ : St} {H:Hp} {s:Shared} {E:Value→Shared→Prop}
theorem Inv.wish (I:Inv X pins σ H s) (E:Value→Shared→Prop):Inv (X.wish E) pins σ H s:=⟨I.ok.wish E,I.os,I.bare,I.base,I.loc,I.cell,I.free,I.freeC,I.pin,I.hok,I.len⟩
theorem Inv.unwish (I:Inv (X.wish E) pins σ H s):Inv X pins σ H s:=⟨I.ok.unwish,I.os,I.bare,I.base,I.loc,I.cell,I.free,I.freeC,I.pin,I.hok,I.len⟩
theorem SP.unwish {D:Ends} {f:Flow} {s':Shared} (h:SP (X.wish E) pins D f s'):SP X pins D f s':=by
  cases f with
  | next => obtain ⟨σ',H',I,q⟩:=h; exact ⟨σ',H',I.unwish,q⟩
  | brk => obtain ⟨σ',H',I,q⟩:=h; exact ⟨σ',H',I.unwish,q⟩
  | cont => obtain ⟨σ',H',I,q⟩:=h; exact ⟨σ',H',I.unwish,q⟩
  | ret u => obtain ⟨v,σ',H',I,r,q⟩:=h; exact ⟨v,σ',H',I.unwish,r,q⟩
theorem PSs.nox {st:List Stmt} {t:TS} (h:PSs X.nox st t):PSs X st t:=fun pins s σ H D I hw =>
  wpAny_mono (h pins s σ H D (I.wish _) hw) (fun _ _ q => q.unwish) fun _ _ z => False.elim z
end
section
variable {X:Cx} {st:Stmt} {rest:List Stmt} {t u:TS} {e:Expr} {te:TE} {pos:Pos}
def tNext:TS:=fun D σ H => D.nx σ H
def tSeq (t u:TS):TS:=fun D σ H => t { D with nx:=u D } σ H
theorem pss_nil:PSs X [] tNext:=fun _ _ σ H _ I h => wpAny_execs_nil ⟨σ,H,I,h⟩
theorem pss_cons (h1:PS X st t) (h2:PSs X rest u):PSs X (st :: rest) (tSeq t u):=by
  intro pins s σ H D I h
  refine wpAny_execs_cons (thn (h1 pins s σ H { D with nx:=u D } I h) fun f s1 q => ?_)
  cases f with
  | next =>
    obtain ⟨σ',H',I',q⟩:=q
    exact h2 pins s1 σ' H' D I' q
  | ret v => exact q
  | brk => exact q
  | cont => exact q
theorem pss_one (h1:PS X st t):PSs X [st] t:=by
  intro pins s σ H D I h
  refine wpAny_execs_cons (thn (h1 pins s σ H D I h) fun f s1 q => ?_)
  cases f with
  | next => exact wpAny_execs_nil q
  | ret v => exact q
  | brk => exact q
  | cont => exact q
theorem Inv.quiet {pins:List (Addr×Obj)} {σ : St} {H:Hp} {s:Shared} (I:Inv X pins σ H s):interactive X.env=false:=by simp [interactive,I.ok.kind]
def tDrop (te:TE):TS:=fun D σ H => te σ H fun _ H1 => D.nx σ H1
theorem ps_expr (he:PE X e te) (hs:swapsWith e none pos.line X.env=pure false:=by rfl):PS X (.Expr e pos) (tDrop te):=by
  intro pins s σ H D I h
  exact wpAny_Expr_any (thn (he pins s σ H _ I h) fun v s1 ⟨x,H1,I1,r1,q1⟩ => ⟨σ,H1,I1,q1⟩) I.quiet hs
def tRet (te:TE):TS:=fun D σ H => te σ H D.rt
theorem ps_ret (he:PE X e te):PS X (.Return (some e) pos) (tRet te):=by
  intro pins s σ H D I h
  exact wpAny_Return_some (thn (he pins s σ H _ I h) fun v s1 ⟨x,H1,I1,r1,q1⟩ => ⟨x,σ,H1,I1,r1,q1⟩)
def tRetN:TS:=fun D _ H => D.rt .non H
theorem ps_retN:PS X (.Return none pos) tRetN:=fun _ _ σ H _ I h => wpAny_Return_none ⟨.non,σ,H,I,rfl,h⟩
def tIfS (c:TT) (t u:TS):TS:=fun D σ H => c σ H fun b H1 => if b=true then t D σ H1 else u D σ H1
theorem ps_if {c:Expr} {a b:List Stmt} {tc:TT} (hc:PT X c tc) (ha:PSs X a t) (hb:PSs X b u):PS X (.If c a b pos) (tIfS tc t u):=by
  intro pins s σ H D I h
  refine wpAny_If (thn (hc pins s σ H _ I h) fun d s1 ⟨H1,I1,q1⟩ => ?_)
  cases d with
  | true => exact ha pins s1 σ H1 D I1 q1
  | false => exact hb pins s1 σ H1 D I1 q1
def tNever:TS:=fun _ _ _ => False
theorem pss_never {sts:List Stmt}:PSs X sts tNever:=fun _ _ _ _ _ _ h => h.elim
end
abbrev TG:=V→St→Hp→(St→Hp→Prop)→Prop
abbrev TGs:=List V→St→Hp→(St→Hp→Prop)→Prop
def PG (X:Cx) (target:Expr) (t:TG):Prop :=
  ∀ (pins:List (Addr×Obj)) (s:Shared) (σ : St) (H:Hp) (v:V) (u:Value) (Q:St→Hp→Prop),Inv X pins σ H s→RelV v u→t v σ H Q →
    wpAny (model X.prog X.w) X.A (assign target X.env u) (fun _ s' => ∃ σ' H',Inv X pins σ' H' s'∧Q σ' H') X.xe s
def PGs (X:Cx) (ts:List Expr) (t:TGs):Prop :=
  ∀ (pins:List (Addr×Obj)) (s:Shared) (σ : St) (H:Hp) (vs:List V) (us:List Value) (Q:St→Hp→Prop),Inv X pins σ H s→Vals vs us→t vs σ H Q →
    wpAny (model X.prog X.w) X.A (assignInOrder ((assignEach ts X.env).map (·.2)) us) (fun _ s' => ∃ σ' H',Inv X pins σ' H' s'∧Q σ' H') X.xe s
abbrev TSet:=V→V→V→Hp→(Hp→Prop)→Prop
def PSet (X:Cx) (t:TSet):Prop :=
  ∀ (pins:List (Addr×Obj)) (s:Shared) (σ : St) (H:Hp) (o i v:V) (ov iv u:Value) (Q:Hp→Prop),Inv X pins σ H s→RelV o ov→RelV i iv→RelV v u→t o i v H Q →
    wpAny (model X.prog X.w) X.A (setItem ov iv u) (fun _ s' => ∃ H',Inv X pins σ H' s'∧Q H') X.xe s
section
variable {X:Cx} {pos:Pos}
def gName (i:Nat):TG:=fun v σ H Q => Q (σ.set i (some v)) H
theorem pg_name {i:Nat} {x:Str} (hN:X.N.Nodup) (hi:X.N[i]? = some x) (hx:Loc X.env.scope x) (hf:X.fn x=true∨X.env.scope.names.lookup x=some .local:=by first | exact .inl rfl | exact .inr rfl | assumption):PG X (.Name x pos) (gName i):=by
  intro pins s σ H v u Q I r h
  exact wpAny_assign_Name (store_ok I hN hi hx r (fun s' I' => ⟨_,H,I',h⟩) hf)
def gNil:TGs:=fun vs σ H Q => vs=[]∧Q σ H
def gCons (t:TG) (u:TGs):TGs:=fun vs σ H Q => ∃ v r,vs=v :: r∧t v σ H fun σ' H' => u r σ' H' Q
theorem pgs_nil:PGs X [] gNil:=by
  intro pins s σ H vs us Q I r h
  obtain ⟨e,h⟩:=h
  subst e
  cases r
  exact assignInOrder_nil ⟨σ,H,I,h⟩
theorem pgs_cons {e:Expr} {es:List Expr} {t:TG} {u:TGs} (h1:PG X e t) (h2:PGs X es u)
    (hs:(assignEach (e :: es) X.env).map (·.2)=assign e X.env :: (assignEach es X.env).map (·.2):=by rfl):PGs X (e :: es) (gCons t u):=by
  intro pins s σ H vs us Q I r h
  obtain ⟨v,vr,e1,h⟩:=h
  subst e1
  cases r with
  | cons r rr =>
    rw [hs]
    refine assignInOrder_cons (thn (h1 pins s σ H _ _ _ I r h) fun _ s1 ⟨σ1,H1,I1,q1⟩ => ?_)
    exact h2 pins s1 σ1 H1 _ _ Q I1 rr q1
def gTup (K:PySem.W.Frag) (n:Nat) (t:TGs):TG:=fun v σ H Q => ∃ a xs,v = .ref a∧SqT K H a xs∧xs.length=n∧t xs σ H Q
theorem pg_tup {es:List Expr} {k:Nat} {t:TGs} {n:Nat} (hc:X.calm=true) (h:PGs X es t)
    (hn:(assignEach es X.env).length=n:=by rfl) (hst:(assignEach es X.env).findIdx? (·.1)=none:=by rfl):PG X (.Tuple es k pos) (gTup X.K n t):=by
  intro pins s σ H v u Q I r hw
  obtain ⟨a,xs,e1,hq,hl,hw⟩:=hw
  subst e1
  cases r
  obtain ⟨its,rv,ht,hz⟩:=I.tuple hq
  refine assign_Tuple_tuple (I.ok.hd hc) ht (by simp [hn,← hl,rv.length]) hst fun h' hx => ?_
  have I1:Inv X pins σ H { s with heap:=h' }:=I.kept (t':=s.toks) fun b o e => hx b o (Nat.ne_of_lt (Heap.lt_size e)) e
  exact h pins _ σ H xs _ Q I1 (by simpa using rv) hw
def gSub (to ti:TE) (t:TSet):TG:=fun v σ H Q => to σ H fun o H1 => ti σ H1 fun i H2 => t o i v H2 fun H3 => Q σ H3
theorem pg_sub {o i:Expr} {to ti:TE} {t:TSet} (ho:PE X o to) (hi:PE X i ti) (hs:PSet X t)
    (ha:∀ v,assign (.Subscript o i pos) X.env v=(do
      let ov ← holding [v] (eval o X.env)
      let iv ← holding [v,ov] (eval i X.env)
      standAt pos
      holding [v,ov,iv] (setItem ov iv v)
      release [v,ov,iv] []):=by intro _; rfl):PG X (.Subscript o i pos) (gSub to ti t):=by
  intro pins s σ H v u Q I r h
  rw [ha]
  refine wpAny_bind (wpAny_holding (thn (ho pins s σ H _ I h) fun ov s1 ⟨x,H1,I1,r1,q1⟩ => ?_))
  refine wpAny_bind (wpAny_holding (thn (hi pins s1 σ H1 _ I1 q1) fun iv s2 ⟨y,H2,I2,r2,q2⟩ => ?_))
  refine wpAny_bind (wpAny_standAt (wpAny_bind (wpAny_holding (thn (hs pins s2 σ H2 x y v ov iv u _ I2 r1 r2 r q2) fun _ s3 ⟨H3,I3,q3⟩ => ?_))))
  exact wpAny_release ⟨σ,H3,I3,q3⟩
def tAsg (te:TE) (g:TG):TS:=fun D σ H => te σ H fun x H1 => g x σ H1 D.nx
theorem ps_asg {tg e:Expr} {te:TE} {g:TG} (he:PE X e te) (hg:PG X tg g) (hs:swapsWithSole [tg] e pos.line X.env=pure false:=by rfl) (hw:swappedStores [tg] e X.env=pure none:=by rfl)
    (h1:(assignEach [tg] X.env).map (·.2)=[assign tg X.env]:=by rfl):PS X (.Assign [tg] e pos) (tAsg te g):=by
  intro pins s σ H D I h
  refine wpAny_Assign_stores (thn (he pins s σ H _ I h) fun v s1 ⟨x,H1,I1,r1,q1⟩ => ?_) hs hw
  rw [h1]
  exact thn (hg pins s1 σ H1 x v _ I1 r1 q1) fun _ s2 q => q
theorem ps_set {i:Nat} {x:Str} {e:Expr} {te:TE} {pos':Pos} (hN:X.N.Nodup) (hi:X.N[i]? = some x) (hx:Loc X.env.scope x) (he:PE X e te) (hs:swapsWith e (some (.Name x pos')) pos.line X.env=pure false:=by rfl) (hf:X.fn x=true∨X.env.scope.names.lookup x=some .local:=by first | exact .inl rfl | exact .inr rfl | assumption) :
    PS X (.Assign [.Name x pos'] e pos) (tAsg te (gName i)):=by
  intro pins s σ H D I h
  refine wpAny_Assign_Name (thn (he pins s σ H _ I h) fun v s1 ⟨y,H1,I1,r1,q1⟩ => ?_) hs
  exact store_ok I1 hN hi hx r1 (fun s2 I2 => ⟨_,H1,I2,q1⟩) hf
end
section
variable {X:Cx} {pos:Pos}
def tWhile (c:TT) (tb:TS):TS:=fun D σ H => ∃ W:Nat→St→Hp→Prop,(∃ m,W m σ H)∧∀ m σ H,W m σ H →
  c σ H fun b H1 => if b=true then ∃ N:St→Hp→Prop,(∀ σ' H',N σ' H'→∃ m',m' < m∧W m' σ' H')∧tb { D with nx:=N,ct:=N,bk:=D.nx } σ H1 else D.nx σ H1
theorem ps_while {c:Expr} {body:List Stmt} {tc:TT} {tb:TS} (hp:PassesOwn (model X.prog X.w) X.A X.env X.xe) (hc:PT X c tc) (hb:PSs X body tb):PS X (.While c body [] pos) (tWhile tc tb):=by
  intro pins s σ H D I h
  obtain ⟨W,⟨m0,w0⟩,turn⟩:=h
  refine wpAny_While (codeAny_whileLoop (fun n s' => ∃ σ' H',Inv X pins σ' H' s'∧W n σ' H') ?_ m0 ⟨σ,H,I,w0⟩)
  rintro n s1 ⟨σ1,H1,I1,w1⟩
  refine wpAny_passesOwn hp (thn (hc pins s1 σ1 H1 _ I1 (turn n σ1 H1 w1)) fun b s2 ⟨H2,I2,q2⟩ => ?_)
  cases b with
  | true =>
    obtain ⟨N,hN,q2⟩:=q2
    rw [if_pos rfl]
    refine wpAny_passesOwn hp (thn (hb pins s2 σ1 H2 _ I2 q2) fun f s3 q3 => ?_)
    cases f with
    | next =>
      obtain ⟨σ3,H3,I3,n3⟩:=q3
      obtain ⟨m',hm,w3⟩:=hN σ3 H3 n3
      exact ⟨m',hm,σ3,H3,I3,w3⟩
    | cont =>
      obtain ⟨σ3,H3,I3,n3⟩:=q3
      obtain ⟨m',hm,w3⟩:=hN σ3 H3 n3
      exact ⟨m',hm,σ3,H3,I3,w3⟩
    | brk => exact q3
    | ret v => exact q3
  | false =>
    rw [if_neg Bool.false_ne_true]
    exact wpAny_execs_nil ⟨σ1,H2,I2,q2⟩
end
structure It where
  go:Nat→Hp→Prop
  yld:Nat→Hp→V→Hp→Prop
  stop:Nat→Hp→Prop
def FpOk (X:Cx) (pins:List (Addr×Obj)) (H:Hp) (b:Addr):Prop :=
  H b=none∧b≠X.env.locals∧b ∉ X.fs∧(b∈X.ex∨X.s₀.heap.objs.size≤b)∧(∀ x c,X.env.cells.lookup x=some c→c≠b)∧∀ p∈X.pn ++ pins,p.1≠b
theorem Inv.fpOk {X:Cx} {pins:List (Addr×Obj)} {σ : St} {H H':Hp} {s:Shared} {b:Addr} (I:Inv X pins σ H s) (hb:s.heap.objs.size≤b) (hn:H' b=none):FpOk X pins H' b:=by
  refine ⟨hn,Nat.ne_of_gt (Nat.lt_of_lt_of_le I.lt hb),I.nofs hb,.inr (Nat.le_trans I.sz hb),fun x c e z => ?_,fun p hp z => ?_⟩
  · obtain ⟨v,q⟩:=I.cell x c e
    exact absurd (Nat.lt_of_lt_of_le q.lt (by rw [z]; exact hb)) (Nat.lt_irrefl _)
  · exact absurd (Nat.lt_of_lt_of_le (Heap.lt_size (I.pin p hp).1) (by rw [z]; exact hb)) (Nat.lt_irrefl _)
structure Turn (P:Program) (w:World) (K:PySem.W.Frag) (tg:Expr) (J:It) (fp:List Addr) (it:Addr) (tn:Nat→Heap→Prop):Prop where
  mem:it∈fp
  obj:∀ i h,tn i h→∀ b∈fp,∃ o,h.get? b=some o∧∀ v,o.data≠.cell v
  keep:∀ i h h',tn i h→(∀ b∈fp,∀ o,h.get? b=some o→h'.get? b=some o)→tn i h'
  item:∀ (X:Cx),X.prog=P→X.w=w→X.K=K→X.calm=true→∀ (i:Nat) (pins:List (Addr×Obj)) (s:Shared) (σ : St) (H:Hp) (E:Value→Shared→Prop),Inv X pins σ H s→(∀ b∈fp,FpOk X pins H b)→tn i s.heap→J.go i H →
    wpAny (model P w) X.A (pyNext (.ref it)) (fun r s1 => ∃ u,r=some u ∧
      wpAny (model P w) X.A (letOwnedTupleGo tg (.ref it) u) (fun _ s2 => ∃ x H',Inv X pins σ H' s2∧RelV x u∧J.yld i H x H'∧tn (i + 1) s2.heap∧∀ b∈fp,H' b=none) E s1) E s
  done:∀ (X:Cx),X.prog=P→X.w=w→X.K=K→X.calm=true→∀ (i:Nat) (pins:List (Addr×Obj)) (s:Shared) (σ : St) (H:Hp) (E:Value→Shared→Prop),Inv X pins σ H s→(∀ b∈fp,FpOk X pins H b)→tn i s.heap→J.stop i H →
    wpAny (model P w) X.A (pyNext (.ref it)) (fun r s1 => r=none∧Inv X pins σ H s1) E s
  self:∀ (A:Around) (i:Nat) (s:Shared) (Q:Value→Shared→Prop) (E:Value→Shared→Prop),tn i s.heap→Q (.ref it) s→wpAny (model P w) A (pyIter (.ref it)) Q E s
abbrev TI:=St→Hp→(It→Hp→Prop)→Prop
def PIE (X:Cx) (pins:List (Addr×Obj)) (σ : St) (tg:Expr) (R:It→Hp→Prop) (itv:Value) (s2:Shared):Prop :=
  ∃ (it:Addr) (fp:List Addr) (tn:Nat→Heap→Prop) (J:It) (H':Hp),itv = .ref it∧Inv X pins σ H' s2∧Turn X.prog X.w X.K tg J fp it tn∧tn 0 s2.heap∧(∀ b∈fp,FpOk X pins H' b)∧R J H'
def PI (X:Cx) (tg iter:Expr) (wi:TI):Prop :=
  ∀ (pins:List (Addr×Obj)) (s:Shared) (σ : St) (H:Hp) (R:It→Hp→Prop),Inv X pins σ H s→wi σ H R →
    wpAny (model X.prog X.w) X.A (eval iter X.env) (fun v s1 => wpAny (model X.prog X.w) X.A (pyIter v) (PIE X pins σ tg R) X.xe s1) X.xe s
theorem go_of {M:Model} {A:Around} {E:Value→Shared→Prop} {s:Shared} {tg:Expr} {it:Addr} {u:Value} {o:Obj} {n:String} {vs:Array Value} {Q:Unit→Shared→Prop} (ho:s.heap.get? it=some o) (hc:o.cls = .type n) (hd:o.data = .fields vs)
    (hn:["enumerate", "zip", "dict_itemiterator", "dict_reverseitemiterator", "odict_iterator", "itertools.zip_longest", "itertools.pairwise"].contains n=false) (hQ:Q () s):wpAny M A (letOwnedTupleGo tg (.ref it) u) Q E s:=by
  unfold letOwnedTupleGo
  cases tg <;> first
    | exact wpAny_pure hQ
    | (cases u <;> first
        | exact wpAny_pure hQ
        | (refine wpAny_bind (wpAny_load ho ?_)
           rw [hc,hd]
           show wpAny M A (if (["enumerate", "zip", "dict_itemiterator", "dict_reverseitemiterator", "odict_iterator", "itertools.zip_longest", "itertools.pairwise"].contains n && vs[0]? == some (rawInt _))=true then _ else _) Q E s
           rw [if_neg (by intro h; rw [hn,Bool.false_and] at h; cases h)]
           exact wpAny_pure hQ))
def Itl (K:PySem.W.Frag) (a:Addr):It :=
  ⟨fun i H => ∃ xs x,SqL K H a xs∧xs[i]? = some x,fun i H x H' => H'=H∧∀ xs,SqL K H a xs→xs[i]? = some x,fun i H => ∃ xs,SqL K H a xs∧xs.length≤i⟩
def Itt (K:PySem.W.Frag) (a:Addr):It :=
  ⟨fun i H => ∃ xs x,SqT K H a xs∧xs[i]? = some x,fun i H x H' => H'=H∧∀ xs,SqT K H a xs→xs[i]? = some x,fun i H => ∃ xs,SqT K H a xs∧xs.length≤i⟩
def Itr (lo:Int) (n:Nat):It:=⟨fun i _ => i < n,fun i H x H' => H'=H∧x = .int (lo + i),fun i _ => n≤i⟩
theorem turn_list {P:Program} {w:World} {K:PySem.W.Frag} {tg:Expr} (a it:Addr):Turn P w K tg (Itl K a) [it] it (fun i h => h.IsListIter it a i) where
  mem:=by simp
  obj:=fun i h st b hb => by
    have e:b=it:=by simpa using hb
    subst e
    obtain ⟨o,e,c,d⟩:=st
    exact ⟨o,e,fun v z => by rw [d] at z; cases z⟩
  keep:=fun i h h' st k => st.at fun o e => k it (by simp) o e
  item:=by
    intro X hP hw hK hc i pins s σ H E I hf st hg
    subst hP hw hK
    obtain ⟨xs,x,hq,hx⟩:=hg
    obtain ⟨its,rv,p,hz⟩:=I.list hq
    obtain ⟨u,hu,ru⟩:=rv.get hx
    obtain ⟨f0,f1,f2,f3,f4,f5⟩:=hf it (by simp)
    refine wpAny_pyNext_list_item st p.isList (x:=u) (by simpa using hu) fun h' st' sb => ?_
    have I1:Inv X pins σ H { s with heap:=h' }:=I.turned (t':=s.toks) (fun b o hb e => (sb.2 b hb).trans e) f0 f1 f3 f4 f5
    obtain ⟨o,e,c,d⟩:=id st'
    exact ⟨u,rfl,go_of (s:={ s with heap:=h' }) e c d (by decide) ⟨x,H,I1,ru,⟨rfl,fun ys hy => by rw [I.list_inj hy hq]; exact hx⟩,st',fun b hb => (hf b hb).1⟩⟩
  done:=by
    intro X hP hw hK hc i pins s σ H E I hf st hg
    subst hP hw hK
    obtain ⟨xs,hq,hx⟩:=hg
    obtain ⟨its,rv,p,hz⟩:=I.list hq
    obtain ⟨f0,f1,f2,f3,f4,f5⟩:=hf it (by simp)
    have hl:=rv.length
    exact wpAny_pyNext_list_end (I.ok.hd hc) st p.isList (by simp; omega) fun h' eb => ⟨rfl,I.turned (t':=s.toks) (fun b o hb e => eb b o hb e) f0 f1 f3 f4 f5⟩
  self:=fun _ _ _ _ _ st h => wpAny_pyIter_listiter st h
theorem turn_tuple {P:Program} {w:World} {K:PySem.W.Frag} {tg:Expr} (a it:Addr):Turn P w K tg (Itt K a) [it] it (fun i h => h.IsTupleIter it a i) where
  mem:=by simp
  obj:=fun i h st b hb => by
    have e:b=it:=by simpa using hb
    subst e
    obtain ⟨o,e,c,d⟩:=st
    exact ⟨o,e,fun v z => by rw [d] at z; cases z⟩
  keep:=fun i h h' st k => st.at fun o e => k it (by simp) o e
  item:=by
    intro X hP hw hK hc i pins s σ H E I hf st hg
    subst hP hw hK
    obtain ⟨xs,x,hq,hx⟩:=hg
    obtain ⟨its,rv,p,hz⟩:=I.tuple hq
    obtain ⟨u,hu,ru⟩:=rv.get hx
    obtain ⟨f0,f1,f2,f3,f4,f5⟩:=hf it (by simp)
    refine wpAny_pyNext_tuple_item st (show s.heap.IsTuple a its.toArray from p) (x:=u) (by simpa using hu) fun h' st' sb => ?_
    have I1:Inv X pins σ H { s with heap:=h' }:=I.turned (t':=s.toks) (fun b o hb e => (sb.2 b hb).trans e) f0 f1 f3 f4 f5
    obtain ⟨o,e,c,d⟩:=id st'
    exact ⟨u,rfl,go_of (s:={ s with heap:=h' }) e c d (by decide) ⟨x,H,I1,ru,⟨rfl,fun ys hy => by rw [I.tuple_inj hy hq]; exact hx⟩,st',fun b hb => (hf b hb).1⟩⟩
  done:=by
    intro X hP hw hK hc i pins s σ H E I hf st hg
    subst hP hw hK
    obtain ⟨xs,hq,hx⟩:=hg
    obtain ⟨its,rv,p,hz⟩:=I.tuple hq
    obtain ⟨f0,f1,f2,f3,f4,f5⟩:=hf it (by simp)
    have hl:=rv.length
    exact wpAny_pyNext_tuple_end (I.ok.hd hc) st (show s.heap.IsTuple a its.toArray from p) (by simp; omega) fun h' eb => ⟨rfl,I.turned (t':=s.toks) (fun b o hb e => eb b o hb e) f0 f1 f3 f4 f5⟩
  self:=fun _ _ _ _ _ st h => wpAny_pyIter_tupleiter st h
theorem turn_range {P:Program} {w:World} {K:PySem.W.Frag} {tg:Expr} (it:Addr) (lo:Int) (n:Nat):Turn P w K tg (Itr lo n) [it] it (fun i h => IsRangeIter h it (lo + (i:Nat) * 1) ((n:Int) - (i:Nat)) 1) where
  mem:=by simp
  obj:=fun i h st b hb => by
    have e:b=it:=by simpa using hb
    subst e
    exact ⟨_,st,fun v z => by
      have z':Data.fields _=Data.cell v:=z
      cases z'⟩
  keep:=fun i h h' st k => k it (by simp) _ st
  item:=by
    intro X hP hw hK hc i pins s σ H E I hf st hg
    subst hP hw hK
    obtain ⟨f0,f1,f2,f3,f4,f5⟩:=hf it (by simp)
    have W:=Walks.range (prog:=X.prog) (w:=X.w) (I.ok.hd hc) it lo 1 n
    refine W.item i s _ _ hg st fun v h' tk hv st' kk => ?_
    obtain ⟨t,rfl⟩:=hv
    have I1:Inv X pins σ H { s with heap:=h',toks:=tk }:=I.turned (fun b o hb e => kk b o (by simpa using hb) e) f0 f1 f3 f4 f5
    refine ⟨_,rfl,go_of (s:={ s with heap:=h',toks:=tk }) (n := "range_iterator") st' rfl rfl (by decide) ⟨.int (lo + i),H,I1,⟨t,?_⟩,⟨rfl,rfl⟩,st',fun b hb => (hf b hb).1⟩⟩
    rw [Int.mul_one]
  done:=by
    intro X hP hw hK hc i pins s σ H E I hf st hg
    subst hP hw hK
    obtain ⟨f0,f1,f2,f3,f4,f5⟩:=hf it (by simp)
    exact wpAny_pyNext_range_end (I.ok.hd hc) st (by have:n≤i:=hg; omega) fun h' eb => ⟨rfl,I.turned (t':=s.toks) (fun b o hb e => eb b o hb e) f0 f1 f3 f4 f5⟩
  self:=fun _ _ _ _ _ st h => wpAny_pyIter_rangeiter st h
end L2
namespace L2
open PySem PySem.Spec PyProof.Rows
section
variable {X:Cx} {tg:Expr}
def iList (K:PySem.W.Frag) (tl:TE):TI:=fun σ H R => tl σ H fun x H1 => ∃ a,x = .ref a∧(∃ xs,SqL K H1 a xs)∧R (Itl K a) H1
def iTup (K:PySem.W.Frag) (tl:TE):TI:=fun σ H R => tl σ H fun x H1 => ∃ a,x = .ref a∧(∃ xs,SqT K H1 a xs)∧R (Itt K a) H1
theorem pi_list {l:Expr} {tl:TE} (hl:PE X l tl):PI X tg l (iList X.K tl):=by
  intro pins s σ H R I h
  refine thn (hl pins s σ H _ I h) fun v s1 ⟨x,H1,I1,r1,q1⟩ => ?_
  obtain ⟨a,e,⟨xs,hq⟩,q⟩:=q1
  subst e
  cases r1
  obtain ⟨its,rv,p,hz⟩:=I1.list hq
  refine wpAny_pyIter_list p.isList ?_
  refine ⟨s1.heap.objs.size,[s1.heap.objs.size],_,_,H1,rfl,I1.kept (t':=s1.toks) fun b o e => Heap.get?_push_of_some _ e,turn_list a _,⟨_,Heap.get?_push_size _ rfl,rfl,rfl⟩,fun b hb => ?_,q⟩
  have e:b=s1.heap.objs.size:=by simpa using hb
  subst e
  exact I1.fpOk (Nat.le_refl _) (I1.hok.fresh (Nat.le_refl _))
theorem pi_tup {l:Expr} {tl:TE} (hl:PE X l tl):PI X tg l (iTup X.K tl):=by
  intro pins s σ H R I h
  refine thn (hl pins s σ H _ I h) fun v s1 ⟨x,H1,I1,r1,q1⟩ => ?_
  obtain ⟨a,e,⟨xs,hq⟩,q⟩:=q1
  subst e
  cases r1
  obtain ⟨its,rv,p,hz⟩:=I1.tuple hq
  refine wpAny_pyIter_tuple (show s1.heap.IsTuple a its.toArray from p) ?_
  refine ⟨s1.heap.objs.size,[s1.heap.objs.size],_,_,H1,rfl,I1.kept (t':=s1.toks) fun b o e => Heap.get?_push_of_some _ e,turn_tuple a _,⟨_,Heap.get?_push_size _ rfl,rfl,rfl⟩,fun b hb => ?_,q⟩
  have e:b=s1.heap.objs.size:=by simpa using hb
  subst e
  exact I1.fpOk (Nat.le_refl _) (I1.hok.fresh (Nat.le_refl _))
theorem range_it {pins:List (Addr×Obj)} {σ : St} {H:Hp} {s:Shared} {R:It→Hp→Prop} {E:Value→Shared→Prop} {lo hi:Int} {t u v:Tok} {tk:Nat} (I:Inv X pins σ H s) (h1 : -(2 ^ 62)≤lo) (h2:lo < 2 ^ 62) (h3 : -(2 ^ 62)≤hi) (h4:hi < 2 ^ 62)
    (q:R (Itr lo (hi - lo).toNat) H):wpAny (model X.prog X.w) X.A (pyIter (.ref s.heap.objs.size)) (PIE X pins σ tg R) E { s with heap:=s.heap.push { cls:=.type "range",data:=.fields #[.int lo t,.int hi u,.int 1 v] },toks:=tk }:=by
  refine wpAny_pyIter_range (IsRange.new ..) (small_one h1 h2 h3 h4) ?_
  have I1:Inv X pins σ H { s with heap:=s.heap.push { cls:=.type "range",data:=.fields #[.int lo t,.int hi u,.int 1 v] },toks:=tk }:=I.kept fun b o e => Heap.get?_push_of_some _ e
  refine ⟨(s.heap.push { cls:=.type "range",data:=.fields #[.int lo t,.int hi u,.int 1 v] }).objs.size,[(s.heap.push { cls:=.type "range",data:=.fields #[.int lo t,.int hi u,.int 1 v] }).objs.size],_,_,H,rfl,
    I1.kept (t':=tk) fun b o e => Heap.get?_push_of_some _ e,turn_range _ lo (hi - lo).toNat,?_,fun b hb => ?_,q⟩
  · have e1:lo + ((0:Nat):Int) * 1=lo:=by simp
    have e2:(((hi - lo).toNat:Nat):Int) - ((0:Nat):Int)=Builtin.Range.rangeSize lo hi 1:=by rw [rangeSize_one]; split <;> omega
    show IsRangeIter _ _ (lo + ((0:Nat):Int) * 1) ((((hi - lo).toNat:Nat):Int) - ((0:Nat):Int)) 1
    rw [e1,e2]
    exact Heap.get?_push_size _ rfl
  · have e:b=(s.heap.push { cls:=.type "range",data:=.fields #[.int lo t,.int hi u,.int 1 v] }).objs.size:=by simpa using hb
    subst e
    exact I1.fpOk (Nat.le_refl _) (I1.hok.fresh (Nat.le_refl _))
def iRng1 (ta:TA):TI:=fun σ H R => ta σ H fun vs H1 => ∃ j:Int,vs=[.int j]∧-(2 ^ 62)≤j∧j < 2 ^ 62∧R (Itr 0 j.toNat) H1
theorem pi_range1 {a:Expr} {ta:TA} {p pos:Pos} (hg:Gl X "range") (hm:X.mg "range" = none) (ha:PA X [a] ta) (hs:starEach [a] X.env=[(false,eval a X.env)]:=by rfl):PI X tg (.Call (.Name "range" p) [a] [] pos) (iRng1 ta):=by
  intro pins s σ H R I h
  refine Call_ (ld_blt I hg hm boot_range (PyProof.Rows.callWith_type1 (thn (ha pos pins s σ H _ I h) fun us s1 ⟨vs,H1,I1,r1,q1⟩ => ?_) hs rfl))
  obtain ⟨j,e,q1,q2,q⟩:=q1
  subst e
  cases r1 with
  | cons r rr =>
    cases rr
    obtain ⟨t,rfl⟩:=r
    exact call_range_1 (range_it I1 (by omega) (by omega) q1 q2 (by simpa using q))
def tFor (wi:TI) (g:TG) (tb:TS):TS:=fun D σ H => wi σ H fun J H1 => ∃ W:Nat→Nat→St→Hp→Prop,(∃ m,W 0 m σ H1)∧∀ i m σ H,W i m σ H →
  (J.stop i H∧D.nx σ H)∨(J.go i H∧∃ N:St→Hp→Prop,(∀ σ' H',N σ' H'→∃ m',m' < m∧W (i + 1) m' σ' H')∧∀ x H',J.yld i H x H'→g x σ H' fun σ2 H2 => tb { D with nx:=N,ct:=N,bk:=D.nx } σ2 H2)
def pinsAt (fp:List Addr) (h:Heap):List (Addr×Obj):=fp.filterMap fun b => (h.get? b).map fun o => (b,o)
theorem mem_pinsAt {fp:List Addr} {h:Heap} {b:Addr} {o:Obj} (hb:b∈fp) (e:h.get? b=some o):(b,o)∈pinsAt fp h:=List.mem_filterMap.mpr ⟨b,hb,by rw [e]; rfl⟩
theorem of_pinsAt {fp:List Addr} {h:Heap} {p:Addr×Obj} (hp:p∈pinsAt fp h):p.1∈fp∧h.get? p.1=some p.2:=by
  obtain ⟨b,hb,e⟩:=List.mem_filterMap.mp hp
  cases q:h.get? b with
  | none => rw [q] at e; cases e
  | some o =>
    rw [q] at e
    have e':(b,o)=p:=Option.some.inj e
    subst e'
    exact ⟨hb,q⟩
theorem Inv.pinned {pins:List (Addr×Obj)} {σ : St} {H:Hp} {s:Shared} {fp:List Addr} (I:Inv X pins σ H s) (hf:∀ b∈fp,FpOk X pins H b) (ho:∀ b∈fp,∃ o,s.heap.get? b=some o∧∀ v,o.data≠.cell v):Inv X (pins ++ pinsAt fp s.heap) σ H s :=
  I.pins_of fun p hp => (List.mem_append.mp hp).elim (fun z => I.pin p (List.mem_append_right _ z)) fun z => by
    obtain ⟨hb,e⟩:=of_pinsAt z
    obtain ⟨f0,f1,f2,_⟩:=hf p.1 hb
    obtain ⟨o,e',d⟩:=ho p.1 hb
    rw [e] at e'; cases e'
    exact ⟨e,f0,f1,f2,d⟩
theorem Inv.unpinned {pins pl:List (Addr×Obj)} {σ : St} {H:Hp} {s:Shared} (I:Inv X (pins ++ pl) σ H s):Inv X pins σ H s:=I.pins_of fun p hp => I.pin p (List.mem_append_right _ (List.mem_append_left _ hp))
theorem ps_for {iter:Expr} {body:List Stmt} {wi:TI} {g:TG} {tb:TS} {pos:Pos} (hp:PassesOwn (model X.prog X.w) X.A X.env X.xe) (hc:X.calm=true) (hi:PI X tg iter wi) (hg:PG X tg g) (hb:PSs X body tb)
    (hs:∀ x,foldedSetIterable iter X.env x=pure x:=by intro _; rfl):PS X (.For tg iter body [] pos) (tFor wi g tb):=by
  intro pins s σ H D I h
  refine wpAny_For (thn (hi pins s σ H _ I h) fun v s1 h1 => thn h1 fun itv s2 h2 => ?_) hs
  obtain ⟨it,fp,tn,J,H2,e,I2,T,st2,f2,W,⟨m0,w0⟩,turn⟩:=h2
  subst e
  have stat:∀ {H':Hp},(∀ b∈fp,H' b=none)→∀ b∈fp,FpOk X pins H' b:=fun hn b hb => ⟨hn b hb,(f2 b hb).2⟩
  refine codeAny_forLoop_any (fun n s' => ∃ i σ' H',Inv X pins σ' H' s'∧tn i s'.heap∧(∀ b∈fp,H' b=none)∧W i n σ' H') ?_ m0 ⟨0,σ,H2,I2,st2,fun b hb => (f2 b hb).1,w0⟩
  rintro n s3 ⟨i,σ3,H3,I3,st3,fr3,w3⟩
  rcases turn i n σ3 H3 w3 with ⟨stop,qn⟩ | ⟨go,N,hN,step⟩
  · refine wpAny_passesOwn hp (thn (T.done X rfl rfl rfl hc i pins s3 σ3 H3 X.xe I3 (stat fr3) st3 stop) fun r s4 ⟨hr,I4⟩ => ?_)
    subst hr
    exact wpAny_execs_nil ⟨σ3,H3,I4,qn⟩
  · refine wpAny_passesOwn hp (thn (T.item X rfl rfl rfl hc i pins s3 σ3 H3 X.xe I3 (stat fr3) st3 go) fun r s4 ⟨u,hr,h4⟩ => ?_)
    subst hr
    refine wpAny_passesOwn hp (thn h4 fun _ s5 ⟨x,H5,I5,r5,y5,st5,fr5⟩ => ?_)
    have I5':=I5.pinned (stat fr5) (T.obj _ _ st5)
    refine wpAny_passesOwn hp (thn (hg _ s5 σ3 H5 x u _ I5' r5 (step x H5 y5)) fun _ s6 ⟨σ6,H6,I6,q6⟩ => ?_)
    refine wpAny_passesOwn hp (thn (hb _ s6 σ6 H6 _ I6 q6) fun f s7 q7 => ?_)
    have again:∀ {σ7:St} {H7:Hp},Inv X (pins ++ pinsAt fp s5.heap) σ7 H7 s7→N σ7 H7→∃ m,m < n∧∃ i σ' H',Inv X pins σ' H' s7∧tn i s7.heap∧(∀ b∈fp,H' b=none)∧W i m σ' H':=fun {σ7 H7} I7 n7 => by
      obtain ⟨m',hm,w7⟩:=hN σ7 H7 n7
      refine ⟨m',hm,i + 1,σ7,H7,I7.unpinned,T.keep _ _ _ st5 fun b hb o e => (I7.pin (b,o) (List.mem_append_right _ (List.mem_append_right _ (mem_pinsAt hb e)))).1,fun b hb => ?_,w7⟩
      obtain ⟨o,e,d⟩:=T.obj _ _ st5 b hb
      exact (I7.pin (b,o) (List.mem_append_right _ (List.mem_append_right _ (mem_pinsAt hb e)))).2.1
    cases f with
    | next => obtain ⟨σ7,H7,I7,n7⟩:=q7; exact again I7 n7
    | cont => obtain ⟨σ7,H7,I7,n7⟩:=q7; exact again I7 n7
    | brk => obtain ⟨σ7,H7,I7,q7⟩:=q7; exact ⟨σ7,H7,I7.unpinned,q7⟩
    | ret v => obtain ⟨x7,σ7,H7,I7,r7,q7⟩:=q7; exact ⟨x7,σ7,H7,I7.unpinned,r7,q7⟩
end
theorem for_list {K:PySem.W.Frag} {a:Addr} {xs:List V} {g:TG} {tb:TS} {D:Ends} {σ : St} {H:Hp} (Pv:Nat→St→Hp→Prop) (h0:Pv 0 σ H) (hl:∀ i σ H,i≤xs.length→Pv i σ H→SqL K H a xs)
    (hs:∀ i x σ H,xs[i]? = some x→Pv i σ H→g x σ H fun σ2 H2 => tb { D with nx:=Pv (i + 1),ct:=Pv (i + 1),bk:=D.nx } σ2 H2) (hd:∀ σ H,Pv xs.length σ H→D.nx σ H) :
    ∃ W:Nat→Nat→St→Hp→Prop,(∃ m,W 0 m σ H)∧∀ i m σ H,W i m σ H →
      ((Itl K a).stop i H∧D.nx σ H)∨((Itl K a).go i H∧∃ N:St→Hp→Prop,(∀ σ' H',N σ' H'→∃ m',m' < m∧W (i + 1) m' σ' H')∧∀ x H',(Itl K a).yld i H x H'→g x σ H' fun σ2 H2 => tb { D with nx:=N,ct:=N,bk:=D.nx } σ2 H2):=by
  refine ⟨fun i m σ H => m=xs.length - i∧i≤xs.length∧Pv i σ H,⟨xs.length,by simp,Nat.zero_le _,h0⟩,?_⟩
  rintro i m σ H ⟨rfl,hi,p⟩
  have q:=hl i σ H hi p
  by_cases hlt:i < xs.length
  · refine .inr ⟨⟨xs,xs[i],q,by simp [hlt]⟩,Pv (i + 1),fun σ' H' p' => ⟨xs.length - (i + 1),by omega,rfl,hlt,p'⟩,fun x H' y => ?_⟩
    obtain ⟨e,y⟩:=y
    subst e
    exact hs i x σ _ (y xs q) p
  · have e:i=xs.length:=by omega
    subst e
    exact .inl ⟨⟨xs,q,Nat.le_refl _⟩,hd σ H p⟩
theorem for_tup {K:PySem.W.Frag} {a:Addr} {xs:List V} {g:TG} {tb:TS} {D:Ends} {σ : St} {H:Hp} (Pv:Nat→St→Hp→Prop) (h0:Pv 0 σ H) (hl:∀ i σ H,i≤xs.length→Pv i σ H→SqT K H a xs)
    (hs:∀ i x σ H,xs[i]? = some x→Pv i σ H→g x σ H fun σ2 H2 => tb { D with nx:=Pv (i + 1),ct:=Pv (i + 1),bk:=D.nx } σ2 H2) (hd:∀ σ H,Pv xs.length σ H→D.nx σ H) :
    ∃ W:Nat→Nat→St→Hp→Prop,(∃ m,W 0 m σ H)∧∀ i m σ H,W i m σ H →
      ((Itt K a).stop i H∧D.nx σ H)∨((Itt K a).go i H∧∃ N:St→Hp→Prop,(∀ σ' H',N σ' H'→∃ m',m' < m∧W (i + 1) m' σ' H')∧∀ x H',(Itt K a).yld i H x H'→g x σ H' fun σ2 H2 => tb { D with nx:=N,ct:=N,bk:=D.nx } σ2 H2):=by
  refine ⟨fun i m σ H => m=xs.length - i∧i≤xs.length∧Pv i σ H,⟨xs.length,by simp,Nat.zero_le _,h0⟩,?_⟩
  rintro i m σ H ⟨rfl,hi,p⟩
  have q:=hl i σ H hi p
  by_cases hlt:i < xs.length
  · refine .inr ⟨⟨xs,xs[i],q,by simp [hlt]⟩,Pv (i + 1),fun σ' H' p' => ⟨xs.length - (i + 1),by omega,rfl,hlt,p'⟩,fun x H' y => ?_⟩
    obtain ⟨e,y⟩:=y
    subst e
    exact hs i x σ _ (y xs q) p
  · have e:i=xs.length:=by omega
    subst e
    exact .inl ⟨⟨xs,q,Nat.le_refl _⟩,hd σ H p⟩
theorem for_range {lo:Int} {n:Nat} {g:TG} {tb:TS} {D:Ends} {σ : St} {H:Hp} (Pv:Nat→St→Hp→Prop) (h0:Pv 0 σ H)
    (hs:∀ i σ H,i < n→Pv i σ H→g (.int (lo + i)) σ H fun σ2 H2 => tb { D with nx:=Pv (i + 1),ct:=Pv (i + 1),bk:=D.nx } σ2 H2) (hd:∀ σ H,Pv n σ H→D.nx σ H) :
    ∃ W:Nat→Nat→St→Hp→Prop,(∃ m,W 0 m σ H)∧∀ i m σ H,W i m σ H →
      ((Itr lo n).stop i H∧D.nx σ H)∨((Itr lo n).go i H∧∃ N:St→Hp→Prop,(∀ σ' H',N σ' H'→∃ m',m' < m∧W (i + 1) m' σ' H')∧∀ x H',(Itr lo n).yld i H x H'→g x σ H' fun σ2 H2 => tb { D with nx:=N,ct:=N,bk:=D.nx } σ2 H2):=by
  refine ⟨fun i m σ H => m=n - i∧i≤n∧Pv i σ H,⟨n,by simp,Nat.zero_le _,h0⟩,?_⟩
  rintro i m σ H ⟨rfl,hi,p⟩
  by_cases hlt:i < n
  · refine .inr ⟨hlt,Pv (i + 1),fun σ' H' p' => ⟨n - (i + 1),by omega,rfl,hlt,p'⟩,fun x H' y => ?_⟩
    obtain ⟨e,y⟩:=y
    subst e y
    exact hs i σ _ hlt p
  · have e:i=n:=by omega
    subst e
    exact .inl ⟨Nat.le_refl _,hd σ H p⟩
end L2
namespace L2
open PySem PySem.Spec PyProof.Rows
abbrev R2:=V→V→Hp→VK→Prop
def OpR (X:Cx) (f:Value→Value→Sem Value) (r:R2):Prop :=
  ∀ (pins:List (Addr×Obj)) (s:Shared) (σ : St) (H:Hp) (x y:V) (v u:Value) (Q:VK),Inv X pins σ H s→RelV x v→RelV y u→r x y H Q →
    wpAny (model X.prog X.w) X.A (f v u) (EP X pins σ Q) X.xe s
def UnR (X:Cx) (f:Value→Sem Value) (r:V→Hp→VK→Prop):Prop :=
  ∀ (pins:List (Addr×Obj)) (s:Shared) (σ : St) (H:Hp) (x:V) (v:Value) (Q:VK),Inv X pins σ H s→RelV x v→r x H Q →
    wpAny (model X.prog X.w) X.A (f v) (EP X pins σ Q) X.xe s
def CallR (X:Cx) (f:Value) (r:List V→Hp→VK→Prop):Prop :=
  ∀ (pins:List (Addr×Obj)) (s:Shared) (σ : St) (H:Hp) (xs:List V) (us:List Value) (Q:VK),Inv X pins σ H s→Vals xs us→r xs H Q →
    wpAny (model X.prog X.w) X.A (call f us) (EP X pins σ Q) X.xe s
def tOp (r:R2) (ta tb:TE):TE:=fun σ H Q => ta σ H fun x H1 => tb σ H1 fun y H2 => r x y H2 Q
def tUn (r:V→Hp→VK→Prop) (ta:TE):TE:=fun σ H Q => ta σ H fun x H1 => r x H1 Q
def rI (C:Int→Int→Prop) (g:Int→Int→V):R2:=fun x y H Q => ∃ i j,x = .int i∧y = .int j∧C i j∧Q (g i j) H
def rI0 (g:Int→Int→V):R2:=fun x y H Q => ∃ i j,x = .int i∧y = .int j∧Q (g i j) H
def rU (g:Int→V):V→Hp→VK→Prop:=fun x H Q => ∃ i,x = .int i∧Q (g i) H
section
variable {X:Cx} {a b c:Expr} {ta tb tc:TE} {pos:Pos}
theorem binT (ha:PE X a ta) (hb:PE X b tb) {pins:List (Addr×Obj)} {s:Shared} {σ : St} {H:Hp} {R:V→V→Hp→Prop} (I:Inv X pins σ H s)
    (h:ta σ H fun x H1 => tb σ H1 fun y H2 => R x y H2) {Q:Value→Shared→Prop} {f:Value→Value→Sem Value}
    (hf:∀ v u s2 x y H2,Inv X pins σ H2 s2→RelV x v→RelV y u→R x y H2→wpAny (model X.prog X.w) X.A (f v u) Q X.xe s2) :
    wpAny (model X.prog X.w) X.A (eval a X.env) (fun v s₁ => wpAny (model X.prog X.w) X.A (eval b X.env) (fun u s₂ => wpAny (model X.prog X.w) X.A (f v u) Q X.xe s₂) X.xe s₁) X.xe s:=by
  refine thn (ha pins s σ H _ I h) fun v s1 ⟨x,H1,I1,r1,q1⟩ => ?_
  refine thn (hb pins s1 σ H1 _ I1 q1) fun u s2 ⟨y,H2,I2,r2,q2⟩ => ?_
  exact hf v u s2 x y H2 I2 r1 r2 q2
theorem pe_op {op:Operator} {r:R2} (ho:OpR X (binaryOp op) r) (ha:PE X a ta) (hb:PE X b tb):PE X (.BinOp a op b pos) (tOp r ta tb):=by
  intro pins s σ H Q I h
  exact wpAny_BinOp (binT ha hb I h fun v u s2 x y H2 I2 rx ry q => ho pins s2 σ H2 x y v u Q I2 rx ry q)
theorem pe_un {op:UnaryOp} {r:V→Hp→VK→Prop} (ho:UnR X (unaryOp op) r) (ha:PE X a ta):PE X (.UnaryOp op a pos) (tUn r ta):=by
  intro pins s σ H Q I h
  exact UnaryOp_ (thn (ha pins s σ H _ I h) fun v s1 ⟨x,H1,I1,r1,q1⟩ => ho pins s1 σ H1 x v Q I1 r1 q1)
theorem opI {f:Value→Value→Sem Value} {C:Int→Int→Prop} {g:Int→Int→Int}
    (rule:∀ (i j:Int) (t u:Tok) (s:Shared) (Q:Value→Shared→Prop) (E:Value→Shared→Prop),C i j→Q (.int (g i j) s.toks) { s with toks:=s.toks + 1 }→wpAny (model X.prog X.w) X.A (f (.int i t) (.int j u)) Q E s) :
    OpR X f (rI C fun i j => .int (g i j)):=by
  intro pins s σ H x y v u Q I rx ry h
  obtain ⟨i,j,rfl,rfl,hc,q⟩:=h
  obtain ⟨t,rfl⟩:=rx
  obtain ⟨t',rfl⟩:=ry
  exact rule i j t t' s _ _ hc ⟨.int (g i j),H,I.tok _,⟨_,rfl⟩,q⟩
theorem opI0 {f:Value→Value→Sem Value} {g:Int→Int→Int}
    (rule:∀ (i j:Int) (t u:Tok) (s:Shared) (Q:Value→Shared→Prop) (E:Value→Shared→Prop),Q (.int (g i j) s.toks) { s with toks:=s.toks + 1 }→wpAny (model X.prog X.w) X.A (f (.int i t) (.int j u)) Q E s) :
    OpR X f (rI0 fun i j => .int (g i j)):=by
  intro pins s σ H x y v u Q I rx ry h
  obtain ⟨i,j,rfl,rfl,q⟩:=h
  obtain ⟨t,rfl⟩:=rx
  obtain ⟨t',rfl⟩:=ry
  exact rule i j t t' s _ _ ⟨.int (g i j),H,I.tok _,⟨_,rfl⟩,q⟩
theorem opB0 {f:Value→Value→Sem Value} {g:Int→Int→Bool}
    (rule:∀ (i j:Int) (t u:Tok) (s:Shared) (Q:Value→Shared→Prop) (E:Value→Shared→Prop),Q (.bool (g i j)) s→wpAny (model X.prog X.w) X.A (f (.int i t) (.int j u)) Q E s) :
    OpR X f (rI0 fun i j => .bl (g i j)):=by
  intro pins s σ H x y v u Q I rx ry h
  obtain ⟨i,j,rfl,rfl,q⟩:=h
  obtain ⟨t,rfl⟩:=rx
  obtain ⟨t',rfl⟩:=ry
  exact rule i j t t' s _ _ ⟨.bl (g i j),H,I,rfl,q⟩
theorem op_add:OpR X (binaryOp .Add) (rI0 fun i j => .int (i + j)):=opI0 fun _ _ _ _ _ _ _ q => add_int q
theorem op_sub:OpR X (binaryOp .Sub) (rI0 fun i j => .int (i - j)):=opI0 fun _ _ _ _ _ _ _ q => sub_int q
theorem op_mod:OpR X (binaryOp .Mod) (rI (fun _ j => 0 < j) fun i j => .int (i % j)):=opI fun i j _ _ _ _ _ hc q => by
  have h1:(0:Int) < j:=hc
  exact mod_int' (by omega) (by rw [Int.fmod_eq_emod_of_nonneg i (by omega)]; exact q)
theorem unI {f:Value→Sem Value} {g:Int→Int}
    (rule:∀ (i:Int) (t:Tok) (s:Shared) (Q:Value→Shared→Prop) (E:Value→Shared→Prop),Q (.int (g i) s.toks) { s with toks:=s.toks + 1 }→wpAny (model X.prog X.w) X.A (f (.int i t)) Q E s) :
    UnR X f (rU fun i => .int (g i)):=by
  intro pins s σ H x v Q I rx h
  obtain ⟨i,rfl,q⟩:=h
  obtain ⟨t,rfl⟩:=rx
  exact rule i t s _ _ ⟨.int (g i),H,I.tok _,⟨_,rfl⟩,q⟩
theorem un_neg:UnR X (unaryOp .USub) (rU fun i => .int (-i)):=unI fun _ _ _ _ _ q => neg_int q
end
def scal:V→V→Bool
  | .non,.non => true | .non,.int _ => true | .int _,.non => true | .non,.bl _ => true | .bl _,.non => true | .non,.str _ => true | .str _,.non => true
  | .int _,.int _ => true | .bl _,.bl _ => true | .str _,.str _ => true | .byt _,.byt _ => true
  | .int _,.str _ => true | .str _,.int _ => true | .bl _,.str _ => true | .str _,.bl _ => true
  | _,_ => false
def rEq:R2:=fun x y H Q => scal x y=true∧Q (.bl (decide (x=y))) H
def rNe:R2:=fun x y H Q => scal x y=true∧Q (.bl (!decide (x=y))) H
theorem dec_int {i j:Int}:decide (V.int i=V.int j)=(i == j):=by
  rw [Bool.eq_iff_iff]
  simp
theorem dec_bl {i j:Bool}:decide (V.bl i=V.bl j)=(i == j):=by
  rw [Bool.eq_iff_iff]
  simp
theorem dec_str {i j:Str}:decide (V.str i=V.str j)=(i == j):=by
  rw [Bool.eq_iff_iff]
  simp
theorem dec_byt {i j:Array UInt8}:decide (V.byt i=V.byt j)=(i.toList == j.toList):=by
  rw [Bool.eq_iff_iff]
  cases i
  cases j
  simp
section
variable {X:Cx} {a b c:Expr} {ta tb tc:TE} {pos:Pos}
theorem fin_bl {pins:List (Addr×Obj)} {σ : St} {H:Hp} {s:Shared} {Q:VK} {k k':Bool} (I:Inv X pins σ H s) (q:Q (.bl k) H) (e:k=k'):EP X pins σ Q (.bool k') s:=by
  subst e
  exact ⟨.bl k,H,I,rfl,q⟩
theorem op_eq:OpR X (compareOp .Eq) rEq:=by
  intro pins s σ H x y v u Q I rx ry h
  obtain ⟨hs,q⟩:=h
  cases x with
  | non =>
    cases rx
    cases y with
    | non => cases ry; exact PySem.EqNone.eq_none_none (fin_bl I q (by simp))
    | bl j => cases ry; exact PySem.EqNone.eq_none_bool (fin_bl I q (by simp))
    | int j => obtain ⟨t',rfl⟩:=ry; exact PySem.EqNone.eq_none_int (fin_bl I q (by simp))
    | str j => obtain ⟨t',rfl⟩:=ry; exact PySem.EqNone.eq_none_str (fin_bl I q (by simp))
    | _ => exact absurd (show false=true from hs) Bool.false_ne_true
  | bl i =>
    cases rx
    cases y with
    | non => cases ry; exact PySem.EqNone.eq_bool_none (fin_bl I q (by simp))
    | bl j => cases ry; exact eq_bool (fin_bl I q dec_bl)
    | str j => obtain ⟨t',rfl⟩:=ry; exact PySem.EqMixed.eq_bool_str (fin_bl I q (by simp))
    | _ => exact absurd (show false=true from hs) Bool.false_ne_true
  | int i =>
    obtain ⟨t,rfl⟩:=rx
    cases y with
    | non => cases ry; exact PySem.EqNone.eq_int_none (fin_bl I q (by simp))
    | int j => obtain ⟨t',rfl⟩:=ry; exact eq_int (fin_bl I q dec_int)
    | str j => obtain ⟨t',rfl⟩:=ry; exact PySem.EqMixed.eq_int_str (fin_bl I q (by simp))
    | _ => exact absurd (show false=true from hs) Bool.false_ne_true
  | str i =>
    obtain ⟨t,rfl⟩:=rx
    cases y with
    | non => cases ry; exact PySem.EqNone.eq_str_none (fin_bl I q (by simp))
    | bl j => cases ry; exact PySem.EqMixed.eq_str_bool (fin_bl I q (by simp))
    | int j => obtain ⟨t',rfl⟩:=ry; exact PySem.EqMixed.eq_str_int (fin_bl I q (by simp))
    | str j => obtain ⟨t',rfl⟩:=ry; exact eq_str (fin_bl I q dec_str)
    | _ => exact absurd (show false=true from hs) Bool.false_ne_true
  | byt i =>
    obtain ⟨t,rfl⟩:=rx
    cases y with
    | byt j => obtain ⟨t',rfl⟩:=ry; exact PySem.W.eq_bytes (fin_bl I q dec_byt)
    | _ => exact absurd (show false=true from hs) Bool.false_ne_true
  | _ => cases y <;> exact absurd (show false=true from hs) Bool.false_ne_true
theorem op_ne:OpR X (compareOp .NotEq) rNe:=by
  intro pins s σ H x y v u Q I rx ry h
  obtain ⟨hs,q⟩:=h
  cases x with
  | non =>
    cases rx
    cases y with
    | non => cases ry; exact PySem.EqNone.ne_none_none (fin_bl I q (by simp))
    | bl j => cases ry; exact PySem.EqNone.ne_none_bool (fin_bl I q (by simp))
    | int j => obtain ⟨t',rfl⟩:=ry; exact PySem.EqNone.ne_none_int (fin_bl I q (by simp))
    | str j => obtain ⟨t',rfl⟩:=ry; exact PySem.EqNone.ne_none_str (fin_bl I q (by simp))
    | _ => exact absurd (show false=true from hs) Bool.false_ne_true
  | bl i =>
    cases rx
    cases y with
    | non => cases ry; exact PySem.EqNone.ne_bool_none (fin_bl I q (by simp))
    | bl j => cases ry; exact ne_bool (fin_bl I q (congrArg not dec_bl))
    | str j => obtain ⟨t',rfl⟩:=ry; exact PySem.EqMixed.ne_bool_str (fin_bl I q (by simp))
    | _ => exact absurd (show false=true from hs) Bool.false_ne_true
  | int i =>
    obtain ⟨t,rfl⟩:=rx
    cases y with
    | non => cases ry; exact PySem.EqNone.ne_int_none (fin_bl I q (by simp))
    | int j => obtain ⟨t',rfl⟩:=ry; exact ne_int (fin_bl I q (congrArg not dec_int))
    | str j => obtain ⟨t',rfl⟩:=ry; exact PySem.EqMixed.ne_int_str (fin_bl I q (by simp))
    | _ => exact absurd (show false=true from hs) Bool.false_ne_true
  | str i =>
    obtain ⟨t,rfl⟩:=rx
    cases y with
    | non => cases ry; exact PySem.EqNone.ne_str_none (fin_bl I q (by simp))
    | bl j => cases ry; exact PySem.EqMixed.ne_str_bool (fin_bl I q (by simp))
    | int j => obtain ⟨t',rfl⟩:=ry; exact PySem.EqMixed.ne_str_int (fin_bl I q (by simp))
    | str j => obtain ⟨t',rfl⟩:=ry; exact ne_str (fin_bl I q (congrArg not dec_str))
    | _ => exact absurd (show false=true from hs) Bool.false_ne_true
  | byt i =>
    obtain ⟨t,rfl⟩:=rx
    cases y with
    | byt j => obtain ⟨t',rfl⟩:=ry; exact PySem.W.ne_bytes (fin_bl I q (congrArg not dec_byt))
    | _ => exact absurd (show false=true from hs) Bool.false_ne_true
  | _ => cases y <;> exact absurd (show false=true from hs) Bool.false_ne_true
theorem op_lt:OpR X (compareOp .Lt) (rI0 fun i j => .bl (decide (i < j))):=opB0 fun _ _ _ _ _ _ _ q => lt_int q
theorem op_le:OpR X (compareOp .LtE) (rI0 fun i j => .bl (decide (i≤j))):=opB0 fun _ _ _ _ _ _ _ q => le_int q
theorem op_gt:OpR X (compareOp .Gt) (rI0 fun i j => .bl (decide (j < i))):=opB0 fun _ _ _ _ _ _ _ q => gt_int q
theorem op_isN:OpR X (compareOp .Is) (fun x y H Q => y = .non∧Q (.bl (decide (x = .non))) H):=by
  intro pins s σ H x y v u Q I rx ry h
  obtain ⟨rfl,q⟩:=h
  cases ry
  refine is_none_gen (fin_bl I q ?_)
  cases x <;> first
    | (cases rx; rfl)
    | (obtain ⟨t,rfl⟩:=rx; rfl)
theorem op_notN:OpR X (compareOp .IsNot) (fun x y H Q => y = .non∧Q (.bl (!decide (x = .non))) H):=by
  intro pins s σ H x y v u Q I rx ry h
  obtain ⟨rfl,q⟩:=h
  cases ry
  refine isnot_none_gen (fin_bl I q ?_)
  cases x <;> first
    | (cases rx; rfl)
    | (obtain ⟨t,rfl⟩:=rx; rfl)
theorem nomark (b:Expr) {op:CmpOp} (h:op≠.In:=by decide) (h2:op≠.NotIn:=by decide):behindInMarks op b=false:=by
  have e1:(op == CmpOp.In)=false:=by cases op <;> first | rfl | exact absurd rfl h
  have e2:(op == CmpOp.NotIn)=false:=by cases op <;> first | rfl | exact absurd rfl h2
  cases b <;> simp [behindInMarks,e1,e2]
theorem pe_cmpR {op:CmpOp} {r:R2} (ho:OpR X (compareOp op) r) (ha:PE X a ta) (hb:PE X b tb) (hm:behindInMarks op b=false):PE X (.Compare a [op] [b] pos) (tOp r ta tb):=by
  intro pins s σ H Q I h
  exact wpAny_Compare1 (binT ha hb I h fun v u s2 x y H2 I2 rx ry q => ho pins s2 σ H2 x y v u Q I2 rx ry q) hm
def tTest (t:TE):TT:=fun σ H Q => t σ H fun x H' => ∃ k,x = .bl k∧Q k H'
theorem pt_cmpR {op:CmpOp} {r:R2} (ho:OpR X (compareOp op) r) (ha:PE X a ta) (hb:PE X b tb) (hm:behindInMarks op b=false):PT X (.Compare a [op] [b] pos) (tTest (tOp r ta tb)):=by
  intro pins s σ H Q I h
  refine wpAny_isTrue_Compare1 (thn (ha pins s σ H _ I h) fun v s1 ⟨x,H1,I1,r1,q1⟩ => thn (hb pins s1 σ H1 _ I1 q1) fun u s2 ⟨y,H2,I2,r2,q2⟩ =>
    thn (ho pins s2 σ H2 x y v u _ I2 r1 r2 q2) fun c s3 ⟨z,H3,I3,r3,k,e,q3⟩ => ?_) hm
  subst e
  cases r3
  exact wpAny_truthy_bool ⟨H3,I3,q3⟩
def tChain (r r':R2) (ta tb tc:TE):TE:=fun σ H Q => ta σ H fun x H1 => tb σ H1 fun y H2 => r x y H2 fun z H3 => ∃ k,z = .bl k ∧
  (if k=true then tc σ H3 fun w' H4 => r' y w' H4 Q else Q (.bl false) H3)
theorem pt_chain {op op':CmpOp} {r r':R2} (ho:OpR X (compareOp op) r) (ho':OpR X (compareOp op') r') (ha:PE X a ta) (hb:PE X b tb) (hc:PE X c tc)
    (hm:lastMarks [op,op'] [b,c] = false:=by with_unfolding_all rfl):PT X (.Compare a [op,op'] [b,c] pos) (tTest (tChain r r' ta tb tc)):=by
  intro pins s σ H Q I h
  refine isTrue_chain (thn (ha pins s σ H _ I h) fun v s1 ⟨x,H1,I1,r1,q1⟩ => test_link (thn (hb pins s1 σ H1 _ I1 q1) fun u s2 ⟨y,H2,I2,r2,q2⟩ =>
    thn (ho pins s2 σ H2 x y v u _ I2 r1 r2 q2) fun d s3 ⟨z,H3,I3,r3,k,e,q3⟩ => ?_)) hm
  subst e
  cases r3
  refine wpAny_truthy_bool ?_
  cases k with
  | false =>
    obtain ⟨k',e',q'⟩:=q3
    cases e'
    exact ite_ff ⟨H3,I3,q'⟩
  | true =>
    refine ite_tt (test_last (thn (hc pins s3 σ H3 _ I3 q3) fun w' s4 ⟨z',H4,I4,r4,q4⟩ => thn (ho' pins s4 σ H4 y z' u w' _ I4 r2 r4 q4) fun d' s5 ⟨z2,H5,I5,r5,k2,e2,q5⟩ => ?_))
    subst e2
    cases r5
    exact wpAny_truthy_bool ⟨H5,I5,q5⟩
theorem line63:(sizeLine:Nat) < 2 ^ 63:=by rw [sizeLine_eq]; decide
theorem vals1 {x:V} {us:List Value} (r:Vals [x] us):∃ u,us=[u]∧RelV x u:=by
  cases r with
  | cons r1 r2 => cases r2; exact ⟨_,rfl,r1⟩
theorem call_int1:CallR X (.type "int") (fun xs H Q => (∃ i,xs=[.int i]∧Q (.int i) H)∨∃ k,xs=[.bl k]∧Q (.int (if k then 1 else 0)) H):=by
  intro pins s σ H xs us Q I r h
  rcases h with ⟨i,rfl,q⟩ | ⟨k,rfl,q⟩
  · obtain ⟨u,rfl,t,rfl⟩:=vals1 r
    exact call_int_int ⟨.int i,H,I,⟨_,rfl⟩,q⟩
  · obtain ⟨u,rfl,r1⟩:=vals1 r
    cases r1
    exact call_int_bool ⟨.int (if k then 1 else 0),H,I.tok _,⟨_,rfl⟩,q⟩
end
end L2
namespace L2
open PySem PySem.Spec PyProof.Rows
structure ObjM (h:Heap) (x dx C:Addr) (mA:Str→Option Value):Prop where
  obj:h.get? x=some (PySem.W.instObj C dx)
  ns:h.Ns1 dx mA
  ne:dx≠x
theorem lookIn_ns {h:Heap} {dx:Addr} {mA:Str→Option Value} (n:h.Ns1 dx mA):∃ od,h.get? dx=some od∧∀ name,PySem.W.lookIn name od=some (mA name):=by
  obtain ⟨o,es,ep,ho,hd,hk,_,hm⟩:=n
  refine ⟨o,ho,fun name => ?_⟩
  have e:=hm name
  unfold nsFind findBy at e
  rw [← Array.find?_toList] at e
  unfold PySem.W.lookIn
  rw [hd]
  dsimp only
  split
  · rename_i y q
    rw [q] at e
    exact congrArg some e
  · rename_i q
    rw [q] at e
    have a:es.toList.any (·.refKey)=false:=by
      rw [List.any_eq_false]
      intro y hy
      obtain ⟨z,t,hkey⟩:=hk y (Array.mem_toList_iff.mp hy)
      simp [DictEntry.refKey,hkey]
    have a':¬ es.toList.any (·.refKey)=true:=by rw [a]; exact Bool.false_ne_true
    rw [if_neg a']
    exact congrArg some e
theorem ObjM.look {h:Heap} {x dx C:Addr} {mA:Str→Option Value} (I:ObjM h x dx C mA):∃ od,PySem.W.InstAt h x (PySem.W.instObj C dx) C (some od)∧∀ name,PySem.W.lookIn name od=some (mA name) :=
  let ⟨od,ho,hl⟩:=lookIn_ns I.ns
  ⟨od,⟨I.obj,rfl,rfl,ho⟩,hl⟩
section
variable {prog:Program} {w:World} {A:Around} {E:Value→Shared→Prop} {s:Shared} {K:PySem.W.Frag} {x dx C f:Addr} {mA:Str→Option Value} {name:Str} {v:Value}
theorem get_map {expr:Bool} {Q:Value→Shared→Prop} (X:K.In s.heap) (I:ObjM s.heap x dx C mA) (hg:PySem.W.plainGet K C name=true) (hh:PySem.W.hasDictIn K C=true)
    (ha:PySem.W.findIn K (.ref C) name=some none) (hv:mA name=some v) (hv':PySem.W.handedIn v=true) (h:Q v { s with toks:=s.toks + 1 }) :
    wpAny (model prog w) A (getAttr (.ref x) name expr) Q E s:=by
  obtain ⟨od,J,hl⟩:=I.look
  exact PySem.W.get_value X J (PySem.W.plainGet_of hg).1 (PySem.W.findObj_own hh ha rfl (by rw [hl,hv])) hv' h
theorem set_map {ns:List Str} {Q:Unit→Shared→Prop} (X:K.In s.heap) (I:ObjM s.heap x dx C mA)
    (hs:PySem.W.findIn K (.ref C) "__setattr__" = some (some (.builtin "object.__setattr__"))) (hp:PySem.W.plainOver K C=true) (ht:PySem.W.takerIn K C name=some none) (hh:PySem.W.hasDictIn K C=true)
    (hw:PySem.Within mA ns) (hsz:ns.length≤sizeLine)
    (h:∀ h',ObjM h' x dx C (fun y => if y=name then some v else mA y)→Heap.SameBut dx s.heap h'→Q () { s with heap:=h',toks:=s.toks + 2 }) :
    wpAny (model prog w) A (setAttr (.ref x) name v) Q E s:=by
  obtain ⟨od,J,hl⟩:=I.look
  refine PySem.W.set_plain X J hs (PySem.W.osa_open (s:={ s with toks:=s.toks + 1 }) (r:=none) X J hp ht fun b => ?_)
  obtain ⟨cd,hc,hd'⟩:=PySem.W.any_some hh
  have hx:s.heap.get? x=some ⟨.ref C,some dx,.plain,#[]⟩:=I.obj
  refine wpAny_bind (wpAny_pure (wpAny_bind (wpAny_bind (wpAny_loadPart hx (wpAny_bind (PySem.W.Looks.here (s:={ s with toks:=s.toks + 1 }) (PySem.W.looks_clsIn X hc) ?_))))))
  rw [hd']
  refine wpAny_pure (a:=some dx) (wpAny_bind (wpAny_pure (wpAny_bind ?_)))
  refine wpAny_nsSet1 (s:={ s with toks:=s.toks + 1 }) I.ns fun h' hn2 hs2 => ?_
  obtain ⟨oD,esD,epD,hoD,hdD,hcD⟩:=hn2.count (PySem.Within.cons name v hw)
  refine wpAny_bind (wpAny_lookBehind hoD (by rw [hdD]; exact pastItsLine_dict (Nat.le_trans hcD (by rw [List.length_cons]; omega))) ?_)
  exact wpAny_pure (h _ ⟨(hs2.2 _ (Ne.symm I.ne)).trans I.obj,hn2,I.ne⟩ hs2)
theorem make_map {R:Result→Shared→Prop} {vs:List Value} {kw:List (Str×Value)} (X:K.In s.heap) (hm:PySem.W.makesIn K C=true)
    (hi:PySem.W.findIn K (.ref C) "__init__" = some (some (.ref f))) (hf:PySem.W.typeIn K (.ref f)=some (.type "function"))
    (h:codeAny (model prog w) (A.under (.builtin "type.__call__" ⟨.ref C :: vs,kw⟩)) (.call (.ref f) ⟨.ref (s.heap.objs.size + 1) :: vs,kw⟩) (PySem.W.InitBack (s.heap.objs.size + 1) R)
      { s with heap:=(s.heap.push PySem.W.emptyDict).push (PySem.W.instObj C s.heap.objs.size) }) :
    codeAny (model prog w) A (.call (.ref C) ⟨vs,kw⟩) R s:=by
  obtain ⟨hh,g,d,t,os⟩:=s
  exact PySem.W.make_core (PySem.W.makes_of X hm) (PySem.W.looks_findIn X hi) (fun self => PySem.W.bind_fn X self hf) (.inl rfl) h
end
def putF (f:Str) (v:V):List (Str×V)→List (Str×V)
  | [] => [(f,v)]
  | (g,x) :: r => if g=f then (g,v) :: r else (g,x) :: putF f v r
theorem lookup_putF (f g:Str) (v:V):∀ fs:List (Str×V),(putF f v fs).lookup g=if g=f then some v else fs.lookup g
  | [] => by
    show List.lookup g [(f,v)] = _
    by_cases h:g=f
    · have hb:(g == f)=true:=beq_iff_eq.mpr h
      simp only [List.lookup,hb,if_pos h]
    · have hb:(g == f)=false:=beq_eq_false_iff_ne.mpr h
      simp only [List.lookup,hb,if_neg h]
  | (k,x) :: r => by
    have ih:=lookup_putF f g v r
    rw [show putF f v ((k,x) :: r)=(if k=f then (k,v) :: r else (k,x) :: putF f v r) from rfl]
    by_cases hk:k=f
    · rw [if_pos hk]
      by_cases h:g=k
      · have hb:(g == k)=true:=beq_iff_eq.mpr h
        simp only [List.lookup,hb,if_pos (h.trans hk)]
      · have hb:(g == k)=false:=beq_eq_false_iff_ne.mpr h
        simp only [List.lookup,hb,if_neg (fun e:g=f => h (e.trans hk.symm))]
    · rw [if_neg hk]
      by_cases h:g=k
      · have hb:(g == k)=true:=beq_iff_eq.mpr h
        simp only [List.lookup,hb,if_neg (fun e:g=f => hk (h.symm.trans e))]
      · have hb:(g == k)=false:=beq_eq_false_iff_ne.mpr h
        simp only [List.lookup,hb]
        exact ih
theorem keys_putF (f:Str) (v:V):∀ fs:List (Str×V),f∈(putF f v fs).map (·.1)∧∀ g,g∈fs.map (·.1)→g∈(putF f v fs).map (·.1)
  | [] => ⟨by simp [putF],fun g h => by simp at h⟩
  | (k,x) :: r => by
    obtain ⟨i1,i2⟩:=keys_putF f v r
    rw [show putF f v ((k,x) :: r)=(if k=f then (k,v) :: r else (k,x) :: putF f v r) from rfl]
    by_cases hk:k=f
    · rw [if_pos hk]
      subst hk
      exact ⟨by simp,fun g h => by simpa using h⟩
    · rw [if_neg hk]
      refine ⟨?_,fun g h => ?_⟩
      · rw [List.map_cons]
        exact List.mem_cons_of_mem _ i1
      · rw [List.map_cons] at h ⊢
        rcases List.mem_cons.mp h with e | e
        · exact List.mem_cons.mpr (.inl e)
        · exact List.mem_cons_of_mem _ (i2 g e)
theorem length_putF (f:Str) (v:V):∀ fs:List (Str×V),(putF f v fs).length≤fs.length + 1
  | [] => by simp [putF]
  | (k,x) :: r => by
    have ih:=length_putF f v r
    rw [show putF f v ((k,x) :: r)=(if k=f then (k,v) :: r else (k,x) :: putF f v r) from rfl]
    by_cases hk:k=f
    · rw [if_pos hk,List.length_cons,List.length_cons]; omega
    · rw [if_neg hk,List.length_cons,List.length_cons]; omega
theorem RelO.some_of {v:V} {o:Option Value} (r:RelO (some v) o):∃ u,o=some u∧RelV v u:=by
  cases o with
  | none => exact (show False from r).elim
  | some u => exact ⟨u,rfl,r⟩
theorem handed_of {v:V} {u:Value} (r:RelV v u):PySem.W.handedIn u=true:=by
  cases v with
  | non => cases (show u=Value.none from r); rfl
  | bl b => cases (show u=Value.bool b from r); rfl
  | int i => obtain ⟨t,e⟩:=(show ∃ t,u=Value.int i t from r); cases e; rfl
  | str x => obtain ⟨t,e⟩:=(show ∃ t,u=Value.str x t from r); cases e; rfl
  | byt b => obtain ⟨t,e⟩:=(show ∃ t,u=Value.bytes b t from r); cases e; rfl
  | flt b => obtain ⟨t,e⟩:=(show ∃ t,u=Value.float b t from r); cases e; rfl
  | ref a => cases (show u=Value.ref a from r); rfl
  | ty n => cases (show u=Value.type n from r); rfl
section
variable {P:Program} {w:World} {H H':Hp} {h h':Heap} {a C dx:Addr} {fs fs':List (Str×V)}
theorem ins_get (hok:HOk P w H h) (e:H a=some (.ins C dx fs)):∃ mA,ObjM h a dx C mA∧(∀ f,RelO (fs.lookup f) (mA f))∧PySem.Within mA (fs.map (·.1))∧fs.length≤1000∧H dx=some (.own a):=by
  obtain ⟨d,z,ne,ob,mA,n,r,q⟩:=(show ObjOk P w H h a (.ins C dx fs) from hok a _ e)
  exact ⟨mA,⟨ob,n,ne⟩,r,q,z,d⟩
end
structure Cls (K:PySem.W.Frag) (C:Addr):Prop where
  pg:PySem.W.plainGet K C Str.empty=true
  hd:PySem.W.hasDictIn K C=true
  po:PySem.W.plainOver K C=true
  sa:PySem.W.findIn K (.ref C) "__setattr__" = some (some (.builtin "object.__setattr__"))
theorem Cls.get {K:PySem.W.Frag} {C:Addr} (c:Cls K C) (f:Str):PySem.W.plainGet K C f=true:=c.pg
def NoAttr (K:PySem.W.Frag) (C:Addr) (f:Str):Prop:=PySem.W.findIn K (.ref C) f=some none
theorem NoAttr.taker {K:PySem.W.Frag} {C:Addr} {f:Str} (n:NoAttr K C f):PySem.W.takerIn K C f=some none:=by
  unfold PySem.W.takerIn
  rw [show PySem.W.findIn K (.ref C) f=some none from n]
  rfl
section
variable {X:Cx} {pins:List (Addr×Obj)} {σ : St} {H:Hp} {s:Shared} {a C dx:Addr} {fs:List (Str×V)} {f:Str} {v:V} {A:Around} {E:Value→Shared→Prop}
theorem getattr_ok {b:Bool} {Q:Value→Shared→Prop} (I:Inv X pins σ H s) (e:H a=some (.ins C dx fs)) (c:Cls X.K C) (n:NoAttr X.K C f) (l:fs.lookup f=some v)
    (h:∀ u s',Inv X pins σ H s'→RelV v u→Q u s'):wpAny (model X.prog X.w) A (getAttr (.ref a) f b) Q E s:=by
  obtain ⟨mA,O,r,_,_,_⟩:=ins_get I.hok e
  obtain ⟨u,hu,ru⟩:=RelO.some_of (v:=v) (o:=mA f) (by rw [← l]; exact r f)
  exact get_map I.kIn O (c.get f) c.hd n hu (handed_of ru) (h u _ (I.tok _) ru)
theorem setattr_ok {y:V} {u:Value} {Q:Unit→Shared→Prop} (I:Inv X pins σ H s) (e:H a=some (.ins C dx fs)) (c:Cls X.K C) (n:NoAttr X.K C f) (hl:fs.length < 1000) (ry:RelV y u)
    (h:∀ s',Inv X pins σ (upd H a (.ins C dx (putF f y fs))) s'→Q () s'):wpAny (model X.prog X.w) A (setAttr (.ref a) f u) Q E s:=by
  obtain ⟨mA,O,r,wi,_,ho⟩:=ins_get I.hok e
  have hz:(fs.map (·.1)).length≤sizeLine:=by rw [List.length_map,sizeLine_eq]; omega
  refine set_map I.kIn O c.sa c.po n.taker c.hd wi hz fun h' O' sb => h _ ?_
  have hd:∃ o,h'.get? dx=some o:=let ⟨o,_,_,e',_⟩:=O'.ns; ⟨o,e'⟩
  refine I.write (x:=a) (e:=dx) (by rw [e]; exact True.intro) (.inr ho) (fun b q hb z => (sb.2 b hb).trans z) hd ?_
  refine ⟨by rw [upd_ne O.ne]; exact ho,?_,O.ne,O'.obj,_,O'.ns,fun g => ?_,fun g hg => ?_⟩
  · have:=length_putF f y fs; omega
  · show RelO ((putF f y fs).lookup g) (if g=f then some u else mA g)
    rw [lookup_putF]
    by_cases q:g=f
    · rw [if_pos q,if_pos q]; exact ry
    · rw [if_neg q,if_neg q]; exact r g
  · by_cases q:g=f
    · rw [q]; exact (keys_putF f y fs).1
    · refine (keys_putF f y fs).2 g (wi g fun z => hg ?_)
      show (if g=f then some u else mA g)=none
      rw [if_neg q]; exact z
theorem Inv.made (I:Inv X pins σ H s):Inv X pins σ (upd (upd H s.heap.objs.size (.own (s.heap.objs.size + 1))) (s.heap.objs.size + 1) (.ins C s.heap.objs.size []))
    { s with heap:=(s.heap.push PySem.W.emptyDict).push (PySem.W.instObj C s.heap.objs.size) }:=by
  have e1:(s.heap.push PySem.W.emptyDict).get? s.heap.objs.size=some PySem.W.emptyDict:=Heap.get?_push_size s.heap rfl
  have e2:((s.heap.push PySem.W.emptyDict).push (PySem.W.instObj C s.heap.objs.size)).get? (s.heap.objs.size + 1)=some (PySem.W.instObj C s.heap.objs.size):=by
    have:=Heap.get?_push_size (s.heap.push PySem.W.emptyDict) (o:=PySem.W.instObj C s.heap.objs.size) rfl
    rwa [Heap.size_push] at this
  have e3:(s.heap.push PySem.W.emptyDict).Ns s.heap.objs.size (fun _ => none):=⟨PySem.W.emptyDict,#[],_,e1,rfl,(fun e he => absurd he (by simp)),fun _ => rfl⟩
  have I1:=I.laid (a:=s.heap.objs.size) (o:=.own (s.heap.objs.size + 1)) (h':=s.heap.push PySem.W.emptyDict) (t':=s.toks) (fun b u q => Heap.get?_push_of_some _ q) (Nat.le_refl _) ⟨_,e1⟩
  refine I1.laid (a:=s.heap.objs.size + 1) (o:=.ins C s.heap.objs.size []) (t':=s.toks) (fun b u q => Heap.get?_push_of_some _ q) (Nat.le_of_eq (Heap.size_push _ _)) ?_
  have ne:s.heap.objs.size≠s.heap.objs.size + 1:=Nat.ne_of_lt (Nat.lt_succ_self _)
  refine ⟨by rw [upd_ne ne,upd_same],Nat.zero_le _,ne,e2,fun _ => none,(Heap.Ns1.of_empty e3).at fun o q => Heap.get?_push_of_some _ q,fun _ => True.intro,fun y hy => absurd rfl hy⟩
theorem attr_of {prog:Program} {w:World} {env:Env} {e:Expr} {f:Str} {pos:Pos} {s:Shared} {Q:Value→Shared→Prop} (hb:attributeBase e f env (eval e env)=eval e env)
    (h:wpAny (model prog w) A (eval e env) (fun o s₁ => wpAny (model prog w) A (getAttr o f true) Q E s₁) E s):wpAny (model prog w) A (eval (.Attribute e f pos) env) Q E s :=
  Attribute_any_ h (by rw [arm_eval_Attribute,hb])
end
def tFld (K:PySem.W.Frag) (ta:TE) (f:Str):TE:=fun σ H Q => ta σ H fun x H1 => ∃ a C dx fs v,x = .ref a∧H1 a=some (.ins C dx fs)∧Cls K C∧NoAttr K C f∧fs.lookup f=some v∧Q v H1
def sFld (K:PySem.W.Frag) (ta tv:TE) (f:Str):TS:=fun D σ H => tv σ H fun y H1 => ta σ H1 fun x H2 => ∃ a C dx fs,x = .ref a∧H2 a=some (.ins C dx fs)∧Cls K C∧NoAttr K C f∧fs.length < 1000 ∧
  D.nx σ (upd H2 a (.ins C dx (putF f y fs)))
section
variable {X:Cx} {o e value:Expr} {f:Str} {pos pos' tpos:Pos} {ta tv:TE}
theorem pe_fld (he:PE X e ta) (hb:attributeBase e f X.env (eval e X.env)=eval e X.env):PE X (.Attribute e f pos) (tFld X.K ta f):=by
  intro pins s σ H Q I h
  refine attr_of hb (thn (he pins s σ H _ I h) fun u s1 ⟨x,H1,I1,rx,a,C,dx,fs,v,ex,ea,c,n,l,q⟩ => ?_)
  subst ex
  obtain rfl:u=Value.ref a:=rx
  exact getattr_ok I1 ea c n l fun u' s2 I2 ru => ⟨v,H1,I2,ru,q⟩
theorem ps_fld (ha:PE X o ta) (hv:PE X value tv) (hs:swapsWith value (some (.Attribute o f pos')) pos.line X.env=pure false):PS X (.Assign [.Attribute o f pos'] value pos) (sFld X.K ta tv f):=by
  intro pins s σ H D I h
  refine plainObj_wpAny_Assign_Attribute (thn (hv pins s σ H _ I h) fun u s1 ⟨y,H1,I1,ry,q⟩ => thn (ha pins s1 σ H1 _ I1 q) fun ov s2 ⟨x,H2,I2,rx,a,C,dx,fs,ex,ea,c,n,l,q2⟩ => ?_) hs
  subst ex
  obtain rfl:ov=Value.ref a:=rx
  exact setattr_ok I2 ea c n l ry fun s3 I3 => ⟨σ,_,I3,q2⟩
end
section
variable {X:Cx} {pins:List (Addr×Obj)} {σ : St} {H:Hp} {s:Shared} {A:Around} {E:Value→Shared→Prop} {Q:Value→Shared→Prop} {c:Value} {b:Bool}
inductive TyOf (K:PySem.W.Frag) (H:Hp):V→Value→Prop where
  | non:TyOf K H .non (.type "NoneType")
  | bl (x:Bool):TyOf K H (.bl x) (.type "bool")
  | int (i:Int):TyOf K H (.int i) (.type "int")
  | str (x:Str):TyOf K H (.str x) (.type "str")
  | flt (x:UInt64):TyOf K H (.flt x) (.type "float")
  | lst {a:Addr} {xs:List V} (e:H a=some (.lst xs)):TyOf K H (.ref a) (.type "list")
  | frz {a:Addr} {o:Obj} {xs:List V} (e:H a=some (.frz o (.lst xs))):TyOf K H (.ref a) (.type "list")
  | tup {a:Addr} {xs:List V} (e:H a=some (.tup xs)):TyOf K H (.ref a) (.type "tuple")
  | dK {a:Addr} {kvs:List (Key×V)} (e:H a=some (.dK kvs)):TyOf K H (.ref a) (.type "dict")
  | dT {a:Addr} {kvs:List (List Key×V)} (e:H a=some (.dT kvs)):TyOf K H (.ref a) (.type "dict")
  | ins {a C dx:Addr} {fs:List (Str×V)} (e:H a=some (.ins C dx fs)) (cl:Cls K C) (ha:PySem.W.findIn K (.ref C) "__class__" = some (some (.builtin "object.__class__")))
      (hn:PySem.W.specialIn K (.builtin "object.__class__") "__get__" = some (some (.builtin "getset_descriptor.__get__"))) (htk:PySem.W.takesIn K (.builtin "object.__class__")=some true)
      (hm:PySem.W.mroIn K C (.type "object")=some true):TyOf K H (.ref a) (.ref C)
theorem isinst_ok {x:V} {u t:Value} (I:Inv X pins σ H s) (rx:RelV x u) (ty:TyOf X.K H x t) (e:PySem.W.kitOne X.K t c=some b) (h:∀ tk,Q (.bool b) { s with toks:=tk }) :
    wpAny (model X.prog X.w) A (call (.builtin "isinstance") [u,c]) Q E s:=by
  cases ty with
  | non => cases (show u=Value.none from rx); exact PySem.W.kia_one PySem.W.kitx_none I.kIn True.intro e (fun z => nomatch z) h
  | bl y => cases (show u=Value.bool y from rx); exact PySem.W.kia_one PySem.W.kitx_bool I.kIn True.intro e (fun z => nomatch z) h
  | int i => obtain ⟨t,q⟩:=(show ∃ t,u=Value.int i t from rx); cases q; exact PySem.W.kia_one PySem.W.kitx_int I.kIn True.intro e (fun z => nomatch z) h
  | str y => obtain ⟨t,q⟩:=(show ∃ t,u=Value.str y t from rx); cases q; exact PySem.W.kia_one PySem.W.kitx_str I.kIn True.intro e (fun z => nomatch z) h
  | flt y => obtain ⟨t,q⟩:=(show ∃ t,u=Value.float y t from rx); cases q; exact PySem.W.kia_one PySem.W.kitx_float I.kIn True.intro e (fun z => nomatch z) h
  | @lst a xs ea =>
    cases (show u=Value.ref a from rx)
    obtain ⟨_,_,n,_,h1⟩:=(show ObjOk X.prog X.w H s.heap a (.lst xs) from I.hok a _ ea)
    exact PySem.W.kia_one PySem.W.kitx_list I.kIn ⟨_,h1,rfl⟩ e (fun z => nomatch z) h
  | @frz a ob xs ea =>
    cases (show u=Value.ref a from rx)
    obtain ⟨_,_,_,n,_,h1⟩:=(show ObjOk X.prog X.w H s.heap a (.frz ob (.lst xs)) from I.hok a _ ea)
    exact PySem.W.kia_one PySem.W.kitx_list I.kIn ⟨_,h1,rfl⟩ e (fun z => nomatch z) h
  | @tup a xs ea =>
    cases (show u=Value.ref a from rx)
    obtain ⟨_,_,_,p⟩:=(show ObjOk X.prog X.w H s.heap a (.tup xs) from I.hok a _ ea)
    obtain ⟨o,h1,h2,_⟩:=p
    exact PySem.W.kia_one PySem.W.kitx_tuple I.kIn ⟨o,h1,h2⟩ e (fun z => nomatch z) h
  | @dK a kvs ea =>
    cases (show u=Value.ref a from rx)
    obtain ⟨_,_,vs,_,p⟩:=(show ObjOk X.prog X.w H s.heap a (.dK kvs) from I.hok a _ ea)
    obtain ⟨o,es,ep,h1,h2,_⟩:=p
    exact PySem.W.kia_one PySem.W.kitx_dict I.kIn ⟨o,h1,h2.1⟩ e (fun z => nomatch z) h
  | @dT a kvs ea =>
    cases (show u=Value.ref a from rx)
    obtain ⟨_,_,xs,_,o,es,ep,h1,h2,_⟩:=(show ObjOk X.prog X.w H s.heap a (.dT kvs) from I.hok a _ ea)
    exact PySem.W.kia_one PySem.W.kitx_dict I.kIn ⟨o,h1,h2.1⟩ e (fun z => nomatch z) h
  | @ins a C dx fs ea cl ha hn htk hm =>
    cases (show u=Value.ref a from rx)
    obtain ⟨mA,O,_⟩:=ins_get I.hok ea
    obtain ⟨od,J,_⟩:=O.look
    exact PySem.W.kia_one (PySem.W.kitx_own (cl.get _) cl.hd ha hn htk hm) I.kIn J e (fun z => nomatch z) h
end
end L2
namespace L2
open PySem PySem.Spec PyProof.Rows
structure Room (k:Nat) (A:Around):Prop where
  hd:A.handled=none
  dp:A.depth + 3 * k + 5 < recursionLimit
  un:A.units + 16 * k + 200 < cLine
theorem Room.mono {j k:Nat} {A:Around} (r:Room k A) (h:j≤k):Room j A:=⟨r.hd,by have:=r.dp; omega,by have:=r.un; omega⟩
theorem Room.deeper {k:Nat} {A:Around} (r:Room (k + 1) A) (env:Env):Room k (A.deeper env) :=
  ⟨r.hd,by have:=r.dp; show A.depth + 1 + 3 * k + 5 < _; omega,by have:=r.un; show A.units + 3 + 16 * k + 200 < _; omega⟩
theorem make_depth {A:Around} {C:Addr} {us:List Value} {kw:List (Str×Value)}:(A.under (.builtin "type.__call__" ⟨.ref C :: us,kw⟩)).depth=A.depth + 1:=by
  first | rfl | simp [Around.under,Code.weight,Code.isCreation,Code.isGuard,Code.isCaller,Code.frames,Code.isFrame,guardIds]
theorem make_units {A:Around} {C:Addr} {us:List Value} {kw:List (Str×Value)}:(A.under (.builtin "type.__call__" ⟨.ref C :: us,kw⟩)).units=A.units + 1:=by
  first | rfl | simp [Around.under,Code.cUnits,Code.frames,Code.isFrame]
theorem Room.make {k:Nat} {A:Around} (r:Room (k + 1) A) (C:Addr) (us:List Value) (kw:List (Str×Value)):Room k (A.under (.builtin "type.__call__" ⟨.ref C :: us,kw⟩)) :=
  ⟨r.hd,by have:=r.dp; rw [make_depth]; omega,by have:=r.un; rw [make_units]; omega⟩
theorem Room.depth {k:Nat} {A:Around} (r:Room k A):A.depth < recursionLimit:=by have:=r.dp; omega
theorem Room.units {k:Nat} {A:Around} (r:Room k A):A.units + 64 < cLine:=by have:=r.un; omega
def tNil:TA:=fun _ H Q => Q [] H
def tCons (ta:TE) (tr:TA):TA:=fun σ H Q => ta σ H fun x H1 => tr σ H1 fun xs H2 => Q (x :: xs) H2
section
variable {X:Cx} {e:Expr} {es:List Expr} {te:TE} {t:TA} {pos:Pos}
theorem pa_nil:PA X [] tNil:=fun _ _ _ _ H Q I h => Calls.spliced_nil ⟨[],H,I,.nil,h⟩
theorem pa_cons (ha:PE X e te) (hr:PA X es t) (hs:starEach (e :: es) X.env=(false,eval e X.env) :: starEach es X.env:=by rfl):PA X (e :: es) (tCons te t):=by
  intro pos pins s σ H Q I h
  rw [hs]
  show wpAny _ _ (spliced ((false,eval e X.env) :: backTo pos (starEach es X.env))) _ _ s
  refine Calls.spliced_cons (thn (ha pins s σ H _ I h) fun u s1 ⟨x,H1,I1,r1,q1⟩ => ?_)
  exact thn (hr pos pins s1 σ H1 _ I1 q1) fun us s2 ⟨xs,H2,I2,r2,q2⟩ => ⟨x :: xs,H2,I2,.cons r1 r2,q2⟩
def tTup (t:TA):TE:=fun σ H Q => t σ H fun xs H1 => xs.length≤sizeLine∧∀ p,H1 p=none→Q (.ref p) (upd H1 p (.tup xs))
def tLst (t:TA):TE:=fun σ H Q => t σ H fun xs H1 => xs.length≤sizeLine∧∀ p,H1 p=none→Q (.ref p) (upd H1 p (.lst xs))
theorem pe_tup {x1} (h:PA X es t):PE X (.Tuple es x1 pos) (tTup t):=by
  intro pins s σ H Q I hq
  refine wpAny_Tuple_spliced (thn (h pos pins s σ H _ I hq) fun us s1 ⟨xs,H1,I1,r,z,q⟩ => ⟨by rw [← r.length]; exact z,?_⟩)
  have hf:H1 s1.heap.objs.size=none:=I1.hok.fresh (Nat.le_refl _)
  refine ⟨.ref s1.heap.objs.size,upd H1 s1.heap.objs.size (.tup xs),I1.laid (t':=s1.toks) (fun b u e => Heap.get?_push_of_some _ e) (Nat.le_refl _) ?_,rfl,q _ hf⟩
  exact ⟨z,us,r,⟨_,Heap.get?_push_size _ rfl,rfl,_,rfl⟩⟩
theorem pe_lst (h:PA X es t):PE X (.List es pos) (tLst t):=by
  intro pins s σ H Q I hq
  refine wpAny_List_spliced (thn (h pos pins s σ H _ I hq) fun us s1 ⟨xs,H1,I1,r,z,q⟩ => ⟨by rw [← r.length]; exact z,?_⟩)
  have hf:H1 s1.heap.objs.size=none:=I1.hok.fresh (Nat.le_refl _)
  refine ⟨.ref s1.heap.objs.size,upd H1 s1.heap.objs.size (.lst xs),I1.laid (t':=s1.toks) (fun b u e => Heap.get?_push_of_some _ e) (Nat.le_refl _) ?_,rfl,q _ hf⟩
  exact ⟨z,us,0,r,Heap.get?_push_size _ rfl⟩
end
abbrev Sp:=List V→Hp→VK→XK→Prop
abbrev CXT:=List Env→Hp→Shared→XK→Value→Shared→Prop
structure Env0 (P:Program) (w:World) (K:PySem.W.Frag) (mg:Str→Option Value) (base:Heap) (A:Around) (outer:List Env) (s:Shared) (H:Hp):Prop where
  frames:A.frames=some outer
  mod:Mod K mg base
  bs:∀ b o,base.get? b=some o→s.heap.get? b=some o∧H b=none
  bsz:base.objs.size≤s.heap.objs.size
  funs:s.heap.FunFrames base outer
  frf:∀ b∈frs outer,H b=none
  hok:HOk P w H s.heap
  bare:AllBare s.gens
def CE (outer:List Env) (P:Program) (w:World) (H:Hp) (s:Shared) (Q:VK) (u:Value) (s':Shared):Prop :=
  ∃ v H',s'.os=s.os∧AllBare s'.gens∧Un (frs outer) [] H H' s.heap s'.heap∧HOk P w H' s'.heap∧RelV v u∧Q v H'
def CR (CX:CXT) (outer:List Env) (P:Program) (w:World) (H:Hp) (s:Shared) (Q:VK) (E:XK) (r:Result) (s':Shared):Prop :=
  match r with
  | .ok (.ret u) => CE outer P w H s Q u s'
  | .ok _ => False
  | .error e => CX outer H s E e s'
structure FnOk (P:Program) (w:World) (K:PySem.W.Frag) (mg:Str→Option Value) (base:Heap) (CX:CXT) (k:Nat) (f:Addr) (fd:FuncData) (ps:List Str) (sp:Sp):Prop where
  len:∀ vs H Q E,sp vs H Q E→vs.length=ps.length
  run:∀ (A:Around) (outer:List Env) (s:Shared) (H:Hp) (args:Args) (us:List Value) (vs:List V) (Q:VK) (E:XK),Room k A→Env0 P w K mg base A outer s H→BindsTo s fd args (ps.zip us)→Vals vs us→sp vs H Q E →
    codeAny (model P w) A (.call (.ref f) args) (CR CX outer P w H s Q E) s
theorem Env0.make {P:Program} {w:World} {K:PySem.W.Frag} {mg:Str→Option Value} {base:Heap} {A:Around} {outer:List Env} {s:Shared} {H:Hp} (e:Env0 P w K mg base A outer s H) (C:Addr) (us:List Value) (kw:List (Str×Value)) :
    Env0 P w K mg base (A.under (.builtin "type.__call__" ⟨.ref C :: us,kw⟩)) outer s H:=⟨by first | exact e.frames | (simpa [Around.under,Code.envs,Code.isFrame,pushEnvs] using e.frames),e.mod,e.bs,e.bsz,e.funs,e.frf,e.hok,e.bare⟩
section
variable {X:Cx} {pins:List (Addr×Obj)} {σ : St} {H:Hp} {s s':Shared}
theorem Inv.env0 (I:Inv X pins σ H s):Env0 X.prog X.w X.K X.mg X.base X.A X.stack s H :=
  ⟨I.ok.frames,I.ok.mod,I.bs,Nat.le_trans I.ok.bsz I.sz,I.stack,I.stkFree,I.hok,I.bare⟩
theorem Inv.after {Q:VK} {u:Value} (I:Inv X pins σ H s) (h:CE X.stack X.prog X.w H s Q u s'):EP X pins σ Q u s':=by
  obtain ⟨v,H',os,bare,un,hok,r,q⟩:=h
  obtain ⟨hh,g,d,t,os'⟩:=s'
  obtain rfl:os'=s.os:=os
  exact ⟨v,H',I.call (h':=hh) (g':=g) (d':=d) (t':=t) (ch:=[]) un hok bare (fun b z => absurd z (by simp)),r,q⟩
end
def tCall (sp:Sp) (dvs:List V) (E:XK) (t:TA):TE:=fun σ H Q => t σ H fun vs H1 => sp (vs ++ dvs) H1 Q E
def tMake (C:Addr) (sp:Sp) (dvs:List V) (E:XK) (t:TA):TE:=fun σ H Q => t σ H fun vs H1 => ∀ x dx,H1 x=none→H1 dx=none→dx≠x →
  sp (.ref x :: (vs ++ dvs)) (upd (upd H1 dx (.own x)) x (.ins C dx [])) (fun v H2 => v = .non∧Q (.ref x) H2) E
def Binds (K:PySem.W.Frag) (fd:FuncData) (ps:List Str) (ds:List Value):Prop :=
  ∀ (s:Shared) (us:List Value),K.In s.heap→(us ++ ds).length=ps.length→BindsTo s fd ⟨us,[]⟩ (ps.zip (us ++ ds))
theorem Binds.all {K:PySem.W.Frag} {fd:FuncData} {ps:List Str} (h:∀ us:List Value,us.length=ps.length→bindArgs fd ⟨us,[]⟩ = pure (ps.zip us)):Binds K fd ps []:=fun s us _ hl => by
  rw [List.append_nil] at hl ⊢
  exact .of_eq (h us hl)
def Passes (CX:CXT) (X:Cx) (E:XK):Prop := ∀ (pins:List (Addr×Obj)) (σ : St) (H:Hp) (s:Shared) (e:Value) (s':Shared),Inv X pins σ H s→CX X.stack H s E e s'→X.xe e s'
section
variable {X:Cx} {CX:CXT} {k:Nat} {f C:Addr} {fd:FuncData} {ps:List Str} {sp:Sp} {dvs:List V} {ds:List Value} {E:XK} {x m:Str} {p pos apos:Pos} {e o:Expr} {es:List Expr} {ta:TE} {t:TA}
theorem run_fn {pins:List (Addr×Obj)} {σ : St} {H:Hp} {s:Shared} {Q:VK} {us:List Value} {vs:List V} (F:FnOk X.prog X.w X.K X.mg X.base CX k f fd ps sp) (hr:Room k X.A) (hb:Binds X.K fd ps ds) (hd:Vals dvs ds) (hx:Passes CX X E)
    (I:Inv X pins σ H s) (r:Vals vs us) (h:sp (vs ++ dvs) H Q E):wpAny (model X.prog X.w) X.A (call (.ref f) us) (EP X pins σ Q) X.xe s:=by
  have r2:Vals (vs ++ dvs) (us ++ ds):=r.append hd
  have hl:(us ++ ds).length=ps.length:=by rw [← r2.length]; exact F.len _ _ _ _ h
  refine wpAny_call (codeAny_mono (F.run X.A X.stack s H ⟨us,[]⟩ (us ++ ds) (vs ++ dvs) Q E hr I.env0 (hb s us I.kIn hl) r2 h) fun r s' hq => ?_)
  cases r with
  | error e => exact hx pins σ H s e s' I hq
  | ok fl =>
    cases fl with
    | ret u => exact I.after hq
    | next => exact False.elim hq
    | brk => exact False.elim hq
    | cont => exact False.elim hq
theorem pe_call (F:FnOk X.prog X.w X.K X.mg X.base CX k f fd ps sp) (hr:Room k X.A) (hg:Gl X x) (hm:X.mg x=some (.ref f)) (hk:PySem.W.keepIn X.K (.ref f)=true) (hb:Binds X.K fd ps ds) (hd:Vals dvs ds) (hx:Passes CX X E)
    (ha:PA X (e :: es) t) (hdb:(x == ("__debug__" : Str))=false:=by decide) (he:starEach (e :: es) X.env=(false,eval e X.env) :: starEach es X.env:=by rfl) (hpl:(backTo pos (starEach es X.env)).any (·.1)=false:=by rfl) :
    PE X (.Call (.Name x p) (e :: es) [] pos) (tCall sp dvs E t):=by
  intro pins s σ H Q I h
  refine wpAny_Call_Name_kw (ld_glob I hg hm ?_ hdb)
  refine PySem.W.callWith_K (h₀:=X.base) I.ok.mod.kin hk (thn (ha pos pins s σ H _ I h) fun us s1 ⟨vs,H1,I1,r,q⟩ => ⟨I1.kIn,?_⟩) he hpl
  exact run_fn F hr hb hd hx I1 r q
structure Mk (K:PySem.W.Frag) (C f:Addr):Prop where
  makes:PySem.W.makesIn K C=true
  init:PySem.W.findIn K (.ref C) "__init__" = some (some (.ref f))
  fn:PySem.W.isFn K (.ref f)=true
  kp:PySem.W.keepIn K (.ref C)=true
theorem run_make {pins:List (Addr×Obj)} {σ : St} {H:Hp} {s:Shared} {Q:VK} {us:List Value} {vs:List V} (M:Mk X.K C f) (F:FnOk X.prog X.w X.K X.mg X.base CX k f fd ps sp) (hr:Room (k + 1) X.A) (hb:Binds X.K fd ps ds) (hd:Vals dvs ds)
    (hx:Passes CX X E) (I:Inv X pins σ H s) (r:Vals vs us)
    (h:∀ x dx,H x=none→H dx=none→dx≠x→sp (.ref x :: (vs ++ dvs)) (upd (upd H dx (.own x)) x (.ins C dx [])) (fun v H2 => v = .non∧Q (.ref x) H2) E) :
    wpAny (model X.prog X.w) X.A (call (.ref C) us) (EP X pins σ Q) X.xe s:=by
  have hq:=h (s.heap.objs.size + 1) s.heap.objs.size (I.hok.fresh (Nat.le_succ _)) (I.hok.fresh (Nat.le_refl _)) (Nat.ne_of_lt (Nat.lt_succ_self _))
  have I2:=Inv.made (C:=C) I
  have r2:Vals (V.ref (s.heap.objs.size + 1) :: (vs ++ dvs)) (Value.ref (s.heap.objs.size + 1) :: (us ++ ds)):=.cons rfl (r.append hd)
  have hl:(Value.ref (s.heap.objs.size + 1) :: us ++ ds).length=ps.length:=by
    have e:=r2.length
    rw [F.len _ _ _ _ hq] at e
    exact e.symm
  refine wpAny_call (make_map (f:=f) I.kIn M.makes M.init (beq_iff_eq.mp M.fn) (codeAny_mono (F.run _ X.stack _ _ ⟨Value.ref (s.heap.objs.size + 1) :: us,[]⟩ (Value.ref (s.heap.objs.size + 1) :: (us ++ ds)) _ _ E (hr.make C us [])
    (I2.env0.make C us []) (hb _ (Value.ref (s.heap.objs.size + 1) :: us) I2.kIn hl) r2 hq) fun r s' hq' => ?_))
  cases r with
  | error e => exact hx pins σ _ _ e s' I2 hq'
  | ok fl =>
    cases fl with
    | ret u =>
      obtain ⟨v,H',I3,rv,ev,q3⟩:=I2.after hq'
      subst ev
      exact ⟨rv,⟨V.ref (s.heap.objs.size + 1),H',I3,rfl,q3⟩⟩
    | next => exact False.elim hq'
    | brk => exact False.elim hq'
    | cont => exact False.elim hq'
theorem pe_make (M:Mk X.K C f) (F:FnOk X.prog X.w X.K X.mg X.base CX k f fd ps sp) (hr:Room (k + 1) X.A) (hg:Gl X x) (hm:X.mg x=some (.ref C)) (hb:Binds X.K fd ps ds) (hd:Vals dvs ds) (hx:Passes CX X E)
    (ha:PA X (e :: es) t) (hdb:(x == ("__debug__" : Str))=false:=by decide) (he:starEach (e :: es) X.env=(false,eval e X.env) :: starEach es X.env:=by rfl) (hpl:(backTo pos (starEach es X.env)).any (·.1)=false:=by rfl) :
    PE X (.Call (.Name x p) (e :: es) [] pos) (tMake C sp dvs E t):=by
  intro pins s σ H Q I h
  refine wpAny_Call_Name_kw (ld_glob I hg hm ?_ hdb)
  refine PySem.W.callWith_K (h₀:=X.base) I.ok.mod.kin M.kp (thn (ha pos pins s σ H _ I h) fun us s1 ⟨vs,H1,I1,r,q⟩ => ⟨I1.kIn,?_⟩) he hpl
  exact run_make M F hr hb hd hx I1 r q
end
section
variable {X:Cx} {CX:CXT} {k:Nat} {f C:Addr} {fd:FuncData} {ps ks:List Str} {sp:Sp} {E:XK} {x m:Str} {p pos apos kpos:Pos} {e o:Expr} {es:List Expr} {kws:List Keyword} {te ta:TE} {t tk:TA} {nm:Option Str}
variable {g:List Value→List Value→List Value} {gV:List V→List V→List V}
end
structure FnScope (N P:List Str) (sc:Scope):Prop where
  kind:sc.kind = .function
  co:sc.isCoroutine=false
  gen:sc.isGenerator=false
  nd:N.Nodup
  pre:N.take P.length=P
  par:∀ x∈P,sc.names.lookup x=some .local∨sc.names.lookup x=some .cell
  nofree:∀ y∈sc.names,y.2≠.free
theorem bindL_out {kindOf:Str→Option NameKind} {x:Str}:∀ {binds:List (Str×Value)} {m:Str→Option Value},(∀ v,(x,v) ∉ binds)→bindL kindOf binds m x=m x
  | [],_,_ => rfl
  | (n,v) :: r,m,h => by
    unfold bindL
    rw [bindL_out fun w hw => h w (List.mem_cons_of_mem _ hw)]
    split
    · have:x≠n:=by rintro rfl; exact h v List.mem_cons_self
      simp [this]
    · rfl
theorem bindC_out {kindOf:Str→Option NameKind} {x:Str}:∀ {binds:List (Str×Value)} {m:Str→Option Value},(∀ v,(x,v) ∉ binds)→bindC kindOf binds m x=m x
  | [],_,_ => rfl
  | (n,v) :: r,m,h => by
    unfold bindC
    rw [bindC_out fun w hw => h w (List.mem_cons_of_mem _ hw)]
    split
    · rfl
    · have:x≠n:=by rintro rfl; exact h v List.mem_cons_self
      simp [this]
theorem bindL_get {kindOf:Str→Option NameKind} {x:Str} {v:Value}:∀ {P:List Str} {vs:List Value} {i:Nat} {m:Str→Option Value},P.Nodup→P[i]? = some x→vs[i]? = some v→kindOf x=some .local →
    bindL kindOf (P.zip vs) m x=some v
  | [],_,_,_,_,h,_,_ => by simp at h
  | _ :: _,[],_,_,_,_,h,_ => by simp at h
  | p :: P,w :: vs,0,m,nd,h1,h2,hk => by
    simp at h1 h2; subst h1; subst h2
    show bindL kindOf ((p,w) :: P.zip vs) m p=_
    unfold bindL
    rw [bindL_out fun v hv => (List.nodup_cons.mp nd).1 (List.of_mem_zip hv).1,if_pos hk]
    simp
  | p :: P,w :: vs,i + 1,m,nd,h1,h2,hk => by
    show bindL kindOf ((p,w) :: P.zip vs) m x=_
    unfold bindL
    exact bindL_get (i:=i) (List.nodup_cons.mp nd).2 (by simpa using h1) (by simpa using h2) hk
theorem bindC_get {kindOf:Str→Option NameKind} {x:Str} {v:Value}:∀ {P:List Str} {vs:List Value} {i:Nat} {m:Str→Option Value},P.Nodup→P[i]? = some x→vs[i]? = some v→kindOf x≠some .local →
    bindC kindOf (P.zip vs) m x=some v
  | [],_,_,_,_,h,_,_ => by simp at h
  | _ :: _,[],_,_,_,_,h,_ => by simp at h
  | p :: P,w :: vs,0,m,nd,h1,h2,hk => by
    simp at h1 h2; subst h1; subst h2
    show bindC kindOf ((p,w) :: P.zip vs) m p=_
    unfold bindC
    rw [bindC_out fun v hv => (List.nodup_cons.mp nd).1 (List.of_mem_zip hv).1,if_neg hk]
    simp
  | p :: P,w :: vs,i + 1,m,nd,h1,h2,hk => by
    show bindC kindOf ((p,w) :: P.zip vs) m x=_
    unfold bindC
    exact bindC_get (i:=i) (List.nodup_cons.mp nd).2 (by simpa using h1) (by simpa using h2) hk
def start (N:List Str) (vs:List V):St:=vs.map some ++ List.replicate (N.length - vs.length) none
def cxOf (CX:CXT) (P:Program) (w:World) (K:PySem.W.Frag) (mg:Str→Option Value) (base:Heap) (N:List Str) (qual:Str) (scope:Scope) (f:Addr) (cd:Value) (A:Around) (outer:List Env) (s:Shared) (H:Hp) (E:XK):Cx where
  prog:=P
  w:=w
  K:=K
  mg:=mg
  base:=base
  A:=A.deeper (envOfC qual scope s.heap.objs.size f cd)
  N:=N
  s₀:=s
  H₀:=H
  env:=envOfC qual scope s.heap.objs.size f cd
  outer:=outer
  stack:=envOfC qual scope s.heap.objs.size f cd :: outer
  ex:=[]
  calm:=true
  fn:=fun _ => true
  pn:=[]
  xe:=fun e s' => wpAny (model P w) (A.deeper (envOfC qual scope s.heap.objs.size f cd)) (leaving (envOfC qual scope s.heap.objs.size f cd) e) (fun _ s'' => CX outer H s E e s'') (fun e' s'' => CX outer H s E e' s'') s'
theorem cell_has {sc:Scope} {n:Nat} {x:Str} (h:sc.names.lookup x=some .cell):∃ c,(cellsFrom n sc.names []).lookup x=some c:=by
  have q:=PySem.W.cellsFrom_some sc.names n [] (.inl h)
  exact Option.isSome_iff_exists.mp q
theorem inv_start {CX:CXT} {P:Program} {w:World} {K:PySem.W.Frag} {mg:Str→Option Value} {base:Heap} {N ps:List Str} {qual:Str} {scope:Scope} {f:Addr} {cd:Value} {A:Around} {outer:List Env} {s s1:Shared} {H:Hp} {E:XK} {us:List Value} {vs:List V}
    (S:FnScope N ps scope) (hd:A.handled=none) (e0:Env0 P w K mg base A outer s H) (hl:vs.length=ps.length) (r:Vals vs us)
    (x:InCallC s s.heap.objs.size (bindL (envOfC qual scope s.heap.objs.size f cd).kindOf (ps.zip us) fun _ => none) (cellsFrom (s.heap.objs.size + 1) scope.names []) (bindC (envOfC qual scope s.heap.objs.size f cd).kindOf (ps.zip us) fun _ => none) s1) :
    Inv (cxOf CX P w K mg base N qual scope f cd A outer s H E) [] (start N vs) H s1:=by
  have hpl:ps.length≤N.length:=by have:=congrArg List.length S.pre; rw [List.length_take] at this; omega
  obtain ⟨h1,tk,rfl,hk⟩:=x.done
  have noA:∀ b:Addr,b ∉ (cxOf CX P w K mg base N qual scope f cd A outer s H E).ex:=fun b z => absurd (show b∈([]:List Addr) from z) (by simp)
  refine ⟨⟨e0.mod,S.kind,rfl,rfl,Nat.le_refl _,fun y z c h1 h2 => ?_,fun y hy => ?_,fun y c _ h => ?_,fun _ => hd,Around.frames_deeper e0.frames,.inr ⟨rfl,rfl⟩,fun b z => absurd z (noA b),e0.bs,e0.bsz,fun b _ _ => noA b,fun b z => absurd z (noA b),e0.funs,e0.frf⟩,
    rfl,e0.bare,Un.kept hk,⟨_,x.toInCall.ns,fun i y v h1 h2 h3 => ?_⟩,fun y c h => ⟨_,x.cell y c h⟩,e0.hok.fresh (Nat.le_refl _),fun y c h => ?_,fun p hp => absurd (show p∈([]:List (Addr×Obj)) from hp) (by simp),e0.hok.kept hk,?_⟩
  · exact name_of_addr x.apart (PySem.mem_of_lookup h1) (PySem.mem_of_lookup h2)
  · have hy:scope.names.lookup y=some .cell∨scope.names.lookup y=some .free:=hy
    rcases hy with hy | hy
    · exact cell_has hy
    · exact absurd rfl (S.nofree _ (PySem.mem_of_lookup hy))
  · exact Nat.le_of_lt (x.above y c (PySem.mem_of_lookup h))
  · have hi:i < vs.length:=by
      unfold start at h2
      by_cases hi:i < vs.length
      · exact hi
      · rw [List.getElem?_append_right (by simpa using hi)] at h2
        rw [List.getElem?_replicate] at h2
        split at h2 <;> cases h2
    have ha:vs[i]? = some v:=by
      unfold start at h2
      rw [List.getElem?_append_left (by simpa using hi),List.getElem?_map] at h2
      cases e:vs[i]? with
      | none => rw [e] at h2; cases h2
      | some a => rw [e] at h2; cases h2; rfl
    obtain ⟨u,hu,rv⟩:=r.get ha
    have hp:ps[i]? = some y:=by
      rw [← S.pre,List.getElem?_take_of_lt (by omega)]; exact h1
    have ndP:ps.Nodup:=by rw [← S.pre]; exact S.nd.sublist (List.take_sublist _ _)
    refine ⟨u,rv,?_⟩
    rcases S.par y (List.mem_of_getElem? hp) with k | k
    · exact .inl ⟨k,bindL_get ndP hp hu k⟩
    · obtain ⟨c,e⟩:=cell_has (n:=s.heap.objs.size + 1) k
      refine .inr ⟨.inl k,c,e,?_⟩
      have q:=x.cell y c e
      rw [bindC_get ndP hp hu (by show scope.names.lookup y≠_; rw [k]; decide)] at q
      exact q
  · exact e0.hok.fresh (Nat.le_of_lt (x.above y c (PySem.mem_of_lookup h)))
  · unfold start
    show _=N.length
    rw [List.length_append,List.length_map,List.length_replicate]
    omega
theorem fn_of {CX:CXT} {P:Program} {w:World} {K:PySem.W.Frag} {mg:Str→Option Value} {base:Heap} {k:Nat} {f:Addr} {name qual:Str} {params:Arguments} {body:List Stmt} {scope:Scope} {dV kV doc pm cdv ct oc:Value} {an od:Option Addr}
    {osl:Array (Option Value)} {N ps:List Str} {sp:Sp} (lk:K.lookup f=some ⟨oc,od,.func (PySem.W.fnOf name qual params body scope dV kV doc pm an cdv ct),osl⟩) (hcd:PySem.W.codeIn K cdv qual=true) (S:FnScope N ps scope)
    (len:∀ vs H Q E,sp vs H Q E→vs.length=ps.length)
    (hbody:∀ (A:Around) (outer:List Env) (s:Shared) (H:Hp) (vs:List V) (Q:VK) (E:XK),Room k (A.deeper (envOfC qual scope s.heap.objs.size f cdv))→sp vs H Q E →
      ∃ t,PSs (cxOf CX P w K mg base N qual scope f cdv A outer s H E) body t∧t { nx:=fun _ H' => Q .non H',rt:=Q } (start N vs) H) :
    FnOk P w K mg base CX (k + 1) f (PySem.W.fnOf name qual params body scope dV kV doc pm an cdv ct) ps sp:=by
  refine ⟨len,fun A outer s H args us vs Q E hr e0 hb r hsp => ?_⟩
  have hl:=len _ _ _ _ hsp
  have KX:K.In s.heap:=e0.mod.kin.keeps fun b o e => (e0.bs b o e).1
  have lim:s.heap.NoLimit:=e0.mod.nolimit.keeps fun b o e => (e0.bs b o e).1
  have hkind:∀ y∈ps.zip us,scope.names.lookup y.1=some .local∨(scope.names.lookup y.1=some .cell∧((cellsFrom (s.heap.objs.size + 1) scope.names []).lookup y.1).isSome=true):=fun ⟨n,v⟩ hy => by
    rcases S.par n (List.of_mem_zip hy).1 with q | q
    · exact .inl q
    · exact .inr ⟨q,PySem.W.cellsFrom_some _ _ _ (.inl q)⟩
  refine codeAny_call_function hr.depth (KX _ _ lk) rfl S.co S.gen rfl (PySem.W.codeRec_of KX hcd) (hb _ _ _ _ ?_)
  refine wpAny_newFunctionEnv_cells S.kind hkind fun env he s1 x => ?_
  subst he
  refine ⟨lim.keeps x.toInCall.keep,codeAny_func ?_⟩
  obtain ⟨t,ht,hq⟩:=hbody A outer s H vs Q E (hr.deeper _) hsp
  have I:Inv (cxOf CX P w K mg base N qual scope f cdv A outer s H E) [] (start N vs) H s1:=inv_start S hr.hd e0 hl r x
  refine wpAny_mono (ht [] s1 (start N vs) H _ I hq) (fun fl s' hs => ?_) fun e s' hs => hs
  have fin:∀ {σ':St} {H':Hp} {v:V} {u:Value},Inv (cxOf CX P w K mg base N qual scope f cdv A outer s H E) [] σ' H' s'→RelV v u→Q v H'→CE outer P w H s Q u s' :=
    fun {σ' H' v u} J rv q => ⟨v,H',J.os,J.bare,J.base,J.hok,rv,q⟩
  cases fl with
  | ret u =>
    obtain ⟨v,σ',H',J,rv,q⟩:=hs
    exact fin J rv q
  | next =>
    obtain ⟨σ',H',J,q⟩:=hs
    exact fin (v:=V.non) (u:=Value.none) J rfl q
  | brk =>
    obtain ⟨_,_,_,q⟩:=hs
    exact False.elim q
  | cont =>
    obtain ⟨_,_,_,q⟩:=hs
    exact False.elim q
end L2
namespace L2
open PySem PySem.Spec PyProof.Rows
section
variable {X:Cx} {x:Str} {p pos:Pos} {e:Expr} {es:List Expr} {t:TA} {id T:String} {r:List V→Hp→VK→Prop}
def tCB (r:List V→Hp→VK→Prop) (t:TA):TE:=fun σ H Q => t σ H fun vs H1 => r vs H1 Q
theorem pe_callB (hc:CallR X (.builtin id) r) (hg:Gl X x) (hm:X.mg x=none) (hv:bootBuiltins x=some (.builtin id)) (ha:PA X (e :: es) t) (hn:x≠"__name__" := by decide) (hdb:(x == ("__debug__" : Str))=false:=by decide)
    (he:starEach (e :: es) X.env=(false,eval e X.env) :: starEach es X.env:=by rfl) (hpl:(backTo pos (starEach es X.env)).any (·.1)=false:=by rfl):PE X (.Call (.Name x p) (e :: es) [] pos) (tCB r t):=by
  intro pins s σ H Q I h
  refine wpAny_Call_Name_kw (ld_blt I hg hm hv ?_ hn hdb)
  exact PyProof.Rows.callWith_builtin1 (thn (ha pos pins s σ H _ I h) fun us s1 ⟨vs,H1,I1,r1,q1⟩ => hc pins s1 σ H1 vs us Q I1 r1 q1) he hpl
theorem pe_callTy (hc:CallR X (.type T) r) (hg:Gl X x) (hm:X.mg x=none) (hv:bootBuiltins x=some (.type T)) (ha:PA X (e :: es) t) (hn:x≠"__name__" := by decide) (hdb:(x == ("__debug__" : Str))=false:=by decide)
    (he:starEach (e :: es) X.env=(false,eval e X.env) :: starEach es X.env:=by rfl) (hpl:(backTo pos (starEach es X.env)).any (·.1)=false:=by rfl):PE X (.Call (.Name x p) (e :: es) [] pos) (tCB r t):=by
  intro pins s σ H Q I h
  refine wpAny_Call_Name_kw (ld_blt I hg hm hv ?_ hn hdb)
  exact PyProof.Rows.callWith_type1 (thn (ha pos pins s σ H _ I h) fun us s1 ⟨vs,H1,I1,r1,q1⟩ => hc pins s1 σ H1 vs us Q I1 r1 q1) he hpl
end
end L2
namespace HT
open PySem PyProof.Rows
section
open PySem.SeqAt
open PySem.AutoSeq1 (wpAny_loadPart')
open PySem.MeetsSeq PySem.MeetsSeq2 PySem.MeetsSeq3
end
section
variable {prog:Program} {w:World} {A:Around} {E:Value→Shared→Prop} {s:Shared}
theorem cat_tup {t b:Addr} {vs ws:List Value} {Q:Value→Shared→Prop} (ht:IsTup s.heap t vs.toArray) (hb:IsTup s.heap b ws.toArray) (hv:vs≠[])
    (h1:ws=[]→Q (.ref t) s) (h2:ws≠[]→Q (.ref s.heap.objs.size) { s with heap:=s.heap.push { cls:=.type "tuple",data:=.seq (vs ++ ws).toArray } })
    (hsz:vs.length + ws.length≤sizeLine):wpAny (model prog w) A (binaryOp .Add (.ref t) (.ref b)) Q E s:=by
  obtain ⟨⟨cls,dd,data,sl⟩,ho,hc,n,hd⟩:=id ht
  obtain ⟨⟨cls2,dd2,data2,sl2⟩,ho2,hc2,n2,hd2⟩:=id hb
  simp only at hc hd hc2 hd2
  subst hc hd hc2 hd2
  have e:vs.toArray ++ ws.toArray=(vs ++ ws).toArray:=by simp
  by_cases hw:ws=[]
  · exact concat_meets ⟨_,ho,rfl⟩ ⟨_,ho2,rfl⟩ noFill_tuple_add seq_tuple_add PySem.F.slot_tuple_add PySem.F.entry_tuple_add (PySem.F.args_tuple_add_2 _ _)
      (tuple_addW1 t b vs.toArray ws.toArray n n2 dd dd2 sl sl2 (by simpa using hv) (by simp [hw])) ⟨ho,ho2,h1 hw⟩
  · refine concat_meets ⟨_,ho,rfl⟩ ⟨_,ho2,rfl⟩ noFill_tuple_add seq_tuple_add PySem.F.slot_tuple_add PySem.F.entry_tuple_add (PySem.F.args_tuple_add_2 _ _)
      (tuple_addW2 t b vs.toArray ws.toArray n n2 dd dd2 sl sl2 (by simpa using hv) (by simpa using hw) (by rw [List.size_toArray,List.size_toArray]; exact hsz)) ⟨ho,ho2,?_⟩
    rw [e]
    exact h2 hw
def sIx (n d:Nat):Option Int→Nat
  | none => d
  | some v => if v < 0 then (v + (n:Int)).toNat else min v.toNat n
theorem sIx_none (n d:Nat):sIx n d none=d:=rfl
theorem sIx_nat (n d k:Nat):sIx n d (some (k:Int))=min k n:=by
  show (if (k:Int) < 0 then ((k:Int) + (n:Int)).toNat else min (k:Int).toNat n)=min k n
  rw [if_neg (by omega),Int.toNat_natCast]
end
end HT
namespace L2
open PySem PySem.Spec PyProof.Rows
abbrev TO:=St→Hp→(Option Int→Hp→Prop)→Prop
def PO (X:Cx) (e:Option Expr) (t:TO):Prop :=
  ∀ (pins:List (Addr×Obj)) (s:Shared) (σ : St) (H:Hp) (Q:Option Int→Hp→Prop),Inv X pins σ H s→t σ H Q →
    wpAny (model X.prog X.w) X.A (evalPart e X.env) (fun u s' => ∃ o H',Inv X pins σ H' s'∧IsPart u o∧Q o H') X.xe s
def tNoPart:TO:=fun _ H Q => Q none H
def tPart (t:TE):TO:=fun σ H Q => t σ H fun x H1 => ∃ i,x = .int i∧Q (some i) H1
theorem intsAre_of {ns:List Int}:∀ {us:List Value},Vals (ns.map V.int) us→IntsAre us ns:=by
  induction ns with
  | nil => intro us r; rw [List.map_nil] at r; cases r; exact .nil
  | cons n ns ih =>
    intro us r
    rw [List.map_cons] at r
    cases r with
    | cons r1 r2 =>
      obtain ⟨t,e⟩:=r1
      subst e
      exact .cons n t (ih r2)
section
variable {X:Cx} {e:Expr} {te:TE} {lo hi:Option Expr} {tl th:TO} {pos p2:Pos}
theorem po_none:PO X none tNoPart:=by
  intro pins s σ H Q I h
  rw [evalPart_none]
  exact wpAny_pure ⟨none,H,I,.none,h⟩
theorem po_some (h:PE X e te):PO X (some e) (tPart te):=by
  intro pins s σ H Q I hw
  rw [evalPart_some]
  refine thn (h pins s σ H _ I hw) fun u s1 ⟨x,H1,I1,r1,q1⟩ => ?_
  obtain ⟨i,rfl,q⟩:=q1
  obtain ⟨t,rfl⟩:=r1
  exact ⟨some i,H1,I1,.int i t,q⟩
def SlR (X:Cx) (r:V→Option Int→Option Int→Hp→VK→Prop):Prop :=
  ∀ (pins:List (Addr×Obj)) (s:Shared) (σ : St) (H:Hp) (x:V) (v vl vu:Value) (lo hi:Option Int) (sl:Addr) (Q:VK),Inv X pins σ H s→RelV x v→s.heap.IsSliceOf sl vl vu .none→IsPart vl lo→IsPart vu hi→r x lo hi H Q →
    ∃ T id,typeLookup (.type T) "__getitem__" = pure (some (.builtin id))∧s.TypeIs v T∧wpAny (model X.prog X.w) X.A (getItem v (.ref sl)) (EP X pins σ Q) X.xe s
def tSl (r:V→Option Int→Option Int→Hp→VK→Prop) (te:TE) (tl th:TO):TE:=fun σ H Q => te σ H fun x H1 => tl σ H1 fun l H2 => th σ H2 fun u H3 => r x l u H3 Q
theorem pe_slice {r:V→Option Int→Option Int→Hp→VK→Prop} (hr:SlR X r) (he:PE X e te) (hl:PO X lo tl) (hu:PO X hi th):PE X (.Subscript e (.Slice lo hi none p2) pos) (tSl r te tl th):=by
  intro pins s σ H Q I h
  refine Subscript_ (thn (he pins s σ H _ I h) fun v s1 ⟨x,H1,I1,r1,q1⟩ => ?_)
  refine wpAny_Slice (thn (hl pins s1 σ H1 _ I1 q1) fun vl s2 ⟨l,H2,I2,pl,q2⟩ => thn (hu pins s2 σ H2 _ I2 q2) fun vu s3 ⟨u,H3,I3,pu,q3⟩ => ?_)
  rw [evalPart_none]
  refine wpAny_pure ?_
  have I4:Inv X pins σ H3 { s3 with heap:=s3.heap.push { cls:=.type "slice",data:=.fields #[vl,vu,.none] } }:=I3.kept (t':=s3.toks) fun b ob q => Heap.get?_push_of_some _ q
  obtain ⟨T,id,hT,ht,hg⟩:=hr pins { s3 with heap:=s3.heap.push { cls:=.type "slice",data:=.fields #[vl,vu,.none] } } σ H3 x v vl vu l u s3.heap.objs.size Q I4 r1 (Heap.IsSliceOf.new ..) pl pu q3
  show wpAny (model X.prog X.w) X.A (subscriptTail e (.Slice lo hi none p2) v (.ref s3.heap.objs.size)) (EP X pins σ Q) X.xe { s3 with heap:=s3.heap.push { cls:=.type "slice",data:=.fields #[vl,vu,.none] } }
  exact tail_any (ops:=[.ref s3.heap.objs.size,v]) ht hT hg (by with_unfolding_all rfl)
def cutV (xs:List V) (lo hi:Option Int):List V:=(xs.drop (HT.sIx xs.length 0 lo)).take (HT.sIx xs.length xs.length hi - HT.sIx xs.length 0 lo)
theorem cutV_length (xs:List V) (lo hi:Option Int):(cutV xs lo hi).length≤xs.length:=by
  unfold cutV
  rw [List.length_take,List.length_drop]
  omega
def rCatT (K:PySem.W.Frag):R2:=fun x y H Q => ∃ a b xs ys,x = .ref a∧y = .ref b∧SqT K H a xs∧SqT K H b ys∧xs≠[]∧xs.length + ys.length≤sizeLine ∧
  (ys=[]→Q (.ref a) H)∧(ys≠[]→∀ p,H p=none→Q (.ref p) (upd H p (.tup (xs ++ ys))))
theorem Vals.nil_iff {xs:List V} {us:List Value} (r:Vals xs us):us=[] ↔ xs=[]:=by
  cases r with
  | nil => simp
  | cons _ _ => simp
theorem op_catT:OpR X (binaryOp .Add) (rCatT X.K):=by
  intro pins s σ H x y v u Q I rx ry h
  obtain ⟨a,b,xs,ys,rfl,rfl,ha,hb,hx,hz,q1,q2⟩:=h
  cases rx
  cases ry
  obtain ⟨its,r1,p1,_⟩:=I.tuple ha
  obtain ⟨its2,r2,p2,_⟩:=I.tuple hb
  refine HT.cat_tup p1 p2 (fun z => hx (r1.nil_iff.mp z)) (fun z => ⟨.ref a,H,I,rfl,q1 (r2.nil_iff.mp z)⟩) (fun z => ?_) (by rw [← r1.length,← r2.length]; exact hz)
  refine ⟨.ref s.heap.objs.size,_,I.laid (t':=s.toks) (o:=.tup (xs ++ ys)) (fun b ob q => Heap.get?_push_of_some _ q) (Nat.le_refl _) ?_,rfl,q2 (fun w => z (r2.nil_iff.mpr w)) _ (I.hok.fresh (Nat.le_refl _))⟩
  exact ⟨by rw [List.length_append]; exact hz,_,r1.append r2,IsTup.new _ _⟩
end
end L2
namespace L2
open PySem PySem.Spec PyProof.Rows
def ixN (n:Nat) (i:Int):Option Nat:=if 0≤i then (if i < n then some i.toNat else none) else if -(n:Int)≤i then some (i + n).toNat else none
def atI {α : Type} (xs:List α) (i:Int):Option α:=(ixN xs.length i).bind fun j => xs[j]?
theorem ixN_seq {n:Nat} {i:Int} {j:Nat} (h:ixN n i=some j):seqIndex? i n=some j∧j < n∧-(n:Int)≤i∧i < n:=by
  unfold ixN at h
  by_cases h0 : 0≤i
  · rw [if_pos h0] at h
    by_cases h1:i < n
    · rw [if_pos h1] at h
      have e:i.toNat=j:=Option.some.inj h
      exact ⟨by rw [seqIndex_of h0 h1,e],by omega,by omega,h1⟩
    · rw [if_neg h1] at h; cases h
  · rw [if_neg h0] at h
    by_cases h1 : -(n:Int)≤i
    · rw [if_pos h1] at h
      have e:(i + n).toNat=j:=Option.some.inj h
      exact ⟨by rw [seqIndex_neg (by omega) h1,e],by omega,h1,by omega⟩
    · rw [if_neg h1] at h; cases h
theorem atI_get {α : Type} {xs:List α} {i:Int} {v : α} (h:atI xs i=some v):∃ j,seqIndex? i xs.length=some j∧xs[j]? = some v∧j < xs.length∧-(xs.length:Int)≤i∧i < xs.length:=by
  unfold atI at h
  cases e:ixN xs.length i with
  | none => rw [e] at h; cases h
  | some j =>
    rw [e] at h
    obtain ⟨h1,h2,h3,h4⟩:=ixN_seq e
    exact ⟨j,h1,h,h2,h3,h4⟩
theorem atI_nat {α : Type} {xs:List α} {j:Nat} {v : α} (h:xs[j]? = some v):atI xs (j:Int)=some v:=by
  have hj:j < xs.length:=(List.getElem?_eq_some_iff.mp h).1
  have e:ixN xs.length (j:Int)=some j:=by
    unfold ixN
    rw [if_pos (by omega),if_pos (by omega)]; simp
  unfold atI; rw [e]; exact h
def PlainIx (b:Expr):Prop := ∀ o i,subscripted b false o i=operate [o,i] (getItem o i)
def IxR (X:Cx) (r:R2):Prop :=
  ∀ (value slice:Expr) (pins:List (Addr×Obj)) (s:Shared) (σ : St) (H:Hp) (x y:V) (v u:Value) (Q:VK),Inv X pins σ H s→RelV x v→RelV y u→r x y H Q →
    subscripted slice false v u=operate [v,u] (getItem v u)→wpAny (model X.prog X.w) X.A (subscriptTail value slice v u) (EP X pins σ Q) X.xe s
def MtR (X:Cx) (id:String) (r:V→List V→Hp→VK→Prop):Prop :=
  ∀ (pins:List (Addr×Obj)) (s:Shared) (σ : St) (H:Hp) (x:V) (xs:List V) (v:Value) (us:List Value) (Q:VK),Inv X pins σ H s→RelV x v→Vals xs us→r x xs H Q →
    wpAny (model X.prog X.w) X.A (call (.builtin id) (v :: us)) (EP X pins σ Q) X.xe s
section
variable {X:Cx} {a b:Expr} {ta tb:TE} {pos:Pos}
theorem pe_ix {r:R2} (hr:IxR X r) (ha:PE X a ta) (hb:PE X b tb) (hs:PlainIx b):PE X (.Subscript a b pos) (tOp r ta tb):=by
  intro pins s σ H Q I h
  exact Subscript_ (binT ha hb I h fun v u s2 x y H2 I2 rx ry q => hr a b pins s2 σ H2 x y v u Q I2 rx ry q (hs _ _))
def rIxL (K:PySem.W.Frag):R2:=fun x y H Q => ∃ p xs i v,x = .ref p∧y = .int i∧SqL K H p xs∧atI xs i=some v∧Q v H
def rIxT (K:PySem.W.Frag):R2:=fun x y H Q => ∃ p xs i v,x = .ref p∧y = .int i∧SqT K H p xs∧atI xs i=some v∧Q v H
theorem ix_list:IxR X (rIxL X.K):=by
  intro value slice pins s σ H x y v u Q I rx ry h hs
  obtain ⟨p,xs,i,z,rfl,rfl,hq,he,q⟩:=h
  cases rx
  obtain ⟨t,rfl⟩:=ry
  obtain ⟨its,r,pl,hz⟩:=I.list hq
  obtain ⟨j,h1,h2,h3,h4,h5⟩:=atI_get he
  obtain ⟨w,ew,rw'⟩:=r.get h2
  have hl:=r.length
  have hn:=line63
  have fin:EP X pins σ Q w s:=⟨z,H,I,rw',q⟩
  by_cases h0 : 0≤i
  · have hj:i.toNat=j:=by
      rw [seqIndex_of h0 h5] at h1
      exact Option.some.inj h1
    exact item_listR pl.isList h0 (by omega) (by rw [hj]; simpa using ew) fin hs
  · have hj:(i + (its.toArray.size:Int)).toNat=j:=by
      rw [seqIndex_neg (by omega) h4] at h1
      rw [List.size_toArray,← hl]
      exact Option.some.inj h1
    exact subscriptTail_builtinR (x:=w) pl.isList.typeIs slot_list_getitem.lookup
      (wpAny_getItem_list_neg (Q:=fun r s' => r=w∧EP X pins σ Q r s') pl.isList (by omega) (by rw [List.size_toArray] <;> omega) (by omega) (by rw [hj]; simpa using ew) ⟨rfl,fin⟩) hs
theorem ix_tup:IxR X (rIxT X.K):=by
  intro value slice pins s σ H x y v u Q I rx ry h hs
  obtain ⟨p,xs,i,z,rfl,rfl,hq,he,q⟩:=h
  cases rx
  obtain ⟨t,rfl⟩:=ry
  obtain ⟨its,r,pl,hz⟩:=I.tuple hq
  obtain ⟨j,h1,h2,h3,h4,h5⟩:=atI_get he
  obtain ⟨w,ew,rw'⟩:=r.get h2
  have hl:=r.length
  have hn:=line63
  have fin:EP X pins σ Q w s:=⟨z,H,I,rw',q⟩
  exact subscriptTail_builtinR (x:=w) pl.typeIs slot_tuple_getitem.lookup
    (getItem_tuple (j:=j) (Q:=fun r s' => r=w∧EP X pins σ Q r s') pl (by omega) (by omega) (by rw [List.size_toArray,← hl]; exact h1) (by simpa using ew) ⟨rfl,fin⟩) hs
theorem mapSeq_set (its:List Value) (n j:Nat) (u:Value):Obj.mapSeq (·.setIfInBounds j u) { cls:=.type "list",data:=.seq its.toArray n } = { cls:=.type "list",data:=.seq (its.set j u).toArray n }:=by
  simp [Obj.mapSeq]
theorem Inv.lst {pins:List (Addr×Obj)} {σ : St} {H:Hp} {s:Shared} {p:Addr} {xs:List V} (I:Inv X pins σ H s) (h:H p=some (.lst xs)) :
    ∃ (its:List Value) (n:Nat),Vals xs its∧s.heap.get? p=some { cls:=.type "list",data:=.seq its.toArray n }∧xs.length≤sizeLine:=by
  obtain ⟨z,its,n,r,e⟩:=I.hok p _ h
  exact ⟨its,n,r,e,z⟩
theorem Inv.lstUpd {pins:List (Addr×Obj)} {σ : St} {H:Hp} {s:Shared} {p:Addr} {xs ys:List V} {its its':List Value} {n n':Nat} {f:Obj→Obj} (I:Inv X pins σ H s) (h:H p=some (.lst xs))
    (ho:s.heap.get? p=some { cls:=.type "list",data:=.seq its.toArray n }) (hf:f { cls:=.type "list",data:=.seq its.toArray n } = { cls:=.type "list",data:=.seq its'.toArray n' }) (r:Vals ys its') (hz:ys.length≤sizeLine) (t:Nat) :
    Inv X pins σ (upd H p (.lst ys)) { s with heap:=s.heap.update p f,toks:=t }:=by
  have e:(s.heap.update p f).get? p=some { cls:=.type "list",data:=.seq its'.toArray n' }:=by
    rw [Heap.get?_update_self f ho (by rw [hf] <;> rfl),hf]
  refine I.write (x:=p) (e:=p) (by rw [h]; trivial) (.inl rfl) (fun b u hb q => (Heap.get?_update_other _ _ (Ne.symm hb)).trans q) ⟨_,e⟩ ?_
  exact ⟨hz,its',n',r,e⟩
def rSetL:V→V→V→Hp→(Hp→Prop)→Prop:=fun o i v H Q => ∃ p xs k j,o = .ref p∧i = .int k∧H p=some (.lst xs)∧ixN xs.length k=some j∧Q (upd H p (.lst (xs.set j v)))
theorem set_list:PSet X rSetL:=by
  intro pins s σ H o i v ov iv u Q I ro ri rv h
  obtain ⟨p,xs,k,j,rfl,rfl,hp,hj,q⟩:=h
  cases ro
  obtain ⟨t,rfl⟩:=ri
  obtain ⟨its,n,r,ho,hz⟩:=I.lst hp
  obtain ⟨h1,h2,h3,h4⟩:=ixN_seq hj
  have hl:=r.length
  have hn:=line63
  have I':Inv X pins σ (upd H p (.lst (xs.set j v))) { s with heap:=s.heap.update p (Obj.mapSeq (·.setIfInBounds j u)) } :=
    I.lstUpd hp ho (mapSeq_set its n j u) (r.set rv j) (by rw [List.length_set]; exact hz) s.toks
  by_cases h0 : 0≤k
  · have hk:k.toNat=j:=by
      rw [seqIndex_of h0 h4] at h1
      exact Option.some.inj h1
    exact PySem.W.ki_setAt ho h0 (by omega) (by rw [List.size_toArray,← hl]; exact h4) (by rw [hk]; exact ⟨_,I',q⟩)
  · have hk:(k + (its.toArray.size:Int)).toNat=j:=by
      rw [seqIndex_neg (by omega) h3] at h1
      rw [List.size_toArray,← hl]
      exact Option.some.inj h1
    exact PySem.W.ki_setBack ho (by omega) (by rw [List.size_toArray,← hl]; exact h3) (by omega) (by rw [hk]; exact ⟨_,I',q⟩)
theorem slice_bounds (lo hi:Option Int) (n:Nat):(sliceBounds lo hi none n).1=((HT.sIx n 0 lo:Nat):Int)∧(sliceBounds lo hi none n).2.1=((HT.sIx n n hi:Nat):Int)∧(sliceBounds lo hi none n).2.2=1:=by
  refine ⟨?_,?_,rfl⟩
  · cases lo with
    | none => simp [sliceBounds,HT.sIx]
    | some i =>
      simp only [sliceBounds,HT.sIx,Option.getD_none,show (1:Int) > 0 by decide,if_true]
      by_cases h:i < 0
      · simp only [h,if_true] <;> omega
      · simp only [h,if_false] <;> omega
  · cases hi with
    | none => simp [sliceBounds,HT.sIx]
    | some i =>
      simp only [sliceBounds,HT.sIx,Option.getD_none,show (1:Int) > 0 by decide,if_true]
      by_cases h:i < 0
      · simp only [h,if_true] <;> omega
      · simp only [h,if_false] <;> omega
theorem slicePick_cut (its:List Value) (lo hi:Option Int):slicePick its.toArray lo hi none=((its.drop (HT.sIx its.length 0 lo)).take (HT.sIx its.length its.length hi - HT.sIx its.length 0 lo)).toArray:=by
  obtain ⟨h1,h2,h3⟩:=slice_bounds lo hi its.toArray.size
  unfold slicePick
  rw [h1,h2,h3]
  simp only [sliceRange_one,pick_run,List.size_toArray] <;> rfl
def rSlL (K:PySem.W.Frag):V→Option Int→Option Int→Hp→VK→Prop:=fun x lo hi H Q => ∃ a xs,x = .ref a∧SqL K H a xs∧∀ p,H p=none→Q (.ref p) (upd H p (.lst (cutV xs lo hi)))
theorem sl_list:SlR X (rSlL X.K):=by
  intro pins s σ H x v vl vu lo hi sl Q I rx hs pl pu h
  obtain ⟨a,xs,rfl,hx,q⟩:=h
  cases rx
  obtain ⟨its,r,ht,hz⟩:=I.list hx
  have hlen:=r.length
  refine ⟨"list",_,slot_list_getitem.lookup,ht.isList.typeIs,?_⟩
  refine wpAny_getItem_list_slice ht.isList hs pl pu .none (by simp) ?_ (by rw [List.size_toArray] <;> omega)
  rw [slicePick_cut,← hlen]
  refine ⟨.ref s.heap.objs.size,_,I.laid (t':=s.toks) (o:=.lst (cutV xs lo hi)) (fun b ob q => Heap.get?_push_of_some _ q) (Nat.le_refl _) ?_,rfl,q _ (I.hok.fresh (Nat.le_refl _))⟩
  exact ⟨Nat.le_trans (cutV_length xs lo hi) hz,_,0,(r.drop (HT.sIx xs.length 0 lo)).take (HT.sIx xs.length xs.length hi - HT.sIx xs.length 0 lo),Heap.get?_push_size _ rfl⟩
def flatV:V→Bool
  | .non => true
  | .bl _ => true
  | .int _ => true
  | .str _ => true
  | _ => false
def eqV:V→V→Bool
  | .non,.non => true
  | .bl a,.bl b => a == b
  | .bl a,.int b => (if a then 1 else 0) == b
  | .int a,.bl b => a == (if b then 1 else 0)
  | .int a,.int b => a == b
  | .str a,.str b => a == b
  | _,_ => false
theorem eqAt_V {A:Around} {s:Shared} {y x:V} {u v:Value} (ry:RelV y u) (rx:RelV x v) (fy:flatV y=true) (fx:flatV x=true):SeqAt.EqAt A s u v (eqV y x):=by
  cases y with
  | non =>
    cases ry
    cases x with
    | non => cases rx; exact SeqAt.EqAt.same _
    | bl b => cases rx; exact SeqAt.EqAt.none_bool b
    | int b => obtain ⟨t,rfl⟩:=rx; exact SeqAt.EqAt.none_int b t
    | str b => obtain ⟨t,rfl⟩:=rx; exact SeqAt.EqAt.none_str b t
    | _ => exact absurd (show false=true from fx) Bool.false_ne_true
  | bl a =>
    cases ry
    cases x with
    | non => cases rx; exact SeqAt.EqAt.bool_none a
    | bl b => cases rx; exact SeqAt.EqAt.bool_bool a b
    | int b => obtain ⟨t,rfl⟩:=rx; exact SeqAt.EqAt.bool_int a b t
    | str b => obtain ⟨t,rfl⟩:=rx; exact SeqAt.EqAt.bool_str a b t
    | _ => exact absurd (show false=true from fx) Bool.false_ne_true
  | int a =>
    obtain ⟨t',rfl⟩:=ry
    cases x with
    | non => cases rx; exact SeqAt.EqAt.int_none a t'
    | bl b => cases rx; exact SeqAt.EqAt.int_bool a t' b
    | int b => obtain ⟨t,rfl⟩:=rx; exact SeqAt.EqAt.int_int a t' b t
    | str b => obtain ⟨t,rfl⟩:=rx; exact SeqAt.EqAt.int_str a t' b t
    | _ => exact absurd (show false=true from fx) Bool.false_ne_true
  | str a =>
    obtain ⟨t',rfl⟩:=ry
    cases x with
    | non => cases rx; exact SeqAt.EqAt.str_none a t'
    | bl b => cases rx; exact SeqAt.EqAt.str_bool a t' b
    | int b => obtain ⟨t,rfl⟩:=rx; exact SeqAt.EqAt.str_int a t' b t
    | str b => obtain ⟨t,rfl⟩:=rx; exact SeqAt.EqAt.str_str a t' b t
    | _ => exact absurd (show false=true from fx) Bool.false_ne_true
  | _ => exact absurd (show false=true from fy) Bool.false_ne_true
def eqU (x:V) (u:Value):Bool:=match u with
  | .none => eqV .non x
  | .bool b => eqV (.bl b) x
  | .int i _ => eqV (.int i) x
  | .str z _ => eqV (.str z) x
  | _ => false
theorem eqU_of {x y:V} {u:Value} (r:RelV y u) (f:flatV y=true):eqU x u=eqV y x:=by
  cases y with
  | non => cases r; rfl
  | bl b => cases r; rfl
  | int i => obtain ⟨t,rfl⟩:=r; rfl
  | str z => obtain ⟨t,rfl⟩:=r; rfl
  | _ => exact absurd (show false=true from f) Bool.false_ne_true
theorem any_eqU {x:V}:∀ {xs:List V} {us:List Value},Vals xs us→xs.all flatV=true→us.any (eqU x)=xs.any fun y => eqV y x
  | _,_,.nil,_ => rfl
  | y :: xs,u :: us,.cons r t,f => by
    rw [List.all_cons,Bool.and_eq_true] at f
    rw [List.any_cons,List.any_cons,eqU_of r f.1,any_eqU t f.2]
theorem mem_eqAt {A:Around} {s:Shared} {x:V} {v:Value} (rx:RelV x v) (fx:flatV x=true):∀ {xs:List V} {us:List Value},Vals xs us→xs.all flatV=true→∀ u∈us,SeqAt.EqAt A s u v (eqU x u)
  | _,_,.nil,_ => fun u hu => by cases hu
  | y :: xs,u :: us,.cons r t,f => fun u' hu => by
    rw [List.all_cons,Bool.and_eq_true] at f
    rcases List.mem_cons.mp hu with rfl | hu
    · rw [eqU_of r f.1]; exact eqAt_V r rx f.1 fx
    · exact mem_eqAt rx fx t f.2 u' hu
def inV (x:V) (xs:List V):Bool:=xs.any fun y => eqV y x
def rIn (K:PySem.W.Frag) (neg:Bool):R2:=fun x y H Q => ∃ p xs,y = .ref p∧(SqL K H p xs∨SqT K H p xs)∧flatV x=true∧xs.all flatV=true∧Q (.bl (if neg then !inV x xs else inV x xs)) H
theorem op_in_seq:OpR X (compareOp .In) (rIn X.K false):=by
  intro pins s σ H x y v u Q I rx ry h
  obtain ⟨p,xs,rfl,hq,fx,fs,q⟩:=h
  cases ry
  rcases hq with hq | hq
  · obtain ⟨its,r,pl,hz⟩:=I.list hq
    refine SeqAt.in_listAt (eqU x) pl.isList (fun w hw => mem_eqAt rx fx r fs w (by simpa using hw)) ⟨.bl _,H,I,rfl,?_⟩
    rw [show its.toArray.any (eqU x)=its.any (eqU x) by simp,any_eqU r fs]
    exact q
  · obtain ⟨its,r,pl,hz⟩:=I.tuple hq
    refine SeqAt.in_tupleAt (eqU x) pl (fun w hw => mem_eqAt rx fx r fs w (by simpa using hw)) ⟨.bl _,H,I,rfl,?_⟩
    rw [show its.toArray.any (eqU x)=its.any (eqU x) by simp,any_eqU r fs]
    exact q
theorem op_notIn_seq:OpR X (compareOp .NotIn) (rIn X.K true):=by
  intro pins s σ H x y v u Q I rx ry h
  obtain ⟨p,xs,rfl,hq,fx,fs,q⟩:=h
  cases ry
  rcases hq with hq | hq
  · obtain ⟨its,r,pl,hz⟩:=I.list hq
    refine SeqAt.notIn_listAt (eqU x) pl.isList (fun w hw => mem_eqAt rx fx r fs w (by simpa using hw)) ⟨.bl _,H,I,rfl,?_⟩
    rw [show its.toArray.any (eqU x)=its.any (eqU x) by simp,any_eqU r fs]
    exact q
  · obtain ⟨its,r,pl,hz⟩:=I.tuple hq
    refine SeqAt.notIn_tupleAt (eqU x) pl (fun w hw => mem_eqAt rx fx r fs w (by simpa using hw)) ⟨.bl _,H,I,rfl,?_⟩
    rw [show its.toArray.any (eqU x)=its.any (eqU x) by simp,any_eqU r fs]
    exact q
theorem call_len_seq:CallR X (.builtin "len") (fun xs H Q => ∃ p ys,xs=[.ref p]∧(SqL X.K H p ys∨SqT X.K H p ys)∧Q (.int ys.length) H):=by
  intro pins s σ H xs us Q I r h
  obtain ⟨p,ys,rfl,hq,q⟩:=h
  obtain ⟨u,rfl,rx⟩:=vals1 r
  cases rx
  have hn:=line63
  rcases hq with hq | hq
  · obtain ⟨its,r',pl,hz⟩:=I.list hq
    have hlen:=r'.length
    exact Calls.call_len_list pl.isList (by simp only [List.size_toArray] <;> omega) ⟨.int ys.length,H,I.tok _,⟨s.toks + 1,by rw [List.size_toArray,hlen]⟩,q⟩
  · obtain ⟨its,r',pl,hz⟩:=I.tuple hq
    have hlen:=r'.length
    exact len_tuple pl (by simp only [List.size_toArray] <;> omega) ⟨.int ys.length,H,I.tok _,⟨s.toks + 1,by rw [List.size_toArray,hlen]⟩,q⟩
theorem call_list_of:CallR X (.type "list") (fun xs H Q => ∃ p ys,xs=[.ref p]∧(SqL X.K H p ys∨SqT X.K H p ys)∧∀ l,H l=none→Q (.ref l) (upd H l (.lst ys))):=by
  intro pins s σ H xs us Q I r h
  obtain ⟨p,ys,rfl,hq,q⟩:=h
  obtain ⟨u,rfl,rx⟩:=vals1 r
  cases rx
  have fin:∀ (its:List Value),Vals ys its→ys.length≤sizeLine→∀ (h':Heap) (c':Nat),(∀ b o',s.heap.get? b=some o'→h'.get? b=some o') →
      h'.get? s.heap.objs.size=some { cls:=.type "list",dict:=none,data:=.seq its.toArray c',slots := #[] }→EP X pins σ Q (.ref s.heap.objs.size) { s with heap:=h' }:=fun its r' hz h' c' kp e =>
    ⟨.ref s.heap.objs.size,_,I.laid (t':=s.toks) kp (Nat.le_refl _) (show ObjOk X.prog X.w _ h' _ (.lst ys) from ⟨hz,its,c',r',e⟩),rfl,q _ (I.hok.fresh (Nat.le_refl _))⟩
  rcases hq with hq | hq
  · obtain ⟨its,r',pl,hz⟩:=I.list hq
    have hlen:=r'.length
    obtain ⟨o,ho,hc,n,hd⟩:=pl.isList
    exact call_list_seq p (.inl rfl) ho hc hd (fun h' c' kp e => fin its r' hz h' c' kp e) (by simp only [List.size_toArray] <;> omega)
  · obtain ⟨its,r',pl,hz⟩:=I.tuple hq
    have hlen:=r'.length
    obtain ⟨o,ho,hc,n,hd⟩:=pl
    exact call_list_seq p (.inr rfl) ho hc hd (fun h' c' kp e => fin its r' hz h' c' kp e) (by simp only [List.size_toArray] <;> omega)
theorem call_tuple_of:CallR X (.type "tuple") (fun xs H Q => ∃ p ys,xs=[.ref p]∧((SqL X.K H p ys∧∀ l,H l=none→Q (.ref l) (upd H l (.tup ys)))∨(SqT X.K H p ys∧Q (.ref p) H))):=by
  intro pins s σ H xs us Q I r h
  obtain ⟨p,ys,rfl,h⟩:=h
  obtain ⟨u,rfl,rx⟩:=vals1 r
  cases rx
  rcases h with ⟨hq,q⟩ | ⟨hq,q⟩
  · obtain ⟨its,r',pl,hz⟩:=I.list hq
    have hlen:=r'.length
    refine call_tuple_list pl.isList (fun h' kp => ?_) (by simp only [List.size_toArray] <;> omega)
    have I1:Inv X pins σ H { s with heap:=h' }:=I.kept (t':=s.toks) kp
    have I2:Inv X pins σ (upd H h'.objs.size (.tup ys)) { s with heap:=h'.push { cls:=.type "tuple",data:=.seq its.toArray } } :=
      I1.laid (t':=s.toks) (fun b o e => Heap.get?_push_of_some _ e) (Nat.le_refl _) (show ObjOk X.prog X.w _ _ _ (.tup ys) from ⟨hz,its,r',IsTup.new _ _⟩)
    exact ⟨.ref h'.objs.size,_,I2,rfl,q _ (I1.hok.fresh (Nat.le_refl _))⟩
  · obtain ⟨its,r',pl,hz⟩:=I.tuple hq
    exact call_tuple_same pl ⟨.ref p,H,I,rfl,q⟩
def tyV (K:PySem.W.Frag) (T:String) (x:V) (H:Hp):Prop:=match x with
  | .str _ => T = "str"
  | .int _ => T = "int"
  | .ref p => (T = "list"∧∃ xs,SqL K H p xs)∨(T = "tuple"∧∃ o,K.lookup p=some o∧o.cls = .type "tuple"∧o.dict=none) ∨
      (T = "dict"∧((∃ kvs,H p=some (.dK kvs))∨∃ kvs,H p=some (.dT kvs)))∨(T = "set"∧∃ S n,H p=some (.set S n))
  | _ => False
theorem tyV_is {pins:List (Addr×Obj)} {σ : St} {H:Hp} {s:Shared} {T:String} {x:V} {v:Value} (I:Inv X pins σ H s) (r:RelV x v) (ty:tyV X.K T x H) :
    s.TypeIs v T∧∀ a,v = .ref a→∃ ob,s.heap.get? a=some ob∧ob.dict=none:=by
  cases x with
  | str z =>
    obtain ⟨t,rfl⟩:=r
    cases (show T = "str" from ty)
    exact ⟨typeIs_str s z t,fun _ e => nomatch e⟩
  | int i =>
    obtain ⟨t,rfl⟩:=r
    cases (show T = "int" from ty)
    exact ⟨typeIs_int s i t,fun _ e => nomatch e⟩
  | ref p =>
    cases r
    rcases ty with ⟨rfl,xs,hq⟩ | ⟨rfl,o,hk,hc,hd⟩ | ⟨rfl,hk⟩ | ⟨rfl,S,n,hk⟩
    · obtain ⟨its,_,pl,_⟩:=I.list hq
      refine ⟨pl.isList.typeIs,fun a e => ?_⟩
      cases e
      obtain ⟨o,n,e,c,hd,_⟩:=pl
      exact ⟨o,e,hd⟩
    · refine ⟨⟨o,I.kIn p o hk,hc⟩,fun a e => ?_⟩
      cases e
      exact ⟨o,I.kIn _ o hk,hd⟩
    · have z:∃ o,s.heap.get? p=some o∧o.ExactDict:=by
        rcases hk with ⟨kvs,hk⟩ | ⟨kvs,hk⟩
        · obtain ⟨_,_,_,_,o,_,_,e,ex,_⟩:=I.hok p _ hk
          exact ⟨o,e,ex⟩
        · obtain ⟨_,_,_,_,o,_,_,e,ex,_⟩:=I.hok p _ hk
          exact ⟨o,e,ex⟩
      obtain ⟨o,e,ex⟩:=z
      refine ⟨⟨o,e,ex.1⟩,fun a e2 => ?_⟩
      cases e2
      exact ⟨o,e,ex.2.1⟩
    · obtain ⟨o,_,_,_,e,ex,_⟩:=I.hok p _ hk
      refine ⟨⟨o,e,ex.1⟩,fun a e2 => ?_⟩
      cases e2
      exact ⟨o,e,ex.2.1⟩
  | _ => exact False.elim ty
def tBM (K:PySem.W.Frag) (T:String) (r:V→List V→Hp→VK→Prop) (to:TE) (t:TA):TE:=fun σ H Q => to σ H fun x H1 => tyV K T x H1∧t σ H1 fun xs H2 => r x xs H2 Q
variable {o e:Expr} {es:List Expr} {to:TE} {t:TA} {name:Str} {apos cpos:Pos} {T id:String} {r:V→List V→Hp→VK→Prop}
theorem pe_bm (pa:PlainAttrs T) (slot:Slot T name id) (hty:typeOf (.builtin id)=pure (.type "method_descriptor")) (hm:MtR X id r) (ho:PE X o to) (ha:PA X (e :: es) t)
    (hbase:attributeBase o name X.env (eval o X.env)=eval o X.env:=by rfl)
    (hfew:((backTo cpos (starEach (e :: es) X.env)).all (fun x => !x.1) && (backToKw cpos (keywordEach [] X.env)).all (fun x => x.1.isSome)
      && decide ((e :: es).length + ([]:List Keyword).length + (if ([]:List Keyword).isEmpty then 0 else 1) < 30))=true:=by rfl)
    (hline:(apos.endLine == cpos.line)=true:=by rfl) (hs:starEach (e :: es) X.env=(false,eval e X.env) :: starEach es X.env:=by rfl) (hplain:(backTo cpos (starEach es X.env)).any (·.1)=false:=by rfl) :
    PE X (.Call (.Attribute o name apos) (e :: es) [] cpos) (tBM X.K T r to t):=by
  intro pins s σ H Q I h
  refine wpAny_Call_method_late hbase hfew hline rfl (thn (ho pins s σ H _ I h) fun v s1 ⟨x,H1,I1,r1,ty,q1⟩ => ?_)
  obtain ⟨h1,h2⟩:=tyV_is I1 r1 ty
  refine ⟨T,id,pa,slot,hty,h1,h2,?_⟩
  have hA:=ha cpos pins s1 σ H1 _ I1 q1
  rw [hs] at hA ⊢
  refine Calls.callWith_builtin (by show (false || (backTo cpos (starEach es X.env)).any (·.1))=false; rw [hplain] <;> rfl) (Calls.evalArgs_plain ?_)
  exact thn hA fun us s2 ⟨vs,H2,I2,r2,q2⟩ => hm pins s2 σ H2 x vs v us Q I2 r1 r2 q2
end
end L2
namespace L2
open PySem PySem.Spec PyProof.Rows
def MtM (X:Cx) (id:String) (r:V→List V→Hp→VK→Prop):Prop :=
  ∀ (pins:List (Addr×Obj)) (s:Shared) (σ : St) (H:Hp) (x:V) (xs:List V) (v:Value) (us:List Value) (Q:VK),Inv X pins σ H s→RelV x v→Vals xs us→r x xs H Q →
    wpAny (model X.prog X.w) X.A (call (.builtin id) (v :: us)) (EP X pins σ Q) X.xe s
theorem Vals.one:∀ {x:V} {us:List Value},Vals [x] us→∃ u,us=[u]∧RelV x u
  | _,_,.cons r .nil => ⟨_,rfl,r⟩
theorem Vals.two:∀ {x y:V} {us:List Value},Vals [x,y] us→∃ u v,us=[u,v]∧RelV x u∧RelV y v
  | _,_,_,.cons r (.cons q .nil) => ⟨_,_,rfl,r,q⟩
section
variable {X:Cx} {pins:List (Addr×Obj)} {σ : St} {H:Hp} {s:Shared} {l b:Addr} {xs ys zs:List V}
theorem Inv.lset {its its':List Value} {n:Nat} {f:Array Value→Array Value} {t':Nat} (I:Inv X pins σ H s) (hH:H l=some (.lst xs))
    (e:s.heap.get? l=some { cls:=.type "list",data:=.seq its.toArray n }) (hf:f its.toArray=its'.toArray) (hv:Vals ys its') (hz:ys.length≤sizeLine) :
    Inv X pins σ (upd H l (.lst ys)) { s with heap:=s.heap.update l (Obj.mapSeq f),toks:=t' }:=by
  have q:=PySem.IsL.update e f
  rw [hf] at q
  refine I.write (x:=l) (e:=l) (by rw [hH]; exact trivial) (.inl rfl) (fun b' u hb hu => (Heap.get?_update_other s.heap (Obj.mapSeq f) (Ne.symm hb)).trans hu) ⟨_,q⟩ ?_
  exact ⟨hz,its',_,hv,q⟩
theorem Inv.lnew {its:List Value} {t':Nat} (I:Inv X pins σ H s) (hv:Vals ys its) (hz:ys.length≤sizeLine) :
    Inv X pins σ (upd H s.heap.objs.size (.lst ys)) { s with heap:=s.heap.push { cls:=.type "list",data:=.seq its.toArray },toks:=t' } :=
  I.laid (fun _ _ q => Heap.get?_push_of_some _ q) (Nat.le_refl _) ⟨hz,its,0,hv,Heap.get?_push_size _ rfl⟩
theorem Inv.fresh (I:Inv X pins σ H s):H s.heap.objs.size=none:=I.hok.fresh (Nat.le_refl _)
theorem Inv.lstM (I:Inv X pins σ H s) (hH:H l=some (.lst xs)):xs.length≤sizeLine∧∃ (its:List Value) (n:Nat),Vals xs its∧xs.length=its.length∧s.heap.get? l=some { cls:=.type "list",data:=.seq its.toArray n }:=by
  obtain ⟨z,its,n,r,e⟩:=I.hok l _ hH
  exact ⟨z,its,n,r,r.length,e⟩
theorem notLongL {n:Nat} (h:n≤sizeLine):Builtin.List.listTooLong n=false:=by
  unfold Builtin.List.listTooLong
  exact decide_eq_false (by omega)
end
section
variable {X:Cx}
def rAppend:V→List V→Hp→VK→Prop:=fun x vs H Q => ∃ l xs y,x = .ref l∧vs=[y]∧H l=some (.lst xs)∧xs.length < sizeLine∧Q .non (upd H l (.lst (xs ++ [y])))
theorem mt_append:MtM X "list.append" rAppend:=by
  intro pins s σ H x vs v us Q I rx rv h
  obtain ⟨l,xs,y,rfl,rfl,hH,hz,q⟩:=h
  cases rx
  obtain ⟨u,rfl,ru⟩:=rv.one
  obtain ⟨z,its,n,r,hl,e⟩:=I.lstM hH
  refine call_meets F.slot_list_append ⟨_,e,rfl⟩ F.entry_list_append (F.args_list_append_2 _ _) (PySem.list_append l its.toArray n u (by rw [List.size_toArray]; omega)) ⟨e,?_⟩
  refine ⟨.non,_,I.lset (its':=its ++ [u]) hH e (by simp) (r.append (.cons ru .nil)) ?_,rfl,q⟩
  rw [List.length_append,List.length_singleton]
  omega
def rExtend:V→List V→Hp→VK→Prop:=fun x vs H Q => ∃ l b xs zs,x = .ref l∧vs=[.ref b]∧H l=some (.lst xs)∧H b=some (.lst zs)∧xs.length + zs.length≤sizeLine∧Q .non (upd H l (.lst (xs ++ zs)))
theorem mt_extend:MtM X "list.extend" rExtend:=by
  intro pins s σ H x vs v us Q I rx rv h
  obtain ⟨l,b,xs,zs,rfl,rfl,hH,hB,hz,q⟩:=h
  cases rx
  obtain ⟨u,rfl,ru⟩:=rv.one
  cases ru
  obtain ⟨z,its,n,r,hl,e⟩:=I.lstM hH
  obtain ⟨z2,its2,n2,r2,hl2,e2⟩:=I.lstM hB
  have hsz:its.toArray.size + its2.toArray.size≤sizeLine:=by rw [List.size_toArray,List.size_toArray]; omega
  have hlong:¬ (!its.toArray.isEmpty && Builtin.List.listTooLong (its.toArray.size + its2.toArray.size))=true:=by
    rw [notLongL hsz,Bool.and_false]
    exact Bool.false_ne_true
  refine call_meets F.slot_list_extend ⟨_,e,rfl⟩ F.entry_list_extend (F.args_list_extend_2 _ _)
    (AutoSeq1.list_extend_list_list_0 l its.toArray n b its2.toArray n2 hlong (by rw [List.size_toArray]; omega) (by omega)) ⟨e,e2,?_⟩
  refine ⟨.non,_,I.lset (its':=its ++ its2) hH e (by simp) (r.append r2) ?_,rfl,q⟩
  rw [List.length_append]
  omega
def rCat:R2:=fun x y H Q => ∃ l b xs zs,x = .ref l∧y = .ref b∧H l=some (.lst xs)∧H b=some (.lst zs)∧xs.length + zs.length≤sizeLine∧∀ p,H p=none→Q (.ref p) (upd H p (.lst (xs ++ zs)))
theorem op_cat:OpR X (binaryOp .Add) rCat:=by
  intro pins s σ H x y v u Q I rx ry h
  obtain ⟨l,b,xs,zs,rfl,rfl,hH,hB,hz,q⟩:=h
  cases rx
  cases ry
  obtain ⟨z,its,n,r,hl,e⟩:=I.lstM hH
  obtain ⟨z2,its2,n2,r2,hl2,e2⟩:=I.lstM hB
  refine PySem.P.add_list e e2 ?_ (by rw [List.size_toArray,List.size_toArray]; omega)
  have ea:its.toArray ++ its2.toArray=(its ++ its2).toArray:=by simp
  rw [ea]
  exact ⟨.ref _,_,I.lnew (t':=s.toks) (r.append r2) (by rw [List.length_append]; omega),rfl,q _ I.fresh⟩
end
section
variable {prog:Program} {w:World} {A:Around} {E:Value→Shared→Prop} {s:Shared}
end
section
variable {X:Cx}
end
end L2
namespace Att
open PySem PySem.W PySem.Calls PyProof.Rows
theorem ints_of_wellAll {P:Params} {h:Heap}:∀ (ns:List Int) (vs:List Value),WellAll P h vs (ns.map WData.int)→IntsAre vs ns:=by
  intro ns
  induction ns with
  | nil =>
    intro vs w
    rw [List.map_nil] at w
    cases w
    exact .nil
  | cons n ns ih =>
    intro vs w
    rw [List.map_cons] at w
    cases w with
    | cons a b =>
      cases a
      exact .cons _ _ (ih _ b)
theorem script_of {l:OpenLaw} {n:Nat} (hn:l.most=some n) {P:Params} {h:Heap} {args:List WData} {vals:List Value}
    (hpre:l.row.toRowW.claim.pre args=true) (hwl:WellAll P h vals args) :
    ∃ a vs ns,vals=[Value.ref a]∧args=[WData.list (ns.map WData.int)]∧h.get? a=some { cls:=.type "list",data:=.seq vs.toArray }∧IntsAre vs ns∧ns.length≤n:=by
  have hsh:WShape.hasAll [] args [.list .int] = true:=(pre_splitW hpre).1
  have hc:l.pre.holds [] { args:=args } = true:=(pre_splitW hpre).2
  obtain ⟨d,r,rfl,h1,h2⟩:=hasAllW_cons hsh
  obtain rfl:=hasAllW_nil h2
  obtain ⟨xs,rfl,h3⟩:=hasW_list h1
  obtain ⟨ns,rfl⟩:=items_int h3
  have hlen:ns.length≤n:=by
    unfold OpenLaw.pre at hc
    have h4:(WTm.not (.lt (.lit (.int (n:Int))) (.len (.arg 0)))).holds [] { args:=[.list (ns.map .int)] } = true:=by
      have h4:=(holds_andW hc).1
      rw [hn] at h4
      exact h4
    have h5:=condW_of h4 (w_not (w_lt w_lit (w_len_list (w_arg rfl))))
    rw [List.length_map] at h5
    refine Nat.le_of_not_lt fun q => ?_
    have q':(n:Int) < ((ns.length:Nat):Int):=by omega
    first
      | (rw [decide_eq_true q'] at h5; exact absurd h5 (by decide))
      | (simp at h5; omega)
  cases hwl with
  | cons w1 w2 =>
    cases w2
    cases w1 with
    | list ho hall => exact ⟨_,_,ns,rfl,rfl,ho,ints_of_wellAll ns _ hall,hlen⟩
theorem post_true (l:OpenLaw) (args:List WData):l.row.toRowW.claim.post args (.bool true) args=true :=
  postW_of (r:=l.row.toRowW) (X:=(true == true))
    (show WShape.has [] (.bool true) .bool=true by first | rfl | decide | simp [WShape.has,WShape.arms,WShape.armsAll])
    (show (WTm.eq .res (.lit (.bool true))).value [] { args:=args,res:=some (.bool true),after:=args } = some (.bool (true == true)) from w_eq_bool (w_res rfl) w_lit) rfl
theorem attach_call {l:OpenLaw} {n:Nat} {q:Program} {loose:List Str} {XP:(Str→Option Value)→Heap→Prop} {YP:World→Heap→Prop} {d:DefRec}
    (hn:l.most=some n) (hdf:d.params.defaults=[])
    (call:∀ (w:World) (s₀ s₁:Shared) (mg mb:Str→Option Value) (fa:Addr) (o:Obj) (pm cd doc:Value) (a:Addr) (vs:List Value) (ns:List Int),
      Ground q loose [] XP w s₀ mg mb s₁.heap→YP w s₁.heap →
      s₁.heap.get? fa=some o→o.data = .func (docDef d.name d.params d.body d.scope pm cd doc)→s₁.heap.CodeRec cd d.name→mg d.name=some (.ref fa) →
      s₁.heap.get? a=some { cls:=.type "list",data:=.seq vs.toArray }→IntsAre vs ns→ns.length≤n→s₁.gens = #[] →
      codeAny (model l.prog w) callerA (.call (.ref fa) ⟨[.ref a],[]⟩) (fun r s' => r = .ok (.ret (.bool true))∧OldK s₁.heap s'.heap∧s'.os=s₁.os∧AllBare s'.gens) s₁) :
    WalkO q loose XP YP l.row.toRowW d [] (fun f vs => PySem.call f vs):=by
  intro w s₀ s₁ mg mb G Y fa o pm cd doc dV kV ho hd hcd hD hmg hg args vals as hpre hlay hrd hwl hlo
  obtain rfl:dV = .none:=Dflts.none hD hdf
  obtain rfl:kV = .none:=Dflts.noKw hD
  obtain ⟨a,vs,ns,rfl,rfl,hobj,hints,hlen⟩:=script_of hn hpre hwl
  refine enter_call (codeAny_mono (call w s₀ s₁ mg mb fa o pm cd doc a vs ns G Y ho (fd_plain hd) hcd hmg hobj hints hlen hg) fun r s' hq => ?_)
  obtain ⟨rfl,h2,h3,h4⟩:=hq
  exact ⟨.inl ⟨.bool true,.bool true,[],rfl,fun _ => rfl,.bool true,post_true l _,fun _ => ⟨List.Pairwise.nil,fun _ hm => (nomatch hm)⟩⟩,h2,h3,h4⟩
section
variable {prog:Program} {w:World} {A:Around} {E:Value→Shared→Prop} {s:Shared} {K:Frag}
end
end Att
namespace L2
open PySem PySem.Spec PyProof.Rows
theorem vals_ints:∀ {vs:List Value} {ns:List Int},IntsAre vs ns→Vals (ns.map V.int) vs
  | _,_,.nil => .nil
  | _,_,.cons n t h => .cons ⟨t,rfl⟩ (vals_ints h)
def Only (H:Hp):Prop := ∀ b,H b=none∨∃ o xs,H b=some (.frz o (.lst xs))
theorem law_call {P:Program} {w:World} {K:PySem.W.Frag} {mg mb:Str→Option Value} {CX:CXT} {k:Nat} {fa a:Addr} {fd:FuncData} {x:Str} {sp:Sp} {s₁:Shared} {vs:List Value} {ns:List Int}
    (KX:K.In s₁.heap) (hns:s₁.heap.Ns mainGlobals mg) (hb:s₁.heap.Ns builtinsNs mb) (hbb:∀ x:Str,x≠"__name__"→mb x=bootBuiltins x) (hlim:s₁.heap.NoLimit) (hg:s₁.gens = #[])
    (ha:s₁.heap.get? a=some { cls:=.type "list",data:=.seq vs.toArray }) (hi:IntsAre vs ns) (hl:ns.length≤sizeLine) (hr:Room k callerA)
    (F:∀ base:Heap,K.In base→base.Ns mainGlobals mg→FnOk P w K mg base CX k fa fd [x] sp) (hbind:∀ (s:Shared) (u:Value),BindsTo s fd ⟨[u],[]⟩ [(x,u)])
    (hsp:∀ H:Hp,Only H→SqL K H a (ns.map V.int)→sp [.ref a] H (fun v _ => v = .bl true) fun _ _ _ => False)
    (hCX:∀ H e s',CX [] H s₁ (fun _ _ _ => False) e s'→False) :
    codeAny (model P w) callerA (.call (.ref fa) ⟨[.ref a],[]⟩) (fun r s' => r = .ok (.ret (.bool true))∧OldK s₁.heap s'.heap∧s'.os=s₁.os∧AllBare s'.gens) s₁:=by
  have rv:=vals_ints hi
  have lenV:=hi.length
  have core:∀ H:Hp,Only H→SqL K H a (ns.map V.int)→HOk P w H s₁.heap→(∀ b,H b≠none→b=a)→(H a≠none→K.lookup a=none) →
      codeAny (model P w) callerA (.call (.ref fa) ⟨[.ref a],[]⟩) (fun r s' => r = .ok (.ret (.bool true))∧OldK s₁.heap s'.heap∧s'.os=s₁.os∧AllBare s'.gens) s₁:=by
    intro H hO hS hok hA hK
    have base_of:∀ {b:Addr} {o:Obj},s₁.heap.get? b=some o→H b=none→(hidT s₁.heap H).get? b=some o:=fun e n => hidT_get e n
    have noA:∀ {b:Addr} {o:Obj} {es:Array DictEntry} {ep:Nat},s₁.heap.get? b=some o→o.data = .dict es ep→H b=none:=fun {b o es ep} e d => by
      cases q:H b with
      | none => rfl
      | some u =>
        have e':b=a:=hA b (by rw [q]; simp)
        subst e'
        rw [ha] at e; cases e
        have d':Data.seq vs.toArray _=Data.dict es ep:=d
        cases d'
    have nsK:∀ {b:Addr} {m:Str→Option Value},s₁.heap.Ns b m→(hidT s₁.heap H).Ns b m:=fun {b m} ⟨o,es,ep,e,d,r⟩ => ⟨o,es,ep,base_of e (noA e d),d,r⟩
    have hKb:K.In (hidT s₁.heap H):=fun b o e => base_of (KX b o e) (by
      cases q:H b with
      | none => rfl
      | some u =>
        have e':b=a:=hA b (by rw [q]; simp)
        subst e'
        rw [hK (by rw [q]; simp)] at e; cases e)
    have hM:Mod K mg (hidT s₁.heap H):=⟨hKb,nsK hns,⟨mb,nsK hb,hbb⟩,let ⟨mc,h1,h2⟩:=hlim; ⟨mc,nsK h1,h2⟩⟩
    have e0:Env0 P w K mg (hidT s₁.heap H) callerA [] s₁ H:=⟨rfl,hM,fun b o e => of_hidT e,Nat.le_of_eq (hidT_size _ _),trivial,fun b hb => absurd (show b∈([]:List Addr) from hb) (by simp),hok,.of_eq hg⟩
    refine codeAny_mono ((F _ hKb (nsK hns)).run callerA [] s₁ H ⟨[.ref a],[]⟩ [.ref a] [.ref a] _ _ hr e0 (hbind s₁ (.ref a)) (.cons rfl .nil) (hsp H hO hS)) fun r s' h => ?_
    cases r with
    | error e => exact (hCX H e s' h).elim
    | ok fl =>
      cases fl with
      | next => exact False.elim h
      | brk => exact False.elim h
      | cont => exact False.elim h
      | ret u =>
        obtain ⟨v,H',os,bare,un,hok',r',q⟩:=h
        have q':v = .bl true:=q
        subst q'
        obtain rfl:u=Value.bool true:=r'
        refine ⟨rfl,OldK.of_keep fun b o e => ?_,os,bare⟩
        cases q:H b with
        | none => exact un.keep b o e q (by intro z; exact absurd (show b∈([]:List Addr) from z) (by simp)) (by simp)
        | some u =>
          rcases hO b with z | ⟨ob,xs,z⟩
          · rw [q] at z; cases z
          · have z2:=un.frzs b ob _ z
            obtain ⟨e1,_⟩:=hok b _ z
            obtain ⟨e2,_⟩:=hok' b _ z2
            rw [e] at e1; cases e1
            exact e2
  cases hk:K.lookup a with
  | some o =>
    have e:=KX a o hk
    rw [ha] at e
    cases e
    refine core (fun _ => none) (fun _ => .inl rfl) (.inr ⟨_,vs.toArray,_,hk,rfl,rfl,rfl,by rw [List.size_toArray,lenV]; exact hl,by simpa using rv⟩) (fun b u z => by have z':(none:Option HO)=some u:=z; cases z') (fun b z => absurd rfl z) fun z => absurd rfl z
  | none =>
    refine core (fun b => if b=a then some (.frz { cls:=.type "list",data:=.seq vs.toArray } (.lst (ns.map V.int))) else none) (fun b => ?_) (.inl (.inr ⟨{ cls:=.type "list",data:=.seq vs.toArray },if_pos rfl⟩)) (fun b u z => ?_) (fun b z => ?_) fun _ => hk
    · by_cases hb:b=a
      · exact .inr ⟨_,_,if_pos hb⟩
      · exact .inl (if_neg hb)
    · by_cases hb:b=a
      · have z':=(if_pos hb).symm.trans z
        cases z'
        subst hb
        exact ⟨ha,by rw [List.length_map]; exact hl,vs,_,rv,ha⟩
      · have z':=(if_neg hb).symm.trans z
        cases z'
    · by_cases hb:b=a
      · exact hb
      · exact absurd (if_neg hb) z
end L2
namespace L2
open PySem PySem.Spec PyProof.Rows
theorem walk_of {l:PySem.W.OpenLaw} {n k:Nat} {q:Program} {loose:List Str} {XP:(Str→Option Value)→Heap→Prop} {YP:World→Heap→Prop} {d:DefRec} {K:Params→PySem.W.Frag} {CX:World→CXT} {sp:World→Sp} {x:Str}
    (hn:l.most=some n) (hn2:n≤sizeLine) (hdf:d.params.defaults=[]) (hr:Room k callerA)
    (hY:∀ (w:World) (h:Heap),YP w h→(K w.params).In h)
    (F:∀ (w:World) (mg:Str→Option Value) (fa:Addr) (h:Heap),(K w.params).In h→h.Ns mainGlobals mg→mg d.name=some (.ref fa) →
      ∃ fd:FuncData,(∀ (s:Shared) (u:Value),BindsTo s fd ⟨[u],[]⟩ [(x,u)]) ∧
        ∀ base:Heap,(K w.params).In base→base.Ns mainGlobals mg→FnOk l.prog w (K w.params) mg base (CX w) k fa fd [x] (sp w))
    (hsp:∀ (w:World) (H:Hp) (a:Addr) (ns:List Int),ns.length≤n→Only H→SqL (K w.params) H a (ns.map V.int)→sp w [.ref a] H (fun v _ => v = .bl true) fun _ _ _ => False)
    (hCX:∀ (w:World) (H:Hp) (s:Shared) (e:Value) (s':Shared),CX w [] H s (fun _ _ _ => False) e s'→False) :
    PySem.W.WalkO q loose XP YP l.row.toRowW d [] (fun f vs => PySem.call f vs):=by
  refine Att.attach_call hn hdf fun w s₀ s₁ mg mb fa o pm cd doc a vs ns G Y ho hd hcd hmg hobj hints hlen hg => ?_
  have KX:=hY w _ Y
  obtain ⟨fd,hb,hF⟩:=F w mg fa _ KX G.T.g hmg
  exact law_call KX G.T.g G.T.b G.T.builtins G.T.nolimit hg hobj hints (Nat.le_trans hlen hn2) hr hF hb (fun H hO hS => hsp w H a ns hlen hO hS) fun H e s' => hCX w H s₁ e s'
end L2
namespace L2
open PySem PySem.Spec PyProof.Rows
def inClass (s:Stmt) (j:Nat):Stmt:=match s with
  | .ClassDef _ _ _ body _ _ _ _ _ _ _ => body.getD j (.Pass ⟨0,0,0,0⟩)
  | _ => .Pass ⟨0,0,0,0⟩
def defArgs (s:Stmt):Arguments:=match s with
  | .FunctionDef _ a _ _ _ _ _ _ _ _ => a
  | _ => { posonlyargs:=[],args:=[],vararg:=none,kwonlyargs:=[],kw_defaults:=[],kwarg:=none,defaults:=[] }
def defBody (s:Stmt):List Stmt:=match s with
  | .FunctionDef _ _ b _ _ _ _ _ _ _ => b
  | _ => []
def defScope (s:Stmt):Scope:=match s with
  | .FunctionDef _ _ _ _ _ _ sc _ _ _ => sc
  | _ => { kind:=.function,names:=[],isGenerator:=false,isCoroutine:=false }
abbrev CX0:CXT:=fun _ _ _ _ _ _ => False
abbrev E0:XK:=fun _ _ _ => False
theorem pass0 {X:Cx}:Passes CX0 X E0:=fun _ _ _ _ _ _ _ h => h.elim
structure Fun (K:PySem.W.Frag) (x qual:Str) (st:Stmt) (f:Addr) (fd:FuncData):Prop where
  ex:∃ (oc:Value) (od:Option Addr) (kV doc pm:Value) (an:Option Addr) (cdv ct:Value) (osl:Array (Option Value)),
    fd=PySem.W.fnOf x qual (defArgs st) (defBody st) (defScope st) .none kV doc pm an cdv ct∧K.lookup f=some ⟨oc,od,.func fd,osl⟩∧PySem.W.codeIn K cdv qual=true
  kp:PySem.W.keepIn K (.ref f)=true
section
variable {P:Program} {w:World} {K:PySem.W.Frag} {mg:Str→Option Value} {base:Heap}
theorem Fun.ok {x qual:Str} {st:Stmt} {f:Addr} {fd:FuncData} {N ps:List Str} {k:Nat} {sp:Sp} (F:Fun K x qual st f fd) (S:FnScope N ps (defScope st)) (len:∀ vs H Q E,sp vs H Q E→vs.length=ps.length)
    (hbody:∀ (cdv:Value) (A:Around) (outer:List Env) (s:Shared) (H:Hp) (vs:List V) (Q:VK) (E:XK),Room k (A.deeper (envOfC qual (defScope st) s.heap.objs.size f cdv))→sp vs H Q E →
      ∃ t,PSs (cxOf CX0 P w K mg base N qual (defScope st) f cdv A outer s H E).nox (defBody st) t∧t { nx:=fun _ H' => Q .non H',rt:=Q } (start N vs) H):FnOk P w K mg base CX0 (k + 1) f fd ps sp:=by
  obtain ⟨oc,od,kV,doc,pm,an,cdv,ct,osl,rfl,lk,hcd⟩:=F.ex
  refine fn_of lk hcd S len fun A outer s H vs Q E hr hsp => ?_
  obtain ⟨t,h,q⟩:=hbody cdv A outer s H vs Q E hr hsp
  exact ⟨t,h.nox,q⟩
theorem Fun.binds {x qual:Str} {st:Stmt} {f:Addr} {fd:FuncData} {ps:List Str} (F:Fun K x qual st f fd)
    (h:∀ (kV doc pm:Value) (an:Option Addr) (cdv ct:Value) (us:List Value),us.length=ps.length→bindArgs (PySem.W.fnOf x qual (defArgs st) (defBody st) (defScope st) .none kV doc pm an cdv ct) ⟨us,[]⟩ = pure (ps.zip us)):Binds K fd ps []:=by
  obtain ⟨oc,od,kV,doc,pm,an,cdv,ct,osl,rfl,lk,hcd⟩:=F.ex
  exact .all (h kV doc pm an cdv ct)
theorem fun_mk {x qual:Str} {st:Stmt} {f:Addr} {oc:Value} {od an:Option Addr} {osl:Array (Option Value)} {kV doc pm cdv ct:Value} (l:K.lookup f=some ⟨oc,od,.func (PySem.W.fnOf x qual (defArgs st) (defBody st) (defScope st) .none kV doc pm an cdv ct),osl⟩)
    (c:PySem.W.codeIn K cdv qual=true) (k:PySem.W.keepIn K (.ref f)=true):Fun K x qual st f (PySem.W.fnOf x qual (defArgs st) (defBody st) (defScope st) .none kV doc pm an cdv ct):=⟨⟨oc,od,kV,doc,pm,an,cdv,ct,osl,rfl,l,c⟩,k⟩
end
theorem small1000 {n:Nat} (h:n≤1000):n < sizeLine:=Nat.lt_of_le_of_lt h (by decide)
section
variable {X:Cx}
theorem pv (i:Nat) {x:Str} {pos:Pos} (hN:X.N[i]? = some x:=by rfl) (hv:Vis X.env.scope x:=by first | exact Or.inl rfl | exact Or.inr (Or.inl rfl) | exact Or.inr (Or.inr rfl)) (hd:(x == ("__debug__" : Str))=false:=by decide)
    (hcd:(x == ("__classdict__" : Str))=false:=by decide):PE X (.Name x pos) (tVar i):=pe_var hN hv hd hcd
end
theorem iteF {A B:Prop} (h:B):if false=true then A else B:=by
  rw [if_neg Bool.false_ne_true]
  exact h
theorem iteT {A B:Prop} (h:A):if true=true then A else B:=by
  rw [if_pos rfl]
  exact h
theorem ite2 {c A B:Prop} [Decidable c] (h1:c→A) (h2:¬ c→B):if c then A else B:=by
  by_cases h:c
  · rw [if_pos h]
    exact h1 h
  · rw [if_neg h]
    exact h2 h
theorem iteNS {c A B:Prop} [Decidable c] (hc:c) (h:B):if (!decide c)=true then A else B:=by
  rw [decide_eq_true hc]
  exact iteF h
def Same (H H':Hp):Prop := ∀ b o,H b=some o→H' b=some o
theorem Same.refl (H:Hp):Same H H:=fun _ _ h => h
theorem Same.trans {H H1 H2:Hp} (a:Same H H1) (b:Same H1 H2):Same H H2:=fun c o h => b c o (a c o h)
theorem Same.free {H H':Hp} (e:Same H H') {l:Addr} (h:H' l=Option.none):H l=Option.none:=by
  cases q:H l with
  | none => rfl
  | some o =>
    rw [e l o q] at h
    cases h
theorem Same.seq {K:PySem.W.Frag} {H H':Hp} {a:Addr} {xs:List V} (e:Same H H') (h:SqL K H a xs):SqL K H' a xs:=by
  rcases h with (h | ⟨o,h⟩) | h
  · exact .inl (.inl (e _ _ h))
  · exact .inl (.inr ⟨o,e _ _ h⟩)
  · exact .inr h
end L2
set_option linter.all false
namespace Rm
def hold (hs:List Int) (i:Nat):Int:=hs.getD i (-1)
structure Tree (hs:List Int):Prop where
  pos : 0 < hs.length
  root:hold hs 0 = -1
  up:∀ i:Nat,0 < i→i < hs.length→0≤hold hs i∧hold hs i < (i:Int)
def kids (hs:List Int) (k:Int):List Int:=((List.range hs.length).filter fun j => decide (hold hs j=k)).map fun (j:Nat) => (j:Int)
def chain (hs:List Int) (i:Nat):List Nat :=
  if h : 0≤hold hs i∧hold hs i < (i:Int) then i :: chain hs (hold hs i).toNat else [i]
termination_by i
decreasing_by omega
theorem chain_up {hs:List Int} {i:Nat} (h : 0≤hold hs i∧hold hs i < (i:Int)):chain hs i=i :: chain hs (hold hs i).toNat:=by
  rw [chain,dif_pos h]
theorem chain_top {hs:List Int} {i:Nat} (h:¬ 0≤hold hs i):chain hs i=[i]:=by
  rw [chain,dif_neg fun z => h z.1]
theorem chain_self (hs:List Int) (i:Nat):i∈chain hs i:=by
  rw [chain]; split <;> exact List.mem_cons_self
theorem chain_le {hs:List Int} {j:Nat}:∀ i:Nat,j∈chain hs i→j≤i:=by
  intro i
  induction i using Nat.strongRecOn with
  | ind i ih =>
    intro h
    by_cases z : 0≤hold hs i∧hold hs i < (i:Int)
    · rw [chain_up z] at h
      rcases List.mem_cons.mp h with h | h
      · omega
      · have:=ih (hold hs i).toNat (by omega) h
        omega
    · rw [chain,dif_neg z] at h
      have:=List.mem_singleton.mp h
      omega
def wi (hs:List Int) (i j:Nat):Bool:=decide (j∈chain hs i)
theorem wi_step {hs:List Int} {p j:Nat} (h : 0≤hold hs p∧hold hs p < (p:Int)) (hj:j < p):wi hs p j=wi hs (hold hs p).toNat j:=by
  unfold wi
  rw [chain_up h]
  refine decide_eq_decide.mpr ⟨fun z => ?_,fun z => List.mem_cons_of_mem _ z⟩
  rcases List.mem_cons.mp z with z | z
  · omega
  · exact z
theorem wi_end {hs:List Int} {p j:Nat} (hj:p≤j):wi hs p j=decide (p=j):=by
  unfold wi
  refine decide_eq_decide.mpr ⟨fun z => ?_,fun z => z ▸ chain_self hs p⟩
  have:=chain_le p z
  omega
theorem hold_lt {hs:List Int} (T:Tree hs) {i:Nat} (hi:i < hs.length):hold hs i < (i:Int):=by
  by_cases h:i=0
  · subst h; rw [T.root]; decide
  · exact (T.up i (by omega) hi).2
theorem range_filter_succ (p:Nat→Bool) (i:Nat):(List.range (i + 1)).filter p=(List.range i).filter p ++ (if p i=true then [i] else []):=by
  rw [List.range_succ,List.filter_append]
  cases h:p i <;> simp [h]
def cell (ns:List Int) (k:Nat):Int:=ns.getD k 0
end Rm
namespace Rm
theorem tail_lt {hs:List Int} {i j:Nat} (h:j∈(chain hs i).tail):j < i:=by
  by_cases z : 0≤hold hs i∧hold hs i < (i:Int)
  · rw [chain_up z] at h
    have:=chain_le _ h
    omega
  · rw [chain,dif_neg z] at h
    simp at h
def li (hs:List Int) (i j:Nat):Bool:=decide (j∈(chain hs i).tail)
theorem li_eq (hs:List Int) (i j:Nat):li hs i j=(!decide (i=j) && wi hs i j):=by
  have hc:chain hs i=i :: (chain hs i).tail:=by rw [chain]; split <;> rfl
  unfold li wi
  by_cases e:i=j
  · subst e
    have:¬ i∈(chain hs i).tail:=fun z => absurd (tail_lt z) (Nat.lt_irrefl _)
    simp [this]
  · have:j∈chain hs i ↔ j∈(chain hs i).tail:=by
      rw [hc]
      refine ⟨fun z => ?_,fun z => List.mem_cons_of_mem _ z⟩
      rcases List.mem_cons.mp z with z | z
      · exact absurd z.symm e
      · exact z
    simp [e,this]
def upper (hs:List Int) (h:Int):List Nat:=if 0≤h then chain hs h.toNat else []
theorem upper_neg (hs:List Int):upper hs (-1)=[]:=rfl
theorem tail_upper {hs:List Int} (T:Tree hs) {i:Nat} (hi:i < hs.length):(chain hs i).tail=upper hs (hold hs i):=by
  unfold upper
  by_cases z : 0≤hold hs i
  · rw [if_pos z,chain_up ⟨z,hold_lt T hi⟩]; rfl
  · rw [if_neg z,chain_top z]; rfl
theorem upper_step {hs:List Int} (T:Tree hs) {i:Nat} (hi:i < hs.length):upper hs (i:Int)=i :: upper hs (hold hs i):=by
  rw [← tail_upper T hi]
  unfold upper
  rw [if_pos (by omega),Int.toNat_natCast]
  rw [chain]; split <;> rfl
end Rm
namespace Rm
def kidsN (hs:List Int) (k:Nat):List Nat:=(List.range hs.length).filter fun j => decide (hold hs j=(k:Int))
theorem kids_kidsN (hs:List Int) (k:Nat):kids hs (k:Int)=(kidsN hs k).map fun (j:Nat) => (j:Int):=rfl
theorem mem_kidsN {hs:List Int} {j k:Nat}:j∈kidsN hs k ↔ j < hs.length∧hold hs j=(k:Int):=by
  unfold kidsN
  rw [List.mem_filter,List.mem_range,decide_eq_true_eq]
theorem kidsN_nodup (hs:List Int) (k:Nat):(kidsN hs k).Nodup:=List.Pairwise.filter _ List.nodup_range
theorem kid_gt {hs:List Int} (T:Tree hs) {j k:Nat} (h:j∈kidsN hs k):k < j:=by
  obtain ⟨h1,h2⟩:=mem_kidsN.mp h
  have:=hold_lt T h1
  omega
structure Pick (hs:List Int) (ch:Nat→List Nat):Prop where
  sub:∀ r,∀ c∈ch r,c∈kidsN hs r
  nd:∀ r,(ch r).Nodup
def ent (ch:Nat→List Nat):Nat→Nat→List Nat
  | 0,r => [r]
  | f + 1,r => r :: (ch r).flatMap (ent ch f)
theorem chain_mono {hs:List Int} {a b:Nat}:∀ k:Nat,a∈chain hs k→b∈chain hs k→a≤b→a∈chain hs b:=by
  intro k
  induction k using Nat.strongRecOn with
  | ind k ih =>
    intro ha hb hab
    by_cases z : 0≤hold hs k∧hold hs k < (k:Int)
    · rw [chain_up z] at hb
      rcases List.mem_cons.mp hb with e | hb
      · rw [e]; exact ha
      · rw [chain_up z] at ha
        rcases List.mem_cons.mp ha with e | ha
        · have:=chain_le _ hb
          omega
        · exact ih _ (by omega) ha hb hab
    · rw [chain,dif_neg z] at hb
      rw [List.mem_singleton.mp hb]; exact ha
theorem chain_kid {hs:List Int} (T:Tree hs) {c r:Nat} (h:c∈kidsN hs r):chain hs c=c :: chain hs r:=by
  obtain ⟨h1,h2⟩:=mem_kidsN.mp h
  have:=kid_gt T h
  rw [chain_up ⟨by omega,by omega⟩,h2,Int.toNat_natCast]
theorem chain_trans {hs:List Int} {a b:Nat}:∀ k:Nat,a∈chain hs b→b∈chain hs k→a∈chain hs k:=by
  intro k
  induction k using Nat.strongRecOn with
  | ind k ih =>
    intro ha hb
    by_cases z : 0≤hold hs k∧hold hs k < (k:Int)
    · rw [chain_up z] at hb
      rcases List.mem_cons.mp hb with e | hb
      · rw [← e]; exact ha
      · rw [chain_up z]; exact List.mem_cons_of_mem _ (ih _ (by omega) ha hb)
    · rw [chain,dif_neg z] at hb
      rw [← List.mem_singleton.mp hb]; exact ha
theorem ent_sub {hs:List Int} {ch:Nat→List Nat} (T:Tree hs) (P:Pick hs ch):∀ (f r k:Nat),r < hs.length→k∈ent ch f r→k < hs.length∧r∈chain hs k
  | 0,r,k,hr,h => by
    rw [List.mem_singleton.mp h]; exact ⟨hr,chain_self hs r⟩
  | f + 1,r,k,hr,h => by
    rcases List.mem_cons.mp h with e | h
    · rw [e]; exact ⟨hr,chain_self hs r⟩
    · obtain ⟨c,hc,hk⟩:=List.mem_flatMap.mp h
      have hc':=P.sub r c hc
      obtain ⟨a,b⟩:=ent_sub T P f c k (mem_kidsN.mp hc').1 hk
      refine ⟨a,chain_trans k ?_ b⟩
      rw [chain_kid T hc']; exact List.mem_cons_of_mem _ (chain_self hs r)
theorem ent_nodup {hs:List Int} {ch:Nat→List Nat} (T:Tree hs) (P:Pick hs ch):∀ (f r:Nat),r < hs.length→(ent ch f r).Nodup
  | 0,r,_ => by simp [ent]
  | f + 1,r,hr => by
    show (r :: (ch r).flatMap (ent ch f)).Nodup
    refine List.nodup_cons.mpr ⟨fun h => ?_,?_⟩
    · obtain ⟨c,hc,hk⟩:=List.mem_flatMap.mp h
      have hc':=P.sub r c hc
      have:=(ent_sub T P f c r (mem_kidsN.mp hc').1 hk).2
      have:=chain_le _ this
      have:=kid_gt T hc'
      omega
    · show List.Pairwise _ _
      rw [List.pairwise_flatMap]
      refine ⟨fun c hc => ent_nodup T P f c (mem_kidsN.mp (P.sub r c hc)).1,?_⟩
      refine (P.nd r).imp_of_mem fun {a b} ha hb hab x hx y hy e => ?_
      subst e
      have a':=P.sub r a ha
      have b':=P.sub r b hb
      have ca:=(ent_sub T P f a x (mem_kidsN.mp a').1 hx).2
      have cb:=(ent_sub T P f b x (mem_kidsN.mp b').1 hy).2
      have ga:=kid_gt T a'
      have gb:=kid_gt T b'
      rcases Nat.le_total a b with l | l
      · have:=chain_mono x ca cb l
        rw [chain_kid T b'] at this
        rcases List.mem_cons.mp this with e | e
        · exact hab e
        · have:=chain_le _ e
          omega
      · have:=chain_mono x cb ca l
        rw [chain_kid T a'] at this
        rcases List.mem_cons.mp this with e | e
        · exact hab e.symm
        · have:=chain_le _ e
          omega
theorem ent_len {hs:List Int} {ch:Nat→List Nat} (T:Tree hs) (P:Pick hs ch) (f r:Nat) (hr:r < hs.length):(ent ch f r).length≤hs.length:=by
  have h:=(ent_nodup T P f r hr).length_le_of_subset (l₂:=List.range hs.length) fun k hk => List.mem_range.mpr (ent_sub T P f r k hr hk).1
  rwa [List.length_range] at h
def kb (ok:Nat→Nat→Bool) (hs:List Int) (k:Nat):Bool :=
  if h : 0≤hold hs k∧hold hs k < (k:Int) then kb ok hs (hold hs k).toNat && ok (hold hs k).toNat k else decide (k=0)
termination_by k
decreasing_by omega
theorem kb_root {ok:Nat→Nat→Bool} {hs:List Int} (T:Tree hs):kb ok hs 0=true:=by
  rw [kb,dif_neg (by rw [T.root]; decide)]; rfl
theorem kb_up {ok:Nat→Nat→Bool} {hs:List Int} (T:Tree hs) {k:Nat} (h0 : 0 < k) (hk:k < hs.length):kb ok hs k=(kb ok hs (hold hs k).toNat && ok (hold hs k).toNat k):=by
  rw [kb,dif_pos (T.up k h0 hk)]
theorem ent_next {hs:List Int} {ch:Nat→List Nat} (T:Tree hs) (P:Pick hs ch):∀ (f r p k:Nat),r < hs.length→hs.length≤f + r→p∈ent ch f r→k∈ch p→k∈ent ch f r
  | 0,r,p,k,hr,hf,_,_ => absurd hr (by omega)
  | f + 1,r,p,k,hr,hf,hp,hk => by
    rcases List.mem_cons.mp hp with e | hp
    · subst e
      refine List.mem_cons_of_mem _ (List.mem_flatMap.mpr ⟨k,hk,?_⟩)
      cases f with
      | zero => exact List.mem_singleton.mpr rfl
      | succ f => exact List.mem_cons_self
    · obtain ⟨c,hc,hp⟩:=List.mem_flatMap.mp hp
      have hc':=P.sub r c hc
      have:=kid_gt T hc'
      exact List.mem_cons_of_mem _ (List.mem_flatMap.mpr ⟨c,hc,ent_next T P f c p k (mem_kidsN.mp hc').1 (by omega) hp hk⟩)
theorem ent_back {hs:List Int} {ch:Nat→List Nat} (T:Tree hs) (P:Pick hs ch):∀ (f r k:Nat),r < hs.length→k∈ent ch f r→k=r∨(k∈ch (hold hs k).toNat∧(hold hs k).toNat∈ent ch f r∧0 < k)
  | 0,r,k,hr,h => .inl (List.mem_singleton.mp h)
  | f + 1,r,k,hr,h => by
    rcases List.mem_cons.mp h with e | h
    · exact .inl e
    · obtain ⟨c,hc,hk⟩:=List.mem_flatMap.mp h
      have hc':=P.sub r c hc
      obtain ⟨c1,c2⟩:=mem_kidsN.mp hc'
      have:=kid_gt T hc'
      rcases ent_back T P f c k c1 hk with e | ⟨a,b,d⟩
      · subst e
        refine .inr ⟨by rw [c2,Int.toNat_natCast]; exact hc,?_,by omega⟩
        rw [c2,Int.toNat_natCast]; exact List.mem_cons_self
      · exact .inr ⟨a,List.mem_cons_of_mem _ (List.mem_flatMap.mpr ⟨c,hc,b⟩),d⟩
theorem ent_iff {hs:List Int} {ch:Nat→List Nat} {ok:Nat→Nat→Bool} (T:Tree hs) (P:Pick hs ch) {f:Nat} (hf:hs.length≤f) (hok:∀ k,0 < k→k < hs.length→(ok (hold hs k).toNat k=true ↔ k∈ch (hold hs k).toNat)) :
    ∀ k,k∈ent ch f 0 ↔ k < hs.length∧kb ok hs k=true:=by
  intro k
  induction k using Nat.strongRecOn with
  | ind k ih =>
    constructor
    · intro h
      have hk:=(ent_sub T P f 0 k T.pos h).1
      refine ⟨hk,?_⟩
      rcases ent_back T P f 0 k T.pos h with e | ⟨a,b,d⟩
      · rw [e]; exact kb_root T
      · have hu:=T.up k d hk
        rw [kb_up T d hk,((ih _ (by omega)).mp b).2,(hok k d hk).mpr a]; rfl
    · rintro ⟨hk,h⟩
      by_cases z:k=0
      · subst z
        cases f with
        | zero => exact List.mem_singleton.mpr rfl
        | succ f => exact List.mem_cons_self
      · have hu:=T.up k (by omega) hk
        rw [kb_up T (by omega) hk,Bool.and_eq_true] at h
        exact ent_next T P f 0 _ k T.pos (by omega) ((ih _ (by omega)).mpr ⟨by omega,h.1⟩) ((hok k (by omega) hk).mp h.2)
theorem ent_sorted {hs:List Int} {ch:Nat→List Nat} {ok:Nat→Nat→Bool} (T:Tree hs) (P:Pick hs ch) {f:Nat} (hf:hs.length≤f) (hok:∀ k,0 < k→k < hs.length→(ok (hold hs k).toNat k=true ↔ k∈ch (hold hs k).toNat))
    {ns:List Int} (hp:ns.Perm ((ent ch f 0).map fun (j:Nat) => (j:Int))) (hs':ns.Pairwise (·≤·)):ns=((List.range hs.length).filter (kb ok hs)).map fun (j:Nat) => (j:Int):=by
  have hq:(ent ch f 0).Perm ((List.range hs.length).filter (kb ok hs)):=by
    refine (List.perm_ext_iff_of_nodup (ent_nodup T P f 0 T.pos) (List.Pairwise.filter _ List.nodup_range)).mpr fun k => ?_
    rw [ent_iff T P hf hok,List.mem_filter,List.mem_range]
  refine (hp.trans (hq.map _)).eq_of_pairwise (fun a b _ _ h1 h2 => Int.le_antisymm h1 h2) hs' ?_
  rw [List.pairwise_map]
  exact (List.Pairwise.filter _ List.pairwise_lt_range).imp fun h => by omega
end Rm
set_option Elab.async false
set_option linter.all false
set_option maxRecDepth 100000
set_option maxHeartbeats 4000000
namespace L2
open PySem PySem.Spec PyProof.Rows
mutual
inductive RdV (K:PySem.W.Frag) (H:Hp):V→PyData→Prop
  | non:RdV K H .non .none
  | bl (b:Bool):RdV K H (.bl b) (.bool b)
  | int (i:Int):RdV K H (.int i) (.int i)
  | str (x:Str):RdV K H (.str x) (.str x)
  | lst {a:Addr} {xs:List V} {ds:List PyData}:SqL K H a xs→RdVs K H xs ds→RdV K H (.ref a) (.list ds)
  | tup {a:Addr} {xs:List V} {ds:List PyData}:SqT K H a xs→RdVs K H xs ds→RdV K H (.ref a) (.tuple ds)
inductive RdVs (K:PySem.W.Frag) (H:Hp):List V→List PyData→Prop
  | nil:RdVs K H [] []
  | cons {x:V} {d:PyData} {xs:List V} {ds:List PyData}:RdV K H x d→RdVs K H xs ds→RdVs K H (x :: xs) (d :: ds)
end
section
variable {X:Cx} {pins:List (Addr×Obj)} {σ : St} {H:Hp} {s:Shared}
mutual
theorem RdV.reads (I:Inv X pins σ H s):∀ {v:V} {d:PyData} {u:Value},RdV X.K H v d→RelV v u→∃ as,Reads s.heap u d as
  | _,_,u,.non,r => by
    cases (show u=Value.none from r)
    exact ⟨_,.none⟩
  | _,_,u,.bl b,r => by
    cases (show u=Value.bool b from r)
    exact ⟨_,.bool b⟩
  | _,_,u,.int i,r => by
    obtain ⟨t,q⟩:=(show ∃ t,u=Value.int i t from r)
    cases q
    exact ⟨_,.int i t⟩
  | _,_,u,.str x,r => by
    obtain ⟨t,q⟩:=(show ∃ t,u=Value.str x t from r)
    cases q
    exact ⟨_,.str x t⟩
  | _,_,u,.lst (a:=a) h hs,r => by
    cases (show u=Value.ref a from r)
    obtain ⟨its,rv,p,_⟩:=I.list h
    obtain ⟨o,ho,hc,n,hd⟩:=p.isList
    obtain ⟨as,q⟩:=RdVs.reads I hs rv
    exact ⟨_,.list ho hc hd (by simpa using q)⟩
  | _,_,u,.tup (a:=a) h hs,r => by
    cases (show u=Value.ref a from r)
    obtain ⟨its,rv,p,_⟩:=I.tuple h
    obtain ⟨o,ho,hc,n,hd⟩:=p
    obtain ⟨as,q⟩:=RdVs.reads I hs rv
    exact ⟨_,.tuple ho hc hd (by simpa using q)⟩
theorem RdVs.reads (I:Inv X pins σ H s):∀ {vs:List V} {ds:List PyData} {us:List Value},RdVs X.K H vs ds→Vals vs us→∃ as,ReadsAll s.heap us ds as
  | _,_,_,.nil,.nil => ⟨_,.nil⟩
  | _,_,_,.cons h hs,.cons r rs => by
    obtain ⟨as,q⟩:=RdV.reads I h r
    obtain ⟨bs,q'⟩:=RdVs.reads I hs rs
    exact ⟨_,.cons q q'⟩
end
theorem call_isinst:CallR X (.builtin "isinstance") (fun xs H Q => ∃ x n t b,xs=[x,.ty n]∧TyOf X.K H x t∧PySem.W.kitOne X.K t (.type n)=some b∧Q (.bl b) H):=by
  intro pins s σ H xs us Q I r h
  obtain ⟨x,n,t,b,rfl,ty,e,q⟩:=h
  obtain ⟨u,u',rfl,rx,ry⟩:=Vals.two r
  cases (show u'=Value.type n from ry)
  exact isinst_ok I rx ty e fun tk => ⟨.bl b,H,I.tok tk,rfl,q⟩
end
theorem call_sorted {X:Cx}:CallR X (.builtin "sorted") (fun xs H Q => ∃ p ns,xs=[.ref p]∧SqL X.K H p (ns.map V.int)∧ns.length < 64 ∧
    ∀ l (ns':List Int),H l=none→ns'.Perm ns→ns'.Pairwise (·≤·)→Q (.ref l) (upd H l (.lst (ns'.map V.int)))):=by
  intro pins s σ H xs us Q I r h
  obtain ⟨p,ns,rfl,hq,h64,q⟩:=h
  obtain ⟨u,rfl,ru⟩:=Vals.one r
  cases (show u=Value.ref p from ru)
  obtain ⟨its,rv,pl,hz⟩:=I.list hq
  have hl:=rv.length
  rw [List.length_map] at hl
  refine sorted_ints pl.isList (intsAre_of rv) (by omega) fun out ns' a1 a2 a3 => ?_
  obtain ⟨e,he⟩:=sortedAll_at s.heap its out
  have hn:=a2.length_eq
  have sml:(ns'.map V.int).length≤sizeLine:=by
    rw [List.length_map]
    exact Nat.le_of_lt (Nat.lt_of_lt_of_le (show ns'.length < 64 by omega) (by decide))
  exact ⟨.ref _,_,I.laid (o:=.lst (ns'.map V.int)) (t':=s.toks) (fun b o z => sortedAll_old z) (Nat.le_succ _) ⟨sml,out.toList,e,vals_ints a1,he⟩,rfl,q _ ns' (I.hok.fresh (Nat.le_succ _)) a2 a3⟩
structure Bk where
  cl:List (Str×Addr)
  C:Addr
  s:Shared
  H:Hp
  fp:List Addr
  pn:List (Addr×Obj)
def Cx.blk (X:Cx) (N':List Str) (sc:Scope) (b:Bk):Cx where
  prog:=X.prog
  w:=X.w
  K:=X.K
  mg:=X.mg
  base:=X.base
  A:=X.A
  N:=N'
  s₀:=b.s
  H₀:=b.H
  env:=compEnvC sc b.cl b.C X.env
  outer:=X.stack
  stack:=X.stack
  ex:=b.fp
  fn:=fun _ => false
  calm:=X.calm
  pn:=b.pn
  xe:=fun _ _ => False
def bst (ix:List (Option Nat)) (σ : St):St:=ix.map fun o => match o with
  | none => none
  | some j => (σ[j]?).getD none
def fromB (N:List Str) (names:List (Str×NameKind)):List Str→List (Option Nat)→Bool
  | x :: r,some j :: t => decide (N[j]? = some x) && decide (names.lookup x=some .free) && fromB N names r t
  | _ :: r,none :: t => fromB N names r t
  | [],[] => true
  | _,_ => false
theorem fromB_ok {N:List Str} {names:List (Str×NameKind)}:∀ {N':List Str} {ix:List (Option Nat)},fromB N names N' ix=true →
    ix.length=N'.length∧∀ (i j:Nat) (x:Str),N'[i]? = some x→ix[i]? = some (some j)→N[j]? = some x∧names.lookup x=some .free
  | [],[],_ => ⟨rfl,fun i j x e _ => by simp at e⟩
  | x :: r,some j :: t,h => by
    simp only [fromB,Bool.and_eq_true,decide_eq_true_eq] at h
    obtain ⟨hl,hf⟩:=fromB_ok (N':=r) (ix:=t) h.2
    refine ⟨by simp [hl],fun i k y e1 e2 => ?_⟩
    cases i with
    | zero =>
      simp at e1 e2
      subst e1 e2
      exact h.1
    | succ i => exact hf i k y (by simpa using e1) (by simpa using e2)
  | x :: r,none :: t,h => by
    simp only [fromB] at h
    obtain ⟨hl,hf⟩:=fromB_ok (N':=r) (ix:=t) h
    refine ⟨by simp [hl],fun i k y e1 e2 => ?_⟩
    cases i with
    | zero => simp at e2
    | succ i => exact hf i k y (by simpa using e1) (by simpa using e2)
  | [],some _ :: _,h => by simp [fromB] at h
  | [],none :: _,h => by simp [fromB] at h
  | _ :: _,[],h => by simp [fromB] at h
theorem forIn_pure {α β : Type} {f : α→β→Sem (ForInStep β)} (Pv:List α→β→Prop) (hs:∀ x l b,Pv (x :: l) b→∃ b',f x b=pure (.yield b')∧Pv l b') :
    ∀ (l:List α) (b : β),Pv l b→∃ b',forIn l b f=pure b'∧Pv [] b'
  | [],b,h => ⟨b,rfl,h⟩
  | x :: l,b,h => by
    obtain ⟨b1,e1,h1⟩:=hs x l b h
    obtain ⟨b2,e2,h2⟩:=forIn_pure Pv hs l b1 h1
    refine ⟨b2,?_,h2⟩
    rw [List.forIn_cons,e1,pure_bind]
    exact e2
def cstep (env:Env) (x:Str×NameKind) (r:List (Str×Addr)):Sem (ForInStep (List (Str×Addr))) :=
  if x.2 == .free then (do let c ← cellOf env x.1; pure (.yield ((x.1,c) :: r))) else pure (.yield r)
theorem closure_step (sc:Scope) (env:Env):closureFor sc env=(forIn sc.names [] (cstep env) >>= fun cs => pure cs):=by rfl
theorem closure_of {sc:Scope} {env:Env} (h:∀ p∈sc.names,p.2 = .free→∃ c,env.cells.lookup p.1=some c) :
    ∃ cl,closureFor sc env=pure cl∧(∀ x c,cl.lookup x=some c→env.cells.lookup x=some c)∧∀ p∈sc.names,p.2 = .free→∃ c,cl.lookup p.1=some c:=by
  obtain ⟨cl,e,_,h1,h2⟩:=forIn_pure (f:=cstep env)
    (fun l (b:List (Str×Addr)) => (∀ p∈l,p∈sc.names)∧(∀ x c,b.lookup x=some c→env.cells.lookup x=some c)∧∀ p∈sc.names,p.2 = .free→p∈l∨∃ c,b.lookup p.1=some c)
    (fun p l b ⟨g0,g1,g2⟩ => by
      unfold cstep
      by_cases hk:p.2 = .free
      · obtain ⟨c,hc⟩:=h p (g0 p List.mem_cons_self) hk
        have ec:cellOf env p.1=pure c:=by unfold cellOf; rw [hc]
        rw [hk,if_pos (by decide),ec,pure_bind]
        refine ⟨_,rfl,fun q hq => g0 q (List.mem_cons_of_mem _ hq),fun x d e => ?_,fun q hq hf => ?_⟩
        · rw [List.lookup_cons] at e
          cases hx:x == p.1 with
          | true =>
            rw [hx] at e
            cases e
            rw [eq_of_beq hx]; exact hc
          | false =>
            rw [hx] at e
            exact g1 x d e
        · rcases g2 q hq hf with z | ⟨d,hd⟩
          · rcases List.mem_cons.mp z with z | z
            · subst z
              exact .inr ⟨c,by rw [List.lookup_cons,beq_self_eq_true]⟩
            · exact .inl z
          · refine .inr ?_
            rw [List.lookup_cons]
            cases hx:q.1 == p.1 with
            | true => exact ⟨c,rfl⟩
            | false => exact ⟨d,hd⟩
      · rw [if_neg (by simpa using hk)]
        refine ⟨_,rfl,fun q hq => g0 q (List.mem_cons_of_mem _ hq),g1,fun q hq hf => ?_⟩
        rcases g2 q hq hf with z | z
        · rcases List.mem_cons.mp z with z | z
          · subst z; exact absurd hf hk
          · exact .inl z
        · exact .inr z)
    sc.names [] ⟨fun _ z => z,fun x c e => by simp at e,fun p hp _ => .inl hp⟩
  refine ⟨cl,?_,h1,fun p hp hf => (h2 p hp hf).elim (fun z => by simp at z) id⟩
  rw [closure_step,e,pure_bind]
theorem lookup_mem {names:List (Str×NameKind)} {x:Str} {k:NameKind}:names.lookup x=some k→(x,k)∈names:=by
  induction names with
  | nil => intro e; simp at e
  | cons p r ih =>
    intro e
    rw [List.lookup_cons] at e
    cases hx:x == p.1 with
    | true =>
      rw [hx] at e
      cases e
      rw [eq_of_beq hx]; exact List.mem_cons_self
    | false =>
      rw [hx] at e
      exact List.mem_cons_of_mem _ (ih e)
theorem relabel_eq (sc:Scope) (env:Env):(relabel sc env).names=sc.names.map fun p => (p.1,if (p.2 == .free && env.scope.kind == .function && env.kindOf p.1 == some .cell)=true then NameKind.cell else p.2):=by
  show (sc.names.map _)=_
  refine List.map_congr_left fun p _ => ?_
  obtain ⟨n,k⟩:=p
  dsimp only
  split <;> rfl
theorem relabel_in {sc:Scope} {env:Env} {x:Str} {k:NameKind} (hc:∀ y∈sc.names,y.2≠.cell) (h:(relabel sc env).names.lookup x=some k) (hk:k = .cell∨k = .free):(x,NameKind.free)∈sc.names:=by
  have hm:=lookup_mem h
  rw [relabel_eq] at hm
  obtain ⟨p,hp,e⟩:=List.mem_map.mp hm
  obtain ⟨n,k'⟩:=p
  injection e with e1 e2
  dsimp only at e1 e2
  subst e1
  have hk':k' = .free:=by
    by_cases z:(k' == NameKind.free && env.scope.kind == .function && env.kindOf n == some .cell)=true
    · have z':=(Bool.and_eq_true_iff.mp (Bool.and_eq_true_iff.mp z).1).1
      exact eq_of_beq z'
    · rw [if_neg z] at e2
      rcases hk with w | w
      · exact absurd (e2.trans w) (hc _ hp)
      · exact e2.trans w
  subst hk'
  exact hp
theorem relabel_notlocal {sc:Scope} {env:Env} {x:Str} (hf:sc.names.lookup x=some .free):(relabel sc env).names.lookup x≠some .local:=by
  have key:∀ (g:Str→NameKind→NameKind) (l:List (Str×NameKind)),(l.map fun p => (p.1,g p.1 p.2)).lookup x=(l.lookup x).map (g x):=by
    intro g l
    induction l with
    | nil => rfl
    | cons p r ih =>
      rw [List.map_cons,List.lookup_cons,List.lookup_cons]
      cases hx:x == p.1 with
      | true => rw [eq_of_beq hx]; rfl
      | false => exact ih
  rw [relabel_eq,key fun n k => if (k == .free && env.scope.kind == .function && env.kindOf n == some .cell)=true then NameKind.cell else k,hf]
  intro z
  simp only [Option.map_some] at z
  split at z <;> cases z
def PTs (X:Cx) (ifs:List Expr) (t:TT):Prop :=
  ∀ (pins:List (Addr×Obj)) (s:Shared) (σ : St) (H:Hp) (Q:Bool→Hp→Prop),Inv X pins σ H s→t σ H Q →
    wpAny (model X.prog X.w) X.A (forIn ifs true fun c r => if r=true then do let ok ← isTrue c X.env (eval c X.env); pure (ForInStep.yield ok) else pure (ForInStep.yield r)) (TP X pins σ Q) X.xe s
def tYes:TT:=fun _ H Q => Q true H
theorem pts_nil {X:Cx}:PTs X [] tYes:=fun _ _ _ H _ I h => wpAny_tests_nil ⟨H,I,h⟩
theorem pts_one {X:Cx} {c:Expr} {t:TT} (h:PT X c t):PTs X [c] t:=fun pins s σ H Q I q => wpAny_tests_one (h pins s σ H Q I q)
def tLoop (J:It) (g:TG) (tt:TT) (te:TE) (D:Addr) (Q:VK) (σ : St) (H:Hp):Prop :=
  ∃ W:Nat→Nat→St→Hp→Prop,(∃ m,W 0 m σ H)∧∀ i m σ H,W i m σ H→(J.stop i H∧Q (.ref D) H)∨(J.go i H∧∃ (N1:V→St→Hp→Prop) (N2:St→Hp→Prop),
    (∀ y σ' H',N1 y σ' H'→∃ ys,H' D=some (.lst ys)∧ys.length < sizeLine∧∃ m',m' < m∧W (i + 1) m' σ' (upd H' D (.lst (ys ++ [y]))))∧(∀ σ' H',N2 σ' H'→∃ m',m' < m∧W (i + 1) m' σ' H') ∧
    ∀ x H',J.yld i H x H'→g x σ H' fun σ2 H2 => tt σ2 H2 fun b H3 => if b=true then te σ2 H3 (fun y H4 => N1 y σ2 H4) else N2 σ2 H3)
def tComp (wi:TI) (ix:List (Option Nat)) (g:Bk→TG) (tt:Bk→TT) (te:Bk→TE):TE:=fun σ H Q => wi σ H fun J H1 => ∀ (b:Bk) D,H1 D=none→tLoop J (g b) (tt b) (te b) D Q (bst ix σ) (upd H1 D (.lst []))
section
variable {X:Cx}
theorem blk_run {tg elt iter:Expr} {ifs:List Expr} {sc:Scope} {pos:Pos} {N':List Str} {ix:List (Option Nat)} {g:Bk→TG} {tt:Bk→TT} {te:Bk→TE} {Q:VK} {pins:List (Addr×Obj)} {σ : St} {H:Hp} {s:Shared} {it:Addr} {fp:List Addr} {tn:Nat→Heap→Prop} {J:It} {cl:List (Str×Addr)}
    {RR:Value→Addr→Result→Shared→Prop} {E:Value→Shared→Prop}
    (hc:X.calm=true) (hkind:sc.kind = .function) (hcell:∀ y∈sc.names,y.2≠.cell) (hfree:∀ p∈sc.names,p.2 = .free→X.env.kindOf p.1=some .cell) (hfrom:fromB X.N sc.names N' ix=true)
    (hg:∀ b:Bk,PG (X.blk N' sc b) tg (g b)) (ht:∀ b:Bk,PTs (X.blk N' sc b) ifs (tt b)) (he:∀ b:Bk,PE (X.blk N' sc b) elt (te b))
    (hcl:∀ x c,cl.lookup x=some c→X.env.cells.lookup x=some c) (hcl2:∀ p∈sc.names,p.2 = .free→∃ c,cl.lookup p.1=some c)
    (I:Inv X pins σ H s) (T:Turn X.prog X.w X.K tg J fp it tn) (st:tn 0 s.heap) (f2:∀ b∈fp,FpOk X pins H b) (q:∀ (b:Bk) D,H D=none→tLoop J (g b) (tt b) (te b) D Q (bst ix σ) (upd H D (.lst [])))
    (hRR:∀ D C (s':Shared) H',Inv X pins σ H' s'→Q (.ref D) H'→(∃ m,s'.heap.Ns C m)→H' C=none→C≠X.env.locals→X.s₀.heap.objs.size≤C→(∀ x c,X.env.cells.lookup x=some c→c≠C)→(∀ p∈X.pn ++ pins,p.1≠C)→RR (.ref D) C (.ok .next) s') :
    wpAny (model X.prog X.w) X.A (newList []) (fun acc s3 => wpAny (model X.prog X.w) X.A (newFunctionEnv sc X.env.globals cl [] X.env.qual none .none (some X.env)) (fun cenv s4 =>
      codeAny (model X.prog X.w) X.A (.compStart (.ListComp elt [⟨tg,iter,ifs,0⟩] sc pos) 0 (.ref it) acc { cenv with scope:=relabel sc X.env }) (RR acc cenv.locals) s4) E s3) E s:=by
  refine wpAny_newObj_type (wpAny_newFunctionEnv hcell (by intro y hy; simp at hy) (fun h1 hns hsb => ?_) hkind)
  dsimp only at hns hsb ⊢
  have I3:Inv X pins σ (upd H s.heap.objs.size (.lst [])) { s with heap:=s.heap.push { cls:=.type "list",dict:=none,data:=.seq ([]:List Value).toArray } } :=
    I.lnew (t':=s.toks) (ys:=[]) (its:=[]) .nil (by show 0≤sizeLine; decide)
  have hD:H s.heap.objs.size=none:=I.fresh
  generalize hDn:s.heap.objs.size=D at hns hsb I3 hD ⊢
  generalize hh:s.heap.push { cls:=.type "list",dict:=none,data:=.seq ([]:List Value).toArray } = hp at hns hsb I3 ⊢
  generalize hH3:upd H D (.lst [])=H3 at I3 ⊢
  generalize hCn:hp.objs.size=C at hns hsb ⊢
  have hDC:D < C:=by rw [← hCn,← hh,Heap.size_push,hDn]; exact Nat.lt_succ_self _
  have old:∀ b o,hp.get? b=some o→h1.get? b=some o:=fun b o e => hsb.extBut b o (by rw [← hCn]; exact Nat.ne_of_lt (Heap.lt_size e)) (Heap.get?_push_of_some _ e)
  have old0:∀ b o,s.heap.get? b=some o→hp.get? b=some o:=fun b o e => by rw [← hh]; exact Heap.get?_push_of_some _ e
  have fpLt:∀ b∈fp,b < D:=fun b hb => by
    obtain ⟨o,e,_⟩:=T.obj _ _ st b hb
    rw [← hDn]; exact Heap.lt_size e
  have I3s:Inv X pins σ H3 { s with heap:=hp }:=I3
  let B:Bk:=⟨cl,C,{ s with heap:=hp },H3,fp,X.pn ++ pins⟩
  have cellX:∀ x c,cl.lookup x=some c→c≠C∧∀ b∈fp,c≠b:=fun x c e => by
    obtain ⟨v,z⟩:=I3s.cell x c (hcl x c e)
    exact ⟨by rw [← hCn]; exact Nat.ne_of_lt z.lt,fun b hb => (f2 b hb).2.2.2.2.1 x c (hcl x c e)⟩
  have okY:(X.blk N' sc B).Ok:=by
    refine ⟨I.ok.mod,hkind,I.ok.glob,I.ok.blt,?_,fun x y c a b => I.ok.inj x y c (hcl x c a) (hcl y c b),fun x hx => ?_,(fun x c (a:false=true) => (nomatch a)),I.ok.hd,I.ok.frames,.inl rfl,fun b hb => ?_,fun b o e => ?_,?_,fun b o e hb => ?_,fun b hb z => ?_,I3s.stack,I3s.stkFree⟩
    · show hp.objs.size≤C
      rw [hCn]; exact Nat.le_refl _
    · have hx':(relabel sc X.env).names.lookup x=some .cell∨(relabel sc X.env).names.lookup x=some .free:=hx
      rcases hx' with z | z
      · exact hcl2 _ (relabel_in hcell z (.inl rfl)) rfl
      · exact hcl2 _ (relabel_in hcell z (.inr rfl)) rfl
    · exact ⟨Nat.ne_of_lt (Nat.lt_trans (fpLt b hb) hDC),fun x c e => (cellX x c e).2 b hb⟩
    · obtain ⟨z1,z2⟩:=I3s.bs b o e
      exact ⟨z1,z2⟩
    · exact Nat.le_trans I.ok.bsz I3s.sz
    · rcases (f2 b hb).2.2.2.1 with z | z
      · exact I.ok.noex b o e z
      · exact absurd (Nat.lt_of_lt_of_le (Heap.lt_size (h:=X.base) e) (Nat.le_trans I.ok.bsz z)) (Nat.lt_irrefl _)
    · rcases List.mem_cons.mp (I.stkSub b z) with w | w
      · exact (f2 b hb).2.1 w
      · exact (f2 b hb).2.2.1 w
  have frC:∀ b∈frs X.stack,b≠C:=fun b hb => by
    obtain ⟨_,o,ho,_⟩:=I3s.stack.mem hb
    rw [← hCn]; exact Nat.ne_of_lt (Heap.lt_size (h:=hp) ho)
  obtain ⟨hlen,hix⟩:=fromB_ok hfrom
  have IY:Inv (X.blk N' sc B) [] (bst ix σ) H3 { s with heap:=h1,toks:=s.toks + ([]:List (Str×Value)).length }:=by
    refine ⟨okY,rfl,I.bare,Un.kept old,⟨_,hns,fun i x v e1 e2 e3 => ?_⟩,fun x c e => ?_,I3s.hok.fresh (by show hp.objs.size≤C; rw [hCn]; exact Nat.le_refl _),fun x c e => I3s.freeC x c (hcl x c e),fun p hp' => ?_,I3s.hok.kept old,by show (bst ix σ).length=N'.length; rw [← hlen]; simp [bst]⟩
    · have e1':N'[i]? = some x:=e1
      unfold bst at e2
      rw [List.getElem?_map] at e2
      cases hi:ix[i]? with
      | none => rw [hi] at e2; cases e2
      | some o =>
        rw [hi] at e2
        cases o with
        | none => cases e2
        | some j =>
          obtain ⟨hj,hfr⟩:=hix i j x e1' hi
          have e2':(σ[j]?).getD none=some v:=Option.some.inj e2
          have e4 : σ[j]? = some (some v):=by
            cases z : σ[j]? with
            | none => rw [z] at e2'; cases e2'
            | some w => rw [z] at e2'; exact congrArg some e2'
          have hkX:=hfree _ (lookup_mem hfr) rfl
          obtain ⟨m,hn,hl⟩:=I3s.loc
          obtain ⟨u,r,l⟩:=hl j x v hj e4 (.inr (.inl hkX))
          refine ⟨u,r,.inr ⟨?_,?_⟩⟩
          · have e3':(relabel sc X.env).names.lookup x=some .local∨(relabel sc X.env).names.lookup x=some .cell∨(relabel sc X.env).names.lookup x=some .free:=e3
            rcases e3' with z | z
            · exact absurd z (relabel_notlocal hfr)
            · exact z
          · obtain ⟨c,hc'⟩:=hcl2 _ (lookup_mem hfr) rfl
            refine ⟨c,hc',?_⟩
            rcases l with ⟨z,_⟩ | ⟨_,d,hd,hcell'⟩
            · rw [hkX] at z; cases z
            · rw [hcl x c hc'] at hd
              cases hd
              obtain ⟨o,ho,hod⟩:=hcell'
              exact ⟨o,old _ o ho,hod⟩
    · obtain ⟨v,o,ho,hod⟩:=I3s.cell x c (hcl x c e)
      exact ⟨v,o,old _ o ho,hod⟩
    · have hp'':p∈X.pn ++ pins:=by simpa [Cx.blk,B] using hp'
      obtain ⟨z1,z2,z3,z4,z5⟩:=I3s.pin p hp''
      refine ⟨old _ _ z1,z2,by show p.1≠C; rw [← hCn]; exact Nat.ne_of_lt (Heap.lt_size (h:=hp) z1),fun z => ?_,z5⟩
      rcases List.mem_cons.mp (I.stkSub p.1 z) with w | w
      · exact z3 w
      · exact z4 w
  have st1:tn 0 h1:=T.keep _ _ _ st fun b _ o e => old b o (old0 b o e)
  have fpY:∀ {H':Hp},(∀ b∈fp,H' b=none)→∀ b∈fp,FpOk (X.blk N' sc B) [] H' b:=fun hn b hb => by
    refine ⟨hn b hb,Nat.ne_of_lt (Nat.lt_trans (fpLt b hb) hDC),okY.exfs b hb,.inl hb,fun x c e => (cellX x c e).2 b hb,fun p hp' => ?_⟩
    have hp'':p∈X.pn ++ pins:=by simpa [Cx.blk,B] using hp'
    exact (f2 b hb).2.2.2.2.2 p hp''
  have qD:=q B D hD
  rw [hH3] at qD
  obtain ⟨W,⟨m0,w0⟩,turn⟩:=qD
  have fin:∀ {i:Nat} {σ':St} {H':Hp} {s':Shared},Inv (X.blk N' sc B) [] σ' H' s'→Q (.ref D) H'→RR (.ref D) C (.ok .next) s':=fun {i σ' H' s'} I' q' => by
    have IX:Inv X pins σ H' s':=I3s.call' (ch:=fp) I'.os I'.base I'.hok I'.bare fun b hb => by
      obtain ⟨_,a2,_,a4,a5,a6⟩:=f2 b hb
      exact ⟨a4,a2,a5,a6⟩
    have hCs:X.s₀.heap.objs.size≤C:=Nat.le_trans I3s.sz (by show hp.objs.size≤C; rw [hCn]; exact Nat.le_refl _)
    refine hRR D C s' H' IX q' (let ⟨m,hn,_⟩:=I'.loc; ⟨m,hn⟩) I'.free ?_ hCs (fun x c e => ?_) fun p hp' => ?_
    · rw [← hCn]; exact Nat.ne_of_gt I3s.lt
    · obtain ⟨v,z⟩:=I3s.cell x c e
      rw [← hCn]; exact Nat.ne_of_lt z.lt
    · rw [← hCn]; exact Nat.ne_of_lt (Heap.lt_size (h:=hp) (I3s.pin p hp').1)
  have loop:codeAny (model X.prog X.w) X.A (.compLoop (.ListComp elt [⟨tg,iter,ifs,0⟩] sc pos) 0 (.ref it) (.ref D) (compEnvC sc cl C X.env)) (RR (.ref D) C) { s with heap:=h1,toks:=s.toks + ([]:List (Str×Value)).length }:=by
    refine codeAny_loop rfl (fun n s' => ∃ i σ' H',Inv (X.blk N' sc B) [] σ' H' s'∧tn i s'.heap∧(∀ b∈fp,H' b=none)∧W i n σ' H') (fun n s5 hI => ?_) m0 ⟨0,_,_,IY,st1,fun b hb => ?_,w0⟩
    · obtain ⟨i,σ5,H5,I5,st5,fr5,w5⟩:=hI
      show wpAny _ _ ((compTurn (.ListComp elt [⟨tg,iter,ifs,0⟩] sc pos) 0 (.ref it) (.ref D) (compEnvC sc cl C X.env)).onRaise (fun x => do noteFrame x (compEnvC sc cl C X.env); theTreesLotGoes x)) _ _ s5
      refine wpAny_noted ?_
      rw [compTurn_list]
      refine wpAny_bind (wpAny_standAt ?_)
      rcases turn i n σ5 H5 w5 with ⟨stop,qn⟩ | ⟨go,N1,N2,hN1,hN2,step⟩
      · refine wpAny_bind (wpAny_mono (T.done (X.blk N' sc B) rfl rfl rfl hc i [] s5 σ5 H5 (fun _ _ => False) I5 (fpY fr5) st5 stop) (fun r s6 h6 => ?_) fun _ _ f => f.elim)
        obtain ⟨hr,I6⟩:=h6
        subst hr
        exact wpAny_pure (fin (i:=i) I6 qn)
      · refine wpAny_bind (wpAny_mono (T.item (X.blk N' sc B) rfl rfl rfl hc i [] s5 σ5 H5 (fun _ _ => False) I5 (fpY fr5) st5 go) (fun r s6 h6 => ?_) fun _ _ f => f.elim)
        obtain ⟨u,hr,h6⟩:=h6
        subst hr
        refine wpAny_bind (wpAny_mono h6 (fun _ s7 h7 => ?_) fun _ _ f => f.elim)
        obtain ⟨x,H7,I7,r7,y7,st7,fr7⟩:=h7
        have I7':=I7.pinned (fpY fr7) (T.obj _ _ st7)
        refine wpAny_bind (wpAny_mono (hg B _ s7 σ5 H7 x u _ I7' r7 (step x H7 y7)) (fun _ s8 h8 => ?_) fun _ _ f => f.elim)
        obtain ⟨σ8,H8,I8,q8⟩:=h8
        refine wpAny_bind (wpAny_mono (ht B _ s8 σ8 H8 _ I8 q8) (fun ok s9 h9 => ?_) fun _ _ f => f.elim)
        obtain ⟨H9,I9,q9⟩:=h9
        have again:∀ {s':Shared} {H':Hp},Inv (X.blk N' sc B) ([] ++ pinsAt fp s7.heap) σ8 H' s'→(∃ m',m' < n∧W (i + 1) m' σ8 H') →
            ∃ m,m < n∧∃ i σ' H',Inv (X.blk N' sc B) [] σ' H' s'∧tn i s'.heap∧(∀ b∈fp,H' b=none)∧W i m σ' H':=fun {s' H'} I' w' => by
          obtain ⟨m',hm,w'⟩:=w'
          have pn:∀ b∈fp,∀ o,s7.heap.get? b=some o→s'.heap.get? b=some o∧H' b=none:=fun b hb o e => by
            have z:=I'.pin (b,o) (List.mem_append_right _ (List.mem_append_right _ (mem_pinsAt hb e)))
            exact ⟨z.1,z.2.1⟩
          refine ⟨m',hm,i + 1,σ8,H',I'.unpinned,T.keep _ _ _ st7 fun b hb o e => (pn b hb o e).1,fun b hb => ?_,w'⟩
          obtain ⟨o,e,_⟩:=T.obj _ _ st7 b hb
          exact (pn b hb o e).2
        cases ok with
        | false =>
          have q9':N2 σ8 H9:=by simpa using q9
          exact wpAny_pure ⟨rfl,again I9 (hN2 _ _ q9')⟩
        | true =>
          have q9':te B σ8 H9 fun y H4 => N1 y σ8 H4:=by simpa using q9
          refine wpAny_bind (wpAny_bind (wpAny_mono (he B _ s9 σ8 H9 _ I9 q9') (fun y sA hA => ?_) fun _ _ f => f.elim))
          obtain ⟨yv,HA,IA,rA,nA⟩:=hA
          obtain ⟨ys,eA,zA,w'⟩:=hN1 _ _ _ nA
          refine wpAny_bind (wpAny_mono (mt_append (X:=X.blk N' sc B) _ sA σ8 HA (.ref D) [yv] (.ref D) [y] (fun _ H' => H'=upd HA D (.lst (ys ++ [yv]))) IA rfl (.cons rA .nil) ⟨D,ys,yv,rfl,rfl,eA,zA,rfl⟩) (fun _ sB hB => ?_) fun _ _ f => f.elim)
          obtain ⟨_,HB,IB,_,eB⟩:=hB
          subst eB
          exact wpAny_pure (wpAny_pure ⟨rfl,again IB w'⟩)
    · rw [← hH3,upd_ne (Nat.ne_of_lt (fpLt b hb))]
      exact (f2 b hb).1
  exact codeAny_compStart_list loop (T.self _ 0 _ _ _ st1 loop)
theorem pe_comp {tg elt iter:Expr} {ifs:List Expr} {sc:Scope} {pos:Pos} {wi:TI} {g:Bk→TG} {tt:Bk→TT} {te:Bk→TE} (N':List Str) (ix:List (Option Nat)) (hc:X.calm=true)
    (hi:PI X tg iter wi) (hg:∀ b:Bk,PG (X.blk N' sc b) tg (g b)) (ht:∀ b:Bk,PTs (X.blk N' sc b) ifs (tt b)) (he:∀ b:Bk,PE (X.blk N' sc b) elt (te b)) {N:List Str} {ks:List (Str×NameKind)}
    (hN:X.N=N) (hks:X.env.scope.names=ks) (hfree:∀ p∈sc.names,p.2 = .free→ks.lookup p.1=some .cell) (hfrom:fromB N sc.names N' ix=true)
    (hcell:∀ y∈sc.names,y.2≠.cell) (hnames:∀ y∈sc.names,y.2 = .local→sc.names.lookup y.1=some .local) (hkind:sc.kind = .function:=by rfl)
    (hs:∀ x,foldedSetIterable iter X.env x=pure x:=by intro _; rfl):PE X (.ListComp elt [⟨tg,iter,ifs,0⟩] sc pos) (tComp wi ix g tt te):=by
  intro pins s σ H Q I h
  have hfree':∀ p∈sc.names,p.2 = .free→X.env.kindOf p.1=some .cell:=fun p hp hf => by
    show X.env.scope.names.lookup p.1=_
    rw [hks]; exact hfree p hp hf
  obtain ⟨cl,hclos,hcl,hcl2⟩:=closure_of (sc:=sc) (env:=X.env) fun p hp hf => I.ok.has p.1 (.inl (hfree' p hp hf))
  rw [eval_ListComp]
  refine wpAny_comprehension_free (use:=none) rfl hs hclos hkind hnames (thn (hi pins s σ H _ I h) fun v s1 h1 => thn h1 fun itv s2 h2 => ?_)
  obtain ⟨it,fp,tn,J,H2,e,I2,T,st2,f2,q⟩:=h2
  subst e
  refine blk_run (RR:=fun acc C => compPost (model X.prog X.w) X.A X.xe none (EP X pins σ Q) acc C) hc hkind hcell hfree' (by rw [hN]; exact hfrom) hg ht he hcl hcl2 I2 T st2 f2 q ?_
  intro D C s' H' I' q' hns hC hL hsz hcel hpin
  obtain ⟨m,hn⟩:=hns
  refine ⟨m,hn,fun h' hsb => ?_⟩
  exact ⟨.ref D,H',I'.turned (t':=s'.toks) (fun b o hb e => hsb.extBut b o hb e) hC hL (.inr hsz) hcel hpin,rfl,q'⟩
theorem ps_comp {i:Nat} {y:Str} {py spos:Pos} {tg elt iter:Expr} {ifs:List Expr} {sc:Scope} {pos:Pos} {wi:TI} {g:Bk→TG} {tt:Bk→TT} {te:Bk→TE} (N':List Str) (ix:List (Option Nat)) (hc:X.calm=true) (hNd:X.N.Nodup) (hiy:X.N[i]? = some y) (hy:X.env.scope.names.lookup y=some .local)
    (hi:PI X tg iter wi) (hg:∀ b:Bk,PG (X.blk N' sc b) tg (g b)) (ht:∀ b:Bk,PTs (X.blk N' sc b) ifs (tt b)) (he:∀ b:Bk,PE (X.blk N' sc b) elt (te b)) {N:List Str} {ks:List (Str×NameKind)}
    (hN:X.N=N) (hks:X.env.scope.names=ks) (hfree:∀ p∈sc.names,p.2 = .free→ks.lookup p.1=some .cell) (hfrom:fromB N sc.names N' ix=true)
    (hcell:∀ y∈sc.names,y.2≠.cell) (hnames:∀ y∈sc.names,y.2 = .local→sc.names.lookup y.1=some .local) (hkind:sc.kind = .function:=by rfl)
    (hs:∀ x,foldedSetIterable iter X.env x=pure x:=by intro _; rfl) (hsw:swapsWith (.ListComp elt [⟨tg,iter,ifs,0⟩] sc pos) (some (.Name y py)) spos.line X.env=pure true:=by rfl) :
    PS X (.Assign [.Name y py] (.ListComp elt [⟨tg,iter,ifs,0⟩] sc pos) spos) (tAsg (tComp wi ix g tt te) (gName i)):=by
  intro pins s σ H D I h
  have hfree':∀ p∈sc.names,p.2 = .free→X.env.kindOf p.1=some .cell:=fun p hp hf => by
    show X.env.scope.names.lookup p.1=_
    rw [hks]; exact hfree p hp hf
  obtain ⟨cl,hclos,hcl,hcl2⟩:=closure_of (sc:=sc) (env:=X.env) fun p hp hf => I.ok.has p.1 (.inl (hfree' p hp hf))
  rw [exec_Assign_Name_used _ _ _ _ hsw]
  refine wpAny_bind (wpAny_standAt (wpAny_bind ?_))
  show wpAny _ X.A (do let _ ← comprehension (.ListComp elt [⟨tg,iter,ifs,0⟩] sc pos) sc X.env _ (newList []) false (eval iter X.env) (some (assign (.Name y py) X.env))) _ _ s
  refine wpAny_bind (wpAny_mono (wpAny_comprehension_free (use:=some (assign (.Name y py) X.env)) (Q:=fun _ s' => SP X pins D .next s') rfl hs hclos hkind hnames
    (thn (hi pins s σ H _ I h) fun v s1 h1 => thn h1 fun itv s2 h2 => ?_)) (fun _ s' hq => wpAny_pure (wpAny_pure hq)) fun _ _ e => e)
  obtain ⟨it,fp,tn,J,H2,e,I2,T,st2,f2,q⟩:=h2
  subst e
  refine blk_run (Q:=fun x H1 => gName i x σ H1 D.nx) (RR:=fun acc C => compPost (model X.prog X.w) X.A X.xe (some (assign (.Name y py) X.env)) (fun _ s' => SP X pins D .next s') acc C) hc hkind hcell hfree' (by rw [hN]; exact hfrom) hg ht he hcl hcl2 I2 T st2 f2 q ?_
  intro E C s' H' I' q' hns hC hL hsz hcel hpin
  obtain ⟨m,hn⟩:=hns
  show wpAny _ X.A (assign (.Name y py) X.env (.ref E)) _ _ _
  refine wpAny_assign_Name (store_ok2 I' hNd hiy (.inl hy) (show RelV (.ref E) (.ref E) from rfl) (fun s2 I2' hch => ?_) (.inr hy))
  obtain ⟨a,hsb,ha⟩:=hch
  have haC:C≠a:=by
    rcases ha with z | z
    · rw [z]; exact hL
    · exact (hcel _ _ z).symm
  refine ⟨m,hn.sameBut hsb haC,fun h' hsb' => ?_⟩
  exact ⟨_,H',I2'.turned (t':=s2.toks) (fun b o hb e => hsb'.extBut b o hb e) hC hL (.inr hsz) hcel hpin,q'⟩
end
theorem comp_range {lo:Int} {n:Nat} {g:TG} {tt:TT} {te:TE} {D:Addr} {Q:VK} {σ : St} {H:Hp} (Pv:Nat→List V→St→Hp→Prop) (h0:Pv 0 [] σ (upd H D (.lst [])))
    (hs:∀ i ys σ H,i < n→H D=some (.lst ys)→Pv i ys σ H→g (.int (lo + i)) σ H fun σ2 H2 => tt σ2 H2 fun b H3 =>
      if b=true then te σ2 H3 fun y H4 => H4 D=some (.lst ys)∧ys.length < sizeLine∧Pv (i + 1) (ys ++ [y]) σ2 (upd H4 D (.lst (ys ++ [y]))) else H3 D=some (.lst ys)∧Pv (i + 1) ys σ2 H3)
    (hd:∀ ys σ H,H D=some (.lst ys)→Pv n ys σ H→Q (.ref D) H) :
    tLoop (Itr lo n) g tt te D Q σ (upd H D (.lst [])):=by
  refine ⟨fun i m σ H => m=n - i∧i≤n∧∃ ys,H D=some (.lst ys)∧Pv i ys σ H,⟨n,by simp,Nat.zero_le _,[],upd_same,h0⟩,?_⟩
  rintro i m σ H ⟨rfl,hi,ys,hD,p⟩
  by_cases hlt:i < n
  · refine .inr ⟨hlt,fun y σ' H' => H' D=some (.lst ys)∧ys.length < sizeLine∧Pv (i + 1) (ys ++ [y]) σ' (upd H' D (.lst (ys ++ [y]))),fun σ' H' => H' D=some (.lst ys)∧Pv (i + 1) ys σ' H',
      fun y σ' H' q => ⟨ys,q.1,q.2.1,n - (i + 1),by omega,rfl,hlt,_,upd_same,q.2.2⟩,fun σ' H' q => ⟨n - (i + 1),by omega,rfl,hlt,ys,q⟩,fun x H' y => ?_⟩
    obtain ⟨e,y⟩:=y
    subst e y
    exact hs i ys σ _ hlt hD p
  · have e:i=n:=by omega
    subst e
    exact .inl ⟨Nat.le_refl _,hd ys σ H hD p⟩
theorem comp_list {K:PySem.W.Frag} {a:Addr} {xs:List V} {g:TG} {tt:TT} {te:TE} {D:Addr} {Q:VK} {σ : St} {H:Hp} (Pv:Nat→List V→St→Hp→Prop) (h0:Pv 0 [] σ (upd H D (.lst [])))
    (hl:∀ i ys σ H,i≤xs.length→H D=some (.lst ys)→Pv i ys σ H→SqL K H a xs)
    (hs:∀ i x ys σ H,xs[i]? = some x→H D=some (.lst ys)→Pv i ys σ H→g x σ H fun σ2 H2 => tt σ2 H2 fun b H3 =>
      if b=true then te σ2 H3 fun y H4 => H4 D=some (.lst ys)∧ys.length < sizeLine∧Pv (i + 1) (ys ++ [y]) σ2 (upd H4 D (.lst (ys ++ [y]))) else H3 D=some (.lst ys)∧Pv (i + 1) ys σ2 H3)
    (hd:∀ ys σ H,H D=some (.lst ys)→Pv xs.length ys σ H→Q (.ref D) H) :
    tLoop (Itl K a) g tt te D Q σ (upd H D (.lst [])):=by
  refine ⟨fun i m σ H => m=xs.length - i∧i≤xs.length∧∃ ys,H D=some (.lst ys)∧Pv i ys σ H,⟨xs.length,by simp,Nat.zero_le _,[],upd_same,h0⟩,?_⟩
  rintro i m σ H ⟨rfl,hi,ys,hD,p⟩
  have hq:=hl i ys σ H hi hD p
  by_cases hlt:i < xs.length
  · refine .inr ⟨⟨xs,xs[i],hq,by simp [hlt]⟩,fun y σ' H' => H' D=some (.lst ys)∧ys.length < sizeLine∧Pv (i + 1) (ys ++ [y]) σ' (upd H' D (.lst (ys ++ [y]))),fun σ' H' => H' D=some (.lst ys)∧Pv (i + 1) ys σ' H',
      fun y σ' H' q => ⟨ys,q.1,q.2.1,xs.length - (i + 1),by omega,rfl,hlt,_,upd_same,q.2.2⟩,fun σ' H' q => ⟨xs.length - (i + 1),by omega,rfl,hlt,ys,q⟩,fun x H' y => ?_⟩
    obtain ⟨e,y⟩:=y
    subst e
    exact hs i x ys σ _ (y xs hq) hD p
  · have e:i=xs.length:=by omega
    subst e
    exact .inl ⟨⟨xs,hq,Nat.le_refl _⟩,hd ys σ H hD p⟩
theorem comp_rangeA {lo:Int} {n:Nat} {g:TG} {te:TE} {D:Addr} {Q:VK} {σ : St} {H:Hp} (Pv:Nat→List V→St→Hp→Prop) (h0:Pv 0 [] σ (upd H D (.lst [])))
    (hs:∀ i ys σ H,i < n→H D=some (.lst ys)→Pv i ys σ H→g (.int (lo + i)) σ H fun σ2 H3 => te σ2 H3 fun y H4 => H4 D=some (.lst ys)∧ys.length < sizeLine∧Pv (i + 1) (ys ++ [y]) σ2 (upd H4 D (.lst (ys ++ [y]))))
    (hd:∀ ys σ H,H D=some (.lst ys)→Pv n ys σ H→Q (.ref D) H):tLoop (Itr lo n) g tYes te D Q σ (upd H D (.lst [])) :=
  comp_range Pv h0 (fun i ys σ H hi hD p => hs i ys σ H hi hD p) hd
theorem comp_listA {K:PySem.W.Frag} {a:Addr} {xs:List V} {g:TG} {te:TE} {D:Addr} {Q:VK} {σ : St} {H:Hp} (Pv:Nat→List V→St→Hp→Prop) (h0:Pv 0 [] σ (upd H D (.lst [])))
    (hl:∀ i ys σ H,i≤xs.length→H D=some (.lst ys)→Pv i ys σ H→SqL K H a xs)
    (hs:∀ i x ys σ H,xs[i]? = some x→H D=some (.lst ys)→Pv i ys σ H→g x σ H fun σ2 H3 => te σ2 H3 fun y H4 => H4 D=some (.lst ys)∧ys.length < sizeLine∧Pv (i + 1) (ys ++ [y]) σ2 (upd H4 D (.lst (ys ++ [y]))))
    (hd:∀ ys σ H,H D=some (.lst ys)→Pv xs.length ys σ H→Q (.ref D) H):tLoop (Itl K a) g tYes te D Q σ (upd H D (.lst [])) :=
  comp_list Pv h0 hl (fun i x ys σ H hi hD p => hs i x ys σ H hi hD p) hd
end L2
namespace L2
open PySem PySem.Spec PyProof.Rows
def Ite (K:PySem.W.Frag) (a:Addr):It :=
  ⟨fun i H => ∃ xs x,SqL K H a xs∧xs[i]? = some x,fun i H y H' => ∃ t x,y = .ref t∧H t=none∧H'=upd H t (.tup [.int i,x])∧∀ xs,SqL K H a xs→xs[i]? = some x,fun i H => ∃ xs,SqL K H a xs∧xs.length≤i⟩
theorem turn_enum {P:Program} {w:World} {K:PySem.W.Frag} {elts:List Expr} {x1:Nat} {tp:Pos} (a e it:Addr) (hne:e≠it) :
    Turn P w K (.Tuple elts x1 tp) (Ite K a) [e,it] e (fun i h => (∃ old,IsEnum h e it (i:Nat) old)∧h.IsListIter it a i) where
  mem:=by simp
  obj:=fun i h st b hb => by
    obtain ⟨⟨old,he⟩,o,ho,hc,hd⟩:=st
    rcases List.mem_cons.mp hb with z | hb
    · subst z
      exact ⟨_,he,fun v z => by cases (show Data.fields _=Data.cell v from z)⟩
    · have z:b=it:=by simpa using hb
      subst z
      exact ⟨o,ho,fun v z => by rw [hd] at z; cases z⟩
  keep:=fun i h h' st k => by
    obtain ⟨⟨old,he⟩,hit⟩:=st
    exact ⟨⟨old,k e (by simp) _ he⟩,hit.at fun o z => k it (by simp) o z⟩
  item:=by
    intro X hP hw hK hc i pins s σ H E I hf st hg
    subst hP hw hK
    obtain ⟨⟨old,he⟩,hit⟩:=st
    obtain ⟨xs,x,hq,hx⟩:=hg
    obtain ⟨its,rv,pl,hz⟩:=I.list hq
    obtain ⟨u,hu,ru⟩:=rv.get hx
    obtain ⟨f0,f1,f2,f3,f4,f5⟩:=hf e (by simp)
    obtain ⟨g0,g1,g2,g3,g4,g5⟩:=hf it (by simp)
    refine wpAny_pyNext_enum_item he hit pl.isList (x:=u) (by simpa using hu) hne fun h1 heo hit1 ht1 hz1 hk1 => ⟨_,rfl,?_⟩
    refine wpAny_letOwnedTupleGo_enum heo fun h2 he2 hs2 => ?_
    have hk2:∀ b o,b≠e→b≠it→s.heap.get? b=some o→h2.get? b=some o:=fun b o n1 n2 q => (hs2.2 b n1).trans (hk1 b o n1 n2 q)
    have elt:e < s.heap.objs.size:=Heap.lt_size he
    have ilt:it < s.heap.objs.size:=by obtain ⟨o,z,_⟩:=hit; exact Heap.lt_size z
    have hTe:s.heap.objs.size≠e:=Nat.ne_of_gt elt
    have hT:h2.get? s.heap.objs.size=some { cls:=.type "tuple",data:=.seq #[.int i s.toks,u] }:=(hs2.2 _ hTe).trans ht1
    have hn:H s.heap.objs.size=none:=I.fresh
    have hob:∀ b o,h2.get? b=some o∨s.heap.get? b=some o→True:=fun _ _ _ => trivial
    have e2:∃ o,h2.get? e=some o:=⟨_,he2⟩
    have i2:∃ o,h2.get? it=some o:=by
      obtain ⟨o,z,_⟩:=hit1
      exact ⟨o,(hs2.2 it hne.symm).trans z⟩
    have I2:Inv X pins σ (upd H s.heap.objs.size (.tup [.int i,x])) { s with heap:=h2,toks:=s.toks + 1 }:=by
      refine I.step (g':=s.gens) (d':=s.drawn) (ch:=[e,it]) (fun b hb => ?_) (fun b o _ _ hcb q _ => ?_) (fun b o _ _ hcb q _ => ?_) (fun b o _ q n => ?_) (fun b o hcb q => ?_) (fun b ys q => ?_) (fun b o v q => ?_) (fun b qs q => ?_) (fun m hm => ?_) (fun b v q => ?_) I.bare
      · rcases List.mem_cons.mp hb with z | hb
        · subst z; exact ⟨f3,f1,f4,f5⟩
        · have z:b=it:=by simpa using hb
          subst z; exact ⟨g3,g1,g4,g5⟩
      · exact hk2 b o (fun z => hcb (by simp [z])) (fun z => hcb (by simp [z])) q
      · exact ⟨o.slots,hk2 b o (fun z => hcb (by simp [z])) (fun z => hcb (by simp [z])) q⟩
      · rw [upd_ne (Nat.ne_of_lt (Heap.lt_size q))]; exact n
      · exact ⟨o,hk2 b o (fun z => hcb (by simp [z])) (fun z => hcb (by simp [z])) q⟩
      · rw [upd_ne (ne_of_none q hn)]; exact q
      · rw [upd_ne (ne_of_none q hn)]; exact q
      · exact ⟨#[],by rw [upd_ne (ne_of_none q hn),q]; simp⟩
      · obtain ⟨o,es,ep,ho,r⟩:=hm
        exact ⟨o,es,ep,hk2 _ o (Ne.symm f1) (Ne.symm g1) ho,r⟩
      · by_cases hb:b=s.heap.objs.size
        · subst hb
          rw [upd_same] at q
          cases q
          exact ⟨by show 2≤sizeLine; decide,[.int i s.toks,u],.cons ⟨_,rfl⟩ (.cons ru .nil),_,hT,rfl,_,rfl⟩
        · rw [upd_ne hb] at q
          refine (I.hok b v q).stay (fun c o hc' z => hk2 c o ?_ ?_ z) (fun c z => by rw [upd_ne (ne_of_none z hn)]; exact z) fun c ys z => by rw [upd_ne (ne_of_none z hn)]; exact z
          · rcases hc' with y | y
            · rw [y]; exact fun w => by rw [w,f0] at q; cases q
            · exact fun w => by rw [w,f0] at y; cases y
          · rcases hc' with y | y
            · rw [y]; exact fun w => by rw [w,g0] at q; cases q
            · exact fun w => by rw [w,g0] at y; cases y
    refine ⟨.ref s.heap.objs.size,_,I2,rfl,⟨_,x,rfl,hn,rfl,fun ys hy => by rw [I.list_inj hy hq]; exact hx⟩,⟨⟨_,he2⟩,?_⟩,fun b hb => ?_⟩
    · exact hit1.at fun o z => (hs2.2 it hne.symm).trans z
    · rcases List.mem_cons.mp hb with z | hb
      · subst z; rw [upd_ne hTe.symm]; exact f0
      · have z:b=it:=by simpa using hb
        subst z; rw [upd_ne (Nat.ne_of_lt ilt)]; exact g0
  done:=by
    intro X hP hw hK hc i pins s σ H E I hf st hg
    subst hP hw hK
    obtain ⟨⟨old,he⟩,hit⟩:=st
    obtain ⟨xs,hq,hx⟩:=hg
    obtain ⟨its,rv,pl,hz⟩:=I.list hq
    obtain ⟨g0,g1,g2,g3,g4,g5⟩:=hf it (by simp)
    have hl:=rv.length
    exact wpAny_pyNext_enum_end (I.ok.hd hc) he hit pl.isList (by simp; omega) fun h' eb => ⟨rfl,I.turned (t':=s.toks) (fun b o hb q => eb b o hb q) g0 g1 g3 g4 g5⟩
  self:=fun _ _ _ _ _ st h => by
    obtain ⟨⟨old,he⟩,_⟩:=st
    exact wpAny_pyIter_enum he h
section
variable {X:Cx}
def iEnum (K:PySem.W.Frag) (ta:TA):TI:=fun σ H R => ta σ H fun vs H1 => ∃ a,vs=[.ref a]∧(∃ xs,SqL K H1 a xs)∧R (Ite K a) H1
theorem pi_enum {elts:List Expr} {x1:Nat} {tp:Pos} {a:Expr} {ta:TA} {p pos:Pos} (hg:Gl X "enumerate") (hm:X.mg "enumerate" = none) (ha:PA X [a] ta) (hs:starEach [a] X.env=[(false,eval a X.env)]:=by rfl) :
    PI X (.Tuple elts x1 tp) (.Call (.Name "enumerate" p) [a] [] pos) (iEnum X.K ta):=by
  intro pins s σ H R I h
  refine Call_ (ld_blt I hg hm (by decide +kernel:bootBuiltins "enumerate" = some (.type "enumerate")) (PyProof.Rows.callWith_type1 (thn (ha pos pins s σ H _ I h) fun us s1 ⟨vs,H1,I1,r1,q1⟩ => ?_) hs rfl))
  obtain ⟨b,e,⟨xs,hq⟩,q⟩:=q1
  subst e
  obtain ⟨u,rfl,ru⟩:=Vals.one r1
  cases (show u=Value.ref b from ru)
  obtain ⟨its,rv,pl,hz⟩:=I1.list hq
  refine call_enumerate_list pl.isList fun h' he hit hsz hk => ?_
  refine wpAny_pyIter_enum he ?_
  have I2:Inv X pins σ H1 { s1 with heap:=h' }:=I1.kept (t':=s1.toks) hk
  refine ⟨s1.heap.objs.size + 1,[s1.heap.objs.size + 1,s1.heap.objs.size],_,_,H1,rfl,I2,turn_enum b (s1.heap.objs.size + 1) s1.heap.objs.size (Nat.succ_ne_self _),⟨⟨.none,he⟩,hit⟩,fun c hc => ?_,q⟩
  rcases List.mem_cons.mp hc with z | hc
  · subst z; exact I1.fpOk (Nat.le_succ _) (I1.hok.fresh (Nat.le_succ _))
  · have z:c=s1.heap.objs.size:=by simpa using hc
    subst z; exact I1.fpOk (Nat.le_refl _) (I1.hok.fresh (Nat.le_refl _))
end
theorem for_enum {K:PySem.W.Frag} {a:Addr} {xs:List V} {g:TG} {tb:TS} {D:Ends} {σ : St} {H:Hp} (Pv:Nat→St→Hp→Prop) (h0:Pv 0 σ H) (hl:∀ i σ H,i≤xs.length→Pv i σ H→SqL K H a xs)
    (hs:∀ i x t σ H,xs[i]? = some x→H t=none→Pv i σ H→g (.ref t) σ (upd H t (.tup [.int i,x])) fun σ2 H2 => tb { D with nx:=Pv (i + 1),ct:=Pv (i + 1),bk:=D.nx } σ2 H2) (hd:∀ σ H,Pv xs.length σ H→D.nx σ H) :
    ∃ W:Nat→Nat→St→Hp→Prop,(∃ m,W 0 m σ H)∧∀ i m σ H,W i m σ H →
      ((Ite K a).stop i H∧D.nx σ H)∨((Ite K a).go i H∧∃ N:St→Hp→Prop,(∀ σ' H',N σ' H'→∃ m',m' < m∧W (i + 1) m' σ' H')∧∀ x H',(Ite K a).yld i H x H'→g x σ H' fun σ2 H2 => tb { D with nx:=N,ct:=N,bk:=D.nx } σ2 H2):=by
  refine ⟨fun i m σ H => m=xs.length - i∧i≤xs.length∧Pv i σ H,⟨xs.length,by simp,Nat.zero_le _,h0⟩,?_⟩
  rintro i m σ H ⟨rfl,hi,p⟩
  have q:=hl i σ H hi p
  by_cases hlt:i < xs.length
  · refine .inr ⟨⟨xs,xs[i],q,by simp [hlt]⟩,Pv (i + 1),fun σ' H' p' => ⟨xs.length - (i + 1),by omega,rfl,hlt,p'⟩,fun y H' hy => ?_⟩
    obtain ⟨t,x,rfl,ht,rfl,hx⟩:=hy
    exact hs i x t σ H (hx xs q) ht p
  · have e:i=xs.length:=by omega
    subst e
    exact .inl ⟨⟨xs,q,Nat.le_refl _⟩,hd σ H p⟩
end L2
namespace L2
open PySem PySem.Spec PyProof.Rows
end L2
set_option Elab.async false
set_option linter.all false
set_option maxRecDepth 100000
set_option maxHeartbeats 4000000
namespace L2
open PySem PySem.Spec PyProof.Rows
structure Put (fs:List Addr) (h h':Heap) (e:Addr):Prop where
  keep:∀ b o,b≠e→b ∉ fs→h.get? b=some o→h'.get? b=some o
  slot:∀ b o,b≠e→h.get? b=some o→∃ sl,h'.get? b=some { o with slots:=sl }
  exc:∃ oe vs oe' T oT ts,h.get? e=some oe∧oe.data = .fields vs∧h'.get? e=some oe'∧oe'.cls=oe.cls∧oe'.dict=oe.dict∧oe'.data = .fields (vs.setIfInBounds 1 (.ref T))∧1 < vs.size ∧
    h.objs.size≤T∧T≠e∧h'.get? T=some oT∧oT.data = .fields ts∧ts[3]? = some .none
def Rests (h:Heap) (vs:Array Value) (P:Addr→Prop):Prop :=
  vs[1]? = some .none∨∃ T oT ts,vs[1]? = some (.ref T)∧P T∧h.get? T=some oT∧oT.data = .fields ts∧ts[3]? = some .none
def RestsN (nb:Bool) (h:Heap) (vs:Array Value) (P:Addr→Prop):Prop:=Rests h vs P∧(nb=true→vs[2]? = some .none)
section
variable {M:Model} {A:Around} {E:Value→Shared→Prop} {s:Shared}
theorem entry_put {base:Heap} {env:Env} {outer:List Env} {L e:Addr} {oe:Obj} {vs:Array Value} {head:Value} {hadNext:Bool} {Q:Unit→Shared→Prop}
    (hfr:A.frames=some (env :: outer)) (hl:s.heap.FunFrames base (env :: outer)) (hf:env.frame=some L)
    (he:s.heap.get? e=some oe) (hd:oe.data = .fields vs) (hsz : 1 < vs.size)
    (h:∀ h',Put (frs (env :: outer)) s.heap h' e→Q () { s with heap:=h' }) :
    wpAny M A (do let a ← frameOf env; let pl ← entryPlaceOf L hadNext; let b ← EntryCells.newEntry head a .none (rawInt L) .none pl; setField (.ref e) 1 b) (fun _ s' => wpAny M A (setFlight (.ref e) none) Q E s') E s:=by
  have hene:e ∉ frs (env :: outer):=fun hm => by
    obtain ⟨_,o,ho,hnf⟩:=hl.mem hm
    rw [he] at ho; injection ho with ho; subst ho; exact hnf vs hd
  refine wpAny_bind (wpAny_frameOf_fun hfr hl hf fun h1 hs1 => ?_)
  refine wpAny_bind (wpAny_entryPlaceOf fun pl hpl => ?_)
  unfold EntryCells.newEntry newFields
  refine wpAny_bind (wpAny_newObj_type ?_ (hpl.sizeOk5 _ _ _ _ _))
  have he1:h1.get? e=some oe:=(hs1.2.1 e hene).trans he
  have he2:=Heap.get?_push_of_some (h:=h1) { cls:=.type "traceback",dict:=none,data:=.fields ([head,.ref L,.none,rawInt L,.none] ++ (if pl.isEmpty then List.replicate 6 Value.none else pl)).toArray } he1
  refine wpAny_setField he2 hd hsz ?_
  have hTe:h1.objs.size≠e:=Nat.ne_of_gt (Heap.lt_size he1)
  have hd3:=Obj.data_mapFields hd (·.setIfInBounds 1 (Value.ref h1.objs.size))
  have he3:=Heap.get?_update_self (Obj.mapFields (·.setIfInBounds 1 (Value.ref h1.objs.size))) he2 (Obj.isFreed_of_fields hd3)
  have hT3:=(Heap.get?_update_other (h1.push { cls:=.type "traceback",dict:=none,data:=.fields ([head,.ref L,.none,rawInt L,.none] ++ (if pl.isEmpty then List.replicate 6 Value.none else pl)).toArray })
    (Obj.mapFields (·.setIfInBounds 1 (Value.ref h1.objs.size))) (Ne.symm hTe)).trans (Heap.get?_push_size h1 rfl)
  unfold setFlight
  refine wpAny_bind (wpAny_field he3 hd3 (x:=.ref h1.objs.size) (by simp [hsz]) ?_)
  rw [if_pos (show (Value.ref h1.objs.size != Value.none)=true from by simp)]
  refine wpAny_setField hT3 rfl (by simp only [List.size_toArray,List.length_append,List.length_cons,List.length_nil] <;> omega) (h _ ?_)
  have keep:∀ b o,b≠e→h1.get? b=some o →
      (((h1.push { cls:=.type "traceback",dict:=none,data:=.fields ([head,.ref L,.none,rawInt L,.none] ++ (if pl.isEmpty then List.replicate 6 Value.none else pl)).toArray }).update e (Obj.mapFields (·.setIfInBounds 1 (Value.ref h1.objs.size)))).update h1.objs.size
        (Obj.mapFields (·.setIfInBounds 3 ((none:Option Addr).elim Value.none fun f => rawInt f)))).get? b=some o:=fun b o hbe hb => by
    have hbT:h1.objs.size≠b:=Nat.ne_of_gt (Heap.lt_size hb)
    rw [Heap.get?_update_other _ _ hbT,Heap.get?_update_other _ _ (Ne.symm hbe)]
    exact Heap.get?_push_of_some _ hb
  refine ⟨fun b o hbe hbf hb => keep b o hbe ((hs1.2.1 b hbf).trans hb),fun b o hbe hb => ?_,?_⟩
  · obtain ⟨sl,hsl⟩:=hs1.2.2 b o hb
    exact ⟨sl,keep b _ hbe hsl⟩
  · have hTn:s.heap.objs.size≤h1.objs.size:=by rw [hs1.1]; exact Nat.le_refl _
    refine ⟨oe,vs,_,h1.objs.size,_,_,he,hd,(Heap.get?_update_other _ _ hTe).trans he3,Obj.cls_mapFields _ _,?_,hd3,hsz,hTn,hTe,Heap.get?_update_self _ hT3 (Obj.isFreed_of_fields (Obj.data_mapFields rfl _)),Obj.data_mapFields rfl _,by first | (simp; done) | (rcases hpl with rfl | ⟨_,_,_,_,_,_,_,rfl⟩ <;> simp)⟩
    obtain ⟨c,dd,dt,sl⟩:=oe
    cases dt <;> rfl
theorem note_put {base:Heap} {env:Env} {outer:List Env} {L e:Addr} {oe:Obj} {vs:Array Value} {Q:Unit→Shared→Prop} {P:Addr→Prop}
    (hfr:A.frames=some (env :: outer)) (hl:s.heap.FunFrames base (env :: outer)) (hf:env.frame=some L)
    (he:s.heap.get? e=some oe) (hd:oe.data = .fields vs) (h1:Rests s.heap vs P)
    (h:∀ h',Put (frs (env :: outer)) s.heap h' e→Q () { s with heap:=h' }) :
    wpAny M A (noteFrame (.ref e) env) (fun _ s2 => wpAny M A (setFlight (.ref e) none) Q E s2) E s:=by
  unfold noteFrame
  simp only [hf]
  rcases h1 with h1 | ⟨T,oT,ts,h1,_,hT,hdT,h3⟩
  · refine wpAny_bind (wpAny_field he hd h1 ?_)
    rw [if_neg (by decide)]
    exact entry_put hfr hl hf he hd (Array.getElem?_eq_some_iff.mp h1).1 h
  · refine wpAny_bind (wpAny_field he hd h1 ?_)
    rw [if_pos (show (Value.ref T != Value.none)=true from by simp)]
    refine wpAny_bind (wpAny_field hT hdT h3 ?_)
    rw [if_neg (show ¬ ((Value.none == rawInt L)=true) from by simp [rawInt])]
    refine wpAny_bind (wpAny_setField hT hdT (Array.getElem?_eq_some_iff.mp h3).1 ?_)
    rw [Heap.update_setField_same _ _ _ _ _ _ hT hdT h3]
    exact entry_put hfr hl hf he hd (Array.getElem?_eq_some_iff.mp h1).1 h
end
theorem ObjOk.ex {P:Program} {w:World} {H:Hp} {h:Heap} {a:Addr} {o:HO} (x:ObjOk P w H h a o):∃ ob,h.get? a=some ob:=by
  cases o with
  | lst xs => obtain ⟨_,_,_,_,e⟩:=x; exact ⟨_,e⟩
  | tup xs => obtain ⟨_,_,_,p⟩:=x; obtain ⟨o,e,_⟩:=p; exact ⟨_,e⟩
  | dK kvs => obtain ⟨_,_,_,_,o,_,_,e,_⟩:=x; exact ⟨_,e⟩
  | dT kvs => obtain ⟨_,_,_,_,o,_,_,e,_⟩:=x; exact ⟨_,e⟩
  | set S n => obtain ⟨o,_,_,_,e,_⟩:=x; exact ⟨_,e⟩
  | ins C dx fs => obtain ⟨_,_,_,e,_⟩:=x; exact ⟨_,e⟩
  | own y => obtain ⟨_,e⟩:=x; exact ⟨_,e⟩
  | xd fs => obtain ⟨_,⟨_,_,_,e,_⟩,_⟩:=x; exact ⟨_,e⟩
  | rng lo hi => obtain ⟨_,_,_,e⟩:=x; exact ⟨_,e⟩
  | frz ob u => obtain ⟨e,_⟩:=x; exact ⟨_,e⟩
  | tbl ps => exact ⟨_,x⟩
  | met f y => exact ⟨_,x⟩
  | ext φ => exact x.2.1
section
variable {nb:Bool} {X:Cx} {pins:List (Addr×Obj)} {σ : St} {H:Hp} {s:Shared} {a:Addr} {C:Value} {d:Option Addr} {h':Heap}
theorem Inv.put (I:Inv X pins σ H s) (P:Put (frs X.stack) s.heap h' a) (n0:X.s₀.heap.get? a=none) (fr:H a=none) (pn:∀ p∈X.pn ++ pins,p.1≠a):Inv X pins σ H { s with heap:=h' }:=by
  obtain ⟨oe,vs,oe',T,oT,ts,he,hd,_⟩:=P.exc
  have neL:a≠X.env.locals:=fun z => by
    obtain ⟨m,⟨o,es,ep,ho,hdt,_⟩,_⟩:=I.loc
    rw [← z,he] at ho; cases ho; rw [hd] at hdt; cases hdt
  have neC:∀ x c,X.env.cells.lookup x=some c→c≠a:=fun x c e z => by
    obtain ⟨v,o,ho,hdt⟩:=I.cell x c e
    rw [z,he] at ho; cases ho; rw [hd] at hdt; cases hdt
  have stk:∀ b,b≠X.env.locals→b ∉ X.fs→b ∉ frs X.stack:=fun b h1 h2 z => (List.mem_cons.mp (I.stkSub b z)).elim h1 h2
  have neL':∀ b o,X.s₀.heap.get? b=some o→b≠X.env.locals:=fun b o e => Nat.ne_of_lt (Nat.lt_of_lt_of_le (Heap.lt_size e) I.ok.above)
  have nea:∀ b o,X.s₀.heap.get? b=some o→b≠a:=fun b o e z => by rw [z,n0] at e; cases e
  have cellK:∀ x c,X.env.cells.lookup x=some c→∀ v,s.heap.IsCell c v→h'.IsCell c v:=fun x c e v ⟨o,ho,hdt⟩ => by
    obtain ⟨sl,q⟩:=P.slot c o (neC x c e) ho
    exact ⟨_,q,hdt⟩
  refine ⟨I.ok,I.os,I.bare,⟨fun b o e n hb hx => ?_,fun b o e n hb hx => ?_,fun b o e n hx => I.base.free b o e n hx,fun b o e hx => ?_,I.base.tups,I.base.frzs,I.base.tbls⟩,?_,fun x c e => ?_,I.free,I.freeC,fun p hp => ?_,fun b u e => ?_,I.len⟩
  · exact P.keep b o (nea b o e) (stk b (neL' b o e) hb) (I.base.keep b o e n hb hx)
  · obtain ⟨sl,e1⟩:=I.base.slot b o e n hb hx
    obtain ⟨sl',e2⟩:=P.slot b _ (nea b o e) e1
    exact ⟨sl',e2⟩
  · obtain ⟨o',e1⟩:=I.base.there b o e hx
    obtain ⟨sl',e2⟩:=P.slot b _ (nea b o e) e1
    exact ⟨_,e2⟩
  · obtain ⟨m,⟨o,es,ep,ho,r⟩,hl⟩:=I.loc
    obtain ⟨sl,e2⟩:=P.slot _ _ (Ne.symm neL) ho
    refine ⟨m,⟨_,es,ep,e2,r⟩,fun i x v e1 e2 e3 => ?_⟩
    obtain ⟨u,r,l⟩:=hl i x v e1 e2 e3
    refine ⟨u,r,?_⟩
    rcases l with l | ⟨k,c,e,z⟩
    · exact .inl l
    · exact .inr ⟨k,c,e,cellK x c e _ z⟩
  · obtain ⟨v,z⟩:=I.cell x c e
    exact ⟨v,cellK x c e v z⟩
  · obtain ⟨e,n,ne,nf,dd⟩:=I.pin p hp
    exact ⟨P.keep p.1 p.2 (pn p hp) (stk p.1 ne nf) e,n,ne,nf,dd⟩
  · have tr:∀ c v,H c=some v→∀ u,s.heap.get? c=some u→h'.get? c=some u:=fun c v hc u q => by
      refine P.keep c u (fun z => by rw [z,fr] at hc; cases hc) (fun z => ?_) q
      rw [I.stkFree c z] at hc; cases hc
    refine (I.hok b u e).stay (fun c v hc q => ?_) (fun _ q => q) fun _ _ q => q
    rcases hc with z | z
    · rw [z] at q ⊢; exact tr b u e v q
    · exact tr c _ z v q
structure Flies (nb:Bool) (X:Cx) (pins:List (Addr×Obj)) (σ : St) (H:Hp) (a:Addr) (C:Value) (d:Option Addr) (s:Shared):Prop where
  inv:Inv X pins σ H s
  new:X.s₀.heap.get? a=none
  free:H a=none
  pin:∀ p∈X.pn ++ pins,p.1≠a
  obj:∃ oe vs,s.heap.get? a=some oe∧oe.cls=C∧oe.dict=d∧oe.data = .fields vs∧RestsN nb s.heap vs fun T => T≠a∧X.s₀.heap.get? T=none∧H T=none
theorem Flies.put (F:Flies nb X pins σ H a C d s) (P:Put (frs X.stack) s.heap h' a):Flies nb X pins σ H a C d { s with heap:=h' }:=by
  obtain ⟨oe,vs,he,hc,hdd,hd,_,hx⟩:=F.obj
  refine ⟨F.inv.put P F.new F.free F.pin,F.new,F.free,F.pin,?_⟩
  obtain ⟨oe2,vs2,oe',T,oT,ts,he2,hd2,he',hc',hdd',hd',hsz,hT,hTe,hT',hTd,hT3⟩:=P.exc
  rw [he] at he2; cases he2
  rw [hd] at hd2; cases hd2
  refine ⟨oe',_,he',hc'.trans hc,hdd'.trans hdd,hd',.inr ⟨T,oT,ts,by simp [hsz],⟨hTe,?_,?_⟩,hT',hTd,hT3⟩,fun z => by simpa using hx z⟩
  · exact Heap.get?_none_of_le (Nat.le_trans F.inv.sz hT)
  · exact F.inv.hok.fresh hT
theorem Flies.at (F:Flies nb X pins σ H a C d s):∃ oe vs,s.heap.get? a=some oe∧oe.cls=C∧oe.dict=d∧oe.data = .fields vs:=by
  obtain ⟨oe,vs,he,hc,hdd,hd,_⟩:=F.obj
  exact ⟨oe,vs,he,hc,hdd,hd⟩
theorem Flies.note {Q:Unit→Shared→Prop} {E:Value→Shared→Prop} {A:Around} {M:Model} (F:Flies nb X pins σ H a C d s) (hA:A.frames=some X.stack) (hs:X.stack=X.env :: X.outer) (hf:X.env.frame=some X.env.locals)
    (h:∀ h',Flies nb X pins σ H a C d { s with heap:=h' }→(∃ oe vs T oT ts,h'.get? a=some oe∧oe.data = .fields vs∧vs[1]? = some (.ref T)∧h'.get? T=some oT∧oT.data = .fields ts∧ts[3]? = some .none)→Q () { s with heap:=h' }) :
    wpAny M A (noteFrame (.ref a) X.env) (fun _ s2 => wpAny M A (setFlight (.ref a) none) Q E s2) E s:=by
  obtain ⟨oe,vs,he,hc,hdd,hd,hr,_⟩:=F.obj
  refine note_put (base:=X.base) (hA.trans (congrArg some hs)) (hs ▸ F.inv.stack) hf he hd hr fun h' P => ?_
  have P':Put (frs X.stack) s.heap h' a:=by rw [hs]; exact P
  refine h h' (F.put P') ?_
  obtain ⟨oe2,vs2,oe',T,oT,ts,he2,hd2,he',hc',hdd',hd',hsz,hT,hTe,hT',hTd,hT3⟩:=P.exc
  exact ⟨oe',_,T,oT,ts,he',hd',by simp [hsz],hT',hTd,hT3⟩
end
def CXN (nb:Bool) (P:Program) (w:World):CXT:=fun outer H s E e s' =>
  ∃ a C d H',e = .ref a∧s'.os=s.os∧AllBare s'.gens∧Un (frs outer) [] H H' s.heap s'.heap∧HOk P w H' s'.heap∧s.heap.get? a=none∧H' a=none ∧
    (∃ oe vs,s'.heap.get? a=some oe∧oe.cls=C∧oe.dict=d∧oe.data = .fields vs∧RestsN nb s'.heap vs fun T => T≠a∧s.heap.get? T=none∧H' T=none)∧E C d H'
abbrev CXE (P:Program) (w:World):CXT:=CXN false P w
section
variable {nb:Bool} {P:Program} {w:World} {K:PySem.W.Frag} {mg:Str→Option Value} {base:Heap} {N:List Str} {qual:Str} {scope:Scope} {f:Addr} {cd:Value} {A:Around} {outer:List Env} {s0:Shared} {H0:Hp} {E:XK}
theorem Flies.leave {pins:List (Addr×Obj)} {σ : St} {H:Hp} {s:Shared} {a:Addr} {C:Value} {d:Option Addr} (F:Flies nb (cxOf (CXN nb P w) P w K mg base N qual scope f cd A outer s0 H0 E) pins σ H a C d s) (hE:E C d H) :
    (cxOf (CXN nb P w) P w K mg base N qual scope f cd A outer s0 H0 E).xe (.ref a) s:=by
  show wpAny _ _ (leaving _ (.ref a)) _ _ s
  unfold leaving
  refine wpAny_bind (F.note F.inv.ok.frames rfl rfl fun h' F' _ => ?_)
  exact ⟨a,C,d,H,rfl,F'.inv.os,F'.inv.bare,F'.inv.base,F'.inv.hok,F'.new,F'.free,F'.obj,hE⟩
end
section
variable {nb:Bool} {X:Cx} {pins:List (Addr×Obj)} {σ : St} {H:Hp} {s s':Shared} {e:Value} {E:XK}
theorem Inv.flies (I:Inv X pins σ H s) (hx:X.ex=[]) (h:CXN nb X.prog X.w X.stack H s E e s'):∃ a C d H',e = .ref a∧Flies nb X pins σ H' a C d s'∧E C d H':=by
  obtain ⟨a,C,d,H',rfl,os,bare,un,hok,na,fa,obj,q⟩:=h
  obtain ⟨hh,g,dr,t,os'⟩:=s'
  obtain rfl:os'=s.os:=os
  have old:∀ b,s.heap.get? b=none→X.s₀.heap.get? b=none:=fun b n => by
    cases z:X.s₀.heap.get? b with
    | none => rfl
    | some o =>
      obtain ⟨o',e⟩:=I.base.there b o z (by rw [hx]; simp)
      rw [n] at e; cases e
  refine ⟨a,C,d,H',rfl,⟨I.call (h':=hh) (g':=g) (d':=dr) (t':=t) (ch:=[]) un hok bare (fun b z => absurd z (by simp)),old a na,fa,fun p hp z => ?_,?_⟩,q⟩
  · have:=(I.pin p hp).1
    rw [z,na] at this; cases this
  · obtain ⟨oe,vs,he,hc,hdd,hd,hr,hx⟩:=obj
    refine ⟨oe,vs,he,hc,hdd,hd,?_,hx⟩
    rcases hr with hr | ⟨T,oT,ts,h1,⟨h2,h3,h4⟩,h5,h6,h7⟩
    · exact .inl hr
    · exact .inr ⟨T,oT,ts,h1,⟨h2,old T h3,h4⟩,h5,h6,h7⟩
theorem Inv.raised {C:Value} {args:List Value} {h':Heap} {a:Addr} (I:Inv X pins σ H s) (hx:X.ex=[]) (m:Heap.MadeExcOf s.heap h' a C args):Flies nb X pins σ H a C none { s with heap:=h' }:=by
  obtain ⟨t,h1,h2,h3⟩:=m.there
  have old:∀ b,s.heap.get? b=none→X.s₀.heap.get? b=none:=fun b n => by
    cases z:X.s₀.heap.get? b with
    | none => rfl
    | some o =>
      obtain ⟨o',e⟩:=I.base.there b o z (by rw [hx]; simp)
      rw [n] at e; cases e
  refine ⟨I.kept (t':=s.toks) m.keeps,old a m.new,?_,fun p hp z => ?_,⟨_,_,h1,rfl,rfl,rfl,.inl rfl,fun _ => rfl⟩⟩
  · cases q:H a with
    | none => rfl
    | some u =>
      obtain ⟨o,e⟩:=(I.hok a u q).ex
      rw [m.new] at e; cases e
  · have:=(I.pin p hp).1
    rw [z,m.new] at this; cases this
end
section
variable {nb:Bool} {P:Program} {w:World} {K:PySem.W.Frag} {mg:Str→Option Value} {base:Heap} {N:List Str} {qual:Str} {scope:Scope} {f:Addr} {cd:Value} {A:Around} {outer:List Env} {s0:Shared} {H0:Hp} {E:XK}
theorem passes_on:Passes (CXN nb P w) (cxOf (CXN nb P w) P w K mg base N qual scope f cd A outer s0 H0 E) E:=fun pins σ H s e s' I h => by
  obtain ⟨a,C,d,H',rfl,F,q⟩:=I.flies (X:=cxOf (CXN nb P w) P w K mg base N qual scope f cd A outer s0 H0 E) rfl h
  exact F.leave q
theorem passes_own0:PassesOwn (model P w) (A.deeper (envOfC qual scope s0.heap.objs.size f cd)) (envOfC qual scope s0.heap.objs.size f cd) (cxOf (CXN nb P w) P w K mg base N qual scope f cd A outer s0 H0 E).xe:=PassesOwn.leaving
end
abbrev bmV:List Value:=[.type "ValueError",.type "Exception",.type "BaseException",.type "object"]
theorem exc_obj {K:PySem.W.Frag} {h:Heap} {C:Addr} {bmB:List Value} {newId:String} (X:K.In h) (q:PySem.W.excIn K C bmB newId=true) :
    ∃ nm qn N bs bm hdct sn sub ab col dd k0 k1 k2 k3 k5 mN,h.get? C=some (excClassObj nm qn C N bs bm hdct sn sub ab col dd k0 k1 k2 k3 k5 newId)∧h.Ns N mN∧mN "__init__" = none∧OwnTail h bmB bm:=by
  unfold PySem.W.excIn at q
  split at q
  · rename_i dd cd sl ho
    split at q
    · rename_i C' bm k0 k1 k2 k3 n k5 hm hs
      simp only [Bool.and_eq_true,beq_iff_eq,Bool.not_eq_true'] at q
      obtain ⟨⟨⟨⟨⟨rfl,rfl⟩,hdel⟩,ht⟩,hok⟩,hni⟩:=q
      obtain ⟨nm,bs,mro,ns,qn,hd,sn,sub,ab,col,del⟩:=cd
      dsimp only at hm hdel hok hni
      subst hm hdel
      have hsl:sl = #[k0,k1,k2,k3,some (.builtin n),k5]:=by
        obtain ⟨l⟩:=sl
        simp only at hs
        rw [hs]
      subst hsl
      exact ⟨nm,qn,ns,bs,bm,hd,sn,sub,ab,col,dd,k0,k1,k2,k3,k5,_,X _ _ ho,.of_isNs (PySem.W.isNs_of_in X hok),PySem.W.nsMap_none_of_in X hok hni,PySem.W.tail_of_in X ht⟩
    · cases q
  · cases q
def tRaise (C:Addr) (E:XK) (ta:TA):TS:=fun _ σ H => ta σ H fun vs H1 => vs.length≤100∧E (.ref C) none H1
def Wants (nb:Bool) (X:Cx) (E:XK):Prop:=X.ex=[]∧∀ pins σ H a C d s,Flies nb X pins σ H a C d s→E C d H→X.xe (.ref a) s
section
variable {nb:Bool} {X:Cx} {E:XK} {x:Str} {C:Addr} {np cpos pos:Pos} {e:Expr} {es:List Expr} {ta:TA}
theorem ps_raise (hW:Wants nb X E) (hc:X.calm=true) (hg:Gl X x) (hm:X.mg x=some (.ref C)) (q:PySem.W.excIn X.K C bmV "ValueError.__new__" = true) (ha:PA X (e :: es) ta)
    (hdb:(x == ("__debug__" : Str))=false:=by decide) (he:starEach (e :: es) X.env=(false,eval e X.env) :: starEach es X.env:=by rfl) (hpl:(backTo cpos (starEach (e :: es) X.env)).any (·.1)=false:=by rfl) :
    PS X (.Raise (some (.Call (.Name x np) (e :: es) [] cpos)) none pos) (tRaise C E ta):=by
  intro pins s σ H D I h
  obtain ⟨nm,qn,N,bs,bm,hdct,sn,sub,ab,col,dd,k0,k1,k2,k3,k5,mN,hC,hN,hni,TL⟩:=exc_obj I.mod.kin q
  refine wpAny_Raise_call_subT (C:=C) (nm:=nm) (q:=qn) (N:=N) (bs:=bs) (bm:=bm) (hdct:=hdct) (sn:=sn) (sub:=sub) (ab:=ab) (col:=col) (dd:=dd) (k0:=k0) (k1:=k1) (k2:=k2) (k3:=k3) (k5:=k5) PySem.F.excBase_ValueError (TL.hasType (by decide +kernel)) (I.ok.hd hc) hpl hni ?_
  refine ld_glob I hg hm ⟨rfl,?_⟩ hdb
  have hx:=ha cpos pins s σ H _ I h
  rw [he] at hx ⊢
  refine Calls.evalArgs_plain (thn hx fun us s1 ⟨vs,H1,I1,r,z,qq⟩ => ?_)
  refine ⟨rfl,?_,I1.bk _ _ hC,hN.keeps I1.bk,TL.keeps I1.bk,fun h' a m => ?_⟩
  · show us.length≤sizeLine
    rw [← r.length]
    exact Nat.le_trans z (by rw [sizeLine_eq]; decide)
  · exact hW.2 pins σ H1 a (.ref C) none _ (I1.raised hW.1 m) qq
end
section
variable {nb:Bool} {P:Program} {w:World} {K:PySem.W.Frag} {mg:Str→Option Value} {base:Heap} {N:List Str} {qual:Str} {scope:Scope} {f:Addr} {cd:Value} {A:Around} {outer:List Env} {s0:Shared} {H0:Hp} {E:XK}
theorem wants_out:Wants nb (cxOf (CXN nb P w) P w K mg base N qual scope f cd A outer s0 H0 E) E:=⟨rfl,fun _ _ _ _ _ _ _ F q => F.leave q⟩
end
def PF (X:Cx) (e:Expr) (c:St→Hp→Prop):Prop :=
  ∀ (pins:List (Addr×Obj)) (s:Shared) (σ : St) (H:Hp) (Q:Value→Shared→Prop),Inv X pins σ H s→c σ H→(∀ y t s',y.length≤3000→Inv X pins σ H s'→Q (.str y t) s')→wpAny (model X.prog X.w) X.A (eval e X.env) Q X.xe s
def PFs (X:Cx) (es:List Expr) (c:St→Hp→Prop):Prop :=
  ∀ (pins:List (Addr×Obj)) (s:Shared) (σ : St) (H:Hp) (acc:Str) (Q:Value→Shared→Prop),Inv X pins σ H s→c σ H→acc.length + es.length * 3000≤sizeLine→(∀ y t s',Inv X pins σ H s'→Q (.str y t) s') →
    wpAny (model X.prog X.w) X.A (joinParts acc (evalEach es X.env)) Q X.xe s
section
variable {nb:Bool} {X:Cx} {e a:Expr} {es:List Expr} {c c':St→Hp→Prop} {ta:TE} {pos:Pos}
theorem pf_text {x:Str} {k:Nat} (hx:x.length≤3000:=by decide +kernel):PF X (.Constant (.str x) k pos) fun _ _ => True:=fun pins s σ H Q I _ h =>
  Calls.Constant_str (h x _ _ hx (I.tok _))
theorem pf_int (ha:PE X a ta):PF X (.FormattedValue a (-1) none pos) fun σ H => ta σ H fun v H' => ∃ i:Int,v = .int i∧H'=H∧i.natAbs.log2 < 1920:=fun pins s σ H Q I hc h => by
  refine FormattedValue_plain (thn (ha pins s σ H _ I hc) ?_)
  rintro u s1 ⟨v,H1,I1,r,i,rfl,rfl,hi⟩
  obtain ⟨t,rfl⟩:=r
  exact formatField_int_small hi (h _ _ _ (Nat.le_trans (PyProof.Rows.int_text_len_1921 hi) (by decide)) (I1.tok _))
theorem pfs_nil:PFs X [] fun _ _ => True:=fun pins s σ H acc Q I _ hz h => joinParts_nil (h _ _ _ (I.tok _)) (by simpa using hz)
theorem pfs_cons (h1:PF X e c) (h2:PFs X es c'):PFs X (e :: es) fun σ H => c σ H∧c' σ H:=fun pins s σ H acc Q I hc hz h => by
  show wpAny _ _ (joinParts acc (eval e X.env :: evalEach es X.env)) Q X.xe s
  refine joinParts_cons (h1 pins s σ H _ I hc.1 fun y t s1 hy I1 => ?_)
  have hl:(acc ++ y).length=acc.length + y.length:=strLen_append ..
  simp only [List.length_cons] at hz
  exact ⟨by rw [hl]; omega,h2 pins s1 σ H (acc ++ y) Q I1 hc.2 (by rw [hl]; omega) h⟩
def tF (c:St→Hp→Prop):TE:=fun σ H Q => c σ H∧∀ y,Q (.str y) H
theorem pe_fstr {v1 v2:Expr} {rest:List Expr} (h:PFs X (v1 :: v2 :: rest) c) (hl:(v1 :: v2 :: rest).length≤1000:=by decide):PE X (.JoinedStr (v1 :: v2 :: rest) pos) (tF c):=fun pins s σ H Q I hq => by
  refine JoinedStr_many (h pins s σ H Str.empty _ I hq.1 ?_ fun y t s1 I1 => ⟨.str y,H,I1,⟨t,rfl⟩,hq.2 y⟩)
  have:(Str.empty).length=0:=rfl
  have:(3000000:Nat)≤sizeLine:=by rw [sizeLine_eq]; decide
  omega
end
theorem match_ok {M:Model} {A:Around} {E:Value→Shared→Prop} {K:PySem.W.Frag} {hp:Heap} {g:Array GenState} {dr:Drawn} {tk:Nat} {os:OsState} {a:Addr} {oe:Obj} {c:Value} {b:Bool} {Q:Bool→Shared→Prop} (X:K.In hp) (he:hp.get? a=some oe)
    (kc:PySem.W.kitCls K oe.cls c=some b) (kb:PySem.W.subIn K c (.type "BaseException")=some true) (h:Q b ⟨hp,g,dr,tk,os⟩):wpAny M A (excMatches (.ref a) c) Q E ⟨hp,g,dr,tk,os⟩:=by
  obtain ⟨LT,LI,LS⟩:=PySem.W.kit_cls (M:=M) X kc
  have LB:=PySem.W.looks_subIn (M:=M) X kb
  have f:=tc_notTuple
  unfold excMatches isInstance
  refine wpAny_bind (wpAny_bind (LT _ _ _ _ (fun _ _ e => e) ?_))
  rw [f]
  refine wpAny_pure ?_
  try dsimp only
  rw [if_neg (by decide)]
  refine wpAny_bind (wpAny_pure ?_)
  simp only [List.forIn_cons,List.forIn_nil]
  unfold isExcClass
  refine wpAny_bind (wpAny_bind (wpAny_bind (wpAny_bind (LI _ _ _ _ (fun _ _ e => e) ?_))))
  rw [if_pos rfl]
  refine LB _ _ _ _ (fun _ _ e => e) ?_
  try dsimp only
  rw [if_neg (by decide)]
  refine wpAny_pure ?_
  try dsimp only
  refine wpAny_pure (wpAny_bind ?_)
  unfold typeOf
  refine wpAny_bind (wpAny_load he (wpAny_pure ?_))
  refine wpAny_bind (wpAny_bind (wpAny_bind (LS _ _ _ _ (fun _ _ e => e) ?_)))
  cases b
  · rw [if_neg (by decide)]
    exact wpAny_pure (wpAny_pure (wpAny_pure h))
  · rw [if_pos rfl]
    exact wpAny_pure (wpAny_pure (wpAny_pure h))
def Cx.hnd (X:Cx) (a:Addr):Cx:={ X with A:=X.A.mark (some (.ref a)),calm:=false,xe:=fun _ _ => False }
section
variable {nb:Bool} {X:Cx} {pins:List (Addr×Obj)} {σ : St} {H:Hp} {s:Shared} {a:Addr} {C:Value} {d:Option Addr} {E:XK}
theorem Cx.Ok.hnd (ok:X.Ok) (a:Addr):(X.hnd a).Ok :=
  ⟨ok.mod,ok.kind,ok.glob,ok.blt,ok.above,ok.inj,ok.has,ok.cab,fun z => absurd (show false=true from z) (by decide),ok.frames,ok.stk,ok.exf,ok.bs,ok.bsz,ok.noex,ok.exfs,ok.funs,ok.frf⟩
theorem Inv.hnd (I:Inv X pins σ H s) (a:Addr):Inv (X.hnd a) pins σ H s:=⟨I.ok.hnd a,I.os,I.bare,I.base,I.loc,I.cell,I.free,I.freeC,I.pin,I.hok,I.len⟩
theorem Inv.unhnd (ok:X.Ok) (I:Inv (X.hnd a) pins σ H s):Inv X pins σ H s:=⟨ok,I.os,I.bare,I.base,I.loc,I.cell,I.free,I.freeC,I.pin,I.hok,I.len⟩
theorem SP.unhnd {D:Ends} {f:Flow} (ok:X.Ok) (h:SP (X.hnd a) pins D f s):SP X pins D f s:=by
  cases f with
  | next => obtain ⟨σ,H,I,q⟩:=h; exact ⟨σ,H,I.unhnd ok,q⟩
  | brk => obtain ⟨σ,H,I,q⟩:=h; exact ⟨σ,H,I.unhnd ok,q⟩
  | cont => obtain ⟨σ,H,I,q⟩:=h; exact ⟨σ,H,I.unhnd ok,q⟩
  | ret u => obtain ⟨v,σ,H,I,r,q⟩:=h; exact ⟨v,σ,H,I.unhnd ok,r,q⟩
def Trail (a:Addr) (h:Heap):Prop := ∃ oe vs T oT ts,h.get? a=some oe∧oe.data = .fields vs∧vs[1]? = some (.ref T)∧h.get? T=some oT∧oT.data = .fields ts∧ts[3]? = some .none
theorem Trail.still {M:Model} {A:Around} {E':Value→Shared→Prop} {Q:Unit→Shared→Prop} (t:Trail a s.heap) (h:Q () s):wpAny M A (setFlight (.ref a) none) Q E' s:=by
  obtain ⟨oe,vs,T,oT,ts,he,hd,h1,hT,hTd,h3⟩:=t
  refine wpAny_setFlight_none he hd h1 hT hTd (Array.getElem?_eq_some_iff.mp h3).1 ?_
  rw [Heap.update_setField_same _ _ _ _ _ _ hT hTd h3]
  exact h
def PH (nb:Bool) (X:Cx) (hs:List ExceptHandler) (th:Value→Option Addr→TS):Prop :=
  ∀ (pins:List (Addr×Obj)) (σ : St) (H:Hp) (a:Addr) (C:Value) (d:Option Addr) (s:Shared) (D:Ends),Flies nb X pins σ H a C d s→Trail a s.heap→th C d D σ H→wpAny (model X.prog X.w) X.A (handleBy (.ref a) X.env hs) (SP X pins D) X.xe s
def tH (K:PySem.W.Frag) (c:Value) (t:TS) (th:Value→Option Addr→TS):Value→Option Addr→TS:=fun C d D σ H => ∃ b,PySem.W.kitCls K C c=some b∧if b=true then t D σ H else th C d D σ H
def tHno:Value→Option Addr→TS:=fun _ _ _ _ _ => False
theorem ph_none:PH nb X [] tHno:=fun _ _ _ _ _ _ _ _ _ _ h => h.elim
theorem ph_cons {x:Str} {np pos:Pos} {b0:Stmt} {suite:List Stmt} {rest:List ExceptHandler} {c:Value} {t:TS} {th:Value→Option Addr→TS} (hg:Gl X x) (hm:X.mg x=some c) (hk:PySem.W.subIn X.K c (.type "BaseException")=some true)
    (hs:∀ a,PSs (X.hnd a) (b0 :: suite) t) (hr:PH nb X rest th) (hd:(x == ("__debug__" : Str))=false:=by decide) :
    PH nb X (.ExceptHandler (some (.Name x np)) none (b0 :: suite) pos :: rest) (tH X.K c t th):=by
  intro pins σ H a C d s D F tr h
  obtain ⟨b,kc,h⟩:=h
  obtain ⟨oe,vs,he,hc,hdd,hd'⟩:=F.at
  have I':=F.inv.hnd a
  refine wpAny_handleBy_cons (codeAny_handlers_test (ld_glob (X:=X.hnd a) I' hg hm ?_ hd)) (by intro q; cases q)
  obtain ⟨hp,g,dr,tk,os⟩:=s
  refine match_ok (K:=X.K) F.inv.kIn he (by rw [hc]; exact kc) hk ?_
  cases b with
  | false => exact hr pins σ H a C d _ D F tr h
  | true =>
    refine codeAny_handlers_suite (tr.still ?_)
    exact wpAny_mono (hs a pins _ σ H D I' h) (fun f s' q => q.unhnd F.inv.ok) fun _ _ q => False.elim q
end
def PX (nb:Bool) (X:Cx) (e:Expr) (t:St→Hp→VK→XK→Prop):Prop :=
  ∀ (pins:List (Addr×Obj)) (s:Shared) (σ : St) (H:Hp) (Q:VK) (E:XK) (Ev:Value→Shared→Prop),Inv X pins σ H s→t σ H Q E→(∀ a C d H' s',Flies nb X pins σ H' a C d s'→E C d H'→Ev (.ref a) s') →
    wpAny (model X.prog X.w) X.A (eval e X.env) (EP X pins σ Q) Ev s
section
variable {nb:Bool} {X:Cx} {k:Nat} {f C:Addr} {fd:FuncData} {ps:List Str} {sp:Sp} {x:Str} {p pos:Pos} {e:Expr} {es:List Expr} {ta:TA}
theorem px_call (F:FnOk X.prog X.w X.K X.mg X.base (CXN nb X.prog X.w) k f fd ps sp) (hx0:X.ex=[]) (hr:Room k X.A) (hg:Gl X x) (hm:X.mg x=some (.ref f)) (hk:PySem.W.keepIn X.K (.ref f)=true) (hb:Binds X.K fd ps [])
    (ha:PA X.nox (e :: es) ta) (hdb:(x == ("__debug__" : Str))=false:=by decide) (he:starEach (e :: es) X.env=(false,eval e X.env) :: starEach es X.env:=by rfl) (hpl:(backTo pos (starEach es X.env)).any (·.1)=false:=by rfl) :
    PX nb X (.Call (.Name x p) (e :: es) [] pos) (fun σ H Q E => ta σ H fun vs H1 => sp vs H1 Q E):=by
  intro pins s σ H Q E Ev I h hE
  refine wpAny_Call_Name_kw (ld_glob I hg hm ?_ hdb)
  refine PySem.W.callWith_K (h₀:=X.base) I.ok.mod.kin hk (wpAny_mono (ha pos pins s σ H _ (I.wish _) h) (fun us s1 ⟨vs,H1,I1,r,q⟩ => ⟨I1.kIn,?_⟩) fun _ _ z => False.elim z) he hpl
  have J:=I1.unwish
  have hl:us.length=ps.length:=by rw [← r.length]; exact F.len _ _ _ _ q
  have bb:=hb s1 us I1.kIn (by simpa using hl)
  rw [List.append_nil] at bb
  refine wpAny_call (codeAny_mono (F.run X.A X.stack s1 H1 ⟨us,[]⟩ us vs Q E hr J.env0 bb r q) fun r s' hq => ?_)
  cases r with
  | error e =>
    obtain ⟨a,C,d,H',rfl,Fl,q'⟩:=J.flies hx0 hq
    exact hE a C d H' s' Fl q'
  | ok fl =>
    cases fl with
    | ret u => exact J.after hq
    | next => exact False.elim hq
    | brk => exact False.elim hq
    | cont => exact False.elim hq
def tTry (t:St→Hp→VK→XK→Prop) (th:Value→Option Addr→TS):TS:=fun D σ H => t σ H (fun _ H1 => D.nx σ H1) fun C d H1 => th C d D σ H1
def tTrySet (i:Nat) (t:St→Hp→VK→XK→Prop) (th:Value→Option Addr→TS):TS:=fun D σ H => t σ H (fun v H1 => D.nx (σ.set i (some v)) H1) fun C d H1 => th C d D σ H1
theorem ps_try {t:St→Hp→VK→XK→Prop} {th:Value→Option Addr→TS} {h0:ExceptHandler} {hs:List ExceptHandler} {p1:Pos} (px:PX nb X e t) (hh:PH nb X (h0 :: hs) th) (hst:X.stack=X.env :: X.outer:=by rfl) (hfr:X.env.frame=some X.env.locals:=by rfl)
    (hs0:swapsWith e none p1.line X.env=pure false:=by rfl):PS X (.Try [.Expr e p1] (h0 :: hs) [] [] pos) (tTry t th):=by
  intro pins s σ H D I h
  refine wpAny_Try_except (wpAny_execs_cons (wpAny_Expr_any (thn (px pins s σ H _ _ _ I h ?_) fun v s1 ⟨y,H1,I1,r1,q1⟩ => ?_) I.quiet hs0))
  · exact fun a C d H' s' Fl q => Fl.note I.ok.frames hst hfr fun h' Fl' tr => hh pins σ H' a C d _ D Fl' tr q
  · exact wpAny_execs_nil (wpAny_execs_nil ⟨σ,H1,I1,q1⟩)
theorem ps_trySet {t:St→Hp→VK→XK→Prop} {th:Value→Option Addr→TS} {h0:ExceptHandler} {hs:List ExceptHandler} {p1 p2:Pos} {i:Nat} {y:Str} (px:PX nb X e t) (hh:PH nb X (h0 :: hs) th) (hN:X.N.Nodup) (hi:X.N[i]? = some y) (hy:Loc X.env.scope y)
    (hst:X.stack=X.env :: X.outer:=by rfl) (hfr:X.env.frame=some X.env.locals:=by rfl) (hs0:swapsWith e (some (.Name y p2)) p1.line X.env=pure false:=by rfl) (hf:X.fn y=true∨X.env.scope.names.lookup y=some .local:=by first | exact .inl rfl | exact .inr rfl | assumption) :
    PS X (.Try [.Assign [.Name y p2] e p1] (h0 :: hs) [] [] pos) (tTrySet i t th):=by
  intro pins s σ H D I h
  refine wpAny_Try_except (wpAny_execs_cons (wpAny_Assign_Name (thn (px pins s σ H _ _ _ I h ?_) fun v s1 ⟨y,H1,I1,r1,q1⟩ => ?_) hs0))
  · exact fun a C d H' s' Fl q => Fl.note I.ok.frames hst hfr fun h' Fl' tr => hh pins σ H' a C d _ D Fl' tr q
  · exact store_ok I1 hN hi hy r1 (fun s2 I2 => wpAny_execs_nil (wpAny_execs_nil ⟨_,H1,I2,q1⟩)) hf
end
def XO (a:Addr) (C:Value) (d:Option Addr):HO:=.ext fun h => ∃ oe vs,h.get? a=some oe∧oe.cls=C∧oe.dict=d∧oe.data = .fields vs
section
variable {nb:Bool} {X:Cx} {pins:List (Addr×Obj)} {σ : St} {H:Hp} {s:Shared} {a:Addr} {C:Value} {d:Option Addr}
theorem Flies.track (F:Flies nb X pins σ H a C d s):Inv X pins σ (upd H a (XO a C d)) s:=by
  obtain ⟨oe,vs,he,hc,hdd,hd⟩:=F.at
  have I:=F.inv
  have ne:∀ b u,H b=some u→b≠a:=fun b u e => ne_of_none e F.free
  have neL:X.env.locals≠a:=fun z => by
    obtain ⟨m,⟨o,es,ep,ho,hdt,_⟩,_⟩:=I.loc
    rw [z,he] at ho; cases ho; rw [hd] at hdt; cases hdt
  have neC:∀ x c,X.env.cells.lookup x=some c→c≠a:=fun x c e z => by
    obtain ⟨v,o,ho,hdt⟩:=I.cell x c e
    rw [z,he] at ho; cases ho; rw [hd] at hdt; cases hdt
  have nea:∀ b o,X.s₀.heap.get? b=some o→b≠a:=fun b o e z => by rw [z,F.new] at e; cases e
  refine ⟨I.ok,I.os,I.bare,⟨I.base.keep,I.base.slot,fun b o e n hx => ?_,I.base.there,fun b xs e => ?_,fun b o u e => ?_,fun b ps e => ?_⟩,I.loc,I.cell,?_,fun x c e => ?_,fun p hp => ?_,fun b u e => ?_,I.len⟩
  · rw [upd_ne (nea b o e)]; exact I.base.free b o e n hx
  · rw [upd_ne (ne _ _ (I.base.tups b xs e))]; exact I.base.tups b xs e
  · rw [upd_ne (ne _ _ (I.base.frzs b o u e))]; exact I.base.frzs b o u e
  · obtain ⟨m,q⟩:=I.base.tbls b ps e
    exact ⟨m,by rw [upd_ne (ne _ _ q)]; exact q⟩
  · rw [upd_ne neL]; exact I.free
  · rw [upd_ne (neC x c e)]; exact I.freeC x c e
  · obtain ⟨e,n,r⟩:=I.pin p hp
    exact ⟨e,by rw [upd_ne (F.pin p hp)]; exact n,r⟩
  · by_cases hb:b=a
    · subst hb
      rw [upd_same] at e
      cases e
      refine ⟨⟨oe,vs,he,hc,hdd,hd⟩,⟨oe,he⟩,?_⟩
      rintro h1 h2 ⟨o1,v1,e1,r1⟩ k
      exact ⟨o1,v1,k _ e1,r1⟩
    · rw [upd_ne hb] at e
      exact (I.hok b u e).stay (fun _ _ _ q => q) (fun c q => by rw [upd_ne (ne _ _ q)]; exact q) fun c xs q => by rw [upd_ne (ne _ _ q)]; exact q
theorem Inv.goes {M:Model} {A:Around} {E:Value→Shared→Prop} {i:Nat} {n:Str} {pos:Pos} {Q:Unit→Shared→Prop} (I:Inv X pins σ H s) (hN:X.N.Nodup) (hi:X.N[i]? = some n) (hk:X.env.scope.names.lookup n=some .local)
    (h:∀ s',Inv X pins (σ.set i none) H s'→Q () s'):wpAny M A (do bindName X.env n .none; unbindBehindTheSuite X.env n pos) Q E s:=by
  obtain ⟨m,hn,hl⟩:=id I.loc
  have hcls:(X.env.scope.kind == .class || (X.env.scope.kind == .module && X.env.locals != X.env.globals))=false:=by rw [I.ok.kind]; rfl
  have hiσ : i < σ.length:=by rw [I.len]; exact (List.getElem?_eq_some_iff.mp hi).1
  refine wpAny_nameGoes_keeps hk hn hcls fun h' v hn' hs => ?_
  obtain ⟨oL,_,_,hoL,_⟩:=id hn
  have neL:∀ b o,X.s₀.heap.get? b=some o→b≠X.env.locals:=fun b o e => Nat.ne_of_lt (Nat.lt_of_lt_of_le (Heap.lt_size e) I.ok.above)
  refine h _ ⟨I.ok,I.os,I.bare,⟨fun b o e n hb hx => (hs.2 b (neL b o e)).trans (I.base.keep b o e n hb hx),fun b o e n hb hx => ?_,I.base.free,fun b o e hx => ?_,I.base.tups,I.base.frzs,I.base.tbls⟩,⟨_,hn',fun j y v' e1 e2 e3 => ?_⟩,fun y c e => ?_,I.free,I.freeC,fun p hp => ?_,fun b ob e => ?_,by simpa using I.len⟩
  · obtain ⟨sl,e1⟩:=I.base.slot b o e n hb hx
    exact ⟨sl,(hs.2 b (neL b o e)).trans e1⟩
  · obtain ⟨o',e1⟩:=I.base.there b o e hx
    exact ⟨o',(hs.2 b (neL b o e)).trans e1⟩
  · by_cases hj:j=i
    · subst hj
      rw [List.getElem?_set_self hiσ] at e2
      cases e2
    · rw [List.getElem?_set_ne (Ne.symm hj)] at e2
      obtain ⟨u',r',q⟩:=hl j y v' e1 e2 e3
      refine ⟨u',r',?_⟩
      rcases q with ⟨k,e⟩ | ⟨k,c,e,z⟩
      · refine .inl ⟨k,?_⟩
        have:y≠n:=fun e => hj (nodup_ix hN e1 (e ▸ hi))
        simp [this,e]
      · exact .inr ⟨k,c,e,z.sameBut hs (I.cne y c e)⟩
  · obtain ⟨w',z⟩:=I.cell y c e
    exact ⟨w',z.sameBut hs (I.cne y c e)⟩
  · obtain ⟨e,n,ne,nf,d⟩:=I.pin p hp
    exact ⟨(hs.2 p.1 ne).trans e,n,ne,nf,d⟩
  · refine (I.hok b ob e).stay (fun c w' hc q => (hs.2 c ?_).trans q) (fun _ q => q) fun _ _ q => q
    rintro rfl
    rcases hc with rfl | hc
    · rw [I.free] at e; cases e
    · rw [I.free] at hc; cases hc
def tHas (K:PySem.W.Frag) (c:Value) (i:Nat) (t:TS) (th:Value→Option Addr→TS):Value→Option Addr→TS:=fun C d D σ H => ∃ b,PySem.W.kitCls K C c=some b ∧
  if b=true then ∀ a,H a=none→t { nx:=fun σ' H' => D.nx (σ'.set i none) H',rt:=D.rt,bk:=fun σ' H' => D.bk (σ'.set i none) H',ct:=fun σ' H' => D.ct (σ'.set i none) H' } (σ.set i (some (.ref a))) (upd H a (XO a C d)) else th C d D σ H
theorem ph_as {x n:Str} {np pos:Pos} {i:Nat} {b0:Stmt} {suite:List Stmt} {rest:List ExceptHandler} {c:Value} {t:TS} {th:Value→Option Addr→TS} (hg:Gl X x) (hm:X.mg x=some c) (hk:PySem.W.subIn X.K c (.type "BaseException")=some true)
    (hN:X.N.Nodup) (hi:X.N[i]? = some n) (hl:X.env.scope.names.lookup n=some .local) (hs:∀ a,PSs (X.hnd a) (b0 :: suite) t) (hr:PH nb X rest th) (hd:(x == ("__debug__" : Str))=false:=by decide) :
    PH nb X (.ExceptHandler (some (.Name x np)) (some n) (b0 :: suite) pos :: rest) (tHas X.K c i t th):=by
  intro pins σ H a C d s D F tr h
  obtain ⟨b,kc,h⟩:=h
  obtain ⟨oe,vs,he,hc,hdd,hd'⟩:=F.at
  have I':=F.inv.hnd a
  refine wpAny_handleBy_cons (codeAny_handlers_test (ld_glob (X:=X.hnd a) I' hg hm ?_ hd)) (by intro q; cases q)
  obtain ⟨hp,g,dr,tk,os⟩:=s
  refine match_ok (K:=X.K) F.inv.kIn he (by rw [hc]; exact kc) hk ?_
  cases b with
  | false => exact hr pins σ H a C d _ D F tr h
  | true =>
    refine codeAny_handlers_suite_as (tr.still ?_)
    refine store_ok (X:=X.hnd a) (F.track.hnd a) hN hi (.inl hl) (v:=.ref a) rfl (fun s2 I2 => ?_) (.inr hl)
    refine wpAny_mono (hs a pins s2 _ _ _ I2 (h a F.free)) (fun f s3 q => ?_) fun _ _ q => False.elim q
    cases f with
    | next => obtain ⟨σ',H',J,q⟩:=q; exact (J.unhnd F.inv.ok).goes hN hi hl fun s4 J4 => ⟨_,H',J4,q⟩
    | brk => obtain ⟨σ',H',J,q⟩:=q; exact (J.unhnd F.inv.ok).goes hN hi hl fun s4 J4 => ⟨_,H',J4,q⟩
    | cont => obtain ⟨σ',H',J,q⟩:=q; exact (J.unhnd F.inv.ok).goes hN hi hl fun s4 J4 => ⟨_,H',J4,q⟩
    | ret u => obtain ⟨v,σ',H',J,r,q⟩:=q; exact (J.unhnd F.inv.ok).goes hN hi hl fun s4 J4 => ⟨v,_,H',J4,r,q⟩
end
section
variable {nb:Bool} {X:Cx}
theorem isx_true {prog:Program} {w:World} {A:Around} {E:Value→Shared→Prop} {K:PySem.W.Frag} {s:Shared} {a:Addr} {oe:Obj} {c:Value} {Q:Value→Shared→Prop} (Xk:K.In s.heap) (he:s.heap.get? a=some oe)
    (kc:PySem.W.kitCls K oe.cls c=some true) (h:∀ tk,Q (.bool true) { s with toks:=tk }):wpAny (model prog w) A (call (.builtin "isinstance") [.ref a,c]) Q E s:=by
  refine call_isinstance (S:=fun _ R s => (K.In s.heap∧s.heap.get? a=some oe)∧∀ tk,R (.ok (.ret (.bool true))) { s with toks:=tk }) (fun prog w A R s hs => isinstance_outer ?_ (fun z => nomatch z)) ⟨⟨Xk,he⟩,h⟩
  obtain ⟨h0,g,d,tt,os⟩:=s
  obtain ⟨⟨Xk,he⟩,hq⟩:=hs
  unfold Builtin.«isinstance.nested»
  have LT:∀ {M:Model} {A:Around} {Q:Value→Shared→Prop} {E:Value→Shared→Prop},Q oe.cls ⟨h0,g,d,tt,os⟩→wpAny M A (typeOf (.ref a)) Q E ⟨h0,g,d,tt,os⟩:=fun q => by
    unfold typeOf
    exact wpAny_bind (wpAny_load he (wpAny_pure q))
  refine wpAny_bind (LT ?_)
  by_cases q:(oe.cls == c)=true
  · rw [if_pos q]
    first
      | ((repeat lk); exact hq tt)
      | exact wpAny_bind (wpAny_rule (hq tt))
      | exact wpAny_bind (wpAny_rule (wpAny_pure (hq tt)))
  · rw [if_neg q]
    obtain ⟨hty,his,hsub⟩:=PySem.W.kit_cls (M:=model prog w) Xk kc
    refine wpAny_bind (hty.at ?_)
    rw [if_pos (by decide)]
    k_delta "plainIsInstance"
    refine wpAny_bind (wpAny_bind (his.at ?_))
    simp only [Bool.not_true,Bool.false_eq_true,if_false]
    unfold isInstance
    refine wpAny_bind (wpAny_bind (LT (hsub.at ?_)))
    first
      | exact wpAny_pure (wpAny_pure (hq tt))
      | (simp only [if_true]; first | exact wpAny_pure (wpAny_pure (hq tt)) | exact wpAny_pure (hq tt) | exact wpAny_bind (wpAny_pure (wpAny_pure (hq tt))))
theorem call_isx:CallR X (.builtin "isinstance") (fun xs H Q => ∃ a C d n,xs=[.ref a,.ty n]∧H a=some (XO a C d)∧PySem.W.kitCls X.K C (.type n)=some true∧Q (.bl true) H):=by
  intro pins s σ H xs us Q I r h
  obtain ⟨a,C,d,n,rfl,e,k,q⟩:=h
  obtain ⟨u,u',rfl,rx,ry⟩:=Vals.two r
  cases (show u=Value.ref a from rx)
  cases (show u'=Value.type n from ry)
  obtain ⟨⟨oe,vs,he,hc,_⟩,_⟩:=(show ObjOk X.prog X.w H s.heap a (XO a C d) from I.hok a _ e)
  exact isx_true I.kIn he (by rw [hc]; exact k) fun tk => ⟨.bl true,H,I.tok tk,rfl,q⟩
end
section
open PySem.W
theorem getx {prog:Program} {w:World} {A:Around} {E:Value→Shared→Prop} {K:Frag} {x C:Addr} {ox:Obj} {od:Option Obj} {name:Str} {expr:Bool} {v:Value} {Q:Value→Shared→Prop} {hp:Heap} {g:Array GenState} {dr:Drawn} {tk:Nat} {os:OsState}
    (X:K.In hp) (I:InstAt hp x ox C od) (hga:findIn K (.ref C) "__getattribute__" = some (some (.builtin "BaseException.__getattribute__")))
    (hgt:findIn K (.ref C) "__getattr__" = some none) (hsub:mroIn K C (.type "BaseException")=some true) (hf:findObj K C od name=some (.value v)) (hh:handedIn v=true) (h:Q v ⟨hp,g,dr,tk + 1,os⟩) :
    wpAny (model prog w) A (getAttr (.ref x) name expr) Q E ⟨hp,g,dr,tk,os⟩:=by
  have L0:=I.type (M:=model prog w)
  have L1:=looks_findIn (M:=model prog w) X hga
  have L2:=looks_findIn (M:=model prog w) X hgt
  have L3:=looks_find (M:=model prog w) X I hf
  have L4:=looks_mroIn (M:=model prog w) X hsub
  have f3:=PySem.F.excAttr_ValueError
  have hx2:(Value.builtin "BaseException.__getattribute__" == Value.builtin "object.__getattribute__")=false:=by decide +kernel
  unfold getAttr getAttrBy
  refine wpAny_bind (wpAny_mkText (wpAny_holding (wpAny_bind (L0.at (wpAny_bind (L1.at ?_))))))
  dsimp only
  rw [hx2,Bool.and_false,if_neg (by decide)]
  unfold getAttrByItsOwn
  refine wpAny_bind (L2.at ?_)
  refine wpAny_bind (wpAny_attempt (wpAny_holding ?_))
  have hx0:(expr && onTheHeap (Value.builtin "BaseException.__getattribute__"))=false:=by cases expr <;> rfl
  unfold callGetattribute
  rw [hx0,if_neg (by decide)]
  unfold boundAndCalled
  rw [f3.ga.bind]
  refine wpAny_bind (wpAny_pure (wpAny_call ?_))
  have sub:Looks (model prog w) hp (isInstance (.ref x) (.type "BaseException")) true:=L0.andThen L4
  have hk:builtinKind "BaseException.__getattribute__" = some .slot:=by decide +kernel
  have hsp:splitId "BaseException.__getattribute__" = some ("BaseException", "__getattribute__"):=by decide +kernel
  show codeAny _ _ (.call (.builtin "BaseException.__getattribute__") ⟨[.ref x,.str name tk],[]⟩) _ _
  refine codeAny_call_builtin f3.ga.plain PySem.F.entry_bexc_ga ?_
  refine @check_slot (model prog w) _ _ ⟨hp,g,dr,tk + 1,os⟩ "BaseException.__getattribute__" "BaseException" "__getattribute__" (.ref x) [.str name tk] [] _ hk hsp sub (PySem.F.args_bexc_ga _ _) ?_
  have wlk:wpAny (model prog w) A.in1 (Builtin.«object.__getattribute__» ⟨[.ref x,.str name tk],[]⟩) (fun fin s' => fin = .done (.ret v)∧s'=⟨hp,g,dr,tk + 1,os⟩) (fun _ _ => False) ⟨hp,g,dr,tk + 1,os⟩:=by
    repeat (first | with_reducible refine L0.at ?_ | with_reducible refine L3.at ?_ | wp_step)
    exact ⟨rfl,rfl⟩
  refine wpAny_mono wlk (fun fin s' q => ?_) fun _ _ q => False.elim q
  obtain ⟨rfl,rfl⟩:=q
  show wpAny _ _ (handedOut v) _ _ _
  rw [handedOut_of hh]
  exact wpAny_pure h
end
section
open PySem PySem.Spec PyProof.Rows PySem.W
variable {prog:Program} {w:World} {A:Around} {E:Value→Shared→Prop} {K:Frag} {x C CE N:Addr} {ox:Obj} {od:Option Obj} {name:Str} {v:Value} {Q:Unit→Shared→Prop} {hp:Heap} {g:Array GenState} {dr:Drawn} {tk:Nat} {os:OsState}
  {nm q:Str} {bs:List Value} {sn:List Str} {sub:List Value} {ab:Bool} {col:Option Bool} {dd:Option Addr} {k0 k1 k2 k3 k5:Option Value} {newId:String}
theorem setx (X:K.In hp) (I:InstAt hp x ox C od) (lk:K.lookup C=some (excClassObj nm q C N bs (.ref CE :: bmV) true sn sub ab col dd k0 k1 k2 k3 k5 newId)) (hs:findIn K (.ref C) "__setattr__" = some (some (.builtin "object.__setattr__")))
    (hob:mroIn K C (.type "object")=some true) (hn:findIn K (.ref C) name=some none)
    (h:wpAny (model prog w) A.in1 (Builtin.ObjectAttr.storeInOwnDict (.ref x) (.ref C) (.str name tk) name v false) (fun fin s' => fin = .done (.ret .none)∧Q () s') (fun _ _ => False) ⟨hp,g,dr,tk + 1,os⟩) :
    wpAny (model prog w) A (setAttr (.ref x) name v) Q E ⟨hp,g,dr,tk,os⟩:=by
  refine set_plain (s:=⟨hp,g,dr,tk,os⟩) X I hs ?_
  have SF:=PySem.F.store_object
  have L0:=I.type (M:=model prog w)
  have sub:Looks (model prog w) hp (isInstance (.ref x) (.type "object")) true:=L0.andThen (looks_mroIn X hob)
  refine codeAny_call_builtin SF.slot.plain SF.entry (@check_slot (model prog w) _ _ ⟨hp,g,dr,tk + 1,os⟩ "object.__setattr__" "object" "__setattr__" (.ref x) [.str name tk,v] [] _ SF.kind SF.split sub (SF.args (.ref x) (.str name tk) v) ?_)
  rw [osa_eq,refuse_eq]
  refine wpAny_bind (wpAny_bind (L0.at (wpAny_bind (wpAny_mroOf_exc (X _ _ lk) ?_))))
  rw [refuseLoop_ref,refuseLoop_ref,PySem.F.store_ValueError.passes]
  refine wpAny_pure (wpAny_bind (L0.at (wpAny_bind ((looks_findIn X hn).at (wpAny_bind (wpAny_pure ?_))))))
  refine wpAny_mono h (fun fin s' q => ?_) fun _ _ q => False.elim q
  obtain ⟨rfl,q⟩:=q
  exact q
theorem setx_new {os0:OsState} (X:K.In hp) (hx:hp.get? x=some ox) (hc:ox.cls = .ref C) (hdn:ox.dict=none) (hnc:∀ c,ox.data≠.cls c) (lk:K.lookup C=some (excClassObj nm q C N bs (.ref CE :: bmV) true sn sub ab col dd k0 k1 k2 k3 k5 newId)) (hs:findIn K (.ref C) "__setattr__" = some (some (.builtin "object.__setattr__")))
    (hob:mroIn K C (.type "object")=some true) (hn:findIn K (.ref C) name=some none)
    (h:∀ h' tk',h'.get? x=some { ox with dict:=some hp.objs.size }→h'.Ns1 hp.objs.size (fun y => if y=name then some v else none)→(∀ b o,b≠x→hp.get? b=some o→h'.get? b=some o)→Q () ⟨h',g,dr,tk',os⟩) :
    wpAny (model prog w) A (setAttr (.ref x) name v) Q E ⟨hp,g,dr,tk,os⟩:=by
  have I:InstAt hp x ox C none:=⟨hx,hc,by unfold notCls; split <;> first | rfl | (rename_i e; exact absurd e (hnc _)),by rw [hdn]; trivial⟩
  refine setx X I lk hs hob hn ?_
  have hC:=X _ _ lk
  unfold Builtin.ObjectAttr.storeInOwnDict
  repeat (first | (with_reducible refine wpAny_loadPart_at hx ?_; rw [hc]) | wp_step)
  rw [hdn]
  dsimp only
  rw [if_neg (by simp [typeHasDict])]
  split
  · rename_i c hcd
    exact absurd hcd (hnc c)
  have hx1:(hp.push { cls:=.type "dict",data:=.dict #[] }).get? x=some ox:=Heap.get?_push_of_some _ hx
  have hxs:x≠hp.objs.size:=Nat.ne_of_lt (Heap.lt_size hx)
  refine wpAny_bind (wpAny_alloc' ?_)
  refine wpAny_bind (wpAny_update' hx1 ?_)
  refine wpAny_pure ?_
  have hgd:((hp.push { cls:=.type "dict",data:=.dict #[] }).update x fun o => { cls:=o.cls,dict:=some hp.objs.size,data:=o.data,slots:=o.slots }).get? hp.objs.size
      = some { cls:=.type "dict",data:=.dict #[] } :=
    (Heap.get?_update_ne _ _ _ _ hxs.symm).trans (Heap.get?_push_at rfl rfl)
  have hnd:((hp.push { cls:=.type "dict",data:=.dict #[] }).update x fun o => { cls:=o.cls,dict:=some hp.objs.size,data:=o.data,slots:=o.slots }).Ns hp.objs.size (fun _ => none) :=
    ⟨_,#[],_,hgd,rfl,fun e he => absurd he (by simp),fun _ => rfl⟩
  show wpAny _ _ (Builtin.ObjectAttr.storeInDict hp.objs.size (.str name tk) name v) _ _ _
  unfold Builtin.ObjectAttr.storeInDict Builtin.ObjectAttr.newKeyGuard
  refine wpAny_bind (wpAny_pure (wpAny_bind (wpAny_nsSet1 (Heap.Ns1.of_empty hnd) fun h' hn' hs' => ?_)))
  obtain ⟨oD,esD,epD,hoD,hdD,hcD⟩:=hn'.count (Within.cons name v Within.nil)
  refine wpAny_bind (wpAny_lookBehind hoD (by rw [hdD]; exact pastItsLine_dict (Nat.le_trans hcD (by rw [List.length_cons,List.length_nil,sizeLine_eq]; omega))) ?_)
  refine wpAny_pure ⟨rfl,h h' _ ?_ hn' fun b ob hbx hb => ?_⟩
  · refine (hs'.2 x hxs).trans (Heap.get?_update_self _ hx1 ?_)
    have hfr:=(Heap.get?_some_iff.mp hx).2
    obtain ⟨oc,od,odt,osl⟩:=ox
    cases odt <;> first | rfl | exact hfr
  · exact (hs'.2 b (Nat.ne_of_lt (Heap.lt_size hb))).trans ((Heap.get?_update_ne _ _ _ _ hbx).trans (Heap.get?_push_of_some _ hb))
theorem setx_old {d:Addr} {mA:Str→Option Value} {ns:List Str} (X:K.In hp) (hx:hp.get? x=some ox) (hc:ox.cls = .ref C) (hdx:ox.dict=some d) (hne:d≠x) (hD:hp.Ns1 d mA) (hw:Within mA ns) (hsz:ns.length≤1000) (hnc:∀ c,ox.data≠.cls c) (lk:K.lookup C=some (excClassObj nm q C N bs (.ref CE :: bmV) true sn sub ab col dd k0 k1 k2 k3 k5 newId)) (hs:findIn K (.ref C) "__setattr__" = some (some (.builtin "object.__setattr__")))
    (hob:mroIn K C (.type "object")=some true) (hn:findIn K (.ref C) name=some none)
    (h:∀ h' tk',h'.Ns1 d (fun y => if y=name then some v else mA y)→(∀ b o,b≠d→hp.get? b=some o→h'.get? b=some o)→Q () ⟨h',g,dr,tk',os⟩) :
    wpAny (model prog w) A (setAttr (.ref x) name v) Q E ⟨hp,g,dr,tk,os⟩:=by
  obtain ⟨oD0,hoD0,_⟩:=lookIn_ns hD
  have I:InstAt hp x ox C (some oD0):=⟨hx,hc,by unfold notCls; split <;> first | rfl | (rename_i e; exact absurd e (hnc _)),by rw [hdx]; exact hoD0⟩
  refine setx X I lk hs hob hn ?_
  have hC:=X _ _ lk
  unfold Builtin.ObjectAttr.storeInOwnDict
  repeat (first | (with_reducible refine wpAny_loadPart_at hx ?_; rw [hc]) | wp_step)
  rw [hdx]
  refine wpAny_pure ?_
  show wpAny _ _ (Builtin.ObjectAttr.storeInDict d (.str name tk) name v) _ _ _
  unfold Builtin.ObjectAttr.storeInDict Builtin.ObjectAttr.newKeyGuard
  refine wpAny_bind (wpAny_pure (wpAny_bind (wpAny_nsSet1 hD fun h' hn' hs' => ?_)))
  obtain ⟨oD,esD,epD,hoD,hdD,hcD⟩:=hn'.count (Within.cons name v hw)
  refine wpAny_bind (wpAny_lookBehind hoD (by rw [hdD]; exact pastItsLine_dict (Nat.le_trans hcD (by rw [List.length_cons,sizeLine_eq]; omega))) ?_)
  exact wpAny_pure ⟨rfl,h h' _ hn' fun b ob hbx hb => (hs'.2 b hbx).trans hb⟩
end
section
open PySem PySem.Spec PyProof.Rows PySem.W
variable {prog:Program} {w:World} {A:Around} {E:Value→Shared→Prop} {K:Frag} {e C CE N:Addr} {oe:Obj} {Q:Value→Shared→Prop} {hp:Heap} {g:Array GenState} {dr:Drawn} {tk:Nat} {os:OsState}
  {nm q:Str} {bs:List Value} {hd0:Bool} {sn:List Str} {sub:List Value} {ab:Bool} {col:Option Bool} {dd:Option Addr} {k0 k1 k2 k3 k5:Option Value} {newId:String}
theorem initx {vs:Array Value} {rest:List Value} (X:K.In hp) (he:hp.get? e=some oe) (hc:oe.cls = .ref C) (hd:oe.data = .fields vs) (h0 : 0 < vs.size) (lk:K.lookup C=some (excClassObj nm q C N bs (.ref CE :: bmV) hd0 sn sub ab col dd k0 k1 k2 k3 k5 newId))
    (hr:rest.length≤sizeLine) (h:∀ h',h'.get? e=some (oe.mapFields (·.setIfInBounds 0 (.ref hp.objs.size)))→(∀ b o,b≠e→hp.get? b=some o→h'.get? b=some o)→Q .none ⟨h',g,dr,tk,os⟩) :
    wpAny (model prog w) A (call (.builtin "ValueError.__init__") (.ref e :: rest)) Q E ⟨hp,g,dr,tk,os⟩:=by
  have F:=PySem.F.excBase_ValueError
  have hC:=X _ _ lk
  have hcB:(Value.ref C :: .ref CE :: bmV).contains (.type "ValueError")=true:=by rw [List.contains_cons,List.contains_cons,show bmV.contains (.type "ValueError")=true from by decide +kernel,Bool.or_true,Bool.or_true]
  refine wpAny_call (codeAny_call_builtin F.init.plain F.initEntry ?_)
  have chk:∀ {M:Model} {A:Around} {E:Value→Shared→Prop} {Q:Unit→Shared→Prop},Q () ⟨hp,g,dr,tk,os⟩→wpAny M A (checkBuiltinCall "ValueError.__init__" ⟨.ref e :: rest,[]⟩) Q E ⟨hp,g,dr,tk,os⟩:=by
    intro M A E Q hq
    have hshort:=F.noStar
    simp only [checkBuiltinCall,F.initKind,F.initSplit,F.initRow]
    repeat (first | (with_reducible refine wpAny_loadPart_at he ?_; rw [hc]) | with_reducible refine wpAny_loadPart_at hC ?_ | (with_reducible refine wpAny_isSubtype_exc hC ?_; rw [hcB]) | wp_step)
    refine wpAny_onRaise ?_
    rw [show ∀ (a b:String) (n:Nat),Bind.check ⟨.positional, "*", "ValueError",.self,[⟨"args",.varPos,false⟩]⟩ a b n (List.map (fun x => x.fst) ({ pos:=Value.ref e :: rest }:Args).kw)=pure () from
      fun a b n => check_star_args _ _ _ _ _ _]
    exact wpAny_pure hq
  refine chk ?_
  wp_walk
  have he1:=Heap.get?_push_of_some (h:=hp) { cls:=.type "tuple",data:=.seq rest.toArray } he
  obtain ⟨x0,hx0⟩ : ∃ x0,vs[0]? = some x0:=⟨vs[0],Array.getElem?_eq_getElem h0⟩
  rw [hd]
  refine wpAny_pure ?_
  rw [hx0]
  refine wpAny_pure ?_
  have hd3:=Obj.data_mapFields hd (·.setIfInBounds 0 (Value.ref hp.objs.size))
  have fin:Q .none ⟨(hp.push { cls:=.type "tuple",data:=.seq rest.toArray }).update e (Obj.mapFields (·.setIfInBounds 0 (Value.ref hp.objs.size))),g,dr,tk,os⟩ :=
    h _ (Heap.get?_update_self _ he1 (Obj.isFreed_of_fields hd3)) fun b o hb q => (Heap.get?_update_other _ _ (Ne.symm hb)).trans (Heap.get?_push_of_some _ q)
  refine wpAny_bind (wpAny_setField he1 hd h0 ?_)
  cases x0 <;> first | exact wpAny_letGo (wpAny_pure fin) | exact wpAny_pure (wpAny_pure fin)
end
end L2
set_option Elab.async false
set_option linter.all false
set_option maxRecDepth 100000
set_option maxHeartbeats 1000000
namespace L2
open PySem PySem.Spec PyProof.Rows
section
open PySem.W
variable {prog:Program} {w:World} {A:Around} {E:Value→Shared→Prop} {K:Frag} {C CE N fI:Addr} {h:Heap} {g:Array GenState} {d:Drawn} {t:Nat} {os:OsState}
  {nm q:Str} {bs:List Value} {hdct:Bool} {sn:List Str} {sub:List Value} {ab:Bool} {col:Option Bool} {dd:Option Addr} {k0 k1 k2 k3 k5:Option Value}
theorem callx_init {mN:Str→Option Value} {rest:List Value} {oI:Obj} {Q:Value→Shared→Prop} (X:K.In h) (lk:K.lookup C=some (excClassObj nm q C N bs (.ref CE :: bmV) hdct sn sub ab col dd k0 k1 k2 k3 k5 "ValueError.__new__")) (T:OwnTail h bmV (.ref CE :: bmV))
    (hi:findIn K (.ref C) "__init__" = some (some (.ref fI))) (hfI:h.get? fI=some oI) (hfc:oI.cls = .type "function")
    (hq:∀ h' e,Heap.MadeExcOf h h' e (.ref C) rest →
      wpAny (model prog w) (A.under (.builtin "type.__call__" ⟨.ref C :: rest,[]⟩)) (call (.ref fI) (.ref e :: rest)) (fun r s' => r = .none∧Q (.ref e) s') E ⟨h',g,d,t,os⟩) (hrest:rest.length≤sizeLine) :
    wpAny (model prog w) A (call (.ref C) rest) Q E ⟨h,g,d,t,os⟩:=by
  have F:=PySem.F.excBase_ValueError
  have hC:=X _ _ lk
  have core:∀ {A:Around} {Q:Fin→Shared→Prop},(∀ h' e,Heap.MadeExcOf h h' e (.ref C) rest →
      wpAny (model prog w) A (call (.ref fI) (.ref e :: rest)) (fun r s' => r = .none∧Q (.done (.ret (.ref e))) s') E ⟨h',g,d,t,os⟩)→wpAny (model prog w) A (Builtin.«type.__call__» ⟨.ref C :: rest,[]⟩) Q E ⟨h,g,d,t,os⟩:=by
    intro A Q hq
    repeat (first | with_reducible refine wpAny_loadPart_at hC ?_ | with_reducible refine wpAny_madeBy_exc hC ?_ | wp_step)
    refine codeAny_call_builtin_code (Code.quiet_builtin _ F.quiet) (wpAny_check_new_subT F T hC ?_)
    refine codeAny_exc_new_subT F T hC ?_ hrest
    show wpAny _ _ _ _ _ _
    have k1:∀ b o,h.get? b=some o→((h.push { cls:=.type "tuple",data:=.seq rest.toArray }).push { cls:=.ref C,data:=.fields #[.ref h.objs.size,.none,.none,.none,.bool false,.none] }).get? b=some o :=
      fun b o e => Heap.get?_push_of_some _ (Heap.get?_push_of_some _ e)
    have hC1:=k1 _ _ hC
    have hfI1:=k1 _ _ hfI
    have hget:((h.push { cls:=.type "tuple",data:=.seq rest.toArray }).push
        { cls:=.ref C,data:=.fields #[.ref h.objs.size,.none,.none,.none,.bool false,.none] }).get? (h.objs.size + 1)=some
        { cls:=.ref C,data:=.fields #[.ref h.objs.size,.none,.none,.none,.bool false,.none] }:=by heap_get
    have hcC:(Value.ref C :: .ref CE :: bmV).contains (.ref C)=true:=by simp
    unfold isInstance
    repeat (first | with_reducible refine wpAny_loadPart_at hget ?_ | (with_reducible refine wpAny_isSubtype_exc hC1 ?_; rw [hcC]) | wp_step)
    show wpAny _ _ (typeLookup (.ref C) _) _ _ _
    refine (looks_findIn (X.keeps k1) hi).at ?_
    refine wpAny_holding (wpAny_bind ?_)
    unfold bindSpecial
    refine wpAny_bind (wpAny_typeOf (T := "function") ⟨_,hfI1,hfc⟩ ?_)
    rw [if_pos (by decide)]
    refine wpAny_pure (wpAny_bind (wpAny_mono (hq _ (h.objs.size + 1) ⟨k1,Heap.get?_none_of_le (Nat.le_succ _),h.objs.size,hget,Heap.get?_none_of_le (Nat.le_refl _),?_⟩) (fun r s' hr => ?_) fun _ _ x => x))
    · exact Heap.get?_push_of_some _ (Heap.get?_push_at rfl rfl)
    · obtain ⟨rfl,hQ⟩:=hr
      wp_walk
      exact hQ
  have f1:=tc_lookup
  have f2:=tc_bind (.ref C)
  have hT:(⟨h,g,d,t,os⟩ : Shared).TypeIs (.ref C) "type" := ⟨_,hC,rfl⟩
  refine wpAny_call (codeAny_of_tree ?_)
  show wpAny _ _ (callAny (.ref C) _) _ _ _
  repeat (any_goals (first | assumption | with_reducible refine wpAny_loadPart_at hC ?_ | wp_step))
  refine ⟨rfl,?_⟩
  refine codeAny_call_builtin_at (Code.quiet_builtin _ (by decide +kernel)) entry_typeCall (wpAny_check_type_call_sub hC (core fun h' e hm => ?_))
  exact hq h' e hm
end
section
def XI (a C:Addr) (d:Option Addr):HO:=.ext fun h => ∃ oe vs,h.get? a=some oe∧oe.cls = .ref C∧oe.dict=d∧oe.data = .fields vs∧vs.size=6∧vs[1]? = some .none∧vs[2]? = some .none
def XD (d:Addr) (fs:List (Str×V)):HO:=.ext fun h => ∃ mA,h.Ns1 d mA∧(∀ f,RelO (fs.lookup f) (mA f))∧PySem.Within mA (fs.map (·.1))∧fs.length≤100
theorem ns1_kept {h h':Heap} {d:Addr} {mA:Str→Option Value} (n:h.Ns1 d mA) (k:∀ o,h.get? d=some o→h'.get? d=some o):h'.Ns1 d mA:=by
  obtain ⟨o,es,ep,e1,r⟩:=n
  exact ⟨o,es,ep,k _ e1,r⟩
theorem xi_ok {P:Program} {w:World} {H:Hp} {h:Heap} {a C:Addr} {d:Option Addr} {oe:Obj} {vs:Array Value} (he:h.get? a=some oe) (hc:oe.cls = .ref C) (hdd:oe.dict=d) (hd:oe.data = .fields vs) (h6:vs.size=6) (h1:vs[1]? = some .none∧vs[2]? = some .none):ObjOk P w H h a (XI a C d):=by
  refine ⟨⟨oe,vs,he,hc,hdd,hd,h6,h1⟩,⟨oe,he⟩,?_⟩
  rintro g1 g2 ⟨o1,v1,e1,r1⟩ k
  exact ⟨o1,v1,k _ e1,r1⟩
theorem xd_ok {P:Program} {w:World} {H:Hp} {h:Heap} {d:Addr} {fs:List (Str×V)} {mA:Str→Option Value} (n:h.Ns1 d mA) (r:∀ f,RelO (fs.lookup f) (mA f)) (hw:PySem.Within mA (fs.map (·.1))) (hl:fs.length≤100):ObjOk P w H h d (XD d fs):=by
  obtain ⟨o,es,ep,e1,rr⟩:=n
  refine ⟨⟨mA,⟨o,es,ep,e1,rr⟩,r,hw,hl⟩,⟨o,e1⟩,?_⟩
  rintro g1 g2 ⟨m1,n1,r1⟩ k
  exact ⟨m1,ns1_kept n1 k,r1⟩
theorem upd_id {H:Hp} {a:Addr} {o:HO} (h:H a=some o):upd H a o=H:=by
  funext b
  unfold upd
  by_cases hb:b=a
  · rw [if_pos hb,hb,h]
  · rw [if_neg hb]
structure XCls (K:PySem.W.Frag) (C CE fI:Addr):Prop where
  lk:∃ nm q N bs sn sub ab col dd k0 k1 k2 k3 k5,K.lookup C=some (excClassObj nm q C N bs (.ref CE :: bmV) true sn sub ab col dd k0 k1 k2 k3 k5 "ValueError.__new__")
  be:PySem.W.excIn K CE bmV "ValueError.__new__" = true
  init:PySem.W.findIn K (.ref C) "__init__" = some (some (.ref fI))
  fn:PySem.W.isFn K (.ref fI)=true
  sa:PySem.W.findIn K (.ref C) "__setattr__" = some (some (.builtin "object.__setattr__"))
  ob:PySem.W.mroIn K C (.type "object")=some true
  bx:PySem.W.mroIn K C (.type "BaseException")=some true
  hd:PySem.W.hasDictIn K C=true
  ga:PySem.W.findIn K (.ref C) "__getattribute__" = some (some (.builtin "BaseException.__getattribute__"))
  gt:PySem.W.findIn K (.ref C) "__getattr__" = some none
end
section
variable {X:Cx} {pins:List (Addr×Obj)} {σ : St} {H:Hp} {s:Shared} {d:Addr} {o:HO}
theorem Inv.track (I:Inv X pins σ H s) (n0:X.s₀.heap.get? d=none) (fr:H d=none) (nl:X.env.locals≠d) (nc:∀ x c,X.env.cells.lookup x=some c→c≠d) (np:∀ p∈X.pn ++ pins,p.1≠d) (ok:ObjOk X.prog X.w (upd H d o) s.heap d o):Inv X pins σ (upd H d o) s:=by
  have ne:∀ b u,H b=some u→b≠d:=fun b u e => ne_of_none e fr
  have nea:∀ b o,X.s₀.heap.get? b=some o→b≠d:=fun b o e z => by rw [z,n0] at e; cases e
  refine ⟨I.ok,I.os,I.bare,⟨I.base.keep,I.base.slot,fun b o e n hx => ?_,I.base.there,fun b xs e => ?_,fun b o u e => ?_,fun b ps e => ?_⟩,I.loc,I.cell,?_,fun x c e => ?_,fun p hp => ?_,fun b u e => ?_,I.len⟩
  · rw [upd_ne (nea b o e)]; exact I.base.free b o e n hx
  · rw [upd_ne (ne _ _ (I.base.tups b xs e))]; exact I.base.tups b xs e
  · rw [upd_ne (ne _ _ (I.base.frzs b o u e))]; exact I.base.frzs b o u e
  · obtain ⟨m,q⟩:=I.base.tbls b ps e
    exact ⟨m,by rw [upd_ne (ne _ _ q)]; exact q⟩
  · rw [upd_ne nl]; exact I.free
  · rw [upd_ne (nc x c e)]; exact I.freeC x c e
  · obtain ⟨e,n,r⟩:=I.pin p hp
    exact ⟨e,by rw [upd_ne (np p hp)]; exact n,r⟩
  · by_cases hb:b=d
    · subst hb
      rw [upd_same] at e
      cases e
      exact ok
    · rw [upd_ne hb] at e
      exact (I.hok b u e).stay (fun _ _ _ q => q) (fun c q => by rw [upd_ne (ne _ _ q)]; exact q) fun c xs q => by rw [upd_ne (ne _ _ q)]; exact q
end
section
variable {X:Cx} {C CE fI:Addr} {o value:Expr} {f:Str} {ta tv:TE} {pos pos':Pos}
def sX (C:Addr) (ta tv:TE) (f:Str):TS:=fun D σ H => tv σ H fun y H1 => ta σ H1 fun x H2 => ∃ a,x = .ref a ∧
  ((H2 a=some (XI a C none)∧∀ d,H2 d=none→D.nx σ (upd (upd H2 a (XI a C (some d))) d (XD d [(f,y)]))) ∨
   ∃ d fs,H2 a=some (XI a C (some d))∧H2 d=some (XD d fs)∧d≠a∧fs.length < 100∧D.nx σ (upd H2 d (XD d (putF f y fs))))
theorem ps_xfld (c:XCls X.K C CE fI) (hn:PySem.W.findIn X.K (.ref C) f=some none) (ha:PE X o ta) (hv:PE X value tv) (hs:swapsWith value (some (.Attribute o f pos')) pos.line X.env=pure false:=by rfl) :
    PS X (.Assign [.Attribute o f pos'] value pos) (sX C ta tv f):=by
  intro pins s σ H D I h
  obtain ⟨nm,q,N,bs,sn,sub,ab,col,dd,k0,k1,k2,k3,k5,lk⟩:=c.lk
  refine plainObj_wpAny_Assign_Attribute (thn (hv pins s σ H _ I h) fun u s1 ⟨y,H1,I1,ry,q⟩ => thn (ha pins s1 σ H1 _ I1 q) fun ov s2 ⟨x,H2,I2,rx,a,ex,q2⟩ => ?_) hs
  subst ex
  obtain rfl:ov=Value.ref a:=rx
  rcases q2 with ⟨ea,q2⟩ | ⟨d,fs,ea,ed,ne,hl,q2⟩
  · obtain ⟨⟨oe,vs,he,hc,hdn,hd,h6,h1⟩,_⟩:=(show ObjOk X.prog X.w H2 s2.heap a (XI a C none) from I2.hok a _ ea)
    obtain ⟨hp,g,dr,tk,os⟩:=s2
    refine setx_new (os0:=os) I2.kIn he hc hdn (fun z q => by rw [hd] at q; cases q) lk c.sa c.ob hn fun h' tk' hx' hns' keep => ?_
    have I3:Inv X pins σ (upd H2 a (XI a C (some hp.objs.size))) ⟨h',g,dr,tk',os⟩ :=
      I2.write (x:=a) (e:=a) (by rw [ea]; exact True.intro) (.inl rfl) (fun b u hb q => keep b u hb q) ⟨_,hx'⟩ (xi_ok hx' hc rfl hd h6 h1)
    have fr:H2 hp.objs.size=none:=I2.hok.fresh (Nat.le_refl _)
    have na:hp.objs.size≠a:=Nat.ne_of_gt (Heap.lt_size he)
    refine ⟨σ,_,I3.track (d:=hp.objs.size) (o:=XD hp.objs.size [(f,y)]) (Heap.get?_none_of_le (show X.s₀.heap.objs.size≤hp.objs.size from I2.sz)) (by rw [upd_ne na]; exact fr) (Nat.ne_of_lt (show X.env.locals < hp.objs.size from I2.lt)) (fun x' c' e z => ?_) (fun p hp' z => ?_) ?_,q2 _ fr⟩
    · obtain ⟨v,o',ho',_⟩:=I2.cell x' c' e
      exact Nat.lt_irrefl _ (z ▸ Heap.lt_size ho')
    · have:=Heap.lt_size (I2.pin p hp').1
      exact Nat.lt_irrefl _ (z ▸ this)
    · refine xd_ok hns' (fun g' => ?_) (fun g' hg => ?_) (by simp)
      · by_cases hg:g'=f
        · subst hg
          simp [List.lookup]
          exact ry
        · have:(g' == f)=false:=by simpa using hg
          simp [List.lookup,this,hg,RelO]
      · by_cases q':g'=f
        · simp [q']
        · exact absurd (show (if g'=f then some u else none)=none by rw [if_neg q']) hg
  · obtain ⟨⟨oe,vs,he,hc,hdx,hd,h6,h1⟩,_⟩:=(show ObjOk X.prog X.w H2 s2.heap a (XI a C (some d)) from I2.hok a _ ea)
    obtain ⟨⟨mA,hD,r,wi,hl0⟩,_⟩:=(show ObjOk X.prog X.w H2 s2.heap d (XD d fs) from I2.hok d _ ed)
    obtain ⟨hp,g,dr,tk,os⟩:=s2
    refine setx_old I2.kIn he hc hdx ne hD wi (by rw [List.length_map]; omega) (fun z q => by rw [hd] at q; cases q) lk c.sa c.ob hn fun h' tk' hns' keep => ?_
    have hd':∃ o,h'.get? d=some o:=let ⟨o,_,_,e',_⟩:=hns'; ⟨o,e'⟩
    refine ⟨σ,_,I2.write (x:=d) (e:=d) (by rw [ed]; exact True.intro) (.inl rfl) (fun b u hb q => keep b u hb q) hd' ?_,q2⟩
    refine xd_ok hns' (fun g' => ?_) (fun g' hg => ?_) ?_
    · show RelO ((putF f y fs).lookup g') (if g'=f then some u else mA g')
      rw [lookup_putF]
      by_cases q:g'=f
      · rw [if_pos q,if_pos q]; exact ry
      · rw [if_neg q,if_neg q]; exact r g'
    · by_cases q:g'=f
      · rw [q]; exact (keys_putF f y fs).1
      · refine (keys_putF f y fs).2 g' (wi g' fun z => hg ?_)
        show (if g'=f then some u else mA g')=none
        rw [if_neg q]; exact z
    · have:=length_putF f y fs; omega
end
section
variable {X:Cx} {C CE fI:Addr} {e:Expr} {f:Str} {ta:TE} {pos:Pos}
end
section
variable {X:Cx} {C CE fI:Addr} {e:Expr} {es:List Expr} {ta:TA} {x:Str} {p apos pos:Pos} {pl:Sem Bool}
structure XSup (K:PySem.W.Frag) (CE:Addr):Prop where
  rd:PySem.W.readsIn K CE (.type "type")=true
  fc:PySem.W.findCls K (.ref CE) (.type "type") "__init__" = some (.val (.builtin "ValueError.__init__"))
  sg:PySem.W.specialIn K (.ref CE) "__getattribute__" = some (some (.builtin "type.__getattribute__"))
def tSup (C:Addr) (ta:TA):TE:=fun σ H Q => ta σ H fun vs H1 => ∃ a d v,vs=[.ref a,v]∧H1 a=some (XI a C d)∧Q .non H1
theorem pe_sup (c:XCls X.K C CE fI) (u:XSup X.K CE) (hg:Gl X x) (hm:X.mg x=some (.ref CE)) (ha:PA X (e :: es) ta) (hdb:(x == ("__debug__" : Str))=false:=by decide)
    (he:starEach (e :: es) X.env=(false,eval e X.env) :: starEach es X.env:=by rfl) (hpl:(backTo pos (starEach es X.env)).any (·.1)=false:=by rfl)
    (ht:eval (.Call (.Attribute (.Name x p) "__init__" apos) (e :: es) [] pos) X.env=(do
      let ov ← eval (.Name x p) X.env
      standAt apos.atName
      let (f,first) ← holding [ov] (getMethod ov "__init__" pl)
      callWith pos f first (backTo pos (starEach (e :: es) X.env)) (backToKw pos (keywordEach [] X.env))):=by rfl) :
    PE X (.Call (.Attribute (.Name x p) "__init__" apos) (e :: es) [] pos) (tSup C ta):=by
  intro pins s σ H Q I h
  obtain ⟨nm,q,N,bs,sn,sub,ab,col,dd,k0,k1,k2,k3,k5,lk⟩:=c.lk
  refine PySem.W.methodCall_KW (pl:=pl) (ld_glob I hg hm ?_ hdb) ht
  refine PySem.W.method_cls I.kIn u.sg (PySem.W.cls_value I.kIn u.rd u.fc rfl ?_)
  refine PyProof.Rows.callWith_builtin1 (thn (ha pos pins _ σ H _ (I.tok _) h) fun us s1 ⟨vs,H1,I1,r1,a,d,v,ev,ea,q1⟩ => ?_) he hpl
  subst ev
  obtain ⟨u1,u2,rfl,ra,_⟩:=Vals.two r1
  cases (show u1=Value.ref a from ra)
  obtain ⟨⟨oe,vs,he,hc,hdx,hd,h6,h1⟩,_⟩:=(show ObjOk X.prog X.w H1 s1.heap a (XI a C d) from I1.hok a _ ea)
  obtain ⟨hp,g,dr,tk,os⟩:=s1
  refine initx I1.kIn he hc hd (by omega) lk (by rw [sizeLine_eq,List.length_cons,List.length_nil]; omega) fun h' hx' keep => ?_
  have I2:Inv X pins σ (upd H1 a (XI a C d)) ⟨h',g,dr,tk,os⟩ :=
    I1.write (x:=a) (e:=a) (by rw [ea]; exact True.intro) (.inl rfl) (fun b u hb q => keep b u hb q) ⟨_,hx'⟩ (xi_ok hx' ((Obj.cls_mapFields _ _).trans hc) (by
      obtain ⟨oc,od,odt,osl⟩:=oe
      cases odt <;> exact hdx) (Obj.data_mapFields hd _) (by simp [h6]) ⟨by simp [Array.getElem?_setIfInBounds,h1.1],by simp [Array.getElem?_setIfInBounds,h1.2]⟩)
  rw [upd_id ea] at I2
  exact ⟨.non,H1,I2,rfl,q1⟩
end
def drp (H:Hp) (a:Addr):Hp:=fun b => if b=a then none else H b
theorem drp_ne {H:Hp} {a b:Addr} (h:b≠a):drp H a b=H b:=by unfold drp; rw [if_neg h]
theorem drp_same {H:Hp} {a:Addr}:drp H a a=none:=by unfold drp; rw [if_pos rfl]
section
variable {X:Cx} {pins:List (Addr×Obj)} {σ : St} {H:Hp} {s:Shared} {a:Addr} {φ : Heap→Prop}
theorem Inv.drop (I:Inv X pins σ H s) (n0:X.s₀.heap.get? a=none) (ha:H a=some (.ext φ)):Inv X pins σ (drp H a) s:=by
  have dn:∀ b,H b=none→drp H a b=none:=fun b n => by
    by_cases hb:b=a
    · rw [hb]; exact drp_same
    · rw [drp_ne hb]; exact n
  have nt:∀ b xs,H b=some (.tup xs)→b≠a:=fun b xs e z => by rw [z,ha] at e; cases e
  have no:∀ b c,H b=some (.own c)→b≠a:=fun b xs e z => by rw [z,ha] at e; cases e
  refine ⟨I.ok,I.os,I.bare,⟨I.base.keep,I.base.slot,fun b o e n hx => dn b (I.base.free b o e n hx),I.base.there,fun b xs e => ?_,fun b o u e => ?_,fun b ps e => ?_⟩,I.loc,I.cell,dn _ I.free,fun x c e => dn c (I.freeC x c e),fun p hp => ?_,fun b u e => ?_,I.len⟩
  · rw [drp_ne (nt _ _ (I.base.tups b xs e))]; exact I.base.tups b xs e
  · have q:=I.base.frzs b o u e
    rw [drp_ne (fun z => by rw [z,ha] at q; cases q)]; exact q
  · obtain ⟨m,q⟩:=I.base.tbls b ps e
    exact ⟨m,by rw [drp_ne (fun z => by rw [z,ha] at q; cases q)]; exact q⟩
  · obtain ⟨e,n,r⟩:=I.pin p hp
    exact ⟨e,dn _ n,r⟩
  · by_cases hb:b=a
    · rw [hb,drp_same] at e; cases e
    · rw [drp_ne hb] at e
      exact (I.hok b u e).stay (fun _ _ _ q => q) (fun c q => by rw [drp_ne (no _ _ q)]; exact q) fun c xs q => by rw [drp_ne (nt _ _ q)]; exact q
end
section
variable {nb:Bool} {X:Cx} {E:XK} {C CE fI:Addr} {k:Nat} {fd:FuncData} {ps:List Str} {sp:Sp} {x:Str} {np cpos pos:Pos} {e:Expr} {es:List Expr} {ta:TA}
def tRaiseC (C:Addr) (sp:Sp) (E0 E:XK) (ta:TA):TS:=fun _ σ H => ta σ H fun vs H1 => vs.length≤100∧∀ a,H1 a=none→sp (.ref a :: vs) (upd H1 a (XI a C none)) (fun v H2 => v = .non∧∃ d,H2 a=some (XI a C (some d))∧E (.ref C) (some d) (drp H2 a)) E0
theorem made_ok {E0:XK} {CX:CXT} (c:XCls X.K C CE fI) (F:FnOk X.prog X.w X.K X.mg X.base CX k fI fd ps sp) (hx0:X.ex=[]) (hno:∀ o H s e s',¬ CX o H s E0 e s') (hr:Room (k + 1) X.A) (hb:Binds X.K fd ps [])
    {pins:List (Addr×Obj)} {σ : St} {H:Hp} {s:Shared} {Ev:Value→Shared→Prop} {us:List Value} {vs:List V} {R:Addr→V→Hp→Prop} (I:Inv X pins σ H s) (r:Vals vs us) (hz:us.length≤sizeLine)
    (h:∀ a,H a=none→sp (.ref a :: vs) (upd H a (XI a C none)) (fun v H2 => v = .non∧R a v H2) E0) :
    wpAny (model X.prog X.w) X.A (call (.ref C) us) (fun v s' => ∃ a H',v = .ref a∧Inv X pins σ H' s'∧X.s₀.heap.get? a=none∧(∀ p∈X.pn ++ pins,p.1≠a)∧R a .non H') Ev s:=by
  obtain ⟨nm,q,N,bs,sn,sub,ab,col,dd,k0,k1,k2,k3,k5,lk⟩:=c.lk
  have old:∀ b,s.heap.get? b=none→X.s₀.heap.get? b=none:=fun b n => by
    cases z:X.s₀.heap.get? b with
    | none => rfl
    | some o =>
      obtain ⟨o',e⟩:=I.base.there b o z (by rw [hx0]; simp)
      rw [n] at e; cases e
  obtain ⟨nmE,qE,NE,bsE,bmE,hdE,snE,subE,abE,colE,ddE,e0,e1,e2,e3,e5,mE,hCE,hNE,hniE,TE⟩:=exc_obj I.kIn c.be
  have TL:OwnTail s.heap bmV (.ref CE :: bmV):=OwnTail.own hCE hNE hniE .base
  have hfn:=beq_iff_eq.mp c.fn
  obtain ⟨oI,hfI,hfc⟩ : ∃ oI,s.heap.get? fI=some oI∧oI.cls = .type "function" := by
    obtain ⟨o,ho,hc⟩:=Option.map_eq_some_iff.mp (show (X.K.lookup fI).map (·.cls)=some (.type "function") from hfn)
    exact ⟨o,I.kIn _ _ ho,hc⟩
  obtain ⟨hp,g,dr,tk,os⟩:=s
  refine callx_init (mN:=fun _ => none) I.kIn lk TL c.init hfI hfc (fun h' a hm => ?_) hz
  have J:Inv X pins σ H ⟨h',g,dr,tk,os⟩:=I.kept (t':=tk) hm.keeps
  obtain ⟨t,h1,h2,h3⟩:=hm.there
  have fr:H a=none:=by
    cases q:H a with
    | none => rfl
    | some u =>
      obtain ⟨o,e⟩:=(I.hok a u q).ex
      rw [hm.new] at e; cases e
  have np:∀ p∈X.pn ++ pins,p.1≠a:=fun p hp z => by
    have:=(I.pin p hp).1
    rw [z,hm.new] at this; cases this
  have I2:Inv X pins σ (upd H a (XI a C none)) ⟨h',g,dr,tk,os⟩:=J.track (old a hm.new) fr (fun z => by
      obtain ⟨m,⟨o,es,ep,ho,_⟩,_⟩:=I.loc
      rw [z,hm.new] at ho; cases ho) (fun x' c' e z => by
      obtain ⟨v,o',ho',_⟩:=I.cell x' c' e
      rw [z,hm.new] at ho'; cases ho') np (xi_ok h1 rfl rfl rfl rfl ⟨rfl,rfl⟩)
  have hq:=h a fr
  have r2:Vals (V.ref a :: vs) (Value.ref a :: us):=.cons rfl r
  have hl:(Value.ref a :: us).length=ps.length:=by
    have e:=r2.length
    rw [F.len _ _ _ _ hq] at e
    exact e.symm
  have bb:=hb _ (Value.ref a :: us) I2.kIn (by simpa using hl)
  rw [List.append_nil] at bb
  refine wpAny_call (codeAny_mono (F.run _ X.stack _ _ ⟨Value.ref a :: us,[]⟩ (Value.ref a :: us) _ _ E0 ((hr.make C us [])) (I2.env0.make C us []) bb r2 hq) fun r s' hq' => ?_)
  cases r with
  | error e => exact absurd hq' (hno _ _ _ _ _)
  | ok fl =>
    cases fl with
    | ret u =>
      obtain ⟨v,H',I3,rv,ev,q3⟩:=I2.after hq'
      subst ev
      exact ⟨rv,a,H',rfl,I3,old a hm.new,np,q3⟩
    | next => exact False.elim hq'
    | brk => exact False.elim hq'
    | cont => exact False.elim hq'
theorem raise_made {M:Model} {A:Around} {E:Value→Shared→Prop} {s:Shared} {env:Env} {x:Sem Value} {Q:Flow→Shared→Prop} {K:PySem.W.Frag} (hh:A.handled=none) (c:XCls K C CE fI)
    (h:wpAny M A x (fun v s1 => ∃ a oe vs,v = .ref a∧s1.heap.get? a=some oe∧oe.cls = .ref C∧oe.data = .fields vs∧vs[1]? = some .none∧K.In s1.heap∧E (.ref a) s1) E s) :
    wpAny M A (raiseStmt env (some x) none) Q E s:=by
  unfold raiseStmt
  refine wpAny_bind (wpAny_mono h (fun v s1 h1 => ?_) fun _ _ x => x)
  obtain ⟨a,oe,vs,rfl,he,hc,hd,h1,X,hE⟩:=h1
  obtain ⟨hp,g,d,tk,os⟩:=s1
  obtain ⟨nm,q,N,bs,sn,sub,ab,col,dd,k0,k1,k2,k3,k5,lk⟩:=c.lk
  have hC:=X _ _ lk
  have L:=PySem.W.looks_mroIn (M:=M) X c.bx
  have he':hp.get? a=some oe:=he
  have hnc:∀ cd,oe.data≠.cls cd:=fun cd z => by rw [hd] at z; cases z
  repeat (first | (with_reducible refine wpAny_loadPart_at he' ?_; rw [hc]) | with_reducible refine wpAny_loadPart_at hC ?_ | with_reducible refine L.at ?_ | wp_step)
  rw [hd]
  refine wpAny_pure ?_
  rw [h1]
  refine wpAny_pure ?_
  rw [if_neg (by decide)]
  exact wpAny_pure (wpAny_raiseNew_none hh hE)
theorem ps_raiseC {E0:XK} {CX:CXT} (c:XCls X.K C CE fI) (F:FnOk X.prog X.w X.K X.mg X.base CX k fI fd ps sp) (hno:∀ o H s e s',¬ CX o H s E0 e s') (hW:Wants nb X E) (hc:X.calm=true) (hr:Room (k + 1) X.A) (hb:Binds X.K fd ps [])
    (hg:Gl X x) (hm:X.mg x=some (.ref C)) (hk:PySem.W.keepIn X.K (.ref C)=true) (ha:PA X (e :: es) ta) (hdb:(x == ("__debug__" : Str))=false:=by decide)
    (he:starEach (e :: es) X.env=(false,eval e X.env) :: starEach es X.env:=by rfl) (hpl:(backTo cpos (starEach es X.env)).any (·.1)=false:=by rfl) :
    PS X (.Raise (some (.Call (.Name x np) (e :: es) [] cpos)) none pos) (tRaiseC C sp E0 E ta):=by
  intro pins s σ H D I h
  rw [arm_exec_Raise]
  show wpAny _ _ (do standAt pos; raiseStmt X.env (some (do let v ← eval (.Call (.Name x np) (e :: es) [] cpos) X.env; standAt pos; pure v)) none) _ _ s
  refine wpAny_bind (wpAny_standAt (raise_made (K:=X.K) (I.ok.hd hc) c (wpAny_bind ?_)))
  refine wpAny_Call_Name_kw (ld_glob I hg hm ?_ hdb)
  refine PySem.W.callWith_K (h₀:=X.base) I.ok.mod.kin hk (thn (ha cpos pins s σ H _ I h) fun us s1 ⟨vs,H1,I1,r,z,q⟩ => ⟨I1.kIn,?_⟩) he hpl
  refine wpAny_mono (made_ok (R:=fun a v H2 => ∃ d,H2 a=some (XI a C (some d))∧E (.ref C) (some d) (drp H2 a)) (Ev:=fun _ _ => False) c F hW.1 hno hr hb I1 r (by show us.length≤sizeLine; rw [← r.length,sizeLine_eq]; omega) q) (fun v s2 hq => ?_) fun _ _ z => False.elim z
  obtain ⟨a,H2,rfl,I2,n0,np',d,ea,qq⟩:=hq
  refine wpAny_bind (wpAny_standAt (wpAny_pure ?_))
  obtain ⟨⟨oe,ws,he',hc',hdx,hd,h6,h1⟩,_⟩:=(show ObjOk X.prog X.w H2 s2.heap a (XI a C (some d)) from I2.hok a _ ea)
  exact ⟨a,oe,ws,rfl,he',hc',hd,h1.1,I2.kIn,hW.2 pins σ (drp H2 a) a (.ref C) (some d) s2 ⟨I2.drop n0 ea,n0,drp_same,np',oe,ws,he',hc',hdx,hd,.inl h1.1,fun _ => h1.2⟩ qq⟩
end
section
open PySem.W
variable {prog:Program} {w:World} {A:Around} {E:Value→Shared→Prop} {K:Frag} {x C:Addr} {ox:Obj} {od:Option Obj} {hp:Heap} {g:Array GenState} {dr:Drawn} {tk:Nat} {os:OsState}
end
section
variable {X:Cx}
end
section
variable {nb:Bool} {P:Program} {w:World} {K:PySem.W.Frag} {mg:Str→Option Value} {base:Heap}
theorem Fun.okX {x qual:Str} {st:Stmt} {f:Addr} {fd:FuncData} {N ps:List Str} {k:Nat} {sp:Sp} (F:Fun K x qual st f fd) (S:FnScope N ps (defScope st)) (len:∀ vs H Q E,sp vs H Q E→vs.length=ps.length)
    (hbody:∀ (cdv:Value) (A:Around) (outer:List Env) (s:Shared) (H:Hp) (vs:List V) (Q:VK) (E:XK),Room k (A.deeper (envOfC qual (defScope st) s.heap.objs.size f cdv))→sp vs H Q E →
      ∃ t,PSs (cxOf (CXN nb P w) P w K mg base N qual (defScope st) f cdv A outer s H E) (defBody st) t∧t { nx:=fun _ H' => Q .non H',rt:=Q } (start N vs) H):FnOk P w K mg base (CXN nb P w) (k + 1) f fd ps sp:=by
  obtain ⟨oc,od,kV,doc,pm,an,cdv,ct,osl,rfl,lk,hcd⟩:=F.ex
  exact fn_of lk hcd S len fun A outer s H vs Q E hr hsp => hbody cdv A outer s H vs Q E hr hsp
end
end L2
set_option Elab.async false
set_option linter.all false
set_option maxRecDepth 100000
set_option maxHeartbeats 4000000
namespace L2
open PySem PySem.Spec PyProof.Rows
theorem entry_unchain:entryFor table "proto.unchain" = some Builtin.«proto.unchain»:=entryFor_of_tree (by kernel_rfl)
section
variable {prog:Program} {w:World} {A:Around} {E:Value→Shared→Prop} {s:Shared}
theorem raiseNew_under {α : Type} {a h:Addr} {oe oh:Obj} {vs hs:Array Value} {Q : α→Shared→Prop} (hh:A.handled=some (.ref h)) (ne:h≠a) (he:s.heap.get? a=some oe) (hd:oe.data = .fields vs) (h2 : 2 < vs.size)
    (hx:s.heap.get? h=some oh) (hxd:oh.data = .fields hs) (hc:hs[2]? = some .none)
    (q:E (.ref a) { s with heap:=s.heap.update a (Obj.mapFields (·.setIfInBounds 2 (.ref h))) }):wpAny (model prog w) A (raiseNew (.ref a):Sem α) Q E s:=by
  unfold raiseNew
  refine wpAny_bind (wpAny_handled ?_)
  rw [hh]
  show wpAny _ _ (if (Value.ref h != Value.ref a)=true then do
      let _ ← holding [.ref a] (runValue (.builtin "proto.unchain" ⟨[.ref a,.ref h,.ref h,.bool false],[]⟩))
      let _ ← updateField a 2 (.ref h)
      throw (.ref a)
     else throw (.ref a)) _ _ s
  rw [if_pos (show (Value.ref h != Value.ref a)=true from by simpa using ne)]
  refine wpAny_bind (wpAny_holding (wpAny_runValue (codeAny_builtin entry_unchain ?_)))
  unfold Builtin.«proto.unchain»
  refine wpAny_bind (wpAny_field hx hxd hc ?_)
  rw [if_pos (by rfl)]
  refine wpAny_pure ?_
  refine wpAny_bind ?_
  show wpAny _ _ (setField (.ref a) 2 (.ref h)) _ _ s
  exact wpAny_setField he hd h2 (wpAny_throw q)
theorem raise_from {C CE fI h:Addr} {env:Env} {x c:Sem Value} {Q:Flow→Shared→Prop} {K:PySem.W.Frag} (hh:A.handled=some (.ref h)) (k:XCls K C CE fI) (hc:∀ {Q:Value→Shared→Prop} {s},Q .none s→wpAny (model prog w) A c Q E s)
    (hx:wpAny (model prog w) A x (fun v s1 => ∃ a oe vs oh hs,v = .ref a∧h≠a∧s1.heap.get? a=some oe∧oe.cls = .ref C∧oe.data = .fields vs∧vs.size=6∧vs[1]? = some .none∧s1.heap.get? h=some oh∧oh.data = .fields hs∧hs[2]? = some .none∧K.In s1.heap∧(∀ b o,K.lookup b=some o→b≠a) ∧
      ∀ h',(∀ b o,b≠a→s1.heap.get? b=some o→h'.get? b=some o)→(∃ oe' vs',h'.get? a=some oe'∧oe'.cls = .ref C∧oe'.dict=oe.dict∧oe'.data = .fields vs'∧vs'.size=6∧vs'[1]? = some .none)→E (.ref a) { s1 with heap:=h' }) E s) :
    wpAny (model prog w) A (raiseStmt env (some x) (some c)) Q E s:=by
  unfold raiseStmt
  refine wpAny_bind (wpAny_mono hx (fun v s1 h1 => ?_) fun _ _ x => x)
  obtain ⟨a,oe,vs,oh,hs,rfl,ne,he,hcl,hd,h6,h1,ho,hod,hoc,X,nK,hE⟩:=h1
  refine wpAny_bind (wpAny_holding (hc ?_))
  refine wpAny_bind (wpAny_pure ?_)
  obtain ⟨hp,g,d,tk,os⟩:=s1
  obtain ⟨nm,q,N,bs,sn,sub,ab,col,dd,k0,k1,k2,k3,k5,lk⟩:=k.lk
  have hC:=X _ _ lk
  have L:=PySem.W.looks_mroIn (M:=model prog w) X k.bx
  have he':hp.get? a=some oe:=he
  have hnc:∀ cd,oe.data≠.cls cd:=fun cd z => by rw [hd] at z; cases z
  repeat (first | (with_reducible refine wpAny_loadPart_at he' ?_; rw [hcl]) | with_reducible refine wpAny_loadPart_at hC ?_ | with_reducible refine L.at ?_ | wp_step)
  rw [hd]
  show wpAny _ _ (if 3 < vs.size then update a (Obj.mapFields fun x => x.setIfInBounds 3 Value.none) else unsupported "internal:no-such-field") _ _ _
  rw [if_pos (by omega)]
  refine wpAny_update he' ?_
  have d1:=Obj.data_mapFields hd (·.setIfInBounds 3 Value.none)
  have e1:=Heap.get?_update_self (Obj.mapFields (·.setIfInBounds 3 Value.none)) he' (Obj.isFreed_of_fields d1)
  refine wpAny_bind (wpAny_setField e1 d1 (by simp [h6]) ?_)
  have d2:=Obj.data_mapFields d1 (·.setIfInBounds 4 (Value.bool true))
  have e2:=Heap.get?_update_self (Obj.mapFields (·.setIfInBounds 4 (Value.bool true))) e1 (Obj.isFreed_of_fields d2)
  have kp:∀ b o,b≠a→hp.get? b=some o→((hp.update a (Obj.mapFields (·.setIfInBounds 3 Value.none))).update a (Obj.mapFields (·.setIfInBounds 4 (Value.bool true)))).get? b=some o:=fun b o n e => by
    rw [Heap.get?_update_other _ _ (Ne.symm n),Heap.get?_update_other _ _ (Ne.symm n)]; exact e
  have c2:(Obj.mapFields (·.setIfInBounds 4 (Value.bool true)) (Obj.mapFields (·.setIfInBounds 3 Value.none) oe)).cls = .ref C:=((Obj.cls_mapFields _ _).trans (Obj.cls_mapFields _ _)).trans hcl
  have x2:(Obj.mapFields (·.setIfInBounds 4 (Value.bool true)) (Obj.mapFields (·.setIfInBounds 3 Value.none) oe)).dict=oe.dict:=by
    obtain ⟨oc,od,odt,osl⟩:=oe
    cases odt <;> rfl
  have h12:((vs.setIfInBounds 3 Value.none).setIfInBounds 4 (Value.bool true))[1]? = some .none:=by simp [Array.getElem?_setIfInBounds,h1]
  have h62:((vs.setIfInBounds 3 Value.none).setIfInBounds 4 (Value.bool true)).size=6:=by simp [h6]
  have C2:=kp _ _ (nK _ _ lk) hC
  have X2:K.In ((hp.update a (Obj.mapFields (·.setIfInBounds 3 Value.none))).update a (Obj.mapFields (·.setIfInBounds 4 (Value.bool true)))):=fun b o e => kp b o (nK b o e) (X b o e)
  have ho2:=kp _ _ ne ho
  generalize hq:(hp.update a (Obj.mapFields (·.setIfInBounds 3 Value.none))).update a (Obj.mapFields (·.setIfInBounds 4 (Value.bool true)))=hp2 at e2 kp C2 X2 ho2 ⊢
  generalize Obj.mapFields (·.setIfInBounds 4 (Value.bool true)) (Obj.mapFields (·.setIfInBounds 3 Value.none) oe)=oe2 at e2 d2 c2 x2 ⊢
  generalize (vs.setIfInBounds 3 Value.none).setIfInBounds 4 (Value.bool true)=vs2 at d2 h12 h62 ⊢
  have L2:=PySem.W.looks_mroIn (M:=model prog w) X2 k.bx
  have e2':hp2.get? a=some oe2:=e2
  have hnc2:∀ cd,oe2.data≠.cls cd:=fun cd z => by rw [d2] at z; cases z
  repeat (first | (with_reducible refine wpAny_loadPart_at e2' ?_; rw [c2]) | with_reducible refine wpAny_loadPart_at C2 ?_ | with_reducible refine L2.at ?_ | wp_step)
  rw [d2]
  refine wpAny_pure ?_
  rw [h12]
  refine wpAny_pure ?_
  rw [if_neg (by decide)]
  refine wpAny_pure ?_
  show wpAny (model prog w) A (raiseNew (Value.ref a)) Q E ⟨hp2,g,d,tk,os⟩
  refine raiseNew_under (s:=⟨hp2,g,d,tk,os⟩) hh ne e2' d2 (by omega) ho2 hod hoc ?_
  have d3:=Obj.data_mapFields d2 (·.setIfInBounds 2 (Value.ref h))
  have e3:=Heap.get?_update_self (Obj.mapFields (·.setIfInBounds 2 (Value.ref h))) e2' (Obj.isFreed_of_fields d3)
  refine hE _ (fun b o n e => ?_) ⟨_,_,e3,(Obj.cls_mapFields _ _).trans c2,?_,d3,by simp [h62],by simp [Array.getElem?_setIfInBounds,h12]⟩
  · rw [Heap.get?_update_other _ _ (Ne.symm n)]; exact kp b o n e
  · refine Eq.trans ?_ x2
    obtain ⟨oc,od,odt,osl⟩:=oe2
    cases odt <;> rfl
end
structure Put0 (fs:List Addr) (h h':Heap) (e:Addr):Prop where
  keep:∀ b o,b≠e→b ∉ fs→h.get? b=some o→h'.get? b=some o
  slot:∀ b o,b≠e→h.get? b=some o→∃ sl,h'.get? b=some { o with slots:=sl }
  exc:∃ oe vs,h.get? e=some oe∧oe.data = .fields vs
theorem Put0.plain {fs:List Addr} {h h':Heap} {e:Addr} {oe:Obj} {vs:Array Value} (k:∀ b o,b≠e→h.get? b=some o→h'.get? b=some o) (he:h.get? e=some oe) (hd:oe.data = .fields vs):Put0 fs h h' e :=
  ⟨fun b o n _ q => k b o n q,fun b o n q => ⟨o.slots,k b o n q⟩,oe,vs,he,hd⟩
structure PutF (fs:List Addr) (h h':Heap) (e L:Addr):Prop where
  keep:∀ b o,b≠e→b ∉ fs→h.get? b=some o→h'.get? b=some o
  slot:∀ b o,b≠e→h.get? b=some o→∃ sl,h'.get? b=some { o with slots:=sl }
  exc:∃ oe vs oe' T oT ts,h.get? e=some oe∧oe.data = .fields vs∧h'.get? e=some oe'∧oe'.cls=oe.cls∧oe'.dict=oe.dict∧oe'.data = .fields (vs.setIfInBounds 1 (.ref T))∧1 < vs.size ∧
    h.objs.size≤T∧T≠e∧h'.get? T=some oT∧oT.data = .fields ts∧ts[3]? = some (rawInt L)
theorem PutF.put0 {fs:List Addr} {h h':Heap} {e L:Addr} (p:PutF fs h h' e L):Put0 fs h h' e:=by
  obtain ⟨oe,vs,oe',T,oT,ts,he,hd,_⟩:=p.exc
  exact ⟨p.keep,p.slot,oe,vs,he,hd⟩
section
variable {M:Model} {A:Around} {E:Value→Shared→Prop} {s:Shared}
theorem note_putF {base:Heap} {env:Env} {outer:List Env} {L e:Addr} {oe:Obj} {vs:Array Value} {Q:Unit→Shared→Prop}
    (hfr:A.frames=some (env :: outer)) (hl:s.heap.FunFrames base (env :: outer)) (hf:env.frame=some L)
    (he:s.heap.get? e=some oe) (hd:oe.data = .fields vs) (h1:vs[1]? = some .none)
    (h:∀ h',PutF (frs (env :: outer)) s.heap h' e L→Q () { s with heap:=h' }):wpAny M A (noteFrame (.ref e) env) Q E s:=by
  have hsz : 1 < vs.size:=(Array.getElem?_eq_some_iff.mp h1).1
  have hene:e ∉ frs (env :: outer):=fun hm => by
    obtain ⟨_,o,ho,hnf⟩:=hl.mem hm
    rw [he] at ho; injection ho with ho; subst ho; exact hnf vs hd
  unfold noteFrame
  simp only [hf]
  refine wpAny_bind (wpAny_field he hd h1 ?_)
  rw [if_neg (by decide)]
  show wpAny M A (do let a ← frameOf env; let pl ← entryPlaceOf L (Value.none != Value.none); let b ← EntryCells.newEntry .none a .none (rawInt L) .none pl; setField (.ref e) 1 b) Q E s
  refine wpAny_bind (wpAny_frameOf_fun hfr hl hf fun h1 hs1 => ?_)
  refine wpAny_bind (wpAny_entryPlaceOf fun pl hpl => ?_)
  unfold EntryCells.newEntry newFields
  refine wpAny_bind (wpAny_newObj_type ?_ (hpl.sizeOk5 _ _ _ _ _))
  have he1:h1.get? e=some oe:=(hs1.2.1 e hene).trans he
  have he2:=Heap.get?_push_of_some (h:=h1) { cls:=.type "traceback",dict:=none,data:=.fields ([Value.none,.ref L,.none,rawInt L,.none] ++ (if pl.isEmpty then List.replicate 6 Value.none else pl)).toArray } he1
  refine wpAny_setField he2 hd hsz ?_
  have hTe:h1.objs.size≠e:=Nat.ne_of_gt (Heap.lt_size he1)
  have hd3:=Obj.data_mapFields hd (·.setIfInBounds 1 (Value.ref h1.objs.size))
  have he3:=Heap.get?_update_self (Obj.mapFields (·.setIfInBounds 1 (Value.ref h1.objs.size))) he2 (Obj.isFreed_of_fields hd3)
  have hT3:=(Heap.get?_update_other (h1.push { cls:=.type "traceback",dict:=none,data:=.fields ([Value.none,.ref L,.none,rawInt L,.none] ++ (if pl.isEmpty then List.replicate 6 Value.none else pl)).toArray })
    (Obj.mapFields (·.setIfInBounds 1 (Value.ref h1.objs.size))) (Ne.symm hTe)).trans (Heap.get?_push_size h1 rfl)
  refine h _ ?_
  have keep:∀ b o,b≠e→h1.get? b=some o →
      ((h1.push { cls:=.type "traceback",dict:=none,data:=.fields ([Value.none,.ref L,.none,rawInt L,.none] ++ (if pl.isEmpty then List.replicate 6 Value.none else pl)).toArray }).update e (Obj.mapFields (·.setIfInBounds 1 (Value.ref h1.objs.size)))).get? b=some o:=fun b o hbe hb => by
    rw [Heap.get?_update_other _ _ (Ne.symm hbe)]
    exact Heap.get?_push_of_some _ hb
  refine ⟨fun b o hbe hbf hb => keep b o hbe ((hs1.2.1 b hbf).trans hb),fun b o hbe hb => ?_,?_⟩
  · obtain ⟨sl,hsl⟩:=hs1.2.2 b o hb
    exact ⟨sl,keep b _ hbe hsl⟩
  · have hTn:s.heap.objs.size≤h1.objs.size:=by rw [hs1.1]; exact Nat.le_refl _
    refine ⟨oe,vs,_,h1.objs.size,_,_,he,hd,he3,Obj.cls_mapFields _ _,?_,hd3,hsz,hTn,hTe,hT3,rfl,by simp⟩
    obtain ⟨c,dd,dt,sl⟩:=oe
    cases dt <;> rfl
end
section
variable {nb:Bool} {X:Cx} {pins:List (Addr×Obj)} {σ : St} {H:Hp} {s:Shared} {a:Addr} {C:Value} {d:Option Addr} {h':Heap}
theorem Inv.put0 (I:Inv X pins σ H s) (P:Put0 (frs X.stack) s.heap h' a) (n0:X.s₀.heap.get? a=none) (fr:H a=none) (pn:∀ p∈X.pn ++ pins,p.1≠a):Inv X pins σ H { s with heap:=h' }:=by
  obtain ⟨oe,vs,he,hd⟩:=P.exc
  have neL:a≠X.env.locals:=fun z => by
    obtain ⟨m,⟨o,es,ep,ho,hdt,_⟩,_⟩:=I.loc
    rw [← z,he] at ho; cases ho; rw [hd] at hdt; cases hdt
  have neC:∀ x c,X.env.cells.lookup x=some c→c≠a:=fun x c e z => by
    obtain ⟨v,o,ho,hdt⟩:=I.cell x c e
    rw [z,he] at ho; cases ho; rw [hd] at hdt; cases hdt
  have stk:∀ b,b≠X.env.locals→b ∉ X.fs→b ∉ frs X.stack:=fun b h1 h2 z => (List.mem_cons.mp (I.stkSub b z)).elim h1 h2
  have neL':∀ b o,X.s₀.heap.get? b=some o→b≠X.env.locals:=fun b o e => Nat.ne_of_lt (Nat.lt_of_lt_of_le (Heap.lt_size e) I.ok.above)
  have nea:∀ b o,X.s₀.heap.get? b=some o→b≠a:=fun b o e z => by rw [z,n0] at e; cases e
  have cellK:∀ x c,X.env.cells.lookup x=some c→∀ v,s.heap.IsCell c v→h'.IsCell c v:=fun x c e v ⟨o,ho,hdt⟩ => by
    obtain ⟨sl,q⟩:=P.slot c o (neC x c e) ho
    exact ⟨_,q,hdt⟩
  refine ⟨I.ok,I.os,I.bare,⟨fun b o e n hb hx => ?_,fun b o e n hb hx => ?_,fun b o e n hx => I.base.free b o e n hx,fun b o e hx => ?_,I.base.tups,I.base.frzs,I.base.tbls⟩,?_,fun x c e => ?_,I.free,I.freeC,fun p hp => ?_,fun b u e => ?_,I.len⟩
  · exact P.keep b o (nea b o e) (stk b (neL' b o e) hb) (I.base.keep b o e n hb hx)
  · obtain ⟨sl,e1⟩:=I.base.slot b o e n hb hx
    obtain ⟨sl',e2⟩:=P.slot b _ (nea b o e) e1
    exact ⟨sl',e2⟩
  · obtain ⟨o',e1⟩:=I.base.there b o e hx
    obtain ⟨sl',e2⟩:=P.slot b _ (nea b o e) e1
    exact ⟨_,e2⟩
  · obtain ⟨m,⟨o,es,ep,ho,r⟩,hl⟩:=I.loc
    obtain ⟨sl,e2⟩:=P.slot _ _ (Ne.symm neL) ho
    refine ⟨m,⟨_,es,ep,e2,r⟩,fun i x v e1 e2 e3 => ?_⟩
    obtain ⟨u,r,l⟩:=hl i x v e1 e2 e3
    refine ⟨u,r,?_⟩
    rcases l with l | ⟨k,c,e,z⟩
    · exact .inl l
    · exact .inr ⟨k,c,e,cellK x c e _ z⟩
  · obtain ⟨v,z⟩:=I.cell x c e
    exact ⟨v,cellK x c e v z⟩
  · obtain ⟨e,n,ne,nf,dd⟩:=I.pin p hp
    exact ⟨P.keep p.1 p.2 (pn p hp) (stk p.1 ne nf) e,n,ne,nf,dd⟩
  · have tr:∀ c v,H c=some v→∀ u,s.heap.get? c=some u→h'.get? c=some u:=fun c v hc u q => by
      refine P.keep c u (fun z => by rw [z,fr] at hc; cases hc) (fun z => ?_) q
      rw [I.stkFree c z] at hc; cases hc
    refine (I.hok b u e).stay (fun c v hc q => ?_) (fun _ q => q) fun _ _ q => q
    rcases hc with z | z
    · rw [z] at q ⊢; exact tr b u e v q
    · exact tr c _ z v q
end
structure InFlight (X:Cx) (pins:List (Addr×Obj)) (σ : St) (H:Hp) (a:Addr) (C:Value) (d:Option Addr) (s:Shared):Prop where
  inv:Inv X pins σ H s
  new:X.s₀.heap.get? a=none
  free:H a=none
  pin:∀ p∈X.pn ++ pins,p.1≠a
  obj:∃ oe vs T oT ts,s.heap.get? a=some oe∧oe.cls=C∧oe.dict=d∧oe.data = .fields vs∧vs[1]? = some (.ref T)∧T≠a∧X.s₀.heap.get? T=none∧H T=none∧(∀ p∈X.pn ++ pins,p.1≠T)∧s.heap.get? T=some oT∧oT.data = .fields ts∧ts[3]? = some (rawInt X.env.locals)
section
variable {X:Cx} {pins:List (Addr×Obj)} {σ : St} {H:Hp} {s:Shared} {a:Addr} {C:Value} {d:Option Addr} {oe:Obj} {vs:Array Value} {M:Model} {A:Around} {E:Value→Shared→Prop} {Q:Unit→Shared→Prop}
theorem Inv.noted (I:Inv X pins σ H s) (n0:X.s₀.heap.get? a=none) (fr:H a=none) (pn:∀ p∈X.pn ++ pins,p.1≠a) (he:s.heap.get? a=some oe) (hc:oe.cls=C) (hdd:oe.dict=d) (hd:oe.data = .fields vs) (h1:vs[1]? = some .none)
    (hA:A.frames=some X.stack) (hs:X.stack=X.env :: X.outer) (hf:X.env.frame=some X.env.locals) (h:∀ s',InFlight X pins σ H a C d s'→Q () s'):wpAny M A (noteFrame (.ref a) X.env) Q E s:=by
  refine note_putF (base:=X.base) (hA.trans (congrArg some hs)) (hs ▸ I.stack) hf he hd h1 fun h' P => h _ ?_
  have P':PutF (frs X.stack) s.heap h' a X.env.locals:=by rw [hs]; exact P
  obtain ⟨oe2,vs2,oe',T,oT,ts,he2,hd2,he',hc',hdd',hd',hsz,hT,hTe,hT',hTd,hT3⟩:=P.exc
  rw [he] at he2; cases he2
  rw [hd] at hd2; cases hd2
  refine ⟨I.put0 P'.put0 n0 fr pn,n0,fr,pn,oe',_,T,oT,ts,he',hc'.trans hc,hdd'.trans hdd,hd',by simp [hsz],hTe,Heap.get?_none_of_le (Nat.le_trans I.sz hT),I.hok.fresh hT,fun p hp z => ?_,hT',hTd,hT3⟩
  have:=Heap.lt_size (I.pin p hp).1
  rw [z] at this
  exact Nat.lt_irrefl _ (Nat.lt_of_lt_of_le this hT)
theorem drp_upd {H:Hp} {a:Addr} {o:HO} (h:H a=none):drp (upd H a o) a=H:=by
  funext b
  by_cases hb:b=a
  · rw [hb,drp_same,h]
  · rw [drp_ne hb,upd_ne hb]
theorem ext_ok {P:Program} {w:World} {H:Hp} {h:Heap} {a:Addr} {o:Obj} (e:h.get? a=some o):ObjOk P w H h a (.ext fun h => h.get? a=some o):=⟨e,⟨o,e⟩,fun _ _ p k => k _ p⟩
theorem InFlight.goes {i:Nat} {n:Str} {pos:Pos} (F:InFlight X pins σ H a C d s) (hN:X.N.Nodup) (hi:X.N[i]? = some n) (hk:X.env.scope.names.lookup n=some .local)
    (h:∀ s',InFlight X pins (σ.set i none) H a C d s'→Q () s'):wpAny M A (do bindName X.env n .none; unbindBehindTheSuite X.env n pos) Q E s:=by
  obtain ⟨oe,vs,T,oT,ts,he,hc,hdd,hd,h1,hTe,T0,TH,Tp,hT,hTd,h3⟩:=F.obj
  have I:=F.inv
  have nl:∀ b o vs,s.heap.get? b=some o→o.data = .fields vs→X.env.locals≠b:=fun b o vs e ed z => by
    obtain ⟨m,⟨o',es,ep,ho,hdt,_⟩,_⟩:=I.loc
    rw [z,e] at ho; cases ho; rw [ed] at hdt; cases hdt
  have nc:∀ b o vs,s.heap.get? b=some o→o.data = .fields vs→∀ x c,X.env.cells.lookup x=some c→c≠b:=fun b o vs e ed x c ec z => by
    obtain ⟨v,o',ho,hdt⟩:=I.cell x c ec
    rw [z,e] at ho; cases ho; rw [ed] at hdt; cases hdt
  have I1:=I.track (d:=a) (o:=.ext fun h => h.get? a=some oe) F.new F.free (nl a oe vs he hd) (nc a oe vs he hd) F.pin (ext_ok he)
  have TH':(upd H a (.ext fun h => h.get? a=some oe)) T=none:=by rw [upd_ne hTe]; exact TH
  have I2:=I1.track (d:=T) (o:=.ext fun h => h.get? T=some oT) T0 TH' (nl T oT ts hT hTd) (nc T oT ts hT hTd) Tp (ext_ok hT)
  refine I2.goes hN hi hk fun s' J => h s' ?_
  have eT:s'.heap.get? T=some oT:=(show ObjOk X.prog X.w _ s'.heap T (.ext fun h => h.get? T=some oT) from J.hok T _ upd_same).1
  have ea:s'.heap.get? a=some oe:=(show ObjOk X.prog X.w _ s'.heap a (.ext fun h => h.get? a=some oe) from J.hok a _ (by rw [upd_ne (Ne.symm hTe),upd_same])).1
  have J1:=J.drop T0 upd_same
  rw [drp_upd TH'] at J1
  have J2:=J1.drop F.new upd_same
  rw [drp_upd F.free] at J2
  exact ⟨J2,F.new,F.free,F.pin,oe,vs,T,oT,ts,ea,hc,hdd,hd,h1,hTe,T0,TH,Tp,eT,hTd,h3⟩
theorem InFlight.again (F:InFlight X pins σ H a C d s) (hf:X.env.frame=some X.env.locals) (h:Q () s):wpAny M A (setFlight (.ref a) X.env.frame) Q E s:=by
  obtain ⟨oe,vs,T,oT,ts,he,hc,hdd,hd,h1,hTe,T0,TH,Tp,hT,hTd,h3⟩:=F.obj
  rw [hf]
  unfold setFlight
  refine wpAny_bind (wpAny_field he hd h1 ?_)
  rw [if_pos (show (Value.ref T != Value.none)=true from by simp)]
  show wpAny M A (setField (.ref T) 3 (rawInt X.env.locals)) _ _ s
  refine wpAny_setField hT hTd (Array.getElem?_eq_some_iff.mp h3).1 ?_
  rw [Heap.update_setField_same s.heap T oT ts 3 (rawInt X.env.locals) hT hTd h3]
  exact h
theorem InFlight.known (F:InFlight X pins σ H a C d s) (hf:X.env.frame=some X.env.locals) (h:Q () s):wpAny M A (noteFrame (.ref a) X.env) Q E s:=by
  obtain ⟨oe,vs,T,oT,ts,he,hc,hdd,hd,h1,hTe,T0,TH,Tp,hT,hTd,h3⟩:=F.obj
  unfold noteFrame
  simp only [hf]
  refine wpAny_bind (wpAny_field he hd h1 ?_)
  rw [if_pos (show (Value.ref T != Value.none)=true from by simp)]
  refine wpAny_bind (wpAny_field hT hTd h3 ?_)
  rw [if_pos (show (rawInt X.env.locals == rawInt X.env.locals)=true from by simp)]
  exact wpAny_pure h
theorem InFlight.trail (F:InFlight X pins σ H a C d s):∃ oe vs T,s.heap.get? a=some oe∧oe.data = .fields vs∧vs[1]? = some (.ref T):=by
  obtain ⟨oe,vs,T,oT,ts,he,hc,hdd,hd,h1,_⟩:=F.obj
  exact ⟨oe,vs,T,he,hd,h1⟩
theorem InFlight.out {A':Around} {what:String} {R:Flow→Shared→Prop} {Ex:Value→Shared→Prop} (F:InFlight X pins σ H a C d s) (hf:X.env.frame=some X.env.locals) (h:Ex (.ref a) s) :
    wpAny M A (passOn what (.ref a) X.env:Sem Flow) R (notedBy M A X.env (cameBackBy M A' X.env Ex)) s:=by
  obtain ⟨oe,vs,T,he,hd,h1⟩:=F.trail
  unfold PySem.passOn
  refine wpAny_bind (wpAny_field he hd h1 ?_)
  rw [if_neg (show ¬ ((Value.ref T == Value.none)=true) from by simp)]
  refine wpAny_bind (F.again hf (wpAny_throw ?_))
  show wpAny M A (noteFrame (.ref a) X.env) _ _ s
  refine F.known hf ?_
  unfold cameBackBy
  refine wpAny_bind (wpAny_field he hd h1 ?_)
  rw [if_neg (show ¬ ((Value.ref T == Value.none)=true) from by simp)]
  exact F.again hf h
end
section
variable {nb:Bool} {P:Program} {w:World} {K:PySem.W.Frag} {mg:Str→Option Value} {base:Heap} {N:List Str} {qual:Str} {scope:Scope} {f:Addr} {cd:Value} {A:Around} {outer:List Env} {s0:Shared} {H0:Hp} {E:XK}
theorem InFlight.leave {pins:List (Addr×Obj)} {σ : St} {H:Hp} {s:Shared} {a:Addr} {C:Value} {d:Option Addr} (F:InFlight (cxOf (CXN false P w) P w K mg base N qual scope f cd A outer s0 H0 E) pins σ H a C d s) (hE:E C d H) :
    (cxOf (CXN false P w) P w K mg base N qual scope f cd A outer s0 H0 E).xe (.ref a) s:=by
  show wpAny _ _ (leaving _ (.ref a)) _ _ s
  unfold leaving
  refine wpAny_bind (F.known rfl ?_)
  obtain ⟨oe,vs,T,oT,ts,he,hc,hdd,hd,h1,hTe,T0,TH,Tp,hT,hTd,h3⟩:=F.obj
  have hsz:=(Array.getElem?_eq_some_iff.mp h3).1
  refine wpAny_setFlight_none he hd h1 hT hTd hsz ?_
  have d3:=Obj.data_mapFields hTd (·.setIfInBounds 3 Value.none)
  have e3:=Heap.get?_update_self (Obj.mapFields (·.setIfInBounds 3 Value.none)) hT (Obj.isFreed_of_fields d3)
  have kp:∀ b o,b≠T→s.heap.get? b=some o→(s.heap.update T (Obj.mapFields (·.setIfInBounds 3 Value.none))).get? b=some o:=fun b o n e => by
    rw [Heap.get?_update_other _ _ (Ne.symm n)]; exact e
  have J:=F.inv.put0 (Put0.plain kp hT hTd) T0 TH Tp
  exact ⟨a,C,d,H,rfl,J.os,J.bare,J.base,J.hok,F.new,F.free,⟨oe,vs,kp _ _ (Ne.symm hTe) he,hc,hdd,hd,.inr ⟨T,_,_,h1,⟨hTe,T0,TH⟩,e3,d3,by simp [hsz]⟩,fun z => nomatch z⟩,hE⟩
end
structure RoomH (k:Nat) (A:Around):Prop where
  dp:A.depth + 3 * k + 5 < recursionLimit
  un:A.units + 16 * k + 200 < cLine
theorem Room.h {k:Nat} {A:Around} (r:Room k A) (v:Option Value):RoomH k (A.mark v):=⟨r.dp,r.un⟩
theorem RoomH.deeper {k:Nat} {A:Around} (r:RoomH (k + 1) A) (env:Env):RoomH k (A.deeper env) :=
  ⟨by have:=r.dp; show A.depth + 1 + 3 * k + 5 < _; omega,by have:=r.un; show A.units + 3 + 16 * k + 200 < _; omega⟩
theorem RoomH.make {k:Nat} {A:Around} (r:RoomH (k + 1) A) (C:Addr) (us:List Value) (kw:List (Str×Value)):RoomH k (A.under (.builtin "type.__call__" ⟨.ref C :: us,kw⟩)) :=
  ⟨by have:=r.dp; rw [make_depth]; omega,by have:=r.un; rw [make_units]; omega⟩
theorem RoomH.depth {k:Nat} {A:Around} (r:RoomH k A):A.depth < recursionLimit:=by have:=r.dp; omega
structure FnOkH (P:Program) (w:World) (K:PySem.W.Frag) (mg:Str→Option Value) (base:Heap) (CX:CXT) (k:Nat) (f:Addr) (fd:FuncData) (ps:List Str) (sp:Sp):Prop where
  len:∀ vs H Q E,sp vs H Q E→vs.length=ps.length
  run:∀ (A:Around) (outer:List Env) (s:Shared) (H:Hp) (args:Args) (us:List Value) (vs:List V) (Q:VK) (E:XK),RoomH k A→Env0 P w K mg base A outer s H→BindsTo s fd args (ps.zip us)→Vals vs us→sp vs H Q E →
    codeAny (model P w) A (.call (.ref f) args) (CR CX outer P w H s Q E) s
def cxOfH (CX:CXT) (P:Program) (w:World) (K:PySem.W.Frag) (mg:Str→Option Value) (base:Heap) (N:List Str) (qual:Str) (scope:Scope) (f:Addr) (cd:Value) (A:Around) (outer:List Env) (s:Shared) (H:Hp) (E:XK):Cx :=
  { cxOf CX P w K mg base N qual scope f cd A outer s H E with calm:=false }
theorem inv_startH {CX:CXT} {P:Program} {w:World} {K:PySem.W.Frag} {mg:Str→Option Value} {base:Heap} {N ps:List Str} {qual:Str} {scope:Scope} {f:Addr} {cd:Value} {A:Around} {outer:List Env} {s s1:Shared} {H:Hp} {E:XK} {us:List Value} {vs:List V}
    (S:FnScope N ps scope) (e0:Env0 P w K mg base A outer s H) (hl:vs.length=ps.length) (r:Vals vs us)
    (x:InCallC s s.heap.objs.size (bindL (envOfC qual scope s.heap.objs.size f cd).kindOf (ps.zip us) fun _ => none) (cellsFrom (s.heap.objs.size + 1) scope.names []) (bindC (envOfC qual scope s.heap.objs.size f cd).kindOf (ps.zip us) fun _ => none) s1) :
    Inv (cxOfH CX P w K mg base N qual scope f cd A outer s H E) [] (start N vs) H s1:=by
  have e1:Env0 P w K mg base { A with handled:=none } outer s H:=⟨e0.frames,e0.mod,e0.bs,e0.bsz,e0.funs,e0.frf,e0.hok,e0.bare⟩
  have I:=inv_start (CX:=CX) (E:=E) (A:={ A with handled:=none }) S rfl e1 hl r x
  have ok:=I.ok
  exact ⟨⟨ok.mod,ok.kind,ok.glob,ok.blt,ok.above,ok.inj,ok.has,ok.cab,fun z => absurd (show false=true from z) (by decide),Around.frames_deeper e0.frames,ok.stk,ok.exf,ok.bs,ok.bsz,ok.noex,ok.exfs,ok.funs,ok.frf⟩,
    I.os,I.bare,I.base,I.loc,I.cell,I.free,I.freeC,I.pin,I.hok,I.len⟩
theorem fn_ofH {CX:CXT} {P:Program} {w:World} {K:PySem.W.Frag} {mg:Str→Option Value} {base:Heap} {k:Nat} {f:Addr} {name qual:Str} {params:Arguments} {body:List Stmt} {scope:Scope} {dV kV doc pm cdv ct oc:Value} {an od:Option Addr}
    {osl:Array (Option Value)} {N ps:List Str} {sp:Sp} (lk:K.lookup f=some ⟨oc,od,.func (PySem.W.fnOf name qual params body scope dV kV doc pm an cdv ct),osl⟩) (hcd:PySem.W.codeIn K cdv qual=true) (S:FnScope N ps scope)
    (len:∀ vs H Q E,sp vs H Q E→vs.length=ps.length)
    (hbody:∀ (A:Around) (outer:List Env) (s:Shared) (H:Hp) (vs:List V) (Q:VK) (E:XK),RoomH k (A.deeper (envOfC qual scope s.heap.objs.size f cdv))→sp vs H Q E →
      ∃ t,PSs (cxOfH CX P w K mg base N qual scope f cdv A outer s H E) body t∧t { nx:=fun _ H' => Q .non H',rt:=Q } (start N vs) H) :
    FnOkH P w K mg base CX (k + 1) f (PySem.W.fnOf name qual params body scope dV kV doc pm an cdv ct) ps sp:=by
  refine ⟨len,fun A outer s H args us vs Q E hr e0 hb r hsp => ?_⟩
  have hl:=len _ _ _ _ hsp
  have KX:K.In s.heap:=e0.mod.kin.keeps fun b o e => (e0.bs b o e).1
  have lim:s.heap.NoLimit:=e0.mod.nolimit.keeps fun b o e => (e0.bs b o e).1
  have hkind:∀ y∈ps.zip us,scope.names.lookup y.1=some .local∨(scope.names.lookup y.1=some .cell∧((cellsFrom (s.heap.objs.size + 1) scope.names []).lookup y.1).isSome=true):=fun ⟨n,v⟩ hy => by
    rcases S.par n (List.of_mem_zip hy).1 with q | q
    · exact .inl q
    · exact .inr ⟨q,PySem.W.cellsFrom_some _ _ _ (.inl q)⟩
  refine codeAny_call_function hr.depth (KX _ _ lk) rfl S.co S.gen rfl (PySem.W.codeRec_of KX hcd) (hb _ _ _ _ ?_)
  refine wpAny_newFunctionEnv_cells S.kind hkind fun env he s1 x => ?_
  subst he
  refine ⟨lim.keeps x.toInCall.keep,codeAny_func ?_⟩
  obtain ⟨t,ht,hq⟩:=hbody A outer s H vs Q E (hr.deeper _) hsp
  have I:Inv (cxOfH CX P w K mg base N qual scope f cdv A outer s H E) [] (start N vs) H s1:=inv_startH S e0 hl r x
  refine wpAny_mono (ht [] s1 (start N vs) H _ I hq) (fun fl s' hs => ?_) fun e s' hs => hs
  have fin:∀ {σ':St} {H':Hp} {v:V} {u:Value},Inv (cxOfH CX P w K mg base N qual scope f cdv A outer s H E) [] σ' H' s'→RelV v u→Q v H'→CE outer P w H s Q u s' :=
    fun {σ' H' v u} J rv q => ⟨v,H',J.os,J.bare,J.base,J.hok,rv,q⟩
  cases fl with
  | ret u =>
    obtain ⟨v,σ',H',J,rv,q⟩:=hs
    exact fin J rv q
  | next =>
    obtain ⟨σ',H',J,q⟩:=hs
    exact fin (v:=V.non) (u:=Value.none) J rfl q
  | brk =>
    obtain ⟨_,_,_,q⟩:=hs
    exact False.elim q
  | cont =>
    obtain ⟨_,_,_,q⟩:=hs
    exact False.elim q
section
variable {P:Program} {w:World} {K:PySem.W.Frag} {mg:Str→Option Value} {base:Heap}
theorem Fun.okH {x qual:Str} {st:Stmt} {f:Addr} {fd:FuncData} {N ps:List Str} {k:Nat} {sp:Sp} (F:Fun K x qual st f fd) (S:FnScope N ps (defScope st)) (len:∀ vs H Q E,sp vs H Q E→vs.length=ps.length)
    (hbody:∀ (cdv:Value) (A:Around) (outer:List Env) (s:Shared) (H:Hp) (vs:List V) (Q:VK) (E:XK),RoomH k (A.deeper (envOfC qual (defScope st) s.heap.objs.size f cdv))→sp vs H Q E →
      ∃ t,PSs (cxOfH CX0 P w K mg base N qual (defScope st) f cdv A outer s H E).nox (defBody st) t∧t { nx:=fun _ H' => Q .non H',rt:=Q } (start N vs) H):FnOkH P w K mg base CX0 (k + 1) f fd ps sp:=by
  obtain ⟨oc,od,kV,doc,pm,an,cdv,ct,osl,rfl,lk,hcd⟩:=F.ex
  refine fn_ofH lk hcd S len fun A outer s H vs Q E hr hsp => ?_
  obtain ⟨t,h,q⟩:=hbody cdv A outer s H vs Q E hr hsp
  exact ⟨t,h.nox,q⟩
end
section
variable {nb:Bool} {X:Cx} {E:XK} {C CE fI:Addr} {k:Nat} {fd:FuncData} {ps:List Str} {sp:Sp} {x:Str} {np cpos pos:Pos} {e:Expr} {es:List Expr} {ta:TA}
theorem made_okH {E0:XK} {CX:CXT} (c:XCls X.K C CE fI) (F:FnOkH X.prog X.w X.K X.mg X.base CX k fI fd ps sp) (hx0:X.ex=[]) (hno:∀ o H s e s',¬ CX o H s E0 e s') (hr:RoomH (k + 1) X.A) (hb:Binds X.K fd ps [])
    {pins:List (Addr×Obj)} {σ : St} {H:Hp} {s:Shared} {Ev:Value→Shared→Prop} {us:List Value} {vs:List V} {R:Addr→V→Hp→Prop} (I:Inv X pins σ H s) (r:Vals vs us) (hz:us.length≤sizeLine)
    (h:∀ a,H a=none→sp (.ref a :: vs) (upd H a (XI a C none)) (fun v H2 => v = .non∧R a v H2) E0) :
    wpAny (model X.prog X.w) X.A (call (.ref C) us) (fun v s' => ∃ a H',v = .ref a∧Inv X pins σ H' s'∧X.s₀.heap.get? a=none∧(∀ p∈X.pn ++ pins,p.1≠a)∧R a .non H') Ev s:=by
  obtain ⟨nm,q,N,bs,sn,sub,ab,col,dd,k0,k1,k2,k3,k5,lk⟩:=c.lk
  have old:∀ b,s.heap.get? b=none→X.s₀.heap.get? b=none:=fun b n => by
    cases z:X.s₀.heap.get? b with
    | none => rfl
    | some o =>
      obtain ⟨o',e⟩:=I.base.there b o z (by rw [hx0]; simp)
      rw [n] at e; cases e
  obtain ⟨nmE,qE,NE,bsE,bmE,hdE,snE,subE,abE,colE,ddE,e0,e1,e2,e3,e5,mE,hCE,hNE,hniE,TE⟩:=exc_obj I.kIn c.be
  have TL:OwnTail s.heap bmV (.ref CE :: bmV):=OwnTail.own hCE hNE hniE .base
  have hfn:=beq_iff_eq.mp c.fn
  obtain ⟨oI,hfI,hfc⟩ : ∃ oI,s.heap.get? fI=some oI∧oI.cls = .type "function" := by
    obtain ⟨o,ho,hc⟩:=Option.map_eq_some_iff.mp (show (X.K.lookup fI).map (·.cls)=some (.type "function") from hfn)
    exact ⟨o,I.kIn _ _ ho,hc⟩
  obtain ⟨hp,g,dr,tk,os⟩:=s
  refine callx_init (mN:=fun _ => none) I.kIn lk TL c.init hfI hfc (fun h' a hm => ?_) hz
  have J:Inv X pins σ H ⟨h',g,dr,tk,os⟩:=I.kept (t':=tk) hm.keeps
  obtain ⟨t,h1,h2,h3⟩:=hm.there
  have fr:H a=none:=by
    cases q:H a with
    | none => rfl
    | some u =>
      obtain ⟨o,e⟩:=(I.hok a u q).ex
      rw [hm.new] at e; cases e
  have np:∀ p∈X.pn ++ pins,p.1≠a:=fun p hp z => by
    have:=(I.pin p hp).1
    rw [z,hm.new] at this; cases this
  have I2:Inv X pins σ (upd H a (XI a C none)) ⟨h',g,dr,tk,os⟩:=J.track (old a hm.new) fr (fun z => by
      obtain ⟨m,⟨o,es,ep,ho,_⟩,_⟩:=I.loc
      rw [z,hm.new] at ho; cases ho) (fun x' c' e z => by
      obtain ⟨v,o',ho',_⟩:=I.cell x' c' e
      rw [z,hm.new] at ho'; cases ho') np (xi_ok h1 rfl rfl rfl rfl ⟨rfl,rfl⟩)
  have hq:=h a fr
  have r2:Vals (V.ref a :: vs) (Value.ref a :: us):=.cons rfl r
  have hl:(Value.ref a :: us).length=ps.length:=by
    have e:=r2.length
    rw [F.len _ _ _ _ hq] at e
    exact e.symm
  have bb:=hb _ (Value.ref a :: us) I2.kIn (by simpa using hl)
  rw [List.append_nil] at bb
  refine wpAny_call (codeAny_mono (F.run _ X.stack _ _ ⟨Value.ref a :: us,[]⟩ (Value.ref a :: us) _ _ E0 ((hr.make C us [])) (I2.env0.make C us []) bb r2 hq) fun r s' hq' => ?_)
  cases r with
  | error e => exact absurd hq' (hno _ _ _ _ _)
  | ok fl =>
    cases fl with
    | ret u =>
      obtain ⟨v,H',I3,rv,ev,q3⟩:=I2.after hq'
      subst ev
      exact ⟨rv,a,H',rfl,I3,old a hm.new,np,q3⟩
    | next => exact False.elim hq'
    | brk => exact False.elim hq'
    | cont => exact False.elim hq'
end
def XOn (a:Addr) (C:Value) (d:Option Addr):HO:=.ext fun h => ∃ oe vs,h.get? a=some oe∧oe.cls=C∧oe.dict=d∧oe.data = .fields vs∧vs[2]? = some .none
section
variable {X:Cx} {C CE fI:Addr} {e:Expr} {f:Str} {ta:TE} {pos:Pos}
def tXn (C:Addr) (ta:TE) (f:Str):TE:=fun σ H Q => ta σ H fun x H1 => ∃ a d fs v,x = .ref a∧H1 a=some (XOn a (.ref C) (some d))∧H1 d=some (XD d fs)∧fs.lookup f=some v∧Q v H1
theorem pe_xfldN (c:XCls X.K C CE fI) (hn:PySem.W.findIn X.K (.ref C) f=some none) (he:PE X e ta) (hb:attributeBase e f X.env (eval e X.env)=eval e X.env:=by rfl):PE X (.Attribute e f pos) (tXn C ta f):=by
  intro pins s σ H Q I h
  refine attr_of hb (thn (he pins s σ H _ I h) fun u s1 ⟨x,H1,I1,rx,a,d,fs,v,ex,ea,ed,l,q⟩ => ?_)
  subst ex
  obtain rfl:u=Value.ref a:=rx
  obtain ⟨⟨oe,vs,he,hc,hdx,hd,_⟩,_⟩:=(show ObjOk X.prog X.w H1 s1.heap a (XOn a (.ref C) (some d)) from I1.hok a _ ea)
  obtain ⟨⟨mA,hD,r,wi,hl0⟩,_⟩:=(show ObjOk X.prog X.w H1 s1.heap d (XD d fs) from I1.hok d _ ed)
  obtain ⟨od,ho,hl⟩:=lookIn_ns hD
  have rv:=r f
  rw [l] at rv
  obtain ⟨u,hu,ru⟩:=rv.some_of
  have J:PySem.W.InstAt s1.heap a oe C (some od):=⟨he,hc,by unfold PySem.W.notCls; rw [hd],by rw [hdx]; exact ho⟩
  obtain ⟨hp,g,dr,tk,os⟩:=s1
  refine getx I1.kIn J c.ga c.gt c.bx (PySem.W.findObj_own c.hd hn rfl (by rw [hl,hu])) (handed_of ru) ?_
  exact ⟨v,H1,I1.tok _,ru,q⟩
end
section
variable {X:Cx} {pins:List (Addr×Obj)} {σ : St} {H:Hp} {s:Shared} {a:Addr} {C:Value} {d:Option Addr}
theorem Flies.trackN (F:Flies true X pins σ H a C d s):Inv X pins σ (upd H a (XOn a C d)) s:=by
  obtain ⟨oe,vs,he,hc,hdd,hd,_,hx⟩:=F.obj
  have I:=F.inv
  refine I.track F.new F.free (fun z => ?_) (fun x c e z => ?_) F.pin ⟨⟨oe,vs,he,hc,hdd,hd,hx rfl⟩,⟨oe,he⟩,?_⟩
  · obtain ⟨m,⟨o,es,ep,ho,hdt,_⟩,_⟩:=I.loc
    rw [z,he] at ho; cases ho; rw [hd] at hdt; cases hdt
  · obtain ⟨v,o,ho,hdt⟩:=I.cell x c e
    rw [z,he] at ho; cases ho; rw [hd] at hdt; cases hdt
  · rintro h1 h2 ⟨o1,v1,e1,r1⟩ k
    exact ⟨o1,v1,k _ e1,r1⟩
end
def Leaves (X:Cx) (E:XK):Prop := ∀ pins σ H a C d s,InFlight X pins σ H a C d s→E C d H→X.xe (.ref a) s
section
variable {P:Program} {w:World} {K:PySem.W.Frag} {mg:Str→Option Value} {base:Heap} {N:List Str} {qual:Str} {scope:Scope} {f:Addr} {cd:Value} {A:Around} {outer:List Env} {s0:Shared} {H0:Hp} {E:XK}
theorem leaves_out:Leaves (cxOf (CXN false P w) P w K mg base N qual scope f cd A outer s0 H0 E) E:=fun _ _ _ _ _ _ _ F q => F.leave q
end
section
variable {X:Cx} {E:XK} {C2 CE fI:Addr} {j:Nat} {fd:FuncData} {ps:List Str} {sp:Sp} {x x2 n:Str} {np np2 cpos rpos hpos p3:Pos} {kk:Nat} {e:Expr} {es:List Expr} {ta:TA} {c:Value} {i:Nat}
def tHraise (K:PySem.W.Frag) (c:Value) (i:Nat) (C2:Addr) (sp:Sp) (E0 E:XK) (ta:TA):Value→Option Addr→TS:=fun C d _ σ H => PySem.W.kitCls K C c=some true∧∀ a,H a=none →
  ta (σ.set i (some (.ref a))) (upd H a (XOn a C d)) fun vs H2 => vs.length≤100∧∀ a',H2 a'=none→sp (.ref a' :: vs) (upd H2 a' (XI a' C2 none)) (fun v H3 => v = .non∧a≠a'∧∃ d',H3 a'=some (XI a' C2 (some d'))∧H3 a=some (XOn a C d)∧E (.ref C2) (some d') (drp H3 a')) E0
theorem ph_raise {E0:XK} {CX:CXT} (k:XCls X.K C2 CE fI) (F:FnOkH X.prog X.w X.K X.mg X.base CX j fI fd ps sp) (hno:∀ o H s e s',¬ CX o H s E0 e s') (hr:Room (j + 1) X.A) (hb:Binds X.K fd ps []) (hL:Leaves X E) (hx0:X.ex=[])
    (hg:Gl X x) (hm:X.mg x=some c) (hk:PySem.W.subIn X.K c (.type "BaseException")=some true) (hN:X.N.Nodup) (hi:X.N[i]? = some n) (hl:X.env.scope.names.lookup n=some .local)
    (hg2:Gl X x2) (hm2:X.mg x2=some (.ref C2)) (hk2:PySem.W.keepIn X.K (.ref C2)=true) (ha:∀ a,PA (X.hnd a) (e :: es) ta)
    (hst:X.stack=X.env :: X.outer:=by rfl) (hfr:X.env.frame=some X.env.locals:=by rfl) (hd1:(x == ("__debug__" : Str))=false:=by decide) (hd2:(x2 == ("__debug__" : Str))=false:=by decide)
    (he:starEach (e :: es) X.env=(false,eval e X.env) :: starEach es X.env:=by rfl) (hpl:(backTo cpos (starEach es X.env)).any (·.1)=false:=by rfl) :
    PH true X [.ExceptHandler (some (.Name x np)) (some n) [.Raise (some (.Call (.Name x2 np2) (e :: es) [] cpos)) (some (.Constant .none kk p3)) rpos] hpos] (tHraise X.K c i C2 sp E0 E ta):=by
  intro pins σ H a C d s D Fl tr h
  obtain ⟨kc,h⟩:=h
  obtain ⟨oe,vs,he',hc,hdd,hd⟩:=Fl.at
  have I':=Fl.inv.hnd a
  refine wpAny_handleBy_cons (codeAny_handlers_test (ld_glob (X:=X.hnd a) I' hg hm ?_ hd1)) (by intro q; cases q)
  have nx:=Fl.new
  obtain ⟨hp,g,dr,tk,os⟩:=s
  refine match_ok (K:=X.K) Fl.inv.kIn he' (by rw [hc]; exact kc) hk ?_
  refine codeAny_handlers_suite_as (tr.still ?_)
  refine store_ok (X:=X.hnd a) (Fl.trackN.hnd a) hN hi (.inl hl) (v:=.ref a) rfl (fun s2 I2 => ?_) (.inr hl)
  refine wpAny_execs_cons ?_
  rw [arm_exec_Raise]
  have hh:(X.A.mark (some (.ref a))).handled=some (.ref a):=rfl
  refine wpAny_bind (wpAny_standAt (raise_from (K:=X.K) hh k (fun q => wpAny_bind (Constant_none (wpAny_bind (wpAny_standAt (wpAny_pure q))))) (wpAny_bind ?_)))
  refine wpAny_Call_Name_kw (ld_glob (X:=X.hnd a) I2 hg2 hm2 ?_ hd2)
  refine PySem.W.callWith_K (h₀:=X.base) I2.ok.mod.kin hk2 (wpAny_mono (ha a cpos pins s2 _ _ _ I2 (h a Fl.free)) (fun us s3 ⟨vs,H1,I3,r,z,q⟩ => ⟨I3.kIn,?_⟩) fun _ _ z => False.elim z) he hpl
  refine wpAny_mono (made_okH (X:=X.hnd a) (R:=fun a' v H3 => a≠a'∧∃ d',H3 a'=some (XI a' C2 (some d'))∧H3 a=some (XOn a C d)∧E (.ref C2) (some d') (drp H3 a')) (Ev:=fun _ _ => False) k F hx0 hno (hr.h _) hb I3 r (by show us.length≤sizeLine; rw [← r.length,sizeLine_eq]; omega) q) (fun v s4 hq => ?_) fun _ _ z => False.elim z
  obtain ⟨a',H3,rfl,I4,n0,np',ne,d',ea',ea,qE⟩:=hq
  refine wpAny_bind (wpAny_standAt (wpAny_pure ?_))
  obtain ⟨⟨oe4,ws,e4,c4,x4,d4,h64,h14,h24⟩,_⟩:=(show ObjOk X.prog X.w H3 s4.heap a' (XI a' C2 (some d')) from I4.hok a' _ ea')
  obtain ⟨⟨oh,hs,eh,_,_,hdh,hch⟩,_⟩:=(show ObjOk X.prog X.w H3 s4.heap a (XOn a C d) from I4.hok a _ ea)
  refine ⟨a',oe4,ws,oh,hs,rfl,ne,e4,c4,d4,h64,h14,eh,hdh,hch,I4.kIn,fun b o lk z => ?_,fun h' keep ob => ?_⟩
  · have:=(I4.ok.bs b o (I4.ok.mod.kin b o lk)).1
    rw [z,n0] at this; cases this
  · obtain ⟨oe5,vs5,e5,c5,x5,d5,h65,h15⟩:=ob
    have J:=(I4.drop n0 ea').put0 (Put0.plain keep e4 d4) n0 drp_same np'
    exact Inv.noted (J.unhnd Fl.inv.ok) n0 drp_same np' e5 c5 (x5.trans x4) d5 h15 Fl.inv.ok.frames hst hfr fun s6 F6 => F6.goes hN hi hl fun s7 F7 => F7.out hfr (hL _ _ _ _ _ _ _ F7 qE)
end
section
variable {nb:Bool} {X:Cx} {e:Expr} {pos:Pos}
def tTryRet (t:St→Hp→VK→XK→Prop) (th:Value→Option Addr→TS):TS:=fun D σ H => t σ H D.rt fun C d H1 => th C d D σ H1
theorem ps_tryRet {t:St→Hp→VK→XK→Prop} {th:Value→Option Addr→TS} {h0:ExceptHandler} {hs:List ExceptHandler} {p1:Pos} (px:PX nb X e t) (hh:PH nb X (h0 :: hs) th) (hst:X.stack=X.env :: X.outer:=by rfl) (hfr:X.env.frame=some X.env.locals:=by rfl) :
    PS X (.Try [.Return (some e) p1] (h0 :: hs) [] [] pos) (tTryRet t th):=by
  intro pins s σ H D I h
  refine wpAny_Try_except (wpAny_execs_cons (wpAny_Return_some (thn (px pins s σ H _ _ _ I h ?_) fun v s1 ⟨y,H1,I1,r1,q1⟩ => ?_)))
  · exact fun a C d H' s' Fl q => Fl.note I.ok.frames hst hfr fun h' Fl' tr => hh pins σ H' a C d _ D Fl' tr q
  · exact ⟨y,σ,H1,I1,r1,q1⟩
end
section
variable {X:Cx}
def rCatA (K:PySem.W.Frag):R2:=fun x y H Q => ∃ a b xs ys,x = .ref a∧y = .ref b∧SqT K H a xs∧SqT K H b ys∧ys≠[]∧xs.length + ys.length≤sizeLine ∧
  (xs=[]→Q (.ref b) H)∧(xs≠[]→∀ p,H p=none→Q (.ref p) (upd H p (.tup (xs ++ ys))))
theorem op_catA:OpR X (binaryOp .Add) (rCatA X.K):=by
  intro pins s σ H x y v u Q I rx ry h
  obtain ⟨a,b,xs,ys,rfl,rfl,ha,hb,hy,hz,q1,q2⟩:=h
  by_cases hx:xs=[]
  · cases rx
    cases ry
    obtain ⟨its,r1,p1,_⟩:=I.tuple ha
    obtain ⟨its2,r2,p2,_⟩:=I.tuple hb
    obtain ⟨⟨cls,dd,data,sl⟩,ho,hc,n,hd⟩:=id p1
    obtain ⟨⟨cls2,dd2,data2,sl2⟩,ho2,hc2,n2,hd2⟩:=id p2
    simp only at hc hd hc2 hd2
    subst hc hd hc2 hd2
    have hi:its=[]:=r1.nil_iff.mpr hx
    exact concat_meets ⟨_,ho,rfl⟩ ⟨_,ho2,rfl⟩ noFill_tuple_add seq_tuple_add PySem.F.slot_tuple_add PySem.F.entry_tuple_add (PySem.F.args_tuple_add_2 _ _)
      (tuple_addW0 a b its.toArray its2.toArray n n2 dd dd2 sl sl2 (by simp [hi])) ⟨ho,ho2,⟨.ref b,H,I,rfl,q1 hx⟩⟩
  · exact op_catT pins s σ H _ _ v u Q I rx ry ⟨a,b,xs,ys,rfl,rfl,ha,hb,hx,hz,fun z => absurd z hy,fun _ => q2 hx⟩
end
end L2
set_option Elab.async false
set_option linter.all false
set_option maxRecDepth 100000
set_option maxHeartbeats 4000000
namespace L2
open PySem PySem.Spec PyProof.Rows
section
variable {X:Cx}
theorem depth_all {ds:List PyData} (h:∀ d∈ds,SeqAt.shaped d=true):PyData.canLayAll0 ds=true:=by
  induction ds with
  | nil => rfl
  | cons d r ih =>
    have h1:=h d List.mem_cons_self
    have h2:=ih fun x hx => h x (List.mem_cons_of_mem _ hx)
    simp only [PyData.canLayAll0,SeqAt.canLay_of_shaped h1,h2,Bool.and_true]
def rInD (K:PySem.W.Frag) (neg:Bool):R2:=fun x y H Q => ∃ p xs ds d,y = .ref p∧SqL K H p xs∧RdVs K H xs ds∧RdV K H x d∧(∀ e∈ds,SeqAt.shaped e=true)∧SeqAt.shaped d=true∧d.depth≤62∧Q (.bl (if neg then !(ds.any fun e => e.eqv d) else ds.any fun e => e.eqv d)) H
theorem op_notInD (hu:X.A.units + 64 < cLine):OpR X (compareOp .NotIn) (rInD X.K true):=by
  intro pins s σ H x y v u Q I rx ry h
  obtain ⟨p,xs,ds,d,rfl,hp,hs,hd,s1,s2,dd,q⟩:=h
  obtain ⟨as,r1⟩:=(RdV.lst hp hs).reads I ry
  obtain ⟨bs,r2⟩:=hd.reads I rx
  exact SeqAt.notIn_list_reads r1 r2 (depth_all s1) (SeqAt.canLay_of_shaped s2) (by omega) ⟨.bl _,H,I,rfl,q⟩
theorem readsAll_at {h:Heap}:∀ {vs:List Value} {ds:List PyData} {as:List Addr},ReadsAll h vs ds as→∀ (i:Nat) (h1:i < vs.length),∃ (h2:i < ds.length),∃ bs,Reads h vs[i] ds[i] bs
  | _,_,_,.nil,i,h1 => absurd h1 (Nat.not_lt_zero i)
  | _,_,_,.cons r t,0,_ => ⟨Nat.zero_lt_succ _,_,r⟩
  | _,_,_,.cons r t,i + 1,h1 => by
    obtain ⟨a,b,c⟩:=readsAll_at t i (Nat.lt_of_succ_lt_succ h1)
    exact ⟨Nat.succ_lt_succ a,b,c⟩
theorem readsAll_len {h:Heap}:∀ {vs:List Value} {ds:List PyData} {as:List Addr},ReadsAll h vs ds as→vs.length=ds.length
  | _,_,_,.nil => rfl
  | _,_,_,.cons r t => congrArg (· + 1) (readsAll_len t)
def rIndexD (K:PySem.W.Frag):V→List V→Hp→VK→Prop:=fun x vs H Q => ∃ (l:Addr) (y:V) (xs:List V) (ds:List PyData) (d:PyData) (j:Nat) (hj:j < ds.length),x = .ref l∧vs=[y]∧SqL K H l xs∧RdVs K H xs ds∧RdV K H y d∧(∀ e∈ds,SeqAt.shaped e=true)∧SeqAt.shaped d=true∧d.depth≤62∧ds.length≤1000 ∧
  ds[j].eqv d=true∧(∀ (m:Nat) (hm:m < ds.length),m < j→ds[m].eqv d=false)∧Q (.int (j:Nat)) H
theorem mt_indexD (hu:X.A.units + 64 < cLine):MtM X "list.index" (rIndexD X.K):=by
  intro pins s σ H x vs v us Q I rx rv h
  obtain ⟨l,y,xs,ds,d,j,hj,rfl,rfl,hl,hs,hd,s1,s2,hdp,hz,hy,hn,q⟩:=h
  cases rx
  obtain ⟨u,rfl,ru⟩:=rv.one
  obtain ⟨bs,r2⟩:=hd.reads I ru
  obtain ⟨its,rr,pl,_⟩:=I.list hl
  obtain ⟨as,r1⟩:=RdVs.reads I hs rr
  have hlen:=readsAll_len r1
  obtain ⟨⟨cls,dd,data,sl⟩,ho,hc,n,hdt⟩:=pl.isList
  simp only at hc hdt
  subst hc hdt
  have rd:∀ (m:Nat) (hm:m < its.toArray.size),∃ hm':m < ds.length,SeqAt.readOf s.heap its.toArray[m] = ds[m]:=fun m hm => by
    obtain ⟨a,b,c⟩:=readsAll_at r1 m (by simpa using hm)
    exact ⟨a,by simpa using SeqAt.readOf_eq (SeqAt.canLay_of_shaped (s1 _ (List.getElem_mem a))) c⟩
  have hjs:j < its.toArray.size:=by simp; omega
  refine call_meets F.slot_list_index ⟨_,ho,rfl⟩ F.entry_list_index (F.args_list_index_2 (.ref l) u) (SeqAt.list_indexAt l its.toArray n dd sl u (fun z => (SeqAt.readOf s.heap z).eqv d) j hjs (by omega) ?_ ?_) ⟨ho,?_,⟨.int _,H,I.tok _,⟨_,rfl⟩,q⟩⟩
  · show (SeqAt.readOf s.heap its.toArray[j]).eqv d=true
    obtain ⟨a,b⟩:=rd j hjs
    rw [b]; exact hy
  · intro m hm hmj
    show (SeqAt.readOf s.heap its.toArray[m]).eqv d=false
    obtain ⟨a,b⟩:=rd m hm
    rw [b]; exact hn m a hmj
  · intro z hz
    obtain ⟨m,hm,rfl⟩:=Array.mem_iff_getElem.mp hz
    obtain ⟨a,b⟩:=rd m hm
    rw [b]
    obtain ⟨a',c,e⟩:=readsAll_at r1 m (by simpa using hm)
    have e':Reads s.heap its.toArray[m] ds[m] c:=by simpa using e
    refine SeqAt.eqAt_reads _ _ _ _ _ _ _ _ e' r2 (SeqAt.canLay_of_shaped (s1 _ (List.getElem_mem a))) (SeqAt.canLay_of_shaped s2) ?_
    show X.A.units + 1 + min _ _ < cLine
    omega
end
end L2
set_option Elab.async false
set_option linter.all false
set_option maxRecDepth 100000
set_option maxHeartbeats 4000000
namespace L2
open PySem PySem.Spec PyProof.Rows
section
variable {X:Cx}
seal PySem.Meets in
end
end L2
set_option maxHeartbeats 4000000
namespace Toy
open PySem L2
seal PySem.wpAny
def top (i:Nat):Stmt:=PySem.Challenge.pw_chartfold_k14_many_states.main.body.getD i (.Pass ⟨0,0,0,0⟩)
abbrev sInit:Stmt:=inClass (top 20) 0
abbrev sCheckRooms:Stmt:=top 21
abbrev sCheckHolder:Stmt:=top 22
abbrev sCheckKind:Stmt:=top 23
abbrev sCheckArrows:Stmt:=top 24
abbrev sCheckArrow:Stmt:=top 25
abbrev sPart:Stmt:=top 26
abbrev sChildren:Stmt:=top 27
abbrev sWithin:Stmt:=top 28
abbrev sLies:Stmt:=top 29
abbrev sScope:Stmt:=top 30
abbrev sStarted:Stmt:=top 32
abbrev sFirstMem:Stmt:=top 33
abbrev sRising:Stmt:=top 34
abbrev sEntered:Stmt:=top 35
abbrev sChosen:Stmt:=top 36
abbrev sTakeable:Stmt:=top 37
abbrev sOpenArrows:Stmt:=top 38
abbrev sIsOpen:Stmt:=top 39
abbrev sOver:Stmt:=top 40
abbrev sClashOf:Stmt:=top 41
abbrev sClashing:Stmt:=top 42
abbrev sAScope:Stmt:=top 43
abbrev sStepped:Stmt:=top 44
abbrev sMoved:Stmt:=top 45
abbrev sRemembered:Stmt:=top 46
abbrev sStepB:Stmt:=top 47
abbrev sCell:Stmt:=top 54
abbrev sRow:Stmt:=top 55
abbrev sSame:Stmt:=top 56
abbrev sLaw:Stmt:=top 64
abbrev sClash:Stmt:=inClass (top 4) 0
abbrev sFInit:Stmt:=inClass (top 50) 0
abbrev sFolded:Stmt:=top 51
abbrev sMore:Stmt:=top 52
abbrev sEntries:Stmt:=top 57
abbrev sHalls:Stmt:=top 58
abbrev sGon:Stmt:=top 59
abbrev sWalk:Stmt:=top 60
abbrev sStateOf:Stmt:=top 61
abbrev sFoundIn:Stmt:=top 62
abbrev sAnyR:Stmt:=top 63
theorem same_new {H:Hp} {p:Addr} (h:H p=none) (o:HO):Same H (upd H p o):=fun b u q => by rw [upd_ne (ne_of_none q h)]; exact q
theorem sameUpd {H H1:Hp} {p:Addr} (h:Same H H1) (hp:H p=none) (o:HO):Same H (upd H1 p o):=fun b u q => by rw [upd_ne (ne_of_none q hp)]; exact h b u q
theorem small {n:Nat} (h:n≤1000):n≤sizeLine:=Nat.le_of_lt (small1000 h)
def Items (H:Hp) (ps:List Addr) (os:List (List V)):Prop:=ps.length=os.length∧∀ (i:Nat) p o,ps[i]? = some p→os[i]? = some o→H p=some (.tup o)
theorem Items.same {H H':Hp} {ps:List Addr} {os:List (List V)} (s:Same H H') (h:Items H ps os):Items H' ps os:=⟨h.1,fun i p o a b => s _ _ (h.2 i p o a b)⟩
theorem Items.at {H:Hp} {ps:List Addr} {os:List (List V)} (h:Items H ps os) {i:Nat} {o:List V} (e:os[i]? = some o):∃ p,(ps.map V.ref)[i]? = some (.ref p)∧H p=some (.tup o):=by
  obtain ⟨hi,_⟩:=List.getElem?_eq_some_iff.mp e
  have hi':i < ps.length:=by rw [h.1]; exact hi
  refine ⟨ps[i],by rw [List.getElem?_map,List.getElem?_eq_getElem hi']; rfl,h.2 i _ o (List.getElem?_eq_getElem hi') e⟩
theorem Items.snoc {H:Hp} {ps:List Addr} {os:List (List V)} {p:Addr} {o:List V} (h:Items H ps os) (hp:H p=some (.tup o)):Items H (ps ++ [p]) (os ++ [o]):=by
  refine ⟨by simp [h.1],fun i q u a b => ?_⟩
  by_cases hi:i < ps.length
  · rw [List.getElem?_append_left hi] at a
    rw [List.getElem?_append_left (by rw [← h.1]; exact hi)] at b
    exact h.2 i q u a b
  · have hl:=h.1
    rw [List.getElem?_append_right (by omega)] at a
    rw [List.getElem?_append_right (by omega)] at b
    have e1:i - ps.length=0:=by
      cases z:i - ps.length with
      | zero => rfl
      | succ n => rw [z] at a; simp at a
    have e2:i - os.length=0:=by omega
    rw [e1] at a
    rw [e2] at b
    simp at a b
    subst a b
    exact hp
abbrev Room1:=Int×Str
abbrev Arrow:=Int×Int×Int×Int×Int
def rV (r:Room1):List V:=[.int r.1,.str r.2]
def aV (a:Arrow):List V:=[.int a.1,.int a.2.1,.int a.2.2.1,.int a.2.2.2.1,.int a.2.2.2.2]
def hsOf (R:List Room1):List Int:=R.map (·.1)
theorem hsOf_len (R:List Room1):(hsOf R).length=R.length:=by simp [hsOf]
theorem hsOf_get {R:List Room1} {i:Nat} {r:Room1} (h:R[i]? = some r):Rm.hold (hsOf R) i=r.1:=by
  unfold Rm.hold hsOf
  rw [List.getD_eq_getElem?_getD,List.getElem?_map,h]; rfl
theorem kr:¬ (("rooms" : Str) = "arrows"):=by decide +kernel
def flds (l m:Addr):List (Str×V):=putF "arrows" (.ref m) (putF "rooms" (.ref l) [])
theorem flds_rooms (l m:Addr):(flds l m).lookup ("rooms" : Str)=some (.ref l):=by
  unfold flds
  rw [lookup_putF,if_neg kr,lookup_putF,if_pos rfl]
theorem flds_arrows (l m:Addr):(flds l m).lookup ("arrows" : Str)=some (.ref m):=by
  unfold flds
  rw [lookup_putF,if_pos rfl]
structure ChartAt (C:Addr) (H:Hp) (c:Addr) (R:List Room1) (A:List Arrow):Prop where
  ob:∃ dx l m ps qs,H c=some (.ins C dx (flds l m))∧H l=some (.lst (ps.map V.ref))∧Items H ps (R.map rV)∧H m=some (.lst (qs.map V.ref))∧Items H qs (A.map aV)
  rl:R.length≤100
  al:A.length≤100
theorem ChartAt.same {C:Addr} {H H':Hp} {c:Addr} {R:List Room1} {A:List Arrow} (s:Same H H') (h:ChartAt C H c R A):ChartAt C H' c R A:=by
  obtain ⟨dx,l,m,ps,qs,h1,h2,h3,h4,h5⟩:=h.ob
  exact ⟨⟨dx,l,m,ps,qs,s _ _ h1,s _ _ h2,h3.same s,s _ _ h4,h5.same s⟩,h.rl,h.al⟩
structure Good (R:List Room1):Prop where
  tree:Rm.Tree (hsOf R)
  most:R.length≤16
  kind:∀ (i:Nat) r,R[i]? = some r→(r.2 = "plain"∨r.2 = "one"∨r.2 = "all"∨r.2 = "keep")∧(r.2 = "plain" ↔ Rm.kids (hsOf R) i=[])
structure DefAt (K:PySem.W.Frag) (mg:Str→Option Value) (x:Str) (st:Stmt) (ps:List Str) (f:Addr) (fd:FuncData):Prop where
  fn:Fun K x x st f fd
  bd:Binds K fd ps []
  mg:mg x=some (.ref f)
structure Txt (K:PySem.W.Frag) (mg:Str→Option Value) (C:Addr):Prop where
  cl:Cls K C
  nR:NoAttr K C "rooms"
  nA:NoAttr K C "arrows"
  mgC:mg "Chart" = some (.ref C)
  len:mg "len" = none
  range:mg "range" = none
  list:mg "list" = none
  inst:mg "isinstance" = none
  tbool:mg "bool" = none
  tint:mg "int" = none
  tup:mg "tuple" = none
  srt:mg "sorted" = none
  enum:mg "enumerate" = none
  hold:∃ t,mg "HOLDER" = some (.int 0 t)
  kind:∃ t,mg "KIND" = some (.int 1 t)
  nil:∃ t,mg "NONE" = some (.int (-1) t)
  src:∃ t,mg "SOURCE" = some (.int 0 t)
  evt:∃ t,mg "EVENT" = some (.int 1 t)
  grd:∃ t,mg "GUARD" = some (.int 2 t)
  tgt:∃ t,mg "TARGET" = some (.int 3 t)
  ded:∃ t,mg "DEED" = some (.int 4 t)
  lastE:∃ t,mg "LAST_EVENT" = some (.int 3 t)
  lastD:∃ t,mg "LAST_DEED" = some (.int 99 t)
  mostR:∃ t,mg "MOST_ROOMS" = some (.int 16 t)
  mostA:∃ t,mg "MOST_ARROWS" = some (.int 20 t)
  choosing:∃ a,mg "CHOOSING" = some (.ref a)∧∀ H,SqT K H a [.str "one",.str "keep"]
  kinds:∃ a,mg "KINDS" = some (.ref a)∧∀ H,SqT K H a [.str "plain",.str "one",.str "all",.str "keep"]
  ll:PySem.W.kitOne K (.type "list") (.type "list")=some true
  bb:PySem.W.kitOne K (.type "bool") (.type "bool")=some true
  ii:PySem.W.kitOne K (.type "int") (.type "int")=some true
  ib:PySem.W.kitOne K (.type "int") (.type "bool")=some false
  pp:PySem.W.kitOne K (.type "tuple") (.type "tuple")=some true
theorem pe_gint {X:Cx} {x:Str} {i:Int} {pos:Pos} (h:∃ t,X.mg x=some (.int i t)) (hg:Gl X x) (hd:(x == ("__debug__" : Str))=false:=by decide):PE X (.Name x pos) (tC (.int i)):=by
  obtain ⟨t,h⟩:=h
  exact pe_glob hg h ⟨t,rfl⟩ hd
section
variable {P:Program} {w:World} {K:PySem.W.Frag} {mg:Str→Option Value} {base:Heap}
def spChildren (C:Addr):Sp:=fun vs H Q _ => ∃ (c:Addr) (R:List Room1) (A:List Arrow) (k:Int),vs=[.ref c,.int k]∧ChartAt C H c R A ∧
  ∀ (l:Addr) (H':Hp),H l=Option.none→Same H H'→H' l=some (.lst ((Rm.kids (hsOf R) k).map V.int))→Q (.ref l) H'
theorem scChildren:FnScope ["chart", "room"] ["chart", "room"] (defScope sChildren):=⟨rfl,rfl,rfl,by decide +kernel,rfl,by decide +kernel,by decide +kernel⟩
theorem ok_children {f C:Addr} {fd:FuncData} (D:DefAt K mg "children" sChildren ["chart", "room"] f fd) (T:Txt K mg C):FnOk P w K mg base CX0 1 f fd ["chart", "room"] (spChildren C):=by
  refine D.fn.ok scChildren (fun vs H Q E h => ?_) (fun cdv A outer s H vs Q E hr h => ?_)
  · obtain ⟨c,R,As,k,rfl,_⟩:=h
    rfl
  obtain ⟨c,R,As,k,rfl,hC,q⟩:=h
  refine ⟨_,pss_one (ps_ret (pe_comp ["inner", "chart", "room"] [Option.none,some 0,some 1] rfl
    (pi_range1 rfl T.range (pa_cons (pe_callB call_len_seq (by rfl) T.len PySem.boot_len (pa_cons (pe_fld (pv 0) rfl) pa_nil)) pa_nil))
    (fun _ => pg_name (i := 0) (show (["inner", "chart", "room"]:List Str).Nodup by decide +kernel) rfl (Or.inl rfl))
    (fun _ => pts_one (pt_cmpR op_eq (pe_ix ix_tup (pe_ix ix_list (pe_fld (pv 1) rfl) (pv 0) (fun _ _ => rfl)) (pe_gint T.hold rfl) (fun _ _ => rfl)) (pv 2) (nomark _)))
    (fun _ => pv 0) (N:=["chart", "room"]) (ks:=(defScope sChildren).names) rfl rfl (by decide +kernel) (by decide +kernel) (by decide +kernel) (by decide +kernel))),?_⟩
  obtain ⟨dx,l,m,ps,qs,h1,h2,h3,h4,h5⟩:=hC.ob
  have hl:(ps.map V.ref).length=R.length:=by rw [List.length_map,h3.1,List.length_map]
  have hrl:=hC.rl
  refine ⟨_,rfl,c,C,dx,_,_,rfl,h1,T.cl,T.nR,flds_rooms l m,l,_,rfl,.inl (SqL.of h2),_,rfl,by rw [hl]; omega,by rw [hl]; omega,fun bk D hD => ?_⟩
  rw [hl]
  refine comp_range (Pv:=fun i ys σ H' => ∃ v,σ = [v,some (.ref c),some (.int k)]∧ys=(((List.range i).filter fun j => decide (Rm.hold (hsOf R) j=k)).map fun (j:Nat) => V.int (j:Int))∧Same H H') ⟨_,rfl,rfl,same_new hD _⟩ ?_ ?_
  · rintro i ys σ H1 hi hDi ⟨v,rfl,hys,(s1:Same _ _)⟩
    have hi':i < R.length:=by simpa using hi
    have er:(R.map rV)[i]? = some (rV R[i]):=by rw [List.getElem?_map,List.getElem?_eq_getElem hi']; rfl
    obtain ⟨p,hp,hp2⟩:=h3.at er
    have ei:(0:Int) + (i:Int)=(i:Int):=by omega
    refine ⟨_,rfl,c,C,dx,_,_,rfl,s1 _ _ h1,T.cl,T.nR,flds_rooms l m,_,rfl,l,_,_,_,rfl,rfl,SqL.of (s1 _ _ h2),by rw [ei]; exact atI_nat hp,p,_,_,_,rfl,rfl,SqT.of (s1 _ _ hp2),rfl,_,rfl,rfl,_,rfl,?_⟩
    have eh:Rm.hold (hsOf R) i=R[i].1:=hsOf_get (List.getElem?_eq_getElem hi')
    refine ite2 (fun z => ?_) (fun z => ?_)
    · have z':R[i].1=k:=by simpa using z
      refine ⟨_,rfl,hDi,?_,⟨_,rfl,?_,sameUpd s1 hD _⟩⟩
      · rw [hys,List.length_map]
        have:=List.length_filter_le (fun j => decide (Rm.hold (hsOf R) j=k)) (List.range i)
        rw [List.length_range] at this
        exact small1000 (by omega)
      · rw [Rm.range_filter_succ,if_pos (by rw [eh]; exact decide_eq_true z'),List.map_append,← hys,ei]; rfl
    · have z':¬ R[i].1=k:=by simpa using z
      refine ⟨hDi,⟨_,rfl,?_,s1⟩⟩
      rw [Rm.range_filter_succ,if_neg (by rw [eh]; simpa using z'),List.append_nil]; exact hys
  · rintro ys σ H1 hDn ⟨v,rfl,hys,(s1:Same _ _)⟩
    refine q D H1 hD s1 ?_
    rw [hDn,hys]
    unfold Rm.kids
    rw [List.map_map,hsOf_len]
    have e:((R.length:Int)).toNat=R.length:=by omega
    rw [e]; rfl
def spWithin (C:Addr):Sp:=fun vs H Q _ => ∃ (c:Addr) (R:List Room1) (A:List Arrow) (i j:Nat),vs=[.ref c,.int i,.int j]∧ChartAt C H c R A∧Rm.Tree (hsOf R)∧i < R.length ∧
  Q (.bl (Rm.wi (hsOf R) i j)) H
theorem scWithin:FnScope ["chart", "room", "other", "place"] ["chart", "room", "other"] (defScope sWithin):=⟨rfl,rfl,rfl,by decide +kernel,rfl,by decide +kernel,by decide +kernel⟩
theorem ok_within {f C:Addr} {fd:FuncData} (D:DefAt K mg "within" sWithin ["chart", "room", "other"] f fd) (T:Txt K mg C):FnOk P w K mg base CX0 1 f fd ["chart", "room", "other"] (spWithin C):=by
  refine D.fn.ok scWithin (fun vs H Q E h => ?_) (fun cdv A outer s H vs Q E hr h => ?_)
  · obtain ⟨c,R,As,i,j,rfl,_⟩:=h
    rfl
  obtain ⟨c,R,As,i,j,rfl,hC,hT,hi,q⟩:=h
  refine ⟨_,pss_cons (ps_set (i := 3) scWithin.nd rfl (Or.inl rfl) (pv 1))
    (pss_cons (ps_while PassesOwn.never (pt_cmpR op_gt (pv 3) (pv 2) (nomark _))
      (pss_one (ps_set (i := 3) scWithin.nd rfl (Or.inl rfl) (pe_ix ix_tup (pe_ix ix_list (pe_fld (pv 0) rfl) (pv 3) (fun _ _ => rfl)) (pe_gint T.hold rfl) (fun _ _ => rfl)))))
    (pss_one (ps_ret (pe_cmpR op_eq (pv 3) (pv 2) (nomark _))))),?_⟩
  obtain ⟨dx,l,m,ps,qs,h1,h2,h3,h4,h5⟩:=hC.ob
  refine ⟨_,rfl,fun n σ H1 => ∃ p:Nat,σ = [some (.ref c),some (.int i),some (.int j),some (.int p)]∧H1=H∧p < R.length∧n=p∧Rm.wi (hsOf R) i j=Rm.wi (hsOf R) p j,⟨i,i,rfl,rfl,hi,rfl,rfl⟩,?_⟩
  rintro n σ H1 ⟨p,rfl,rfl,hp,rfl,ew⟩
  refine ⟨_,rfl,_,rfl,_,_,rfl,rfl,_,rfl,?_⟩
  refine ite2 (fun z => ?_) (fun z => ?_)
  · have z':(j:Int) < (n:Int):=by simpa using z
    have er:(R.map rV)[n]? = some (rV R[n]):=by rw [List.getElem?_map,List.getElem?_eq_getElem hp]; rfl
    obtain ⟨a,ha,ha2⟩:=h3.at er
    have eh:Rm.hold (hsOf R) n=R[n].1:=hsOf_get (List.getElem?_eq_getElem hp)
    have hu:=hT.up n (by omega) (by rw [hsOf_len]; exact hp)
    rw [eh] at hu
    refine ⟨fun σ' H' => ∃ p':Nat,p' < n∧σ'=[some (.ref c),some (.int i),some (.int j),some (.int p')]∧H'=H1∧Rm.wi (hsOf R) i j=Rm.wi (hsOf R) p' j,?_,?_⟩
    · rintro σ' H' ⟨p',hlt,rfl,rfl,e'⟩
      exact ⟨p',hlt,p',rfl,rfl,by omega,rfl,e'⟩
    · refine ⟨_,rfl,c,C,dx,_,_,rfl,h1,T.cl,T.nR,flds_rooms l m,_,rfl,l,_,_,_,rfl,rfl,SqL.of h2,atI_nat ha,a,_,_,_,rfl,rfl,SqT.of ha2,rfl,?_⟩
      refine ⟨R[n].1.toNat,by omega,?_,rfl,?_⟩
      · show [some (V.ref c),some (V.int i),some (V.int j),some (V.int R[n].1)] = _
        have e3:((R[n].1.toNat:Nat):Int)=R[n].1:=by omega
        rw [e3]
      · rw [ew,Rm.wi_step (by rw [eh]; exact hu) (by omega),eh]
  · have z':¬ (j:Int) < (n:Int):=by simpa using z
    refine ⟨_,rfl,_,rfl,rfl,?_⟩
    rw [ew,Rm.wi_end (by omega)] at q
    have e:(decide (V.int (n:Int)=V.int (j:Int)))=decide (n=j):=decide_eq_decide.mpr ⟨fun y => by injection y with y; omega,fun y => by rw [y]⟩
    rw [e]
    exact q
end
end Toy
namespace Toy
open PySem L2
seal PySem.wpAny
section
variable {P:Program} {w:World} {K:PySem.W.Frag} {mg:Str→Option Value} {base:Heap}
theorem room_at {H:Hp} {ps:List Addr} {R:List Room1} (h3:Items H ps (R.map rV)) {i:Nat} (hi:i < R.length):∃ p,atI (ps.map V.ref) (i:Int)=some (.ref p)∧H p=some (.tup (rV R[i])):=by
  have er:(R.map rV)[i]? = some (rV R[i]):=by rw [List.getElem?_map,List.getElem?_eq_getElem hi]; rfl
  obtain ⟨p,hp,hp2⟩:=h3.at er
  exact ⟨p,atI_nat hp,hp2⟩
def spCheck1 (C:Addr):Sp:=fun vs H Q _ => ∃ (c:Addr) (R:List Room1) (A:List Arrow) (i:Nat),vs=[.ref c,.int i]∧ChartAt C H c R A∧Good R∧i < R.length∧∀ H',Same H H'→Q .non H'
theorem scCheckHolder:FnScope ["chart", "room", "holder"] ["chart", "room"] (defScope sCheckHolder):=⟨rfl,rfl,rfl,by decide +kernel,rfl,by decide +kernel,by decide +kernel⟩
theorem ok_check_holder {f C:Addr} {fd:FuncData} (D:DefAt K mg "check_holder" sCheckHolder ["chart", "room"] f fd) (T:Txt K mg C):FnOk P w K mg base CX0 1 f fd ["chart", "room"] (spCheck1 C):=by
  refine D.fn.ok scCheckHolder (fun vs H Q E h => ?_) (fun cdv A outer s H vs Q E hr h => ?_)
  · obtain ⟨c,R,As,i,rfl,_⟩:=h
    rfl
  obtain ⟨c,R,As,i,rfl,hC,hG,hi,q⟩:=h
  refine ⟨_,pss_cons (ps_set (i := 2) scCheckHolder.nd rfl (Or.inl rfl) (pe_ix ix_tup (pe_ix ix_list (pe_fld (pv 0) rfl) (pv 1) (fun _ _ => rfl)) (pe_gint T.hold rfl) (fun _ _ => rfl)))
    (pss_cons (ps_if (pt_cmpR op_eq (pv 1) pe_int (nomark _))
      (pss_cons (ps_if (pt_cmpR op_ne (pv 2) (pe_gint T.nil rfl) (nomark _)) pss_never pss_nil) (pss_one ps_retN)) pss_nil)
    (pss_one (ps_if (pt_not (pt_chain op_le op_lt pe_int (pv 2) (pv 1))) pss_never pss_nil))),?_⟩
  obtain ⟨dx,l,m,ps,qs,h1,h2,h3,h4,h5⟩:=hC.ob
  obtain ⟨p,hp,hp2⟩:=room_at h3 hi
  have eh:Rm.hold (hsOf R) i=R[i].1:=hsOf_get (List.getElem?_eq_getElem hi)
  refine ⟨_,rfl,c,C,dx,_,_,rfl,h1,T.cl,T.nR,flds_rooms l m,_,rfl,l,_,_,_,rfl,rfl,SqL.of h2,hp,p,_,_,_,rfl,rfl,SqT.of hp2,rfl,?_⟩
  refine ⟨_,rfl,rfl,_,rfl,?_⟩
  refine ite2 (fun z => ?_) (fun z => ?_)
  · have z':i=0:=by
      have:(i:Int)=0:=by simpa using z
      omega
    have e0:R[i].1 = -1:=by rw [← eh,z']; exact hG.tree.root
    refine ⟨_,rfl,rfl,_,rfl,?_⟩
    refine iteNS (show V.int R[i].1=V.int (-1) by rw [e0]) ?_
    exact q H (Same.refl H)
  · have z':¬ i=0:=fun y => z (by rw [y]; rfl)
    have hu:=hG.tree.up i (by omega) (by rw [hsOf_len]; exact hi)
    rw [eh] at hu
    refine ⟨_,rfl,_,_,rfl,rfl,_,rfl,?_⟩
    rw [decide_eq_true hu.1]
    refine iteT ?_
    refine ⟨_,rfl,_,_,rfl,rfl,_,rfl,?_⟩
    rw [decide_eq_true hu.2]
    refine iteF ?_
    exact q H (Same.refl H)
theorem scCheckKind:FnScope ["chart", "room", "kind", "inner"] ["chart", "room"] (defScope sCheckKind):=⟨rfl,rfl,rfl,by decide +kernel,rfl,by decide +kernel,by decide +kernel⟩
theorem in_kinds {x:Str} (h:x = "plain"∨x = "one"∨x = "all"∨x = "keep"):inV (.str x) [.str "plain",.str "one",.str "all",.str "keep"] = true:=by
  rcases h with h | h | h | h <;> (subst h; decide +kernel)
theorem ok_check_kind {f C fc:Addr} {fd fdc:FuncData} (D:DefAt K mg "check_kind" sCheckKind ["chart", "room"] f fd) (T:Txt K mg C) (Dc:DefAt K mg "children" sChildren ["chart", "room"] fc fdc):FnOk P w K mg base CX0 2 f fd ["chart", "room"] (spCheck1 C):=by
  have Gc:FnOk P w K mg base CX0 1 fc fdc ["chart", "room"] (spChildren C):=ok_children Dc T
  refine D.fn.ok scCheckKind (fun vs H Q E h => ?_) (fun cdv A outer s H vs Q E hr h => ?_)
  · obtain ⟨c,R,As,i,rfl,_⟩:=h
    rfl
  obtain ⟨c,R,As,i,rfl,hC,hG,hi,q⟩:=h
  obtain ⟨aK,hK,sK⟩:=T.kinds
  refine ⟨_,pss_cons (ps_set (i := 2) scCheckKind.nd rfl (Or.inl rfl) (pe_ix ix_tup (pe_ix ix_list (pe_fld (pv 0) rfl) (pv 1) (fun _ _ => rfl)) (pe_gint T.kind rfl) (fun _ _ => rfl)))
    (pss_cons (ps_if (pt_cmpR op_notIn_seq (pv 2) (pe_glob rfl hK (v:=.ref aK) rfl) (by with_unfolding_all rfl)) pss_never pss_nil)
    (pss_cons (ps_set (i := 3) scCheckKind.nd rfl (Or.inl rfl) (pe_call Gc hr rfl Dc.mg Dc.fn.kp Dc.bd .nil pass0 (pa_cons (pv 0) (pa_cons (pv 1) pa_nil))))
    (pss_cons (ps_if (PW.pt (pw_and (pt_cmpR op_eq (pv 2) pe_str (nomark _)) (pw_and1 (pt_cmpR op_gt (pe_callB call_len_seq (by rfl) T.len PySem.boot_len (pa_cons (pv 3) pa_nil)) pe_int (nomark _))))) pss_never pss_nil)
    (pss_one (ps_if (PW.pt (pw_and (pt_cmpR op_ne (pv 2) pe_str (nomark _)) (pw_and1 (pt_cmpR op_eq (pe_callB call_len_seq (by rfl) T.len PySem.boot_len (pa_cons (pv 3) pa_nil)) pe_int (nomark _))))) pss_never pss_nil))))),?_⟩
  obtain ⟨dx,l,m,ps,qs,h1,h2,h3,h4,h5⟩:=hC.ob
  obtain ⟨p,hp,hp2⟩:=room_at h3 hi
  obtain ⟨hk1,hk2⟩:=hG.kind i R[i] (List.getElem?_eq_getElem hi)
  refine ⟨_,rfl,c,C,dx,_,_,rfl,h1,T.cl,T.nR,flds_rooms l m,_,rfl,l,_,_,_,rfl,rfl,SqL.of h2,hp,p,_,_,_,rfl,rfl,SqT.of hp2,rfl,?_⟩
  refine ⟨_,rfl,aK,_,rfl,.inr (sK _),rfl,by decide +kernel,_,rfl,?_⟩
  rw [if_pos rfl,in_kinds hk1]
  refine iteF ?_
  refine ⟨_,rfl,_,rfl,c,R,As,i,rfl,hC,fun d H1 hd s1 e1 => ?_⟩
  have el:∀ b:Bool,(if b=true then False else True)→b=false:=fun b h => by cases b <;> simp_all
  refine ⟨_,rfl,rfl,_,rfl,?_⟩
  by_cases hpl:R[i].2 = "plain"
  · have e0:Rm.kids (hsOf R) i=[]:=hk2.mp hpl
    rw [decide_eq_true (show V.str R[i].2=V.str "plain" by rw [hpl])]
    refine iteT ?_
    refine ⟨_,rfl,d,_,rfl,.inl (SqL.of e1),_,_,rfl,rfl,_,rfl,?_⟩
    rw [e0]
    refine iteF ?_
    refine ⟨_,rfl,rfl,_,rfl,?_⟩
    rw [decide_eq_true (show V.str R[i].2=V.str "plain" by rw [hpl])]
    refine iteF ?_
    refine iteF ?_
    exact q H1 s1
  · have e0:Rm.kids (hsOf R) i≠[]:=fun z => hpl (hk2.mpr z)
    have ne:¬ V.str R[i].2=V.str "plain" := fun z => hpl (by injection z)
    rw [decide_eq_false ne]
    refine iteF ?_
    refine iteF ?_
    refine ⟨_,rfl,rfl,_,rfl,?_⟩
    rw [decide_eq_false ne]
    refine iteT ?_
    refine ⟨_,rfl,d,_,rfl,.inl (SqL.of e1),rfl,_,rfl,?_⟩
    have nz:¬ V.int (((Rm.kids (hsOf R) i).map V.int).length:Int)=V.int 0:=fun z => by
      injection z with z
      rw [List.length_map] at z
      exact e0 (List.length_eq_zero_iff.mp (by omega))
    rw [decide_eq_false nz]
    refine iteF ?_
    exact q H1 s1
def spCheckRooms (C:Addr):Sp:=fun vs H Q _ => ∃ (c:Addr) (R:List Room1) (A:List Arrow),vs=[.ref c]∧ChartAt C H c R A∧Good R∧∀ H',Same H H'→Q .non H'
theorem scCheckRooms:FnScope ["chart", "room"] ["chart"] (defScope sCheckRooms):=⟨rfl,rfl,rfl,by decide +kernel,rfl,by decide +kernel,by decide +kernel⟩
theorem ok_check_rooms {f C fc fh fk:Addr} {fd fdc fdh fdk:FuncData} (D:DefAt K mg "check_rooms" sCheckRooms ["chart"] f fd) (T:Txt K mg C) (Dc:DefAt K mg "children" sChildren ["chart", "room"] fc fdc)
    (Dh:DefAt K mg "check_holder" sCheckHolder ["chart", "room"] fh fdh) (Dk:DefAt K mg "check_kind" sCheckKind ["chart", "room"] fk fdk):FnOk P w K mg base CX0 3 f fd ["chart"] (spCheckRooms C):=by
  have Gh:FnOk P w K mg base CX0 1 fh fdh ["chart", "room"] (spCheck1 C):=ok_check_holder Dh T
  have Gk:FnOk P w K mg base CX0 2 fk fdk ["chart", "room"] (spCheck1 C):=ok_check_kind Dk T Dc
  refine D.fn.ok scCheckRooms (fun vs H Q E h => ?_) (fun cdv A outer s H vs Q E hr h => ?_)
  · obtain ⟨c,R,As,rfl,_⟩:=h
    rfl
  obtain ⟨c,R,As,rfl,hC,hG,q⟩:=h
  refine ⟨_,pss_cons (ps_if (pt_not (pt_chain op_le op_le pe_int (pe_callB call_len_seq (by rfl) T.len PySem.boot_len (pa_cons (pe_fld (pv 0) rfl) pa_nil)) (pe_gint T.mostR rfl))) pss_never pss_nil)
    (pss_one (ps_for PassesOwn.never rfl (pi_range1 rfl T.range (pa_cons (pe_callB call_len_seq (by rfl) T.len PySem.boot_len (pa_cons (pe_fld (pv 0) rfl) pa_nil)) pa_nil)) (pg_name (i := 1) scCheckRooms.nd rfl (Or.inl rfl))
      (pss_cons (ps_expr (pe_call Gh (hr.mono (by decide)) rfl Dh.mg Dh.fn.kp Dh.bd .nil pass0 (pa_cons (pv 0) (pa_cons (pv 1) pa_nil))))
      (pss_one (ps_expr (pe_call Gk hr rfl Dk.mg Dk.fn.kp Dk.bd .nil pass0 (pa_cons (pv 0) (pa_cons (pv 1) pa_nil)))))))),?_⟩
  obtain ⟨dx,l,m,ps,qs,h1,h2,h3,h4,h5⟩:=hC.ob
  have hl:(ps.map V.ref).length=R.length:=by rw [List.length_map,h3.1,List.length_map]
  have hm:=hG.most
  have h0:=hG.tree.pos
  rw [hsOf_len] at h0
  refine ⟨_,rfl,c,C,dx,_,_,rfl,h1,T.cl,T.nR,flds_rooms l m,l,_,rfl,.inl (SqL.of h2),_,_,rfl,rfl,_,rfl,?_⟩
  rw [hl,decide_eq_true (show (1:Int)≤(R.length:Int) by omega)]
  refine iteT ?_
  refine ⟨_,_,rfl,rfl,_,rfl,?_⟩
  rw [decide_eq_true (show (R.length:Int)≤(16:Int) by omega)]
  refine iteF ?_
  refine ⟨_,rfl,c,C,dx,_,_,rfl,h1,T.cl,T.nR,flds_rooms l m,l,_,rfl,.inl (SqL.of h2),_,rfl,by rw [hl]; omega,by rw [hl]; omega,?_⟩
  rw [hl]
  refine for_range (fun i σ H1 => ∃ v,σ = [some (.ref c),v]∧Same H H1) ⟨_,rfl,Same.refl H⟩ ?_ ?_
  · rintro i σ H1 hi ⟨v,rfl,(s1:Same _ _)⟩
    have hi':i < R.length:=by omega
    have ei:(0:Int) + (i:Int)=(i:Int):=by omega
    rw [ei]
    refine ⟨_,rfl,_,rfl,c,R,As,i,rfl,hC.same s1,hG,hi',fun H2 s2 => ?_⟩
    refine ⟨_,rfl,_,rfl,c,R,As,i,rfl,hC.same (s1.trans s2),hG,hi',fun H3 s3 => ?_⟩
    exact ⟨_,rfl,s1.trans (s2.trans s3)⟩
  · rintro σ H1 ⟨v,rfl,(s1:Same _ _)⟩
    exact q H1 s1
end
end Toy
namespace Toy
open PySem L2
seal PySem.wpAny
section
variable {P:Program} {w:World} {K:PySem.W.Frag} {mg:Str→Option Value} {base:Heap}
theorem inV_int (k:Int) (xs:List Int):inV (.int k) (xs.map V.int)=decide (k∈xs):=by
  unfold inV
  induction xs with
  | nil => rfl
  | cons x r ih =>
    rw [List.map_cons,List.any_cons,ih]
    have e:eqV (V.int x) (V.int k)=decide (x=k):=by
      show (x == k)=decide (x=k)
      by_cases h:x=k <;> simp [h]
    rw [e]
    by_cases h:x=k
    · subst h; simp
    · have h':¬ k=x:=fun z => h z.symm
      simp [h,h']
theorem flat_ints (xs:List Int):(xs.map V.int).all flatV=true:=by
  induction xs with
  | nil => rfl
  | cons x r ih => rw [List.map_cons,List.all_cons,ih]; rfl
theorem ints_get {ns:List Int} {k:Nat} (h:k < ns.length):atI (ns.map V.int) (k:Int)=some (.int ns[k]):=atI_nat (by rw [List.getElem?_map,List.getElem?_eq_getElem h]; rfl)
def spCell (K:PySem.W.Frag):Sp:=fun vs H Q _ => ∃ (a:Addr) (ns:List Int) (k:Nat),vs=[.ref a,.int k]∧SqL K H a (ns.map V.int)∧Q (.int (Rm.cell ns k)) H
theorem scCell:FnScope ["script", "k"] ["script", "k"] (defScope sCell):=⟨rfl,rfl,rfl,by decide +kernel,rfl,by decide +kernel,by decide +kernel⟩
theorem ok_cell {f C:Addr} {fd:FuncData} (D:DefAt K mg "_law_cell_at" sCell ["script", "k"] f fd) (T:Txt K mg C):FnOk P w K mg base CX0 1 f fd ["script", "k"] (spCell K):=by
  refine D.fn.ok scCell (fun vs H Q E h => ?_) (fun cdv A outer s H vs Q E hr h => ?_)
  · obtain ⟨a,ns,k,rfl,_⟩:=h
    rfl
  obtain ⟨a,ns,k,rfl,hS,q⟩:=h
  refine ⟨_,pss_cons (ps_if (pt_cmpR op_lt (pv 1) (pe_callB call_len_seq (by rfl) T.len PySem.boot_len (pa_cons (pv 0) pa_nil)) (nomark _)) (pss_one (ps_ret (pe_ix ix_list (pv 0) (pv 1) (fun _ _ => rfl)))) pss_nil)
    (pss_one (ps_ret pe_int)),?_⟩
  refine ⟨_,rfl,_,rfl,a,_,rfl,.inl hS,_,_,rfl,rfl,_,rfl,?_⟩
  rw [List.length_map]
  refine ite2 (fun z => ?_) (fun z => ?_)
  · have z':k < ns.length:=by
      have:(k:Int) < (ns.length:Int):=by simpa using z
      omega
    refine ⟨_,rfl,_,rfl,a,_,_,_,rfl,rfl,hS,ints_get z',?_⟩
    have e:Rm.cell ns k=ns[k]:=by
      unfold Rm.cell
      rw [List.getD_eq_getElem?_getD,List.getElem?_eq_getElem z']; rfl
    rw [e] at q
    exact q
  · have z':¬ k < ns.length:=fun y => z (by simpa using y)
    have e:Rm.cell ns k=0:=by
      unfold Rm.cell
      rw [List.getD_eq_getElem?_getD,List.getElem?_eq_none (by omega)]; rfl
    rw [e] at q
    exact q
end
end Toy
namespace Toy
open PySem L2
seal PySem.wpAny
section
variable {P:Program} {w:World} {K:PySem.W.Frag} {mg:Str→Option Value} {base:Heap}
def cV (l:List Nat):List V:=(l.map fun (j:Nat) => (j:Int)).map V.int
theorem cV_len (l:List Nat):(cV l).length=l.length:=by unfold cV; rw [List.length_map,List.length_map]
theorem cV_get {l:List Nat} {i:Nat} {x:V} (h:(cV l)[i]? = some x):∃ k:Nat,l[i]? = some k∧x = .int k:=by
  unfold cV at h
  rw [List.getElem?_map,List.getElem?_map] at h
  cases e:l[i]? with
  | none => rw [e] at h; cases h
  | some k => rw [e] at h; exact ⟨k,rfl,(Option.some.inj h).symm⟩
theorem cV_app (l m:List Nat):cV (l ++ m)=cV l ++ cV m:=by unfold cV; rw [List.map_append,List.map_append]
end
end Toy
namespace Toy
open PySem L2
seal PySem.wpAny
section
variable {P:Program} {w:World} {K:PySem.W.Frag} {mg:Str→Option Value} {base:Heap}
end
end Toy
namespace Toy
open PySem L2
seal PySem.wpAny
section
variable {P:Program} {w:World} {K:PySem.W.Frag} {mg:Str→Option Value} {base:Heap}
def choosing (R:List Room1) (p:Nat):Bool:=match R[p]? with
  | some r => decide (r.2 = "one"∨r.2 = "keep")
  | Option.none => false
def scopeOf (R:List Room1) (s t:Nat):Option Nat:=(Rm.chain (hsOf R) s).tail.find? fun p => choosing R p && Rm.li (hsOf R) t p
def optV:Option Nat→V
  | some p => .int p
  | Option.none => .non
theorem in_two (x:Str):inV (.str x) [.str "one",.str "keep"] = decide (x = "one"∨x = "keep"):=by
  show ((("one" : Str) == x) || ((("keep" : Str) == x) || false))=_
  by_cases h1:x = "one"
  · subst h1; decide +kernel
  · by_cases h2:x = "keep"
    · subst h2; decide +kernel
    · have e1:(("one" : Str) == x)=false:=beq_eq_false_iff_ne.mpr fun z => h1 z.symm
      have e2:(("keep" : Str) == x)=false:=beq_eq_false_iff_ne.mpr fun z => h2 z.symm
      rw [e1,e2,decide_eq_false fun z => z.elim h1 h2]; rfl
end
end Toy
namespace Toy
open PySem L2
seal PySem.wpAny
section
variable {P:Program} {w:World} {K:PySem.W.Frag} {mg:Str→Option Value} {base:Heap}
def spLies (C:Addr):Sp:=fun vs H Q _ => ∃ (c:Addr) (R:List Room1) (A:List Arrow) (i j:Nat),vs=[.ref c,.int i,.int j]∧ChartAt C H c R A∧Rm.Tree (hsOf R)∧i < R.length∧Q (.bl (Rm.li (hsOf R) i j)) H
theorem scLies:FnScope ["chart", "room", "other"] ["chart", "room", "other"] (defScope sLies):=⟨rfl,rfl,rfl,by decide +kernel,rfl,by decide +kernel,by decide +kernel⟩
theorem ok_lies {f C fw:Addr} {fd fdw:FuncData} (D:DefAt K mg "lies_in" sLies ["chart", "room", "other"] f fd) (T:Txt K mg C) (Dw:DefAt K mg "within" sWithin ["chart", "room", "other"] fw fdw):FnOk P w K mg base CX0 2 f fd ["chart", "room", "other"] (spLies C):=by
  have Gw:FnOk P w K mg base CX0 1 fw fdw ["chart", "room", "other"] (spWithin C):=ok_within Dw T
  refine D.fn.ok scLies (fun vs H Q E h => ?_) (fun cdv A outer s H vs Q E hr h => ?_)
  · obtain ⟨c,R,As,i,j,rfl,_⟩:=h
    rfl
  obtain ⟨c,R,As,i,j,rfl,hC,hT,hi,q⟩:=h
  refine ⟨_,pss_one (ps_ret (pe_and (pe_cmpR op_ne (pv 1) (pv 2) (nomark _)) (pe_one (pe_call Gw hr rfl Dw.mg Dw.fn.kp Dw.bd .nil pass0 (pa_cons (pv 0) (pa_cons (pv 1) (pa_cons (pv 2) pa_nil))))))),?_⟩
  refine ⟨_,rfl,_,rfl,rfl,_,rfl,?_⟩
  rw [Rm.li_eq] at q
  have e:(decide (V.int (i:Int)=V.int (j:Int)))=decide (i=j):=decide_eq_decide.mpr ⟨fun y => by injection y with y; omega,fun y => by rw [y]⟩
  rw [e]
  by_cases z:i=j
  · rw [decide_eq_true z] at q ⊢
    exact iteF q
  · rw [decide_eq_false z] at q ⊢
    refine iteT ?_
    exact ⟨_,rfl,_,rfl,_,rfl,c,R,As,i,j,rfl,hC,hT,hi,q⟩
def spScope (C:Addr):Sp:=fun vs H Q _ => ∃ (c:Addr) (R:List Room1) (A:List Arrow) (i j:Nat),vs=[.ref c,.int i,.int j]∧ChartAt C H c R A∧Rm.Tree (hsOf R)∧i < R.length∧j < R.length∧Q (optV (scopeOf R i j)) H
theorem scScope:FnScope ["chart", "source", "target", "place"] ["chart", "source", "target"] (defScope sScope):=⟨rfl,rfl,rfl,by decide +kernel,rfl,by decide +kernel,by decide +kernel⟩
theorem ok_scope {f C fl fw:Addr} {fd fdl fdw:FuncData} (D:DefAt K mg "scope" sScope ["chart", "source", "target"] f fd) (T:Txt K mg C) (Dl:DefAt K mg "lies_in" sLies ["chart", "room", "other"] fl fdl) (Dw:DefAt K mg "within" sWithin ["chart", "room", "other"] fw fdw) :
    FnOk P w K mg base CX0 3 f fd ["chart", "source", "target"] (spScope C):=by
  have Gl:FnOk P w K mg base CX0 2 fl fdl ["chart", "room", "other"] (spLies C):=ok_lies Dl T Dw
  refine D.fn.ok scScope (fun vs H Q E h => ?_) (fun cdv A outer s H vs Q E hr h => ?_)
  · obtain ⟨c,R,As,i,j,rfl,_⟩:=h
    rfl
  obtain ⟨c,R,As,i,j,rfl,hC,hT,hi,hj,q⟩:=h
  obtain ⟨aK,hK,sK⟩:=T.choosing
  refine ⟨_,pss_cons (ps_set (i := 3) scScope.nd rfl (Or.inl rfl) (pe_ix ix_tup (pe_ix ix_list (pe_fld (pv 0) rfl) (pv 1) (fun _ _ => rfl)) (pe_gint T.hold rfl) (fun _ _ => rfl)))
    (pss_cons (ps_while PassesOwn.never (pt_cmpR op_ne (pv 3) (pe_gint T.nil rfl) (nomark _))
      (pss_cons (ps_if (PW.pt (pw_and (pt_cmpR op_in_seq (pe_ix ix_tup (pe_ix ix_list (pe_fld (pv 0) rfl) (pv 3) (fun _ _ => rfl)) (pe_gint T.kind rfl) (fun _ _ => rfl)) (pe_glob rfl hK (v:=.ref aK) rfl) (by with_unfolding_all rfl))
          (pw_and1 (pt_val (pe_call Gl hr rfl Dl.mg Dl.fn.kp Dl.bd .nil pass0 (pa_cons (pv 0) (pa_cons (pv 2) (pa_cons (pv 3) pa_nil)))))))) (pss_one (ps_ret (pv 3))) pss_nil)
      (pss_one (ps_set (i := 3) scScope.nd rfl (Or.inl rfl) (pe_ix ix_tup (pe_ix ix_list (pe_fld (pv 0) rfl) (pv 3) (fun _ _ => rfl)) (pe_gint T.hold rfl) (fun _ _ => rfl))))))
    (pss_one (ps_ret pe_non))),?_⟩
  obtain ⟨dx,l,m,ps,qs,h1,h2,h3,h4,h5⟩:=hC.ob
  have hok:∀ {n:Nat},n < R.length→Rm.hold (hsOf R) n = -1∨(0≤Rm.hold (hsOf R) n∧Rm.hold (hsOf R) n < (n:Int)):=fun {n} hn => by
    by_cases z:n=0
    · subst z; exact .inl hT.root
    · exact .inr (hT.up n (by omega) (by rw [hsOf_len]; exact hn))
  obtain ⟨p,hp,hp2⟩:=room_at h3 hi
  have eh:Rm.hold (hsOf R) i=R[i].1:=hsOf_get (List.getElem?_eq_getElem hi)
  refine ⟨_,rfl,c,C,dx,_,_,rfl,h1,T.cl,T.nR,flds_rooms l m,_,rfl,l,_,_,_,rfl,rfl,SqL.of h2,hp,p,_,_,_,rfl,rfl,SqT.of hp2,rfl,?_⟩
  refine ⟨fun n σ H1 => ∃ pl:Int,σ = [some (.ref c),some (.int i),some (.int j),some (.int pl)]∧H1=H∧(pl = -1∨(0≤pl∧pl < (R.length:Int)))∧n=(pl + 1).toNat∧scopeOf R i j=(Rm.upper (hsOf R) pl).find? fun p => choosing R p && Rm.li (hsOf R) j p,
    ⟨_,R[i].1,rfl,rfl,by rw [← eh]; rcases hok hi with z | z <;> omega,rfl,by unfold scopeOf; rw [Rm.tail_upper hT (by rw [hsOf_len]; exact hi),eh]⟩,?_⟩
  rintro n σ H1 ⟨pl,rfl,rfl,hpl,rfl,es⟩
  refine ⟨_,rfl,rfl,_,rfl,?_⟩
  by_cases z:pl = -1
  · subst z
    refine iteNS rfl ?_
    rw [es,Rm.upper_neg] at q
    exact q
  · have z0 : 0≤pl∧pl < (R.length:Int):=hpl.resolve_left z
    obtain ⟨k,rfl⟩ : ∃ k:Nat,pl=(k:Int):=⟨pl.toNat,by omega⟩
    have hk:k < R.length:=by omega
    have ne:¬ V.int (k:Int)=V.int (-1):=fun y => by injection y with y; omega
    rw [decide_eq_false ne]
    refine iteT ?_
    obtain ⟨a,ha,ha2⟩:=room_at h3 hk
    have ehk:Rm.hold (hsOf R) k=R[k].1:=hsOf_get (List.getElem?_eq_getElem hk)
    have ech:choosing R k=decide (R[k].2 = "one"∨R[k].2 = "keep"):=by
      unfold choosing; rw [List.getElem?_eq_getElem hk]
    rw [Rm.upper_step hT (by rw [hsOf_len]; exact hk),List.find?_cons,ehk] at es
    refine ⟨fun σ' H' => ∃ pl':Int,σ'=[some (.ref c),some (.int i),some (.int j),some (.int pl')]∧H'=H1∧(pl' = -1∨(0≤pl'∧pl' < (k:Int)))∧scopeOf R i j=(Rm.upper (hsOf R) pl').find? fun p => choosing R p && Rm.li (hsOf R) j p,?_,?_⟩
    · rintro σ' H' ⟨pl',rfl,rfl,h',e'⟩
      exact ⟨(pl' + 1).toNat,by omega,pl',rfl,rfl,by omega,rfl,e'⟩
    · refine ⟨_,rfl,c,C,dx,_,_,rfl,h1,T.cl,T.nR,flds_rooms l m,_,rfl,l,_,_,_,rfl,rfl,SqL.of h2,ha,a,_,_,_,rfl,rfl,SqT.of ha2,rfl,aK,_,rfl,.inr (sK _),rfl,by decide +kernel,_,rfl,?_⟩
      have stepOn:scopeOf R i j=(Rm.upper (hsOf R) R[k].1).find? (fun p => choosing R p && Rm.li (hsOf R) j p) →
          (tAsg (tOp (rIxT K) (tOp (rIxL K) (tFld K (tVar 0) "rooms") (tVar 3)) (tC (.int 0))) (gName 3)) { nx:=fun σ' H' => ∃ pl':Int,σ'=[some (.ref c),some (.int i),some (.int j),some (.int pl')]∧H'=H1∧(pl' = -1∨(0≤pl'∧pl' < (k:Int)))∧scopeOf R i j=(Rm.upper (hsOf R) pl').find? fun p => choosing R p && Rm.li (hsOf R) j p,rt:=Q }
            [some (.ref c),some (.int i),some (.int j),some (.int k)] H1:=fun e' => by
        refine ⟨_,rfl,c,C,dx,_,_,rfl,h1,T.cl,T.nR,flds_rooms l m,_,rfl,l,_,_,_,rfl,rfl,SqL.of h2,ha,a,_,_,_,rfl,rfl,SqT.of ha2,rfl,?_⟩
        exact ⟨R[k].1,rfl,rfl,by rw [← ehk]; exact hok hk,e'⟩
      show if inV (V.str R[k].2) [V.str "one",V.str "keep"] = true then _ else _
      rw [in_two,← ech]
      cases hc:choosing R k with
      | false =>
        rw [hc] at es
        refine iteF ?_
        refine iteF ?_
        exact stepOn es
      | true =>
        rw [hc] at es
        refine iteT ?_
        refine ⟨_,rfl,_,rfl,_,rfl,c,R,As,j,k,rfl,hC,hT,hj,_,rfl,?_⟩
        cases hb:Rm.li (hsOf R) j k with
        | false =>
          rw [hb] at es
          refine iteF ?_
          exact stepOn es
        | true =>
          rw [hb] at es
          refine iteT ?_
          have es':scopeOf R i j=some k:=es
          rw [es'] at q
          exact ⟨_,rfl,q⟩
end
end Toy
namespace Toy
open PySem L2
seal PySem.wpAny
section
variable {P:Program} {w:World} {K:PySem.W.Frag} {mg:Str→Option Value} {base:Heap}
end
end Toy
namespace Toy
open PySem L2
seal PySem.wpAny
section
variable {P:Program} {w:World} {K:PySem.W.Frag} {mg:Str→Option Value} {base:Heap}
structure GoodA (R:List Room1) (a:Arrow):Prop where
  src:∃ s:Nat,a.1=(s:Int)∧s < R.length
  evt : 0≤a.2.1∧a.2.1≤3
  grd : -1≤a.2.2.1∧a.2.2.1 < (R.length:Int)
  tgt:∃ t:Nat,a.2.2.2.1=(t:Int)∧t < R.length
  ded : 0≤a.2.2.2.2∧a.2.2.2.2≤99
  sc:∃ p:Nat,scopeOf R a.1.toNat a.2.2.2.1.toNat=some p
theorem arrow_at {H:Hp} {qs:List Addr} {A:List Arrow} (h5:Items H qs (A.map aV)) {i:Nat} (hi:i < A.length):∃ p,atI (qs.map V.ref) (i:Int)=some (.ref p)∧H p=some (.tup (aV A[i])):=by
  have er:(A.map aV)[i]? = some (aV A[i]):=by rw [List.getElem?_map,List.getElem?_eq_getElem hi]; rfl
  obtain ⟨p,hp,hp2⟩:=h5.at er
  exact ⟨p,atI_nat hp,hp2⟩
def spPart:Sp:=fun vs H Q _ => ∃ (n:Int) (nm:Str) (p l m:Int),vs=[.int n,.str nm,.int p,.int l,.int m]∧l≤p∧p≤m∧Q .non H
theorem scPart:FnScope ["number", "name", "part", "least", "most"] ["number", "name", "part", "least", "most"] (defScope sPart):=⟨rfl,rfl,rfl,by decide +kernel,rfl,by decide +kernel,by decide +kernel⟩
theorem ok_part {f:Addr} {fd:FuncData} (D:DefAt K mg "check_part" sPart ["number", "name", "part", "least", "most"] f fd):FnOk P w K mg base CX0 1 f fd ["number", "name", "part", "least", "most"] spPart:=by
  refine D.fn.ok scPart (fun vs H Q E h => ?_) (fun cdv A outer s H vs Q E hr h => ?_)
  · obtain ⟨n,nm,p,l,m,rfl,_⟩:=h
    rfl
  obtain ⟨n,nm,p,l,m,rfl,h1,h2,q⟩:=h
  refine ⟨_,pss_one (ps_if (pt_not (pt_chain op_le op_le (pv 3) (pv 2) (pv 4))) pss_never pss_nil),?_⟩
  refine ⟨_,rfl,_,rfl,_,_,rfl,rfl,_,rfl,?_⟩
  rw [decide_eq_true h1]
  refine iteT ?_
  refine ⟨_,rfl,_,_,rfl,rfl,_,rfl,?_⟩
  rw [decide_eq_true h2]
  refine iteF ?_
  exact q
def spCheckArrow (C:Addr):Sp:=fun vs H Q _ => ∃ (c:Addr) (R:List Room1) (A:List Arrow) (i:Nat) (a:Arrow),vs=[.ref c,.int i]∧ChartAt C H c R A∧Good R∧A[i]? = some a∧GoodA R a∧Q .non H
theorem scCheckArrow:FnScope ["chart", "number", "arrow", "last_room"] ["chart", "number"] (defScope sCheckArrow):=⟨rfl,rfl,rfl,by decide +kernel,rfl,by decide +kernel,by decide +kernel⟩
theorem ok_check_arrow {f C fp fs fl fw:Addr} {fd fdp fds fdl fdw:FuncData} (D:DefAt K mg "check_arrow" sCheckArrow ["chart", "number"] f fd) (T:Txt K mg C) (Dp:DefAt K mg "check_part" sPart ["number", "name", "part", "least", "most"] fp fdp)
    (Ds:DefAt K mg "scope" sScope ["chart", "source", "target"] fs fds) (Dl:DefAt K mg "lies_in" sLies ["chart", "room", "other"] fl fdl) (Dw:DefAt K mg "within" sWithin ["chart", "room", "other"] fw fdw):FnOk P w K mg base CX0 4 f fd ["chart", "number"] (spCheckArrow C):=by
  have Gp:FnOk P w K mg base CX0 1 fp fdp ["number", "name", "part", "least", "most"] spPart:=ok_part Dp
  have Gs:FnOk P w K mg base CX0 3 fs fds ["chart", "source", "target"] (spScope C):=ok_scope Ds T Dl Dw
  refine D.fn.ok scCheckArrow (fun vs H Q E h => ?_) (fun cdv A outer s H vs Q E hr h => ?_)
  · obtain ⟨c,R,As,i,a,rfl,_⟩:=h
    rfl
  obtain ⟨c,R,As,i,a,rfl,hC,hG,hia,hA,q⟩:=h
  have hr1:Room 1 _:=hr.mono (by decide)
  refine ⟨_,pss_cons (ps_set (i := 2) scCheckArrow.nd rfl (Or.inl rfl) (pe_ix ix_list (pe_fld (pv 0) rfl) (pv 1) (fun _ _ => rfl)))
    (pss_cons (ps_set (i := 3) scCheckArrow.nd rfl (Or.inl rfl) (pe_op op_sub (pe_callB call_len_seq (by rfl) T.len PySem.boot_len (pa_cons (pe_fld (pv 0) rfl) pa_nil)) pe_int))
    (pss_cons (ps_expr (pe_call Gp hr1 rfl Dp.mg Dp.fn.kp Dp.bd .nil pass0 (pa_cons (pv 1) (pa_cons pe_str (pa_cons (pe_ix ix_tup (pv 2) (pe_gint T.src rfl) (fun _ _ => rfl)) (pa_cons pe_int (pa_cons (pv 3) pa_nil)))))))
    (pss_cons (ps_expr (pe_call Gp hr1 rfl Dp.mg Dp.fn.kp Dp.bd .nil pass0 (pa_cons (pv 1) (pa_cons pe_str (pa_cons (pe_ix ix_tup (pv 2) (pe_gint T.evt rfl) (fun _ _ => rfl)) (pa_cons pe_int (pa_cons (pe_gint T.lastE rfl) pa_nil)))))))
    (pss_cons (ps_expr (pe_call Gp hr1 rfl Dp.mg Dp.fn.kp Dp.bd .nil pass0 (pa_cons (pv 1) (pa_cons pe_str (pa_cons (pe_ix ix_tup (pv 2) (pe_gint T.grd rfl) (fun _ _ => rfl)) (pa_cons (pe_gint T.nil rfl) (pa_cons (pv 3) pa_nil)))))))
    (pss_cons (ps_expr (pe_call Gp hr1 rfl Dp.mg Dp.fn.kp Dp.bd .nil pass0 (pa_cons (pv 1) (pa_cons pe_str (pa_cons (pe_ix ix_tup (pv 2) (pe_gint T.tgt rfl) (fun _ _ => rfl)) (pa_cons pe_int (pa_cons (pv 3) pa_nil)))))))
    (pss_cons (ps_expr (pe_call Gp hr1 rfl Dp.mg Dp.fn.kp Dp.bd .nil pass0 (pa_cons (pv 1) (pa_cons pe_str (pa_cons (pe_ix ix_tup (pv 2) (pe_gint T.ded rfl) (fun _ _ => rfl)) (pa_cons pe_int (pa_cons (pe_gint T.lastD rfl) pa_nil)))))))
    (pss_one (ps_if (pt_cmp (pc_isN (pe_call Gs hr rfl Ds.mg Ds.fn.kp Ds.bd .nil pass0 (pa_cons (pv 0) (pa_cons (pe_ix ix_tup (pv 2) (pe_gint T.src rfl) (fun _ _ => rfl)) (pa_cons (pe_ix ix_tup (pv 2) (pe_gint T.tgt rfl) (fun _ _ => rfl)) pa_nil)))))) pss_never pss_nil)))))))),?_⟩
  obtain ⟨hi,rfl⟩:=List.getElem?_eq_some_iff.mp hia
  obtain ⟨dx,l,m,ps,qs,h1,h2,h3,h4,h5⟩:=hC.ob
  obtain ⟨p,hp,hp2⟩:=arrow_at h5 hi
  have hl:(ps.map V.ref).length=R.length:=by rw [List.length_map,h3.1,List.length_map]
  obtain ⟨sn,es,hs⟩:=hA.src
  obtain ⟨tn,et,ht⟩:=hA.tgt
  obtain ⟨g1,g2⟩:=hA.grd
  refine ⟨_,rfl,c,C,dx,_,_,rfl,h1,T.cl,T.nA,flds_arrows l m,_,rfl,m,_,_,_,rfl,rfl,SqL.of h4,hp,?_⟩
  refine ⟨_,rfl,c,C,dx,_,_,rfl,h1,T.cl,T.nR,flds_rooms l m,l,_,rfl,.inl (SqL.of h2),_,_,rfl,rfl,?_⟩
  rw [hl]
  refine ⟨_,rfl,_,rfl,p,_,_,_,rfl,rfl,SqT.of hp2,rfl,_,rfl,_,_,_,_,_,rfl,by rw [es]; omega,by rw [es]; omega,?_⟩
  refine ⟨_,rfl,_,rfl,p,_,_,_,rfl,rfl,SqT.of hp2,rfl,_,_,_,_,_,rfl,hA.evt.1,hA.evt.2,?_⟩
  refine ⟨_,rfl,_,rfl,p,_,_,_,rfl,rfl,SqT.of hp2,rfl,_,rfl,_,_,_,_,_,rfl,g1,by omega,?_⟩
  refine ⟨_,rfl,_,rfl,p,_,_,_,rfl,rfl,SqT.of hp2,rfl,_,rfl,_,_,_,_,_,rfl,by rw [et]; omega,by rw [et]; omega,?_⟩
  refine ⟨_,rfl,_,rfl,p,_,_,_,rfl,rfl,SqT.of hp2,rfl,_,_,_,_,_,rfl,hA.ded.1,hA.ded.2,?_⟩
  refine ⟨_,rfl,_,rfl,p,_,_,_,rfl,rfl,SqT.of hp2,rfl,_,rfl,p,_,_,_,rfl,rfl,SqT.of hp2,rfl,c,R,As,sn,tn,(by rw [es,et]; rfl),hC,hG.tree,hs,ht,_,rfl,?_⟩
  obtain ⟨pp,hsc⟩:=hA.sc
  rw [es,et,Int.toNat_natCast,Int.toNat_natCast] at hsc
  rw [hsc]
  refine iteF ?_
  exact q
def spCheckArrows (C:Addr):Sp:=fun vs H Q _ => ∃ (c:Addr) (R:List Room1) (A:List Arrow),vs=[.ref c]∧ChartAt C H c R A∧Good R∧A.length≤20∧(∀ a∈A,GoodA R a)∧Q .non H
theorem scCheckArrowsG:FnScope ["chart", "number"] ["chart"] (defScope sCheckArrows):=⟨rfl,rfl,rfl,by decide +kernel,rfl,by decide +kernel,by decide +kernel⟩
theorem ok_check_arrows {f C fa:Addr} {fd fda:FuncData} (D:DefAt K mg "check_arrows" sCheckArrows ["chart"] f fd) (T:Txt K mg C) (Da:DefAt K mg "check_arrow" sCheckArrow ["chart", "number"] fa fda) (Ga:FnOk P w K mg base CX0 4 fa fda ["chart", "number"] (spCheckArrow C)) :
    FnOk P w K mg base CX0 5 f fd ["chart"] (spCheckArrows C):=by
  refine D.fn.ok scCheckArrowsG (fun vs H Q E h => ?_) (fun cdv A outer s H vs Q E hr h => ?_)
  · obtain ⟨c,R,As,rfl,_⟩:=h
    rfl
  obtain ⟨c,R,As,rfl,hC,hG,h20,hA,q⟩:=h
  refine ⟨_,pss_cons (ps_if (pt_cmpR op_gt (pe_callB call_len_seq (by rfl) T.len PySem.boot_len (pa_cons (pe_fld (pv 0) rfl) pa_nil)) (pe_gint T.mostA rfl) (nomark _)) pss_never pss_nil)
    (pss_one (ps_for PassesOwn.never rfl (pi_range1 rfl T.range (pa_cons (pe_callB call_len_seq (by rfl) T.len PySem.boot_len (pa_cons (pe_fld (pv 0) rfl) pa_nil)) pa_nil)) (pg_name (i := 1) scCheckArrowsG.nd rfl (Or.inl rfl))
      (pss_one (ps_expr (pe_call Ga hr rfl Da.mg Da.fn.kp Da.bd .nil pass0 (pa_cons (pv 0) (pa_cons (pv 1) pa_nil))))))),?_⟩
  obtain ⟨dx,l,m,ps,qs,h1,h2,h3,h4,h5⟩:=hC.ob
  have hl:(qs.map V.ref).length=As.length:=by rw [List.length_map,h5.1,List.length_map]
  refine ⟨_,rfl,c,C,dx,_,_,rfl,h1,T.cl,T.nA,flds_arrows l m,m,_,rfl,.inl (SqL.of h4),_,_,rfl,rfl,_,rfl,?_⟩
  rw [hl,decide_eq_false (show ¬ (20:Int) < (As.length:Int) by omega)]
  refine iteF ?_
  refine ⟨_,rfl,c,C,dx,_,_,rfl,h1,T.cl,T.nA,flds_arrows l m,m,_,rfl,.inl (SqL.of h4),_,rfl,by rw [hl]; omega,by rw [hl]; omega,?_⟩
  rw [hl]
  refine for_range (fun i σ H1 => ∃ v,σ = [some (.ref c),v]∧H1=H) ⟨_,rfl,rfl⟩ ?_ ?_
  · rintro i σ H1 hi ⟨v,rfl,rfl⟩
    have hi':i < As.length:=by omega
    have ei:(0:Int) + (i:Int)=(i:Int):=by omega
    rw [ei]
    refine ⟨_,rfl,_,rfl,c,R,As,i,As[i],rfl,hC,hG,List.getElem?_eq_getElem hi',hA _ (List.getElem_mem hi'),?_⟩
    exact ⟨_,rfl,rfl⟩
  · rintro σ H1 ⟨v,rfl,rfl⟩
    exact q
def spInit (C:Addr):Sp:=fun vs H Q _ => ∃ (c dx a b:Addr) (ps qs:List Addr) (R:List Room1) (As:List Arrow),vs=[.ref c,.ref a,.ref b]∧H c=some (.ins C dx [])∧H a=some (.lst (ps.map V.ref))∧Items H ps (R.map rV)∧H b=some (.lst (qs.map V.ref))∧Items H qs (As.map aV)∧Good R∧As.length≤20∧(∀ x∈As,GoodA R x) ∧
  ∀ H',(∀ x o,H x=some o→x≠c→H' x=some o)→(∀ H'',(∀ x o,H' x=some o→x≠a→x≠b→H'' x=some o)→ChartAt C H'' c R As)→Q .non H'
theorem scInitG:FnScope ["self", "rooms", "arrows"] ["self", "rooms", "arrows"] (defScope sInit):=⟨rfl,rfl,rfl,by decide +kernel,rfl,by decide +kernel,by decide +kernel⟩
theorem ok_init {f C fr fa:Addr} {fd fdr fda:FuncData} (F:Fun K "__init__" "Chart.__init__" sInit f fd) (T:Txt K mg C) (Dr:DefAt K mg "check_rooms" sCheckRooms ["chart"] fr fdr) (Da:DefAt K mg "check_arrows" sCheckArrows ["chart"] fa fda)
    (Gr:FnOk P w K mg base CX0 3 fr fdr ["chart"] (spCheckRooms C)) (Ga:FnOk P w K mg base CX0 5 fa fda ["chart"] (spCheckArrows C)):FnOk P w K mg base CX0 6 f fd ["self", "rooms", "arrows"] (spInit C):=by
  refine F.ok scInitG (fun vs H Q E h => ?_) (fun cdv A outer s H vs Q E hr h => ?_)
  · obtain ⟨c,dx,a,b,ps,qs,R,As,rfl,_⟩:=h
    rfl
  obtain ⟨c,dx,a,b,ps,qs,R,As,rfl,hc,ha,hI,hb,hJ,hG,h20,hA,q⟩:=h
  refine ⟨_,pss_cons (ps_fld (pv 0) (pe_callTy call_list_of (by rfl) T.list (by decide +kernel) (pa_cons (pv 1) pa_nil)) rfl)
    (pss_cons (ps_fld (pv 0) (pe_callTy call_list_of (by rfl) T.list (by decide +kernel) (pa_cons (pv 2) pa_nil)) rfl)
    (pss_cons (ps_expr (pe_call Gr (hr.mono (by decide)) rfl Dr.mg Dr.fn.kp Dr.bd .nil pass0 (pa_cons (pv 0) pa_nil)))
    (pss_one (ps_expr (pe_call Ga hr rfl Da.mg Da.fn.kp Da.bd .nil pass0 (pa_cons (pv 0) pa_nil)))))),?_⟩
  refine ⟨_,rfl,a,_,rfl,.inl (SqL.of ha),fun l hl => ?_⟩
  have ncl:c≠l:=ne_of_none hc hl
  refine ⟨_,rfl,c,C,dx,_,rfl,(by rw [upd_ne ncl]; exact hc),T.cl,T.nR,(by show 0 < 1000; decide),?_⟩
  have nbl:b≠l:=ne_of_none hb hl
  have nbc:b≠c:=ne_of hb hc (by intro z; cases z)
  have nac:a≠c:=ne_of ha hc (by intro z; cases z)
  have nal:a≠l:=ne_of_none ha hl
  refine ⟨_,rfl,b,_,rfl,.inl (SqL.of (by rw [upd_ne nbc,upd_ne nbl]; exact hb)),fun m hm => ?_⟩
  have ncm:c≠m:=ne_of_none upd_same hm
  have hm':H m=Option.none:=by
    have z:=hm
    rw [upd_ne ncm.symm] at z
    by_cases e:m=l
    · rw [e,upd_same] at z; cases z
    · rw [upd_ne e] at z; exact z
  have nml:m≠l:=fun e => by
    rw [e,upd_ne ncl.symm,upd_same] at hm
    cases hm
  refine ⟨_,rfl,c,C,dx,_,rfl,(by rw [upd_ne ncm]; exact upd_same),T.cl,T.nA,(by show 1 < 1000; decide),?_⟩
  have keep:∀ x o,H x=some o→x≠c→(upd (upd (upd (upd H l (.lst (ps.map V.ref))) c (.ins C dx (putF "rooms" (.ref l) []))) m (.lst (qs.map V.ref))) c (.ins C dx (putF "arrows" (.ref m) (putF "rooms" (.ref l) [])))) x=some o:=fun x o e n => by
    rw [upd_ne n,upd_ne (ne_of_none e hm'),upd_ne n,upd_ne (ne_of_none e hl)]; exact e
  have hcl:(upd (upd (upd (upd H l (.lst (ps.map V.ref))) c (.ins C dx (putF "rooms" (.ref l) []))) m (.lst (qs.map V.ref))) c (.ins C dx (putF "arrows" (.ref m) (putF "rooms" (.ref l) [])))) l=some (.lst (ps.map V.ref)):=by
    rw [upd_ne ncl.symm,upd_ne nml.symm,upd_ne ncl.symm,upd_same]
  have hcm:(upd (upd (upd (upd H l (.lst (ps.map V.ref))) c (.ins C dx (putF "rooms" (.ref l) []))) m (.lst (qs.map V.ref))) c (.ins C dx (putF "arrows" (.ref m) (putF "rooms" (.ref l) [])))) m=some (.lst (qs.map V.ref)):=by
    rw [upd_ne ncm.symm,upd_same]
  have ntc:∀ p o,H p=some (.tup o)→p≠c:=fun p o e => ne_of e hc (by intro z; cases z)
  generalize hH2:(upd (upd (upd (upd H l (.lst (ps.map V.ref))) c (.ins C dx (putF "rooms" (.ref l) []))) m (.lst (qs.map V.ref))) c (.ins C dx (putF "arrows" (.ref m) (putF "rooms" (.ref l) []))))=H2 at keep hcl hcm ⊢
  have hcc:H2 c=some (.ins C dx (flds l m)):=by rw [← hH2]; exact upd_same
  have hI2:Items H2 ps (R.map rV):=⟨hI.1,fun i p o e1 e2 => keep _ _ (hI.2 i p o e1 e2) (ntc _ _ (hI.2 i p o e1 e2))⟩
  have hJ2:Items H2 qs (As.map aV):=⟨hJ.1,fun i p o e1 e2 => keep _ _ (hJ.2 i p o e1 e2) (ntc _ _ (hJ.2 i p o e1 e2))⟩
  have hC2:ChartAt C H2 c R As:=⟨⟨dx,l,m,ps,qs,hcc,hcl,hI2,hcm,hJ2⟩,Nat.le_trans hG.most (by decide),by omega⟩
  refine ⟨_,rfl,c,R,As,rfl,hC2,hG,fun H3 s3 => ?_⟩
  refine ⟨_,rfl,c,R,As,rfl,hC2.same s3,hG,h20,hA,?_⟩
  refine q H3 (fun x o e n => s3 _ _ (keep x o e n)) (fun H4 k4 => ?_)
  have nma:m≠a:=fun e => by rw [e,ha] at hm'; cases hm'
  have nmb:m≠b:=fun e => by rw [e,hb] at hm'; cases hm'
  have nta:∀ p o,H p=some (.tup o)→p≠a:=fun p o e => ne_of e ha (by intro z; cases z)
  have ntb:∀ p o,H p=some (.tup o)→p≠b:=fun p o e => ne_of e hb (by intro z; cases z)
  refine ⟨⟨dx,l,m,ps,qs,k4 _ _ (s3 _ _ hcc) nac.symm nbc.symm,k4 _ _ (s3 _ _ hcl) nal.symm nbl.symm,⟨hI.1,fun i p o e1 e2 => k4 _ _ (s3 _ _ (hI2.2 i p o e1 e2)) (nta _ _ (hI.2 i p o e1 e2)) (ntb _ _ (hI.2 i p o e1 e2))⟩,
    k4 _ _ (s3 _ _ hcm) nma nmb,⟨hJ.1,fun i p o e1 e2 => k4 _ _ (s3 _ _ (hJ2.2 i p o e1 e2)) (nta _ _ (hJ.2 i p o e1 e2)) (ntb _ _ (hJ.2 i p o e1 e2))⟩⟩,Nat.le_trans hG.most (by decide),by omega⟩
end
end Toy
namespace Toy
open PySem L2
seal PySem.wpAny
section
variable {P:Program} {w:World} {K:PySem.W.Frag} {mg:Str→Option Value} {base:Heap}
def kindAt (R:List Room1) (p:Nat):Str:=match R[p]? with
  | some r => r.2
  | Option.none => ""
theorem kindAt_get {R:List Room1} {p:Nat} (h:p < R.length):kindAt R p=R[p].2:=by
  unfold kindAt; rw [List.getElem?_eq_getElem h]
theorem choosing_kind {R:List Room1} {p:Nat} (h:p < R.length):choosing R p=decide (kindAt R p = "one"∨kindAt R p = "keep"):=by
  rw [kindAt_get h]; unfold choosing; rw [List.getElem?_eq_getElem h]
def chOf (R:List Room1) (mem:List Int) (goal r:Nat):List Nat :=
  if choosing R r=true then
    (if ((Rm.kidsN (hsOf R) r).filter fun p => Rm.wi (hsOf R) goal p)≠[] then (Rm.kidsN (hsOf R) r).filter fun p => Rm.wi (hsOf R) goal p
     else if kindAt R r = "keep" then [(mem.getD r (-1)).toNat] else [(Rm.kidsN (hsOf R) r).headD 0])
  else Rm.kidsN (hsOf R) r
structure MemOk (R:List Room1) (mem:List Int):Prop where
  len:mem.length=R.length
  keep:∀ r,r < R.length→kindAt R r = "keep"→∃ k∈Rm.kidsN (hsOf R) r,mem.getD r (-1)=(k:Int)
theorem kids_some {R:List Room1} (hG:Good R) {r:Nat} (hr:r < R.length) (hc:choosing R r=true):Rm.kidsN (hsOf R) r≠[]:=by
  intro z
  have h1:=(hG.kind r R[r] (List.getElem?_eq_getElem hr)).2
  rw [Rm.kids_kidsN,z] at h1
  have h2:R[r].2 = "plain" := h1.mpr rfl
  rw [choosing_kind hr,kindAt_get hr,h2] at hc
  exact absurd hc (by decide +kernel)
theorem head_mem {l:List Nat} (h:l≠[]):l.headD 0∈l:=by
  cases l with
  | nil => exact absurd rfl h
  | cons x r => exact List.mem_cons_self
theorem choosing_lt {R:List Room1} {r:Nat} (h:choosing R r=true):r < R.length:=by
  unfold choosing at h
  cases e:R[r]? with
  | none => rw [e] at h; cases h
  | some x => exact (List.getElem?_eq_some_iff.mp e).1
theorem chOf_pick {R:List Room1} {mem:List Int} (hG:Good R) (hM:MemOk R mem) (goal:Nat):Rm.Pick (hsOf R) (chOf R mem goal):=by
  refine ⟨fun r c hc => ?_,fun r => ?_⟩
  · unfold chOf at hc
    by_cases h1:choosing R r=true
    · rw [if_pos h1] at hc
      by_cases h2:((Rm.kidsN (hsOf R) r).filter fun p => Rm.wi (hsOf R) goal p)≠[]
      · rw [if_pos h2] at hc; exact (List.mem_filter.mp hc).1
      · rw [if_neg h2] at hc
        by_cases h3:kindAt R r = "keep"
        · rw [if_pos h3] at hc
          obtain ⟨k,hk,e⟩:=hM.keep r (choosing_lt h1) h3
          rw [List.mem_singleton.mp hc,e,Int.toNat_natCast]; exact hk
        · rw [if_neg h3] at hc
          rw [List.mem_singleton.mp hc]
          exact head_mem (kids_some hG (choosing_lt h1) h1)
    · rw [if_neg h1] at hc; exact hc
  · unfold chOf
    have n1:=Rm.kidsN_nodup (hsOf R) r
    by_cases h1:choosing R r=true
    · rw [if_pos h1]
      by_cases h2:((Rm.kidsN (hsOf R) r).filter fun p => Rm.wi (hsOf R) goal p)≠[]
      · rw [if_pos h2]; exact List.Pairwise.filter _ n1
      · rw [if_neg h2]
        by_cases h3:kindAt R r = "keep"
        · rw [if_pos h3]; simp
        · rw [if_neg h3]; simp
    · rw [if_neg h1]; exact n1
theorem kids_len (R:List Room1) (r:Nat):(Rm.kidsN (hsOf R) r).length≤R.length:=by
  unfold Rm.kidsN
  rw [hsOf_len]
  have:=List.length_filter_le (fun j => decide (Rm.hold (hsOf R) j=(r:Int))) (List.range R.length)
  rw [List.length_range] at this
  exact this
theorem kids_cV (hs:List Int) (r:Nat):(Rm.kids hs (r:Int)).map V.int=cV (Rm.kidsN hs r):=rfl
end
end Toy
namespace Toy
open PySem L2
seal PySem.wpAny
section
variable {P:Program} {w:World} {K:PySem.W.Frag} {mg:Str→Option Value} {base:Heap}
def spChosen (C:Addr):Sp:=fun vs H Q _ => ∃ (c mt:Addr) (R:List Room1) (A:List Arrow) (mem:List Int) (r goal:Nat),vs=[.ref c,.int r,.int goal,.ref mt]∧ChartAt C H c R A∧Good R∧r < R.length∧goal < R.length∧H mt=some (.tup (mem.map V.int))∧MemOk R mem ∧
  ∀ (l:Addr) (H':Hp),H l=Option.none→Same H H'→H' l=some (.lst (cV (chOf R mem goal r)))→Q (.ref l) H'
theorem scChosen:FnScope ["chart", "room", "goal", "memory", "inner", "kind", "towards"] ["chart", "room", "goal", "memory"] (defScope sChosen):=⟨rfl,rfl,rfl,by decide +kernel,rfl,by decide +kernel,by decide +kernel⟩
theorem ok_chosen {f C fc fw:Addr} {fd fdc fdw:FuncData} (D:DefAt K mg "chosen" sChosen ["chart", "room", "goal", "memory"] f fd) (T:Txt K mg C) (Dc:DefAt K mg "children" sChildren ["chart", "room"] fc fdc) (Dw:DefAt K mg "within" sWithin ["chart", "room", "other"] fw fdw) :
    FnOk P w K mg base CX0 2 f fd ["chart", "room", "goal", "memory"] (spChosen C):=by
  have Gc:FnOk P w K mg base CX0 1 fc fdc ["chart", "room"] (spChildren C):=ok_children Dc T
  have Gw:FnOk P w K mg base CX0 1 fw fdw ["chart", "room", "other"] (spWithin C):=ok_within Dw T
  refine D.fn.ok scChosen (fun vs H Q E h => ?_) (fun cdv A outer s H vs Q E hr h => ?_)
  · obtain ⟨c,mt,R,As,mem,r,goal,rfl,_⟩:=h
    rfl
  obtain ⟨c,mt,R,As,mem,r,goal,rfl,hC,hG,hr',hg,hm,hM,q⟩:=h
  obtain ⟨aK,hK,sK⟩:=T.choosing
  refine ⟨_,pss_cons (ps_set (i := 4) scChosen.nd rfl (Or.inl rfl) (pe_call Gc hr rfl Dc.mg Dc.fn.kp Dc.bd .nil pass0 (pa_cons (pv 0) (pa_cons (pv 1) pa_nil))))
    (pss_cons (ps_set (i := 5) scChosen.nd rfl (Or.inl rfl) (pe_ix ix_tup (pe_ix ix_list (pe_fld (pv 0) rfl) (pv 1) (fun _ _ => rfl)) (pe_gint T.kind rfl) (fun _ _ => rfl)))
    (pss_cons (ps_if (pt_cmpR op_notIn_seq (pv 5) (pe_glob rfl hK (v:=.ref aK) rfl) (by with_unfolding_all rfl)) (pss_one (ps_ret (pv 4))) pss_nil)
    (pss_cons (ps_comp (i := 6) ["place", "chart", "goal"] [Option.none,some 0,some 2] rfl scChosen.nd rfl rfl (pi_list (pv 4)) (fun _ => pg_name (i := 0) (show (["place", "chart", "goal"]:List Str).Nodup by decide +kernel) rfl (Or.inl rfl))
        (fun _ => pts_one (pt_val (pe_call Gw hr rfl Dw.mg Dw.fn.kp Dw.bd .nil pass0 (pa_cons (pv 1) (pa_cons (pv 2) (pa_cons (pv 0) pa_nil)))))) (fun _ => pv 0)
        (N:=["chart", "room", "goal", "memory", "inner", "kind", "towards"]) (ks:=(defScope sChosen).names) rfl rfl (by decide +kernel) (by decide +kernel) (by decide +kernel) (by decide +kernel))
    (pss_cons (ps_if (pt_cmpR op_gt (pe_callB call_len_seq (by rfl) T.len PySem.boot_len (pa_cons (pv 6) pa_nil)) pe_int (nomark _)) (pss_one (ps_ret (pv 6))) pss_nil)
    (pss_cons (ps_if (pt_cmpR op_eq (pv 5) pe_str (nomark _)) (pss_one (ps_ret (pe_lst (pa_cons (pe_ix ix_tup (pv 3) (pv 1) (fun _ _ => rfl)) pa_nil)))) pss_nil)
    (pss_one (ps_ret (pe_lst (pa_cons (pe_ix ix_list (pv 4) pe_int (fun _ _ => rfl)) pa_nil))))))))),?_⟩
  have hlen:=kids_len R r
  have hrl:=hC.rl
  refine ⟨_,rfl,_,rfl,c,R,As,r,rfl,hC,fun l H1 hl s1 e1 => ?_⟩
  rw [kids_cV] at e1
  obtain ⟨dx,la,ma,ps,qs,h1,h2,h3,h4,h5⟩:=(hC.same s1).ob
  obtain ⟨p,hp,hp2⟩:=room_at h3 hr'
  refine ⟨_,rfl,c,C,dx,_,_,rfl,h1,T.cl,T.nR,flds_rooms la ma,_,rfl,la,_,_,_,rfl,rfl,SqL.of h2,hp,p,_,_,_,rfl,rfl,SqT.of hp2,rfl,?_⟩
  refine ⟨_,rfl,aK,_,rfl,.inr (sK _),rfl,by decide +kernel,_,rfl,?_⟩
  show if (!inV (V.str R[r].2) [V.str "one",V.str "keep"])=true then _ else _
  have ech:choosing R r=decide (R[r].2 = "one"∨R[r].2 = "keep"):=by
    unfold choosing; rw [List.getElem?_eq_getElem hr']
  rw [in_two,← ech]
  cases hc:choosing R r with
  | false =>
    refine iteT ?_
    refine ⟨_,rfl,?_⟩
    refine q l H1 hl s1 ?_
    rw [e1]; unfold chOf
    rw [if_neg (by rw [hc]; decide)]
  | true =>
    refine iteF ?_
    refine ⟨_,rfl,l,rfl,⟨_,SqL.of e1⟩,fun bk d hd => ?_⟩
    refine comp_list (xs:=cV (Rm.kidsN (hsOf R) r)) (Pv:=fun i ys σ H' => ∃ v,σ = [v,some (.ref c),some (.int goal)]∧ys=cV (((Rm.kidsN (hsOf R) r).take i).filter fun p => Rm.wi (hsOf R) goal p)∧Same H1 H')
      ⟨_,rfl,rfl,same_new hd _⟩ (fun i ys σ H2 _ _ ⟨_,_,_,s2⟩ => SqL.of (s2 _ _ e1)) ?_ ?_
    · rintro i x ys σ H2 hx hDi ⟨v,rfl,hys,(s2:Same _ _)⟩
      obtain ⟨k,hk,rfl⟩:=cV_get hx
      have htk:(Rm.kidsN (hsOf R) r).take (i + 1)=(Rm.kidsN (hsOf R) r).take i ++ [k]:=by rw [List.take_add_one,hk]; rfl
      refine ⟨_,rfl,_,rfl,_,rfl,c,R,As,goal,k,rfl,hC.same (s1.trans s2),hG.tree,hg,_,rfl,?_⟩
      cases hw:Rm.wi (hsOf R) goal k with
      | true =>
        refine iteT ?_
        refine ⟨_,rfl,hDi,?_,_,rfl,?_,sameUpd s2 hd _⟩
        · rw [hys,cV_len]
          have a1:=List.length_filter_le (fun p => Rm.wi (hsOf R) goal p) ((Rm.kidsN (hsOf R) r).take i)
          have a2:=List.length_take_le i (Rm.kidsN (hsOf R) r)
          have a3:((Rm.kidsN (hsOf R) r).take i).length≤(Rm.kidsN (hsOf R) r).length:=by rw [List.length_take]; omega
          exact small1000 (by omega)
        · rw [htk,List.filter_append,cV_app,← hys]
          have:([k].filter fun p => Rm.wi (hsOf R) goal p)=[k]:=by simp [hw]
          rw [this]; rfl
      | false =>
        refine iteF ?_
        refine ⟨hDi,_,rfl,?_,s2⟩
        rw [htk,List.filter_append]
        have:([k].filter fun p => Rm.wi (hsOf R) goal p)=[]:=by simp [hw]
        rw [this,List.append_nil]; exact hys
    rintro ys σ H2 hDn ⟨v,rfl,hys,(s2:Same _ _)⟩
    rw [cV_len,List.take_length] at hys
    have s12:=s1.trans s2
    have hd0:H d=Option.none:=s1.free hd
    have chE:chOf R mem goal r=(if ((Rm.kidsN (hsOf R) r).filter fun p => Rm.wi (hsOf R) goal p)≠[] then (Rm.kidsN (hsOf R) r).filter fun p => Rm.wi (hsOf R) goal p
        else if kindAt R r = "keep" then [(mem.getD r (-1)).toNat] else [(Rm.kidsN (hsOf R) r).headD 0]):=by unfold chOf; rw [if_pos hc]
    refine ⟨_,rfl,d,_,rfl,.inl (SqL.of hDn),_,_,rfl,rfl,_,rfl,?_⟩
    rw [hys,cV_len]
    by_cases hne:((Rm.kidsN (hsOf R) r).filter fun p => Rm.wi (hsOf R) goal p)=[]
    · rw [hne]
      refine iteF ?_
      rw [if_neg (by rw [hne]; simp)] at chE
      refine ⟨_,rfl,rfl,_,rfl,?_⟩
      by_cases hkp:R[r].2 = "keep"
      · rw [decide_eq_true (show V.str R[r].2=V.str "keep" by rw [hkp])]
        refine iteT ?_
        have hkk:kindAt R r = "keep" := by rw [kindAt_get hr']; exact hkp
        obtain ⟨k,hk,ek⟩:=hM.keep r hr' hkk
        have hml:r < mem.length:=by rw [hM.len]; exact hr'
        have em:atI (mem.map V.int) (r:Int)=some (.int (k:Int)):=by
          rw [ints_get hml]
          rw [List.getD_eq_getElem?_getD,List.getElem?_eq_getElem hml] at ek
          have ek':mem[r] = (k:Int):=ek
          rw [ek']
        refine ⟨_,rfl,_,rfl,mt,_,_,_,rfl,rfl,SqT.of (s12 _ _ hm),em,(by show 1≤sizeLine; decide),fun t ht => ?_⟩
        refine q t _ (s12.free ht) (s12.trans (same_new ht _)) ?_
        rw [upd_same,chE,if_pos hkk,ek,Int.toNat_natCast]; rfl
      · rw [decide_eq_false (show ¬ V.str R[r].2=V.str "keep" from fun z => hkp (by injection z))]
        refine iteF ?_
        have hkk:¬ kindAt R r = "keep" := by rw [kindAt_get hr']; exact hkp
        have hne2:=kids_some hG hr' hc
        have e0:(cV (Rm.kidsN (hsOf R) r))[0]? = some (.int ((Rm.kidsN (hsOf R) r).headD 0:Nat)):=by
          cases hz:Rm.kidsN (hsOf R) r with
          | nil => exact absurd hz hne2
          | cons x t => rfl
        refine ⟨_,rfl,l,_,_,_,rfl,rfl,SqL.of (s2 _ _ e1),atI_nat (j := 0) e0,(by show 1≤sizeLine; decide),fun t ht => ?_⟩
        refine q t _ (s12.free ht) (s12.trans (same_new ht _)) ?_
        rw [upd_same,chE,if_neg hkk]; rfl
    · have hpos : 0 < ((Rm.kidsN (hsOf R) r).filter fun p => Rm.wi (hsOf R) goal p).length:=List.length_pos_iff.mpr hne
      rw [decide_eq_true (show (0:Int) < (((Rm.kidsN (hsOf R) r).filter fun p => Rm.wi (hsOf R) goal p).length:Int) by omega)]
      refine iteT ?_
      refine ⟨_,rfl,?_⟩
      refine q d H2 hd0 s12 ?_
      rw [hDn,hys,chE,if_pos hne]
end
end Toy
namespace Toy
open PySem L2
seal PySem.wpAny
section
variable {P:Program} {w:World} {K:PySem.W.Frag} {mg:Str→Option Value} {base:Heap}
theorem take_flat (f:Nat→List Nat) (l:List Nat) (i:Nat):((l.take i).flatMap f).length≤(l.flatMap f).length:=by
  conv => rhs; rw [← List.take_append_drop i l,List.flatMap_append,List.length_append]
  omega
def But (p:Addr) (H H1:Hp):Prop := ∀ b o,H b=some o→b≠p→H1 b=some o
def spEnt (C:Addr) (n:Nat):Sp:=fun vs H Q _ => ∃ (c mt:Addr) (R:List Room1) (A:List Arrow) (mem:List Int) (r goal:Nat),vs=[.ref c,.int r,.int goal,.ref mt]∧ChartAt C H c R A∧Good R∧r < R.length∧goal < R.length∧H mt=some (.tup (mem.map V.int))∧MemOk R mem∧R.length≤n + r ∧
  ∀ (l:Addr) (H':Hp),H l=Option.none→Same H H'→H' l=some (.lst (cV (Rm.ent (chOf R mem goal) n r)))→Q (.ref l) H'
theorem scEntered:FnScope ["chart", "room", "goal", "memory", "kept", "inner"] ["chart", "room", "goal", "memory"] (defScope sEntered):=⟨rfl,rfl,rfl,by decide +kernel,rfl,by decide +kernel,by decide +kernel⟩
theorem ok_entered1 {f C fh:Addr} {fd fdh:FuncData} {n:Nat} (D:DefAt K mg "entered" sEntered ["chart", "room", "goal", "memory"] f fd) (T:Txt K mg C) (Dh:DefAt K mg "chosen" sChosen ["chart", "room", "goal", "memory"] fh fdh)
    (Gh:FnOk P w K mg base CX0 2 fh fdh ["chart", "room", "goal", "memory"] (spChosen C)) (G:FnOk P w K mg base CX0 (n + 3) f fd ["chart", "room", "goal", "memory"] (spEnt C n)):FnOk P w K mg base CX0 (n + 4) f fd ["chart", "room", "goal", "memory"] (spEnt C (n + 1)):=by
  refine D.fn.ok scEntered (fun vs H Q E h => ?_) (fun cdv A outer s H vs Q E hr h => ?_)
  · obtain ⟨c,mt,R,As,mem,r,goal,rfl,_⟩:=h
    rfl
  obtain ⟨c,mt,R,As,mem,r,goal,rfl,hC,hG,hr',hg,hm,hM,hn,q⟩:=h
  refine ⟨_,pss_cons (ps_set (i := 4) scEntered.nd rfl (Or.inl rfl) (pe_lst (pa_cons (pv 1) pa_nil)))
    (pss_cons (ps_for PassesOwn.never rfl (pi_list (pe_call Gh (hr.mono (by omega)) rfl Dh.mg Dh.fn.kp Dh.bd .nil pass0 (pa_cons (pv 0) (pa_cons (pv 1) (pa_cons (pv 2) (pa_cons (pv 3) pa_nil)))))) (pg_name (i := 5) scEntered.nd rfl (Or.inl rfl))
      (pss_one (ps_expr (pe_bm PySem.F.plainAttrs_list PySem.F.slot_list_extend PySem.F.type_list_extend mt_extend (pv 4) (pa_cons (pe_call G hr rfl D.mg D.fn.kp D.bd .nil pass0 (pa_cons (pv 0) (pa_cons (pv 5) (pa_cons (pv 2) (pa_cons (pv 3) pa_nil))))) pa_nil)))))
    (pss_one (ps_ret (pv 4)))),?_⟩
  refine ⟨_,rfl,(by show 1≤sizeLine; decide),fun kd hkd => ?_⟩
  have s1:Same H (upd H kd (.lst [.int r])):=same_new hkd _
  have ek:(upd H kd (.lst [.int r])) kd=some (.lst (cV [r])):=upd_same
  generalize upd H kd (.lst [.int r])=H1 at s1 ek ⊢
  refine ⟨_,rfl,_,rfl,_,rfl,_,rfl,c,mt,R,As,mem,r,goal,rfl,hC.same s1,hG,hr',hg,s1 _ _ hm,hM,fun cl H2 hcl s2 ecl => ?_⟩
  have s12:=s1.trans s2
  have nkc:cl≠kd:=fun z => by rw [z,ek] at hcl; cases hcl
  have P:=chOf_pick hG hM goal
  have hrl:=hG.most
  have hr2:r < (hsOf R).length:=by rw [hsOf_len]; exact hr'
  refine ⟨cl,rfl,⟨_,SqL.of ecl⟩,?_⟩
  refine for_list (xs:=cV (chOf R mem goal r)) (fun i σ H3 => ∃ v,σ = [some (.ref c),some (.int r),some (.int goal),some (.ref mt),some (.ref kd),v]∧But kd H2 H3∧H3 kd=some (.lst (cV (r :: ((chOf R mem goal r).take i).flatMap (Rm.ent (chOf R mem goal) n)))))
    ⟨_,rfl,fun b o e _ => e,s2 _ _ ek⟩ (fun i σ H3 _ ⟨_,_,k3,_⟩ => SqL.of (k3 _ _ ecl nkc)) ?_ ?_
  · rintro i x σ H3 hx ⟨v,rfl,k3,e3⟩
    obtain ⟨k,hk,rfl⟩:=cV_get hx
    have hkm:k∈chOf R mem goal r:=List.mem_of_getElem? hk
    have hkk:=P.sub r k hkm
    have hkl:=(Rm.mem_kidsN.mp hkk).1
    rw [hsOf_len] at hkl
    have hgt:=Rm.kid_gt hG.tree hkk
    have s3:Same H H3:=fun b o e => k3 _ _ (s12 _ _ e) (ne_of_none e hkd)
    have htk:(chOf R mem goal r).take (i + 1)=(chOf R mem goal r).take i ++ [k]:=by rw [List.take_add_one,hk]; rfl
    refine ⟨_,rfl,.inl ⟨rfl,_,SqL.of e3⟩,_,rfl,_,rfl,_,rfl,_,rfl,c,mt,R,As,mem,k,goal,rfl,hC.same s3,hG,hkl,hg,s3 _ _ hm,hM,by omega,fun el H4 hel s4 e4 => ?_⟩
    have nke:kd≠el:=ne_of_none e3 hel
    have ent1:=Rm.ent_len hG.tree P (n + 1) r hr2
    have tf:=take_flat (Rm.ent (chOf R mem goal) n) (chOf R mem goal r) (i + 1)
    have efl:((chOf R mem goal r).take (i + 1)).flatMap (Rm.ent (chOf R mem goal) n)=((chOf R mem goal r).take i).flatMap (Rm.ent (chOf R mem goal) n) ++ Rm.ent (chOf R mem goal) n k:=by
      rw [htk,List.flatMap_append]; simp
    refine ⟨kd,el,_,_,rfl,rfl,s4 _ _ e3,e4,?_,?_⟩
    · rw [cV_len,cV_len]
      have e5:(Rm.ent (chOf R mem goal) (n + 1) r).length=((chOf R mem goal r).flatMap (Rm.ent (chOf R mem goal) n)).length + 1:=rfl
      rw [hsOf_len,e5] at ent1
      rw [efl,List.length_append] at tf
      rw [List.length_cons]
      exact small (by omega)
    · refine ⟨_,rfl,fun b o e n' => ?_,?_⟩
      · rw [upd_ne n']; exact s4 _ _ (k3 _ _ e n')
      · rw [upd_same,efl,← cV_app]; rfl
  · rintro σ H3 ⟨v,rfl,k3,e3⟩
    rw [cV_len,List.take_length] at e3
    refine ⟨_,rfl,?_⟩
    exact q kd H3 hkd (fun b o e => k3 _ _ (s12 _ _ e) (ne_of_none e hkd)) e3
theorem ok_entered {f C fh:Addr} {fd fdh:FuncData} (D:DefAt K mg "entered" sEntered ["chart", "room", "goal", "memory"] f fd) (T:Txt K mg C) (Dh:DefAt K mg "chosen" sChosen ["chart", "room", "goal", "memory"] fh fdh)
    (Gh:FnOk P w K mg base CX0 2 fh fdh ["chart", "room", "goal", "memory"] (spChosen C)):∀ n:Nat,FnOk P w K mg base CX0 (n + 3) f fd ["chart", "room", "goal", "memory"] (spEnt C n)
  | 0 => by
    have no:∀ vs H Q E,¬ spEnt C 0 vs H Q E:=fun vs H Q E h => by
      obtain ⟨c,mt,R,As,mem,r,goal,_,_,_,h1,_,_,_,h2,_⟩:=h
      omega
    exact ⟨fun vs H Q E h => absurd h (no vs H Q E),fun A outer s H args us vs Q E _ _ _ _ h => absurd h (no vs H Q E)⟩
  | n + 1 => ok_entered1 D T Dh Gh (ok_entered D T Dh Gh n)
end
end Toy
namespace Toy
open PySem L2
seal PySem.wpAny
section
variable {P:Program} {w:World} {K:PySem.W.Frag} {mg:Str→Option Value} {base:Heap}
def mem0 (R:List Room1):List Int:=(List.range R.length).map fun k => if kindAt R k = "keep" then (((Rm.kidsN (hsOf R) k).headD 0:Nat):Int) else -1
theorem mem0_get {R:List Room1} {k:Nat} (h:k < R.length):(mem0 R).getD k (-1)=if kindAt R k = "keep" then (((Rm.kidsN (hsOf R) k).headD 0:Nat):Int) else -1:=by
  unfold mem0
  rw [List.getD_eq_getElem?_getD,List.getElem?_map,List.getElem?_range h]; rfl
theorem keep_choosing {R:List Room1} {k:Nat} (h:k < R.length) (hk:kindAt R k = "keep"):choosing R k=true:=by
  rw [choosing_kind h]; exact decide_eq_true (.inr hk)
theorem mem0_ok {R:List Room1} (hG:Good R):MemOk R (mem0 R):=by
  refine ⟨by simp [mem0],fun r hr hk => ⟨_,head_mem (kids_some hG hr (keep_choosing hr hk)),?_⟩⟩
  rw [mem0_get hr,if_pos hk]
end
end Toy
namespace Toy
open PySem L2
seal PySem.wpAny
section
variable {P:Program} {w:World} {K:PySem.W.Frag} {mg:Str→Option Value} {base:Heap}
def spFirstMem (C:Addr):Sp:=fun vs H Q _ => ∃ (c:Addr) (R:List Room1) (A:List Arrow),vs=[.ref c]∧ChartAt C H c R A∧Good R ∧
  ∀ (t:Addr) (H':Hp),Same H H'→H' t=some (.tup ((mem0 R).map V.int))→Q (.ref t) H'
theorem scFirstMem:FnScope ["chart", "memory", "room"] ["chart"] (defScope sFirstMem):=⟨rfl,rfl,rfl,by decide +kernel,rfl,by decide +kernel,by decide +kernel⟩
theorem ok_first_mem {f C fc:Addr} {fd fdc:FuncData} (D:DefAt K mg "first_memory" sFirstMem ["chart"] f fd) (T:Txt K mg C) (Dc:DefAt K mg "children" sChildren ["chart", "room"] fc fdc):FnOk P w K mg base CX0 2 f fd ["chart"] (spFirstMem C):=by
  have Gc:FnOk P w K mg base CX0 1 fc fdc ["chart", "room"] (spChildren C):=ok_children Dc T
  refine D.fn.ok scFirstMem (fun vs H Q E h => ?_) (fun cdv A outer s H vs Q E hr h => ?_)
  · obtain ⟨c,R,As,rfl,_⟩:=h
    rfl
  obtain ⟨c,R,As,rfl,hC,hG,q⟩:=h
  refine ⟨_,pss_cons (ps_set (i := 1) scFirstMem.nd rfl (Or.inl rfl) (pe_lst pa_nil))
    (pss_cons (ps_for PassesOwn.never rfl (pi_range1 rfl T.range (pa_cons (pe_callB call_len_seq (by rfl) T.len PySem.boot_len (pa_cons (pe_fld (pv 0) rfl) pa_nil)) pa_nil)) (pg_name (i := 2) scFirstMem.nd rfl (Or.inl rfl))
      (pss_one (ps_if (pt_cmpR op_eq (pe_ix ix_tup (pe_ix ix_list (pe_fld (pv 0) rfl) (pv 2) (fun _ _ => rfl)) (pe_gint T.kind rfl) (fun _ _ => rfl)) pe_str (nomark _))
        (pss_one (ps_expr (pe_bm PySem.F.plainAttrs_list PySem.F.slot_list_append PySem.F.type_list_append mt_append (pv 1) (pa_cons (pe_ix ix_list (pe_call Gc hr rfl Dc.mg Dc.fn.kp Dc.bd .nil pass0 (pa_cons (pv 0) (pa_cons (pv 2) pa_nil))) pe_int (fun _ _ => rfl)) pa_nil))))
        (pss_one (ps_expr (pe_bm PySem.F.plainAttrs_list PySem.F.slot_list_append PySem.F.type_list_append mt_append (pv 1) (pa_cons (pe_gint T.nil rfl) pa_nil)))))))
    (pss_one (ps_ret (pe_callTy call_tuple_of (by rfl) T.tup (by decide +kernel) (pa_cons (pv 1) pa_nil))))),?_⟩
  refine ⟨(by show 0≤sizeLine; decide),fun md hmd => ?_⟩
  have s1:Same H (upd H md (.lst [])):=same_new hmd _
  have em:(upd H md (.lst [])) md=some (.lst []):=upd_same
  generalize upd H md (.lst [])=H1 at s1 em ⊢
  obtain ⟨dx,la,ma,ps,qs,h1,h2,h3,h4,h5⟩:=hC.ob
  have hl:(ps.map V.ref).length=R.length:=by rw [List.length_map,h3.1,List.length_map]
  have hrl:=hC.rl
  refine ⟨_,rfl,c,C,dx,_,_,rfl,s1 _ _ h1,T.cl,T.nR,flds_rooms la ma,la,_,rfl,.inl (SqL.of (s1 _ _ h2)),_,rfl,by rw [hl]; omega,by rw [hl]; omega,?_⟩
  rw [hl]
  refine for_range (fun i σ H2 => ∃ v,σ = [some (.ref c),some (.ref md),v]∧Same H H2∧H2 md=some (.lst (((List.range i).map fun k => if kindAt R k = "keep" then (((Rm.kidsN (hsOf R) k).headD 0:Nat):Int) else -1).map V.int)))
    ⟨_,rfl,s1,em⟩ ?_ ?_
  · rintro i σ H2 hi ⟨v,rfl,s2,e2⟩
    have hi':i < R.length:=by omega
    have ei:(0:Int) + (i:Int)=(i:Int):=by omega
    rw [ei]
    obtain ⟨p,hp,hp2⟩:=room_at h3 hi'
    refine ⟨_,rfl,c,C,dx,_,_,rfl,s2 _ _ h1,T.cl,T.nR,flds_rooms la ma,_,rfl,la,_,_,_,rfl,rfl,SqL.of (s2 _ _ h2),hp,p,_,_,_,rfl,rfl,SqT.of (s2 _ _ hp2),rfl,rfl,_,rfl,?_⟩
    have lenOk:(((List.range i).map fun k => if kindAt R k = "keep" then (((Rm.kidsN (hsOf R) k).headD 0:Nat):Int) else -1).map V.int).length < sizeLine:=by
      rw [List.length_map,List.length_map,List.length_range]; exact small1000 (by omega)
    by_cases hkp:R[i].2 = "keep"
    · rw [decide_eq_true (show V.str R[i].2=V.str "keep" by rw [hkp])]
      refine iteT ?_
      have hkk:kindAt R i = "keep" := by rw [kindAt_get hi']; exact hkp
      have hne:=kids_some hG hi' (keep_choosing hi' hkk)
      refine ⟨_,rfl,.inl ⟨rfl,_,SqL.of e2⟩,_,rfl,_,rfl,c,R,As,i,rfl,hC.same s2,fun kl H3 hkl s3 e3 => ?_⟩
      rw [kids_cV] at e3
      have e0:(cV (Rm.kidsN (hsOf R) i))[0]? = some (.int ((Rm.kidsN (hsOf R) i).headD 0:Nat)):=by
        cases hz:Rm.kidsN (hsOf R) i with
        | nil => exact absurd hz hne
        | cons x t => rfl
      refine ⟨kl,_,_,_,rfl,rfl,SqL.of e3,atI_nat (j := 0) e0,md,_,_,rfl,rfl,s3 _ _ e2,lenOk,?_⟩
      refine ⟨_,rfl,sameUpd (s2.trans s3) hmd _,?_⟩
      rw [upd_same,List.range_succ,List.map_append,List.map_append]
      show _=some (HO.lst (_ ++ [V.int (if kindAt R i = "keep" then _ else _)]))
      rw [if_pos hkk]
    · rw [decide_eq_false (show ¬ V.str R[i].2=V.str "keep" from fun z => hkp (by injection z))]
      refine iteF ?_
      have hkk:¬ kindAt R i = "keep" := by rw [kindAt_get hi']; exact hkp
      refine ⟨_,rfl,.inl ⟨rfl,_,SqL.of e2⟩,md,_,_,rfl,rfl,e2,lenOk,?_⟩
      refine ⟨_,rfl,sameUpd s2 hmd _,?_⟩
      rw [upd_same,List.range_succ,List.map_append,List.map_append]
      show _=some (HO.lst (_ ++ [V.int (if kindAt R i = "keep" then _ else _)]))
      rw [if_neg hkk]
  · rintro σ H2 ⟨v,rfl,s2,e2⟩
    refine ⟨_,rfl,md,_,rfl,.inl ⟨SqL.of e2,fun t ht => ?_⟩⟩
    refine q t _ (s2.trans (same_new ht _)) ?_
    rw [upd_same]
    have e:((R.length:Int)).toNat=R.length:=by omega
    rw [e]; rfl
end
end Toy
namespace Toy
open PySem L2
seal PySem.wpAny
section
variable {P:Program} {w:World} {K:PySem.W.Frag} {mg:Str→Option Value} {base:Heap}
def spRising (K:PySem.W.Frag):Sp:=fun vs H Q _ => ∃ (p:Addr) (ns:List Int),vs=[.ref p]∧SqL K H p (ns.map V.int)∧ns.length < 64 ∧
  ∀ (t:Addr) (ns':List Int) (H':Hp),Same H H'→ns'.Perm ns→ns'.Pairwise (·≤·)→H' t=some (.tup (ns'.map V.int))→Q (.ref t) H'
theorem scRising:FnScope ["rooms"] ["rooms"] (defScope sRising):=⟨rfl,rfl,rfl,by decide +kernel,rfl,by decide +kernel,by decide +kernel⟩
theorem ok_rising {f C:Addr} {fd:FuncData} (D:DefAt K mg "rising" sRising ["rooms"] f fd) (T:Txt K mg C):FnOk P w K mg base CX0 1 f fd ["rooms"] (spRising K):=by
  refine D.fn.ok scRising (fun vs H Q E h => ?_) (fun cdv A outer s H vs Q E hr h => ?_)
  · obtain ⟨p,ns,rfl,_⟩:=h
    rfl
  obtain ⟨p,ns,rfl,hS,h64,q⟩:=h
  refine ⟨_,pss_one (ps_ret (pe_callTy call_tuple_of (by rfl) T.tup (by decide +kernel) (pa_cons (pe_callB call_sorted (by rfl) T.srt (by decide +kernel) (pa_cons (pv 0) pa_nil)) pa_nil))),?_⟩
  refine ⟨_,rfl,p,ns,rfl,hS,h64,fun l ns' hl hp hs => ?_⟩
  refine ⟨l,_,rfl,.inl ⟨SqL.of upd_same,fun t ht => ?_⟩⟩
  exact q t ns' _ ((same_new hl _).trans (same_new ht _)) hp hs upd_same
def iN (l:List Nat):List Int:=l.map fun (j:Nat) => (j:Int)
end
end Toy
namespace Toy
open PySem L2
seal PySem.wpAny
section
variable {P:Program} {w:World} {K:PySem.W.Frag} {mg:Str→Option Value} {base:Heap}
def spStarted (C:Addr):Sp:=fun vs H Q _ => ∃ (c:Addr) (R:List Room1) (A:List Arrow),vs=[.ref c]∧ChartAt C H c R A∧Good R ∧
  ∀ (t k m:Addr) (ns:List Int) (H':Hp),Same H H'→H' t=some (.tup [.ref k,.ref m])→H' k=some (.tup (ns.map V.int))→H' m=some (.tup ((mem0 R).map V.int))→ns.Perm (iN (Rm.ent (chOf R (mem0 R) 0) 16 0))→ns.Pairwise (·≤·)→Q (.ref t) H'
theorem scStarted:FnScope ["chart", "memory"] ["chart"] (defScope sStarted):=⟨rfl,rfl,rfl,by decide +kernel,rfl,by decide +kernel,by decide +kernel⟩
theorem ok_started {f C ff fr fe fh fc fw:Addr} {fd fdf fdr fde fdh fdc fdw:FuncData} (D:DefAt K mg "started" sStarted ["chart"] f fd) (T:Txt K mg C) (Df:DefAt K mg "first_memory" sFirstMem ["chart"] ff fdf) (Dr:DefAt K mg "rising" sRising ["rooms"] fr fdr)
    (De:DefAt K mg "entered" sEntered ["chart", "room", "goal", "memory"] fe fde) (Dh:DefAt K mg "chosen" sChosen ["chart", "room", "goal", "memory"] fh fdh) (Dc:DefAt K mg "children" sChildren ["chart", "room"] fc fdc) (Dw:DefAt K mg "within" sWithin ["chart", "room", "other"] fw fdw) :
    FnOk P w K mg base CX0 20 f fd ["chart"] (spStarted C):=by
  have Gf:FnOk P w K mg base CX0 2 ff fdf ["chart"] (spFirstMem C):=ok_first_mem Df T Dc
  have Gr:FnOk P w K mg base CX0 1 fr fdr ["rooms"] (spRising K):=ok_rising Dr T
  have Ge:FnOk P w K mg base CX0 19 fe fde ["chart", "room", "goal", "memory"] (spEnt C 16):=ok_entered De T Dh (ok_chosen Dh T Dc Dw) 16
  refine D.fn.ok scStarted (fun vs H Q E h => ?_) (fun cdv A outer s H vs Q E hr h => ?_)
  · obtain ⟨c,R,As,rfl,_⟩:=h
    rfl
  obtain ⟨c,R,As,rfl,hC,hG,q⟩:=h
  refine ⟨_,pss_cons (ps_set (i := 1) scStarted.nd rfl (Or.inl rfl) (pe_call Gf (hr.mono (by decide)) rfl Df.mg Df.fn.kp Df.bd .nil pass0 (pa_cons (pv 0) pa_nil)))
    (pss_one (ps_ret (pe_tup (pa_cons (pe_call Gr (hr.mono (by decide)) rfl Dr.mg Dr.fn.kp Dr.bd .nil pass0 (pa_cons (pe_call Ge hr rfl De.mg De.fn.kp De.bd .nil pass0 (pa_cons (pv 0) (pa_cons pe_int (pa_cons pe_int (pa_cons (pv 1) pa_nil))))) pa_nil)) (pa_cons (pv 1) pa_nil))))),?_⟩
  refine ⟨_,rfl,c,R,As,rfl,hC,hG,fun mt H1 s1 e1 => ?_⟩
  have hpos:=hG.tree.pos
  rw [hsOf_len] at hpos
  have hM:=mem0_ok hG
  refine ⟨_,rfl,_,rfl,c,mt,R,As,mem0 R,0,0,rfl,hC.same s1,hG,hpos,hpos,e1,hM,by have:=hG.most; omega,fun el H2 hel s2 e2 => ?_⟩
  have hlen:=Rm.ent_len hG.tree (chOf_pick hG hM 0) 16 0 hG.tree.pos
  rw [hsOf_len] at hlen
  have hmost:=hG.most
  refine ⟨el,iN (Rm.ent (chOf R (mem0 R) 0) 16 0),rfl,SqL.of e2,by unfold iN; rw [List.length_map]; omega,fun kt ns H3 s3 hp hs e3 => ?_⟩
  refine ⟨_,rfl,(by show 2≤sizeLine; decide),fun t ht => ?_⟩
  have s4:=same_new ht (.tup [.ref kt,.ref mt])
  exact q t kt mt ns _ (s1.trans (s2.trans (s3.trans s4))) upd_same (s4 _ _ e3) (s4 _ _ (s3 _ _ (s2 _ _ e1))) hp hs
end
end Toy
namespace Toy
open PySem L2
seal PySem.wpAny
section
variable {P:Program} {w:World} {K:PySem.W.Frag} {mg:Str→Option Value} {base:Heap}
def scA (R:List Room1) (a:Arrow):Nat:=(scopeOf R a.1.toNat a.2.2.2.1.toNat).getD 0
theorem scope_in {R:List Room1} {s t p:Nat} (h:scopeOf R s t=some p):p∈(Rm.chain (hsOf R) s).tail∧choosing R p=true∧Rm.li (hsOf R) t p=true:=by
  have h1:=List.mem_of_find?_eq_some h
  have h2:=List.find?_some h
  rw [Bool.and_eq_true] at h2
  exact ⟨h1,h2.1,h2.2⟩
theorem scA_lt {R:List Room1} {a:Arrow} (h:GoodA R a):scA R a < R.length:=by
  obtain ⟨p,hp⟩:=h.sc
  obtain ⟨s,es,hs⟩:=h.src
  unfold scA
  rw [hp]
  have:=Rm.tail_lt (scope_in hp).1
  rw [es,Int.toNat_natCast] at this
  exact Nat.lt_trans this hs
def clB (R:List Room1) (a b:Arrow):Bool:=Rm.wi (hsOf R) (scA R a) (scA R b) || Rm.wi (hsOf R) (scA R b) (scA R a)
def pairOf (cl:Nat→Nat→Bool):List Nat→Option (Nat×Nat)
  | [] => Option.none
  | x :: r => match r.find? (cl x) with
    | some y => some (x,y)
    | Option.none => pairOf cl r
def clA (R:List Room1) (A:List Arrow) (i j:Nat):Bool:=match A[i]?,A[j]? with
  | some a,some b => clB R a b
  | _,_ => false
theorem clA_get {R:List Room1} {A:List Arrow} {i j:Nat} {a b:Arrow} (hi:A[i]? = some a) (hj:A[j]? = some b):clA R A i j=clB R a b:=by
  unfold clA; rw [hi,hj]
def pairV (Q:VK) (H:Hp):Option (Nat×Nat)→Prop
  | Option.none => ∀ H',Same H H'→Q .non H'
  | some (x,y) => ∀ t H',Same H H'→H' t=some (.tup [.int x,.int y])→Q (.ref t) H'
theorem cutN (xs:List V) (k:Nat):cutV xs (some (k:Int)) Option.none=xs.drop k:=by
  unfold cutV
  rw [HT.sIx_nat,HT.sIx_none]
  by_cases h:k≤xs.length
  · rw [Nat.min_eq_left h]
    exact List.take_of_length_le (by rw [List.length_drop]; exact Nat.le_refl _)
  · rw [Nat.min_eq_right (by omega),List.drop_length,List.drop_eq_nil_of_le (by omega)]
    simp
theorem cV_drop (l:List Nat) (k:Nat):(cV l).drop k=cV (l.drop k):=by unfold cV; rw [List.map_drop,List.map_drop]
end
end Toy
namespace Toy
open PySem L2
seal PySem.wpAny
section
variable {P:Program} {w:World} {K:PySem.W.Frag} {mg:Str→Option Value} {base:Heap}
def spAScope (C:Addr):Sp:=fun vs H Q _ => ∃ (c:Addr) (R:List Room1) (A:List Arrow) (i:Nat) (a:Arrow),vs=[.ref c,.int i]∧ChartAt C H c R A∧Good R∧A[i]? = some a∧GoodA R a∧Q (.int (scA R a)) H
theorem scAScope:FnScope ["chart", "number", "arrow"] ["chart", "number"] (defScope sAScope):=⟨rfl,rfl,rfl,by decide +kernel,rfl,by decide +kernel,by decide +kernel⟩
theorem ok_ascope {f C fs fl fw:Addr} {fd fds fdl fdw:FuncData} (D:DefAt K mg "arrow_scope" sAScope ["chart", "number"] f fd) (T:Txt K mg C) (Ds:DefAt K mg "scope" sScope ["chart", "source", "target"] fs fds) (Dl:DefAt K mg "lies_in" sLies ["chart", "room", "other"] fl fdl) (Dw:DefAt K mg "within" sWithin ["chart", "room", "other"] fw fdw) :
    FnOk P w K mg base CX0 4 f fd ["chart", "number"] (spAScope C):=by
  have Gs:FnOk P w K mg base CX0 3 fs fds ["chart", "source", "target"] (spScope C):=ok_scope Ds T Dl Dw
  refine D.fn.ok scAScope (fun vs H Q E h => ?_) (fun cdv A outer s H vs Q E hr h => ?_)
  · obtain ⟨c,R,As,i,a,rfl,_⟩:=h
    rfl
  obtain ⟨c,R,As,i,a,rfl,hC,hG,hia,hA,q⟩:=h
  refine ⟨_,pss_cons (ps_set (i := 2) scAScope.nd rfl (Or.inl rfl) (pe_ix ix_list (pe_fld (pv 0) rfl) (pv 1) (fun _ _ => rfl)))
    (pss_one (ps_ret (pe_call Gs hr rfl Ds.mg Ds.fn.kp Ds.bd .nil pass0 (pa_cons (pv 0) (pa_cons (pe_ix ix_tup (pv 2) (pe_gint T.src rfl) (fun _ _ => rfl)) (pa_cons (pe_ix ix_tup (pv 2) (pe_gint T.tgt rfl) (fun _ _ => rfl)) pa_nil)))))),?_⟩
  obtain ⟨hi,rfl⟩:=List.getElem?_eq_some_iff.mp hia
  obtain ⟨dx,l,m,ps,qs,h1,h2,h3,h4,h5⟩:=hC.ob
  obtain ⟨p,hp,hp2⟩:=arrow_at h5 hi
  obtain ⟨sn,es,hs⟩:=hA.src
  obtain ⟨tn,et,ht⟩:=hA.tgt
  refine ⟨_,rfl,c,C,dx,_,_,rfl,h1,T.cl,T.nA,flds_arrows l m,_,rfl,m,_,_,_,rfl,rfl,SqL.of h4,hp,?_⟩
  refine ⟨_,rfl,_,rfl,p,_,_,_,rfl,rfl,SqT.of hp2,rfl,_,rfl,p,_,_,_,rfl,rfl,SqT.of hp2,rfl,c,R,As,sn,tn,(by rw [es,et]; rfl),hC,hG.tree,hs,ht,?_⟩
  obtain ⟨pp,hsc⟩:=hA.sc
  unfold scA at q
  rw [hsc] at q
  rw [es,et,Int.toNat_natCast,Int.toNat_natCast] at hsc
  rw [hsc]
  exact q
def spClashing (C:Addr):Sp:=fun vs H Q _ => ∃ (c:Addr) (R:List Room1) (A:List Arrow) (i j:Nat) (a b:Arrow),vs=[.ref c,.int i,.int j]∧ChartAt C H c R A∧Good R∧A[i]? = some a∧A[j]? = some b∧GoodA R a∧GoodA R b∧Q (.bl (clB R a b)) H
theorem scClashing:FnScope ["chart", "first", "second", "one", "other"] ["chart", "first", "second"] (defScope sClashing):=⟨rfl,rfl,rfl,by decide +kernel,rfl,by decide +kernel,by decide +kernel⟩
theorem ok_clashing {f C fa fw:Addr} {fd fda fdw:FuncData} (D:DefAt K mg "clashing" sClashing ["chart", "first", "second"] f fd) (T:Txt K mg C) (Da:DefAt K mg "arrow_scope" sAScope ["chart", "number"] fa fda) (Ga:FnOk P w K mg base CX0 4 fa fda ["chart", "number"] (spAScope C)) (Dw:DefAt K mg "within" sWithin ["chart", "room", "other"] fw fdw) :
    FnOk P w K mg base CX0 5 f fd ["chart", "first", "second"] (spClashing C):=by
  have Gw:FnOk P w K mg base CX0 1 fw fdw ["chart", "room", "other"] (spWithin C):=ok_within Dw T
  refine D.fn.ok scClashing (fun vs H Q E h => ?_) (fun cdv A outer s H vs Q E hr h => ?_)
  · obtain ⟨c,R,As,i,j,a,b,rfl,_⟩:=h
    rfl
  obtain ⟨c,R,As,i,j,a,b,rfl,hC,hG,hi,hj,ha,hb,q⟩:=h
  refine ⟨_,pss_cons (ps_set (i := 3) scClashing.nd rfl (Or.inl rfl) (pe_call Ga hr rfl Da.mg Da.fn.kp Da.bd .nil pass0 (pa_cons (pv 0) (pa_cons (pv 1) pa_nil))))
    (pss_cons (ps_set (i := 4) scClashing.nd rfl (Or.inl rfl) (pe_call Ga hr rfl Da.mg Da.fn.kp Da.bd .nil pass0 (pa_cons (pv 0) (pa_cons (pv 2) pa_nil))))
    (pss_one (ps_ret (pe_or (pe_call Gw (hr.mono (by decide)) rfl Dw.mg Dw.fn.kp Dw.bd .nil pass0 (pa_cons (pv 0) (pa_cons (pv 3) (pa_cons (pv 4) pa_nil))))
      (pe_one (pe_call Gw (hr.mono (by decide)) rfl Dw.mg Dw.fn.kp Dw.bd .nil pass0 (pa_cons (pv 0) (pa_cons (pv 4) (pa_cons (pv 3) pa_nil))))))))),?_⟩
  refine ⟨_,rfl,_,rfl,c,R,As,i,a,rfl,hC,hG,hi,ha,?_⟩
  refine ⟨_,rfl,_,rfl,c,R,As,j,b,rfl,hC,hG,hj,hb,?_⟩
  refine ⟨_,rfl,_,rfl,_,rfl,c,R,As,scA R a,scA R b,rfl,hC,hG.tree,scA_lt ha,_,rfl,?_⟩
  unfold clB at q
  cases e:Rm.wi (hsOf R) (scA R a) (scA R b) with
  | true =>
    rw [e,Bool.true_or] at q
    exact iteT q
  | false =>
    rw [e,Bool.false_or] at q
    refine iteF ?_
    exact ⟨_,rfl,_,rfl,_,rfl,c,R,As,scA R b,scA R a,rfl,hC,hG.tree,scA_lt hb,q⟩
def spClashOf (C:Addr):Sp:=fun vs H Q _ => ∃ (c n:Addr) (R:List Room1) (A:List Arrow) (l:List Nat),vs=[.ref c,.ref n]∧ChartAt C H c R A∧Good R∧(∀ a∈A,GoodA R a)∧H n=some (.lst (cV l))∧l.length≤100∧(∀ i∈l,i < A.length)∧pairV Q H (pairOf (clA R A) l)
theorem scClashOf:FnScope ["chart", "numbers", "place", "first", "second"] ["chart", "numbers"] (defScope sClashOf):=⟨rfl,rfl,rfl,by decide +kernel,rfl,by decide +kernel,by decide +kernel⟩
theorem ok_clash_of {f C fl:Addr} {fd fdl:FuncData} (D:DefAt K mg "clash_of" sClashOf ["chart", "numbers"] f fd) (T:Txt K mg C) (Dl:DefAt K mg "clashing" sClashing ["chart", "first", "second"] fl fdl) (Gl:FnOk P w K mg base CX0 5 fl fdl ["chart", "first", "second"] (spClashing C)) :
    FnOk P w K mg base CX0 6 f fd ["chart", "numbers"] (spClashOf C):=by
  refine D.fn.ok scClashOf (fun vs H Q E h => ?_) (fun cdv A outer s H vs Q E hr h => ?_)
  · obtain ⟨c,n,R,As,l,rfl,_⟩:=h
    rfl
  obtain ⟨c,n,R,As,l,rfl,hC,hG,hA,hn,hl,hlt,q⟩:=h
  refine ⟨_,pss_cons (ps_for PassesOwn.never rfl (pi_enum rfl T.enum (pa_cons (pv 1) pa_nil)) (pg_tup (n := 2) rfl (pgs_cons (pg_name (i := 2) scClashOf.nd rfl (Or.inl rfl)) (pgs_cons (pg_name (i := 3) scClashOf.nd rfl (Or.inl rfl)) pgs_nil)))
      (pss_one (ps_for PassesOwn.never rfl (pi_list (pe_slice sl_list (pv 1) (po_some (pe_op op_add (pv 2) pe_int)) po_none)) (pg_name (i := 4) scClashOf.nd rfl (Or.inl rfl))
        (pss_one (ps_if (pt_val (pe_call Gl hr rfl Dl.mg Dl.fn.kp Dl.bd .nil pass0 (pa_cons (pv 0) (pa_cons (pv 3) (pa_cons (pv 4) pa_nil))))) (pss_one (ps_ret (pe_tup (pa_cons (pv 3) (pa_cons (pv 4) pa_nil))))) pss_nil)))))
    (pss_one (ps_ret pe_non)),?_⟩
  refine ⟨_,rfl,n,rfl,⟨_,SqL.of hn⟩,?_⟩
  refine for_enum (xs:=cV l) (fun i σ H1 => ∃ v2 v3 v4,σ = [some (.ref c),some (.ref n),v2,v3,v4]∧Same H H1∧pairOf (clA R As) l=pairOf (clA R As) (l.drop i)) ⟨_,_,_,rfl,Same.refl _,rfl⟩ (fun i σ H1 _ ⟨_,_,_,_,s1,_⟩ => SqL.of (s1 _ _ hn)) ?_ ?_
  · rintro i x t σ H1 hx ht ⟨v2,v3,v4,rfl,s1,ep⟩
    obtain ⟨k,hk,rfl⟩:=cV_get hx
    have hkm:=List.mem_of_getElem? hk
    have hkb:=hlt k hkm
    have hka:As[k]? = some As[k]:=List.getElem?_eq_getElem hkb
    have hd:l.drop i=k :: l.drop (i + 1):=by
      obtain ⟨hi,e⟩:=List.getElem?_eq_some_iff.mp hk
      rw [List.drop_eq_getElem_cons hi,e]
    rw [hd] at ep
    have s2:Same H (upd H1 t (.tup [.int i,.int k])):=s1.trans (same_new ht _)
    have et:(upd H1 t (.tup [.int i,.int k])) t=some (.tup [.int i,.int k]):=upd_same
    generalize upd H1 t (.tup [.int i,.int k])=H2 at s2 et ⊢
    refine ⟨t,_,rfl,SqT.of et,rfl,_,_,rfl,_,_,rfl,rfl,?_⟩
    refine ⟨_,rfl,_,rfl,_,_,rfl,rfl,_,rfl,n,_,rfl,SqL.of (s2 _ _ hn),fun cl hcl => ?_⟩
    have ei:(i:Int) + 1=((i + 1:Nat):Int):=by omega
    have s3:=s2.trans (same_new hcl (.lst (cutV (cV l) (some ((i:Int) + 1)) Option.none)))
    have e3:(upd H2 cl (.lst (cutV (cV l) (some ((i:Int) + 1)) Option.none))) cl=some (.lst (cV (l.drop (i + 1)))):=by rw [upd_same,ei,cutN,cV_drop]
    generalize upd H2 cl (.lst (cutV (cV l) (some ((i:Int) + 1)) Option.none))=H3 at s3 e3 ⊢
    refine ⟨cl,rfl,⟨_,SqL.of e3⟩,?_⟩
    refine for_list (xs:=cV (l.drop (i + 1))) (fun m σ H4 => ∃ v4,σ = [some (.ref c),some (.ref n),some (.int i),some (.int k),v4]∧Same H3 H4∧(l.drop (i + 1)).find? (clA R As k)=((l.drop (i + 1)).drop m).find? (clA R As k)) ⟨_,rfl,Same.refl _,rfl⟩ (fun m σ H4 _ ⟨_,_,s4,_⟩ => SqL.of (s4 _ _ e3)) ?_ ?_
    · rintro m y σ H4 hy ⟨v4,rfl,s4,ef⟩
      obtain ⟨j,hj,rfl⟩:=cV_get hy
      have hjm:j∈l:=List.mem_of_mem_drop (List.mem_of_getElem? hj)
      have hjb:=hlt j hjm
      have hja:As[j]? = some As[j]:=List.getElem?_eq_getElem hjb
      have hd2:(l.drop (i + 1)).drop m=j :: (l.drop (i + 1)).drop (m + 1):=by
        obtain ⟨hm,e⟩:=List.getElem?_eq_some_iff.mp hj
        rw [List.drop_eq_getElem_cons hm,e]
      rw [hd2,List.find?_cons,clA_get hka hja] at ef
      have s34:=s3.trans s4
      refine ⟨_,rfl,_,rfl,_,rfl,c,R,As,k,j,As[k],As[j],rfl,hC.same s34,hG,hka,hja,hA _ (List.getElem_mem _),hA _ (List.getElem_mem _),_,rfl,?_⟩
      cases hb:clB R As[k] As[j] with
      | true =>
        rw [hb] at ef
        refine iteT ?_
        refine ⟨_,rfl,_,rfl,(by show 2≤sizeLine; decide),fun u hu => ?_⟩
        have ef':(l.drop (i + 1)).find? (clA R As k)=some j:=ef
        rw [ep] at q
        have:pairOf (clA R As) (k :: l.drop (i + 1))=some (k,j):=by
          show (match (l.drop (i + 1)).find? (clA R As k) with | some y => some (k,y) | Option.none => pairOf (clA R As) (l.drop (i + 1)))=_
          rw [ef']
        rw [this] at q
        exact q u _ (s34.trans (same_new hu _)) upd_same
      | false =>
        rw [hb] at ef
        refine iteF ?_
        exact ⟨_,rfl,s4,ef⟩
    · rintro σ H4 ⟨v4,rfl,s4,ef⟩
      rw [cV_len,List.drop_length] at ef
      refine ⟨_,_,_,rfl,s3.trans s4,?_⟩
      rw [ep]
      show (match (l.drop (i + 1)).find? (clA R As k) with | some y => some (k,y) | Option.none => pairOf (clA R As) (l.drop (i + 1)))=_
      rw [ef]; rfl
  · rintro σ H1 ⟨v2,v3,v4,rfl,s1,ep⟩
    rw [cV_len,List.drop_length] at ep
    rw [ep] at q
    exact q H1 s1
end
end Toy
namespace Toy
open PySem L2
seal PySem.wpAny
section
variable {P:Program} {w:World} {K:PySem.W.Frag} {mg:Str→Option Value} {base:Heap}
def clF (p:V) (i j:Int):List (Str×V):=putF "second" (.int j) (putF "first" (.int i) [("events",p)])
def spClash (C:Addr):Sp:=fun vs H Q _ => ∃ (a:Addr) (p:V) (i j:Int),vs=[.ref a,p,.int i,.int j]∧H a=some (XI a C Option.none)∧i.natAbs.log2 < 1920∧j.natAbs.log2 < 1920 ∧
  ∀ d,H d=Option.none→Q .non (upd (upd H a (XI a C (some d))) d (XD d (clF p i j)))
structure ClashTxt (K:PySem.W.Frag) (mg:Str→Option Value) (C CE fI:Addr):Prop where
  x:XCls K C CE fI
  u:XSup K CE
  e:PySem.W.findIn K (.ref C) "events" = some none
  f:PySem.W.findIn K (.ref C) "first" = some none
  s:PySem.W.findIn K (.ref C) "second" = some none
  mgE:mg "ChartError" = some (.ref CE)
theorem scClash:FnScope ["self", "events", "first", "second"] ["self", "events", "first", "second"] (defScope sClash):=⟨rfl,rfl,rfl,by decide +kernel,rfl,by decide +kernel,by decide +kernel⟩
theorem ok_clash {fI C CE:Addr} {fd:FuncData} (F:Fun K "__init__" "Clash.__init__" sClash fI fd) (T:ClashTxt K mg C CE fI):FnOk P w K mg base CX0 1 fI fd ["self", "events", "first", "second"] (spClash C):=by
  refine F.ok scClash (fun vs H Q E h => ?_) (fun cdv A outer s H vs Q E hr h => ?_)
  · obtain ⟨a,p,i,j,rfl,_⟩:=h
    rfl
  obtain ⟨a,p,i,j,rfl,ha,hi,hj,q⟩:=h
  refine ⟨_,pss_cons (ps_expr (pe_sup T.x T.u rfl T.mgE (pa_cons (pv 0) (pa_cons (pe_fstr (pfs_cons pf_text (pfs_cons (pf_int (pv 2)) (pfs_cons pf_text (pfs_cons (pf_int (pv 3)) (pfs_cons pf_text pfs_nil)))))) pa_nil))))
    (pss_cons (ps_xfld T.x T.e (pv 0) (pv 1))
    (pss_cons (ps_xfld T.x T.f (pv 0) (pv 2))
    (pss_one (ps_xfld T.x T.s (pv 0) (pv 3))))),?_⟩
  refine ⟨_,rfl,⟨⟨trivial,⟨_,rfl,i,rfl,rfl,hi⟩,trivial,⟨_,rfl,j,rfl,rfl,hj⟩,trivial,trivial⟩,fun y => ?_⟩⟩
  refine ⟨a,Option.none,.str y,rfl,ha,?_⟩
  refine ⟨_,rfl,_,rfl,a,rfl,.inl ⟨ha,fun d hd => ?_⟩⟩
  have nda:d≠a:=fun z => by rw [z,ha] at hd; cases hd
  have e1:upd (upd H a (XI a C (some d))) d (XD d [("events",p)]) a=some (XI a C (some d)):=by rw [upd_ne (Ne.symm nda),upd_same]
  refine ⟨_,rfl,_,rfl,a,rfl,.inr ⟨d,_,e1,upd_same,nda,(by show 1 < 100; decide),?_⟩⟩
  rw [upd_upd]
  have e2:upd (upd H a (XI a C (some d))) d (XD d (putF "first" (.int i) [("events",p)])) a=some (XI a C (some d)):=by rw [upd_ne (Ne.symm nda),upd_same]
  refine ⟨_,rfl,_,rfl,a,rfl,.inr ⟨d,_,e2,upd_same,nda,?_,?_⟩⟩
  · have:=length_putF "first" (.int i) [("events",p)]
    simp only [List.length_cons,List.length_nil] at this
    omega
  rw [upd_upd]
  exact q d hd
end
end Toy
namespace Toy
open PySem L2
seal PySem.wpAny
section
variable {P:Program} {w:World} {K:PySem.W.Frag} {mg:Str→Option Value} {base:Heap}
theorem comp_tup {K:PySem.W.Frag} {a:Addr} {xs:List V} {g:TG} {tt:TT} {te:TE} {D:Addr} {Q:VK} {σ : St} {H:Hp} (Pv:Nat→List V→St→Hp→Prop) (h0:Pv 0 [] σ (upd H D (.lst [])))
    (hl:∀ i ys σ H,i≤xs.length→H D=some (.lst ys)→Pv i ys σ H→SqT K H a xs)
    (hs:∀ i x ys σ H,xs[i]? = some x→H D=some (.lst ys)→Pv i ys σ H→g x σ H fun σ2 H2 => tt σ2 H2 fun b H3 =>
      if b=true then te σ2 H3 fun y H4 => H4 D=some (.lst ys)∧ys.length < sizeLine∧Pv (i + 1) (ys ++ [y]) σ2 (upd H4 D (.lst (ys ++ [y]))) else H3 D=some (.lst ys)∧Pv (i + 1) ys σ2 H3)
    (hd:∀ ys σ H,H D=some (.lst ys)→Pv xs.length ys σ H→Q (.ref D) H) :
    tLoop (Itt K a) g tt te D Q σ (upd H D (.lst [])):=by
  refine ⟨fun i m σ H => m=xs.length - i∧i≤xs.length∧∃ ys,H D=some (.lst ys)∧Pv i ys σ H,⟨xs.length,by simp,Nat.zero_le _,[],upd_same,h0⟩,?_⟩
  rintro i m σ H ⟨rfl,hi,ys,hD,p⟩
  have hq:=hl i ys σ H hi hD p
  by_cases hlt:i < xs.length
  · refine .inr ⟨⟨xs,xs[i],hq,by simp [hlt]⟩,fun y σ' H' => H' D=some (.lst ys)∧ys.length < sizeLine∧Pv (i + 1) (ys ++ [y]) σ' (upd H' D (.lst (ys ++ [y]))),fun σ' H' => H' D=some (.lst ys)∧Pv (i + 1) ys σ' H',
      fun y σ' H' q => ⟨ys,q.1,q.2.1,xs.length - (i + 1),by omega,rfl,hlt,_,upd_same,q.2.2⟩,fun σ' H' q => ⟨xs.length - (i + 1),by omega,rfl,hlt,ys,q⟩,fun x H' y => ?_⟩
    obtain ⟨e,y⟩:=y
    subst e
    exact hs i x ys σ _ (y xs hq) hD p
  · have e:i=xs.length:=by omega
    subst e
    exact .inl ⟨⟨xs,hq,Nat.le_refl _⟩,hd ys σ H hD p⟩
def stayL (R:List Room1) (a:Arrow) (ks:List Nat):List Nat:=ks.filter fun k => !Rm.wi (hsOf R) k (scA R a)
def movL (R:List Room1) (mem:List Int) (a:Arrow) (ks:List Nat):List Nat:=stayL R a ks ++ Rm.ent (chOf R mem a.2.2.2.1.toNat) 16 (scA R a)
def spMoved (C:Addr):Sp:=fun vs H Q _ => ∃ (c kt mt:Addr) (R:List Room1) (A:List Arrow) (mem:List Int) (ks:List Nat) (i:Nat) (a:Arrow),vs=[.ref c,.ref kt,.ref mt,.int i]∧ChartAt C H c R A∧Good R∧A[i]? = some a∧GoodA R a ∧
  H kt=some (.tup (cV ks))∧(∀ k∈ks,k < R.length)∧ks.length≤40∧H mt=some (.tup (mem.map V.int))∧MemOk R mem ∧
  ∀ (t:Addr) (ns:List Int) (H':Hp),Same H H'→ns.Perm (iN (movL R mem a ks))→ns.Pairwise (·≤·)→H' t=some (.tup (ns.map V.int))→Q (.ref t) H'
theorem scMoved:FnScope ["chart", "kept", "memory", "number", "outer", "staying"] ["chart", "kept", "memory", "number"] (defScope sMoved):=⟨rfl,rfl,rfl,by decide +kernel,rfl,by decide +kernel,by decide +kernel⟩
theorem ok_moved {f C fa fw fr fe fh:Addr} {fd fda fdw fdr fde fdh:FuncData} (D:DefAt K mg "moved" sMoved ["chart", "kept", "memory", "number"] f fd) (T:Txt K mg C) (Da:DefAt K mg "arrow_scope" sAScope ["chart", "number"] fa fda) (Ga:FnOk P w K mg base CX0 4 fa fda ["chart", "number"] (spAScope C))
    (Dw:DefAt K mg "within" sWithin ["chart", "room", "other"] fw fdw) (Dr:DefAt K mg "rising" sRising ["rooms"] fr fdr) (De:DefAt K mg "entered" sEntered ["chart", "room", "goal", "memory"] fe fde) (Ge:FnOk P w K mg base CX0 19 fe fde ["chart", "room", "goal", "memory"] (spEnt C 16)) :
    FnOk P w K mg base CX0 20 f fd ["chart", "kept", "memory", "number"] (spMoved C):=by
  have Gw:FnOk P w K mg base CX0 1 fw fdw ["chart", "room", "other"] (spWithin C):=ok_within Dw T
  have Gr:FnOk P w K mg base CX0 1 fr fdr ["rooms"] (spRising K):=ok_rising Dr T
  refine D.fn.ok scMoved (fun vs H Q E h => ?_) (fun cdv A outer s H vs Q E hr h => ?_)
  · obtain ⟨c,kt,mt,R,As,mem,ks,i,a,rfl,_⟩:=h
    rfl
  obtain ⟨c,kt,mt,R,As,mem,ks,i,a,rfl,hC,hG,hia,hA,hk,hks,hk4,hm,hM,q⟩:=h
  refine ⟨_,pss_cons (ps_set (i := 4) scMoved.nd rfl (Or.inr rfl) (pe_call Ga (hr.mono (by decide)) rfl Da.mg Da.fn.kp Da.bd .nil pass0 (pa_cons (pv 0) (pa_cons (pv 3) pa_nil))))
    (pss_cons (ps_comp (i := 5) ["room", "chart", "outer"] [Option.none,some 0,some 4] rfl scMoved.nd rfl rfl (pi_tup (pv 1))
      (fun _ => pg_name (i := 0) (show (["room", "chart", "outer"]:List Str).Nodup by decide +kernel) rfl (Or.inl rfl))
      (fun _ => pts_one (pt_not (pt_val (pe_call Gw (hr.mono (by decide)) rfl Dw.mg Dw.fn.kp Dw.bd .nil pass0 (pa_cons (pv 1) (pa_cons (pv 0) (pa_cons (pv 2) pa_nil)))))))
      (fun _ => pv 0) (N:=["chart", "kept", "memory", "number", "outer", "staying"]) (ks:=(defScope sMoved).names) rfl rfl (by decide +kernel) (by decide +kernel) (by decide +kernel) (by decide +kernel))
    (pss_one (ps_ret (pe_call Gr (hr.mono (by decide)) rfl Dr.mg Dr.fn.kp Dr.bd .nil pass0 (pa_cons (pe_op op_cat (pv 5) (pe_call Ge hr rfl De.mg De.fn.kp De.bd .nil pass0
      (pa_cons (pv 0) (pa_cons (pv 4) (pa_cons (pe_ix ix_tup (pe_ix ix_list (pe_fld (pv 0) rfl) (pv 3) (fun _ _ => rfl)) (pe_gint T.tgt rfl) (fun _ _ => rfl)) (pa_cons (pv 2) pa_nil)))))) pa_nil))))),?_⟩
  refine ⟨_,rfl,_,rfl,c,R,As,i,a,rfl,hC,hG,hia,hA,?_⟩
  refine ⟨_,rfl,kt,rfl,⟨_,SqT.of hk⟩,fun bk d hd => ?_⟩
  refine comp_tup (xs:=cV ks) (Pv:=fun j ys σ H' => ∃ v,σ = [v,some (.ref c),some (.int (scA R a))]∧ys=cV ((ks.take j).filter fun k => !Rm.wi (hsOf R) k (scA R a))∧Same H H')
    ⟨_,rfl,rfl,same_new hd _⟩ (fun i ys σ H2 _ _ ⟨_,_,_,s2⟩ => SqT.of (s2 _ _ hk)) ?_ ?_
  · rintro j x ys σ H2 hx hDi ⟨v,rfl,hys,(s2:Same _ _)⟩
    obtain ⟨k,hk2,rfl⟩:=cV_get hx
    have hkb:=hks k (List.mem_of_getElem? hk2)
    have htk:ks.take (j + 1)=ks.take j ++ [k]:=by rw [List.take_add_one,hk2]; rfl
    refine ⟨_,rfl,_,rfl,_,rfl,c,R,As,k,scA R a,rfl,hC.same s2,hG.tree,hkb,_,rfl,?_⟩
    cases hb:Rm.wi (hsOf R) k (scA R a) with
    | false =>
      refine iteT ?_
      refine ⟨_,rfl,hDi,?_,_,rfl,?_,sameUpd s2 hd _⟩
      · rw [hys,cV_len]
        have a1:=List.length_filter_le (fun k => !Rm.wi (hsOf R) k (scA R a)) (ks.take j)
        have a3:(ks.take j).length≤ks.length:=by rw [List.length_take]; omega
        exact small1000 (by omega)
      · rw [htk,List.filter_append,cV_app,← hys]
        have:([k].filter fun k => !Rm.wi (hsOf R) k (scA R a))=[k]:=by simp [hb]
        rw [this]; rfl
    | true =>
      refine iteF ?_
      refine ⟨hDi,_,rfl,?_,s2⟩
      rw [htk,List.filter_append]
      have:([k].filter fun k => !Rm.wi (hsOf R) k (scA R a))=[]:=by simp [hb]
      rw [this,List.append_nil]; exact hys
  · rintro ys σ H2 hD2 ⟨v,_,hys,(s2:Same _ _)⟩
    rw [cV_len,List.take_length] at hys
    obtain ⟨hi,rfl⟩:=List.getElem?_eq_some_iff.mp hia
    obtain ⟨dx,l,m,ps,qs,h1,h2,h3,h4,h5⟩:=(hC.same s2).ob
    obtain ⟨p,hp,hp2⟩:=arrow_at h5 hi
    obtain ⟨tn,et,ht⟩:=hA.tgt
    have hsl:=scA_lt hA
    have hmost:=hG.most
    refine ⟨_,rfl,_,rfl,_,rfl,_,rfl,c,C,dx,_,_,rfl,h1,T.cl,T.nA,flds_arrows l m,_,rfl,m,_,_,_,rfl,rfl,SqL.of h4,hp,p,_,_,_,rfl,rfl,SqT.of hp2,rfl,?_⟩
    refine ⟨_,rfl,c,mt,R,As,mem,scA R As[i],tn,(by rw [et]; rfl),hC.same s2,hG,hsl,ht,s2 _ _ hm,hM,(by omega),fun el H3 hel s3 e3 => ?_⟩
    have hlen:=Rm.ent_len hG.tree (chOf_pick hG hM tn) 16 (scA R As[i]) (by rw [hsOf_len]; exact hsl)
    rw [hsOf_len] at hlen
    have hst:(stayL R As[i] ks).length≤ks.length:=List.length_filter_le _ _
    refine ⟨d,el,_,_,rfl,rfl,s3 _ _ hD2,e3,?_,fun pl hpl => ?_⟩
    · rw [hys,cV_len,cV_len]
      exact small (by have:=hst; unfold stayL at this; omega)
    refine ⟨pl,iN (movL R mem As[i] ks),rfl,SqL.of (by
      rw [upd_same,hys,← cV_app]
      unfold movL stayL iN cV
      rw [et,Int.toNat_natCast,List.map_map]),?_,fun kt' ns H4 s4 hpm hso e4 => ?_⟩
    · unfold iN movL
      rw [List.length_map,List.length_append,et,Int.toNat_natCast]
      omega
    exact q kt' ns H4 (s2.trans (s3.trans ((same_new hpl _).trans s4))) hpm hso e4
end
end Toy
namespace Toy
open PySem L2
seal PySem.wpAny
section
variable {P:Program} {w:World} {K:PySem.W.Frag} {mg:Str→Option Value} {base:Heap}
def remS (R:List Room1) (m:List Int) (k:Nat):List Int:=if 0≤Rm.hold (hsOf R) k∧kindAt R (Rm.hold (hsOf R) k).toNat = "keep" then m.set (Rm.hold (hsOf R) k).toNat (k:Int) else m
def remL (R:List Room1) (ks:List Nat) (mem:List Int):List Int:=ks.foldl (remS R) mem
theorem remS_len (R:List Room1) (m:List Int) (k:Nat):(remS R m k).length=m.length:=by unfold remS; split <;> simp
theorem remL_len (R:List Room1) (ks:List Nat):∀ mem:List Int,(remL R ks mem).length=mem.length:=by
  induction ks with
  | nil => intro mem; rfl
  | cons k ks ih => intro mem; show (remL R ks (remS R mem k)).length=_; rw [ih,remS_len]
theorem ixN_at {n k:Nat} (h:k < n):ixN n (k:Int)=some k:=by
  unfold ixN
  rw [if_pos (by omega),if_pos (by omega),Int.toNat_natCast]
def spRem (C:Addr):Sp:=fun vs H Q _ => ∃ (c kt mt:Addr) (R:List Room1) (A:List Arrow) (mem:List Int) (ks:List Nat),vs=[.ref c,.ref kt,.ref mt]∧ChartAt C H c R A∧Good R ∧
  H kt=some (.tup (cV ks))∧(∀ k∈ks,k < R.length)∧H mt=some (.tup (mem.map V.int))∧mem.length=R.length ∧
  ∀ (t:Addr) (H':Hp),Same H H'→H' t=some (.tup ((remL R ks mem).map V.int))→Q (.ref t) H'
theorem scRem:FnScope ["chart", "kept", "memory", "behind", "room", "holder"] ["chart", "kept", "memory"] (defScope sRemembered):=⟨rfl,rfl,rfl,by decide +kernel,rfl,by decide +kernel,by decide +kernel⟩
theorem ok_rem {f C:Addr} {fd:FuncData} (D:DefAt K mg "remembered" sRemembered ["chart", "kept", "memory"] f fd) (T:Txt K mg C):FnOk P w K mg base CX0 1 f fd ["chart", "kept", "memory"] (spRem C):=by
  refine D.fn.ok scRem (fun vs H Q E h => ?_) (fun cdv A outer s H vs Q E hr h => ?_)
  · obtain ⟨c,kt,mt,R,As,mem,ks,rfl,_⟩:=h
    rfl
  obtain ⟨c,kt,mt,R,As,mem,ks,rfl,hC,hG,hk,hks,hm,hml,q⟩:=h
  refine ⟨_,pss_cons (ps_set (i := 3) scRem.nd rfl (Or.inl rfl) (pe_callTy call_list_of (by rfl) T.list (by decide +kernel) (pa_cons (pv 2) pa_nil)))
    (pss_cons (ps_for PassesOwn.never rfl (pi_tup (pv 1)) (pg_name (i := 4) scRem.nd rfl (Or.inl rfl))
      (pss_cons (ps_set (i := 5) scRem.nd rfl (Or.inl rfl) (pe_ix ix_tup (pe_ix ix_list (pe_fld (pv 0) rfl) (pv 4) (fun _ _ => rfl)) (pe_gint T.hold rfl) (fun _ _ => rfl)))
      (pss_one (ps_if (PW.pt (pw_and (pt_cmpR op_ne (pv 5) (pe_gint T.nil rfl) (nomark _))
          (pw_and1 (pt_cmpR op_eq (pe_ix ix_tup (pe_ix ix_list (pe_fld (pv 0) rfl) (pv 5) (fun _ _ => rfl)) (pe_gint T.kind rfl) (fun _ _ => rfl)) pe_str (nomark _)))))
        (pss_one (ps_asg (pv 4) (pg_sub (pv 3) (pv 5) set_list))) pss_nil))))
    (pss_one (ps_ret (pe_callTy call_tuple_of (by rfl) T.tup (by decide +kernel) (pa_cons (pv 3) pa_nil))))),?_⟩
  obtain ⟨dx,l,m,ps,qs,h1,h2,h3,h4,h5⟩:=hC.ob
  have hmost:=hG.most
  refine ⟨_,rfl,mt,_,rfl,.inr (SqT.of hm),fun bd hbd => ?_⟩
  have s0:=same_new hbd (.lst (mem.map V.int))
  have e0:(upd H bd (.lst (mem.map V.int))) bd=some (.lst (mem.map V.int)):=upd_same
  generalize upd H bd (.lst (mem.map V.int))=H0 at s0 e0 ⊢
  refine ⟨_,rfl,kt,rfl,⟨_,SqT.of (s0 _ _ hk)⟩,?_⟩
  refine for_tup (xs:=cV ks) (fun i σ H4 => ∃ v4 v5,σ = [some (.ref c),some (.ref kt),some (.ref mt),some (.ref bd),v4,v5]∧Same H H4∧H4 bd=some (.lst ((remL R (ks.take i) mem).map V.int)))
    ⟨_,_,rfl,s0,e0⟩ (fun i σ H4 _ ⟨_,_,_,s4,_⟩ => SqT.of (s4 _ _ hk)) ?_ ?_
  · rintro i x σ H4 hx ⟨v4,v5,rfl,(s4:Same _ _),e4⟩
    obtain ⟨k,hk2,rfl⟩:=cV_get hx
    have hkb:=hks k (List.mem_of_getElem? hk2)
    have htk:ks.take (i + 1)=ks.take i ++ [k]:=by rw [List.take_add_one,hk2]; rfl
    have hfold:remL R (ks.take (i + 1)) mem=remS R (remL R (ks.take i) mem) k:=by rw [htk]; unfold remL; rw [List.foldl_append]; rfl
    obtain ⟨p,hp,hp2⟩:=room_at h3 hkb
    have eh:Rm.hold (hsOf R) k=R[k].1:=hsOf_get (List.getElem?_eq_getElem hkb)
    refine ⟨_,rfl,c,C,dx,_,_,rfl,s4 _ _ h1,T.cl,T.nR,flds_rooms l m,_,rfl,l,_,_,_,rfl,rfl,SqL.of (s4 _ _ h2),hp,p,_,_,_,rfl,rfl,SqT.of (s4 _ _ hp2),rfl,?_⟩
    refine ⟨_,rfl,rfl,_,rfl,?_⟩
    have hup:Rm.hold (hsOf R) k = -1∨(0≤Rm.hold (hsOf R) k∧Rm.hold (hsOf R) k < (k:Int)):=by
      by_cases z:k=0
      · subst z; exact .inl hG.tree.root
      · exact .inr (hG.tree.up k (by omega) (by rw [hsOf_len]; exact hkb))
    have no:¬ (0≤Rm.hold (hsOf R) k∧kindAt R (Rm.hold (hsOf R) k).toNat = "keep")→H4 bd=some (.lst ((remL R (ks.take (i + 1)) mem).map V.int)):=fun y => by
      rw [hfold]
      unfold remS
      rw [if_neg y]
      exact e4
    by_cases z:R[k].1 = -1
    · rw [decide_eq_true (show V.int R[k].1=V.int (-1) by rw [z])]
      refine iteF ?_
      refine iteF ?_
      exact ⟨_,_,rfl,s4,no (by rw [eh,z]; intro y; exact absurd y.1 (by decide))⟩
    · rw [decide_eq_false (show ¬ V.int R[k].1=V.int (-1) from fun y => z (by injection y))]
      refine iteT ?_
      rw [eh] at hup
      have z0 : 0≤R[k].1∧R[k].1 < (k:Int):=hup.resolve_left z
      obtain ⟨hn,en⟩ : ∃ hn:Nat,R[k].1=(hn:Int):=⟨R[k].1.toNat,by omega⟩
      have hnl:hn < R.length:=by omega
      obtain ⟨pr,hpr,hpr2⟩:=room_at h3 hnl
      rw [en]
      have e2:(Rm.hold (hsOf R) k).toNat=hn:=by rw [eh,en]; omega
      refine ⟨_,rfl,c,C,dx,_,_,rfl,s4 _ _ h1,T.cl,T.nR,flds_rooms l m,_,rfl,l,_,_,_,rfl,rfl,SqL.of (s4 _ _ h2),hpr,pr,_,_,_,rfl,rfl,SqT.of (s4 _ _ hpr2),rfl,rfl,_,rfl,?_⟩
      by_cases hkp:R[hn].2 = "keep"
      · rw [decide_eq_true (show V.str R[hn].2=V.str "keep" by rw [hkp])]
        refine iteT ?_
        have hl2:(remL R (ks.take i) mem).length=R.length:=by rw [remL_len]; exact hml
        refine ⟨_,rfl,_,rfl,_,rfl,bd,_,(hn:Int),hn,rfl,rfl,e4,ixN_at (by rw [List.length_map,hl2]; exact hnl),?_⟩
        refine ⟨_,_,rfl,sameUpd s4 hbd _,?_⟩
        rw [upd_same,hfold,← List.map_set]
        unfold remS
        rw [if_pos ⟨by rw [eh,en]; omega,by rw [e2,kindAt_get hnl]; exact hkp⟩,e2]
      · rw [decide_eq_false (show ¬ V.str R[hn].2=V.str "keep" from fun y => hkp (by injection y))]
        refine iteF ?_
        exact ⟨_,_,rfl,s4,no (by rw [e2,kindAt_get hnl]; intro y; exact hkp y.2)⟩
  · rintro σ H4 ⟨v4,v5,rfl,(s4:Same _ _),e4⟩
    rw [cV_len,List.take_length] at e4
    refine ⟨_,rfl,bd,_,rfl,.inl ⟨SqL.of e4,fun t ht => ?_⟩⟩
    exact q t _ (s4.trans (same_new ht _)) upd_same
end
end Toy
namespace Toy
open PySem L2
seal PySem.wpAny
section
variable {P:Program} {w:World} {K:PySem.W.Frag} {mg:Str→Option Value} {base:Heap}
def openB (a:Arrow) (ks:List Int) (ev:Int):Bool:=(decide (a.2.1=ev) && decide (a.1∈ks)) && (decide (a.2.2.1 = -1) || decide (a.2.2.1∈ks))
def spIsOpen (K:PySem.W.Frag):Sp:=fun vs H Q _ => ∃ (p kt:Addr) (a:Arrow) (ks:List Int) (ev:Int),vs=[.ref p,.ref kt,.int ev]∧H p=some (.tup (aV a))∧SqT K H kt (ks.map V.int)∧Q (.bl (openB a ks ev)) H
theorem scIsOpen:FnScope ["arrow", "kept", "event"] ["arrow", "kept", "event"] (defScope sIsOpen):=⟨rfl,rfl,rfl,by decide +kernel,rfl,by decide +kernel,by decide +kernel⟩
theorem ok_is_open {f C:Addr} {fd:FuncData} (D:DefAt K mg "is_open" sIsOpen ["arrow", "kept", "event"] f fd) (T:Txt K mg C):FnOk P w K mg base CX0 1 f fd ["arrow", "kept", "event"] (spIsOpen K):=by
  refine D.fn.ok scIsOpen (fun vs H Q E h => ?_) (fun cdv A outer s H vs Q E hr h => ?_)
  · obtain ⟨p,kt,a,ks,ev,rfl,_⟩:=h
    rfl
  obtain ⟨p,kt,a,ks,ev,rfl,hp,hk,q⟩:=h
  refine ⟨_,pss_cons (ps_if (PW.pt (pw_or (pt_cmpR op_ne (pe_ix ix_tup (pv 0) (pe_gint T.evt rfl) (fun _ _ => rfl)) (pv 2) (nomark _)) (pw_or1 (pt_cmpR op_notIn_seq (pe_ix ix_tup (pv 0) (pe_gint T.src rfl) (fun _ _ => rfl)) (pv 1) (by with_unfolding_all rfl))))) (pss_one (ps_ret pe_bl)) pss_nil)
    (pss_one (ps_ret (pe_or (pe_cmpR op_eq (pe_ix ix_tup (pv 0) (pe_gint T.grd rfl) (fun _ _ => rfl)) (pe_gint T.nil rfl) (nomark _)) (pe_one (pe_cmpR op_in_seq (pe_ix ix_tup (pv 0) (pe_gint T.grd rfl) (fun _ _ => rfl)) (pv 1) (by with_unfolding_all rfl)))))),?_⟩
  unfold openB at q
  refine ⟨_,rfl,p,_,_,_,rfl,rfl,SqT.of hp,rfl,_,rfl,rfl,_,rfl,?_⟩
  by_cases h1:a.2.1=ev
  · refine iteNS (show V.int a.2.1=V.int ev by rw [h1]) ?_
    rw [decide_eq_true h1,Bool.true_and] at q
    refine ⟨_,rfl,p,_,_,_,rfl,rfl,SqT.of hp,rfl,_,rfl,kt,_,rfl,.inr hk,rfl,flat_ints _,_,rfl,?_⟩
    show if (!inV (V.int a.1) (ks.map V.int))=true then _ else _
    rw [inV_int]
    by_cases h2:a.1∈ks
    · rw [decide_eq_true h2] at q ⊢
      rw [Bool.true_and] at q
      refine iteF ?_
      refine ⟨_,rfl,p,_,_,_,rfl,rfl,SqT.of hp,rfl,rfl,_,rfl,?_⟩
      by_cases h3:a.2.2.1 = -1
      · rw [decide_eq_true (show V.int a.2.2.1=V.int (-1) by rw [h3])]
        rw [decide_eq_true h3,Bool.true_or] at q
        exact iteT q
      · rw [decide_eq_false (show ¬ V.int a.2.2.1=V.int (-1) from fun z => h3 (by injection z))]
        rw [decide_eq_false h3,Bool.false_or] at q
        refine iteF ?_
        refine ⟨_,rfl,p,_,_,_,rfl,rfl,SqT.of hp,rfl,_,rfl,kt,_,rfl,.inr hk,rfl,flat_ints _,?_⟩
        show Q (.bl (inV (V.int a.2.2.1) (ks.map V.int))) H
        rw [inV_int]; exact q
    · rw [decide_eq_false h2] at q ⊢
      rw [Bool.false_and] at q
      exact iteT q
  · rw [decide_eq_false (show ¬ V.int a.2.1=V.int ev from fun z => h1 (by injection z))]
    rw [decide_eq_false h1,Bool.false_and,Bool.false_and] at q
    refine iteT ?_
    exact iteT q
def openAt (A:List Arrow) (ks:List Int) (ev:Int) (k:Nat):Bool:=match A[k]? with
  | some a => openB a ks ev
  | Option.none => false
def readyOf (A:List Arrow) (ks:List Int) (ev:Int):List Nat:=(List.range A.length).filter (openAt A ks ev)
theorem ready_lt {A:List Arrow} {ks:List Int} {ev:Int}:∀ i∈readyOf A ks ev,i < A.length:=fun i hi => List.mem_range.mp (List.mem_filter.mp hi).1
theorem ready_len (A:List Arrow) (ks:List Int) (ev:Int):(readyOf A ks ev).length≤A.length:=by
  unfold readyOf
  have:=List.length_filter_le (openAt A ks ev) (List.range A.length)
  rwa [List.length_range] at this
def spOpenArrows (K:PySem.W.Frag) (C:Addr):Sp:=fun vs H Q _ => ∃ (c kt:Addr) (R:List Room1) (A:List Arrow) (ks:List Int) (ev:Int),vs=[.ref c,.ref kt,.int ev]∧ChartAt C H c R A∧SqT K H kt (ks.map V.int) ∧
  ∀ (l:Addr) (H':Hp),H l=Option.none→Same H H'→H' l=some (.lst (cV (readyOf A ks ev)))→Q (.ref l) H'
theorem Same.sqt {K:PySem.W.Frag} {H H':Hp} {a:Addr} {xs:List V} (e:Same H H') (h:SqT K H a xs):SqT K H' a xs:=by
  rcases h with (h | ⟨o,h⟩) | h
  · exact .inl (.inl (e _ _ h))
  · exact .inl (.inr ⟨o,e _ _ h⟩)
  · exact .inr h
theorem scOpenArrows:FnScope ["chart", "kept", "event"] ["chart", "kept", "event"] (defScope sOpenArrows):=⟨rfl,rfl,rfl,by decide +kernel,rfl,by decide +kernel,by decide +kernel⟩
theorem ok_open_arrows {f C fo:Addr} {fd fdo:FuncData} (D:DefAt K mg "open_arrows" sOpenArrows ["chart", "kept", "event"] f fd) (T:Txt K mg C) (Do:DefAt K mg "is_open" sIsOpen ["arrow", "kept", "event"] fo fdo):FnOk P w K mg base CX0 2 f fd ["chart", "kept", "event"] (spOpenArrows K C):=by
  have Go:FnOk P w K mg base CX0 1 fo fdo ["arrow", "kept", "event"] (spIsOpen K):=ok_is_open Do T
  refine D.fn.ok scOpenArrows (fun vs H Q E h => ?_) (fun cdv A outer s H vs Q E hr h => ?_)
  · obtain ⟨c,kt,R,As,ks,ev,rfl,_⟩:=h
    rfl
  obtain ⟨c,kt,R,As,ks,ev,rfl,hC,hk,q⟩:=h
  refine ⟨_,pss_one (ps_ret (pe_comp ["number", "chart", "event", "kept"] [Option.none,some 0,some 2,some 1] rfl
    (pi_range1 rfl T.range (pa_cons (pe_callB call_len_seq (by rfl) T.len PySem.boot_len (pa_cons (pe_fld (pv 0) rfl) pa_nil)) pa_nil))
    (fun _ => pg_name (i := 0) (show (["number", "chart", "event", "kept"]:List Str).Nodup by decide +kernel) rfl (Or.inl rfl))
    (fun _ => pts_one (pt_val (pe_call Go hr rfl Do.mg Do.fn.kp Do.bd .nil pass0 (pa_cons (pe_ix ix_list (pe_fld (pv 1) rfl) (pv 0) (fun _ _ => rfl)) (pa_cons (pv 3) (pa_cons (pv 2) pa_nil))))))
    (fun _ => pv 0) (N:=["chart", "kept", "event"]) (ks:=(defScope sOpenArrows).names) rfl rfl (by decide +kernel) (by decide +kernel) (by decide +kernel) (by decide +kernel))),?_⟩
  obtain ⟨dx,l,m,ps,qs,h1,h2,h3,h4,h5⟩:=hC.ob
  have hl:(qs.map V.ref).length=As.length:=by rw [List.length_map,h5.1,List.length_map]
  have hal:=hC.al
  refine ⟨_,rfl,c,C,dx,_,_,rfl,h1,T.cl,T.nA,flds_arrows l m,m,_,rfl,.inl (SqL.of h4),_,rfl,by rw [hl]; omega,by rw [hl]; omega,fun bk d hd => ?_⟩
  rw [hl]
  refine comp_range (Pv:=fun i ys σ H' => ∃ v,σ = [v,some (.ref c),some (.int ev),some (.ref kt)]∧ys=cV ((List.range i).filter (openAt As ks ev))∧Same H H') ⟨_,rfl,rfl,same_new hd _⟩ ?_ ?_
  · rintro i ys σ H1 hi hDi ⟨v,rfl,hys,(s1:Same _ _)⟩
    have hi':i < As.length:=by omega
    obtain ⟨p,hp,hp2⟩:=arrow_at h5 hi'
    have ei:(0:Int) + (i:Int)=(i:Int):=by omega
    rw [ei]
    have eo:openAt As ks ev i=openB As[i] ks ev:=by unfold openAt; rw [List.getElem?_eq_getElem hi']
    refine ⟨_,rfl,c,C,dx,_,_,rfl,s1 _ _ h1,T.cl,T.nA,flds_arrows l m,_,rfl,m,_,_,_,rfl,rfl,SqL.of (s1 _ _ h4),hp,_,rfl,_,rfl,p,kt,As[i],ks,ev,rfl,s1 _ _ hp2,Same.sqt s1 hk,_,rfl,?_⟩
    rw [← eo]
    refine ite2 (fun z => ?_) (fun z => ?_)
    · refine ⟨_,rfl,hDi,?_,_,rfl,?_,sameUpd s1 hd _⟩
      · rw [hys,cV_len]
        have:=List.length_filter_le (openAt As ks ev) (List.range i)
        rw [List.length_range] at this
        exact small1000 (by omega)
      · rw [Rm.range_filter_succ,if_pos z,cV_app,← hys]; rfl
    · refine ⟨hDi,_,rfl,?_,s1⟩
      rw [Rm.range_filter_succ,if_neg z,List.append_nil]; exact hys
  · rintro ys σ H1 hDn ⟨v,rfl,hys,(s1:Same _ _)⟩
    refine q d H1 hd s1 ?_
    rw [hDn,hys]
    have e:((As.length:Int)).toNat=As.length:=by omega
    rw [e]; rfl
def srcN (A:List Arrow) (k:Nat):Nat:=match A[k]? with
  | some a => a.1.toNat
  | Option.none => 0
def overB (R:List Room1) (A:List Arrow) (rd:List Nat) (k:Nat):Bool:=rd.any fun o => Rm.li (hsOf R) (srcN A o) (srcN A k)
theorem src_int {R:List Room1} {A:List Arrow} (hA:∀ a∈A,GoodA R a) {k:Nat} (hk:k < A.length):A[k].1=((srcN A k:Nat):Int)∧srcN A k < R.length:=by
  obtain ⟨s,es,hs⟩:=(hA _ (List.getElem_mem hk)).src
  unfold srcN
  rw [List.getElem?_eq_getElem hk]
  simp only
  rw [es,Int.toNat_natCast]
  exact ⟨rfl,hs⟩
def spOver (C:Addr):Sp:=fun vs H Q _ => ∃ (c n:Addr) (R:List Room1) (A:List Arrow) (k:Nat) (rd:List Nat),vs=[.ref c,.int k,.ref n]∧ChartAt C H c R A∧Good R∧(∀ a∈A,GoodA R a)∧k < A.length∧H n=some (.lst (cV rd))∧(∀ i∈rd,i < A.length)∧Q (.bl (overB R A rd k)) H
theorem scOver:FnScope ["chart", "number", "ready", "source", "other"] ["chart", "number", "ready"] (defScope sOver):=⟨rfl,rfl,rfl,by decide +kernel,rfl,by decide +kernel,by decide +kernel⟩
theorem ok_over {f C fl fw:Addr} {fd fdl fdw:FuncData} (D:DefAt K mg "overruled" sOver ["chart", "number", "ready"] f fd) (T:Txt K mg C) (Dl:DefAt K mg "lies_in" sLies ["chart", "room", "other"] fl fdl) (Dw:DefAt K mg "within" sWithin ["chart", "room", "other"] fw fdw):FnOk P w K mg base CX0 3 f fd ["chart", "number", "ready"] (spOver C):=by
  have Gl:FnOk P w K mg base CX0 2 fl fdl ["chart", "room", "other"] (spLies C):=ok_lies Dl T Dw
  refine D.fn.ok scOver (fun vs H Q E h => ?_) (fun cdv A outer s H vs Q E hr h => ?_)
  · obtain ⟨c,n,R,As,k,rd,rfl,_⟩:=h
    rfl
  obtain ⟨c,n,R,As,k,rd,rfl,hC,hG,hA,hk,hn,hlt,q⟩:=h
  refine ⟨_,pss_cons (ps_set (i := 3) scOver.nd rfl (Or.inl rfl) (pe_ix ix_tup (pe_ix ix_list (pe_fld (pv 0) rfl) (pv 1) (fun _ _ => rfl)) (pe_gint T.src rfl) (fun _ _ => rfl)))
    (pss_cons (ps_for PassesOwn.never rfl (pi_list (pv 2)) (pg_name (i := 4) scOver.nd rfl (Or.inl rfl))
      (pss_one (ps_if (pt_val (pe_call Gl hr rfl Dl.mg Dl.fn.kp Dl.bd .nil pass0 (pa_cons (pv 0) (pa_cons (pe_ix ix_tup (pe_ix ix_list (pe_fld (pv 0) rfl) (pv 4) (fun _ _ => rfl)) (pe_gint T.src rfl) (fun _ _ => rfl)) (pa_cons (pv 3) pa_nil))))) (pss_one (ps_ret pe_bl)) pss_nil)))
    (pss_one (ps_ret pe_bl))),?_⟩
  obtain ⟨dx,l,m,ps,qs,h1,h2,h3,h4,h5⟩:=hC.ob
  obtain ⟨p,hp,hp2⟩:=arrow_at h5 hk
  obtain ⟨ek,hkl⟩:=src_int hA hk
  refine ⟨_,rfl,c,C,dx,_,_,rfl,h1,T.cl,T.nA,flds_arrows l m,_,rfl,m,_,_,_,rfl,rfl,SqL.of h4,hp,p,_,_,_,rfl,rfl,SqT.of hp2,rfl,?_⟩
  refine ⟨_,rfl,n,rfl,⟨_,SqL.of hn⟩,?_⟩
  refine for_list (xs:=cV rd) (fun i σ H1 => ∃ v,σ = [some (.ref c),some (.int k),some (.ref n),some (.int As[k].1),v]∧H1=H∧overB R As rd k=(rd.drop i).any fun o => Rm.li (hsOf R) (srcN As o) (srcN As k)) ⟨_,rfl,rfl,rfl⟩ (fun i σ H1 _ ⟨_,_,e1,_⟩ => by rw [e1]; exact SqL.of hn) ?_ ?_
  · rintro i x σ H1 hx ⟨v,rfl,rfl,eo⟩
    obtain ⟨o,ho,rfl⟩:=cV_get hx
    have hob:=hlt o (List.mem_of_getElem? ho)
    obtain ⟨eo2,hol⟩:=src_int hA hob
    obtain ⟨p',hp',hp2'⟩:=arrow_at h5 hob
    have hd:rd.drop i=o :: rd.drop (i + 1):=by
      obtain ⟨hi,e⟩:=List.getElem?_eq_some_iff.mp ho
      rw [List.drop_eq_getElem_cons hi,e]
    rw [hd,List.any_cons] at eo
    refine ⟨_,rfl,_,rfl,c,C,dx,_,_,rfl,h1,T.cl,T.nA,flds_arrows l m,_,rfl,m,_,_,_,rfl,rfl,SqL.of h4,hp',p',_,_,_,rfl,rfl,SqT.of hp2',rfl,_,rfl,c,R,As,srcN As o,srcN As k,(by rw [eo2,ek]; rfl),hC,hG.tree,hol,_,rfl,?_⟩
    cases hb:Rm.li (hsOf R) (srcN As o) (srcN As k) with
    | true =>
      rw [hb,Bool.true_or] at eo
      rw [eo] at q
      exact iteT q
    | false =>
      rw [hb,Bool.false_or] at eo
      refine iteF ?_
      exact ⟨_,rfl,rfl,eo⟩
  · rintro σ H1 ⟨v,rfl,rfl,eo⟩
    rw [cV_len,List.drop_length] at eo
    rw [eo] at q
    exact q
def takeOf (R:List Room1) (A:List Arrow) (ks:List Int) (ev:Int):List Nat:=(readyOf A ks ev).filter fun k => !overB R A (readyOf A ks ev) k
theorem take_lt {R:List Room1} {A:List Arrow} {ks:List Int} {ev:Int}:∀ i∈takeOf R A ks ev,i < A.length:=fun i hi => ready_lt i (List.mem_filter.mp hi).1
theorem take_len (R:List Room1) (A:List Arrow) (ks:List Int) (ev:Int):(takeOf R A ks ev).length≤A.length :=
  Nat.le_trans (List.length_filter_le _ _) (ready_len A ks ev)
def spTakeable (K:PySem.W.Frag) (C:Addr):Sp:=fun vs H Q _ => ∃ (c kt:Addr) (R:List Room1) (A:List Arrow) (ks:List Int) (ev:Int),vs=[.ref c,.ref kt,.int ev]∧ChartAt C H c R A∧Good R∧(∀ a∈A,GoodA R a)∧SqT K H kt (ks.map V.int) ∧
  ∀ (l:Addr) (H':Hp),H l=Option.none→Same H H'→H' l=some (.lst (cV (takeOf R A ks ev)))→Q (.ref l) H'
theorem scTakeable:FnScope ["chart", "kept", "event", "ready"] ["chart", "kept", "event"] (defScope sTakeable):=⟨rfl,rfl,rfl,by decide +kernel,rfl,by decide +kernel,by decide +kernel⟩
theorem ok_takeable {f C fa fv:Addr} {fd fda fdv:FuncData} (D:DefAt K mg "takeable" sTakeable ["chart", "kept", "event"] f fd) (T:Txt K mg C) (Da:DefAt K mg "open_arrows" sOpenArrows ["chart", "kept", "event"] fa fda) (Ga:FnOk P w K mg base CX0 2 fa fda ["chart", "kept", "event"] (spOpenArrows K C))
    (Dv:DefAt K mg "overruled" sOver ["chart", "number", "ready"] fv fdv) (Gv:FnOk P w K mg base CX0 3 fv fdv ["chart", "number", "ready"] (spOver C)):FnOk P w K mg base CX0 4 f fd ["chart", "kept", "event"] (spTakeable K C):=by
  refine D.fn.ok scTakeable (fun vs H Q E h => ?_) (fun cdv A outer s H vs Q E hr h => ?_)
  · obtain ⟨c,kt,R,As,ks,ev,rfl,_⟩:=h
    rfl
  obtain ⟨c,kt,R,As,ks,ev,rfl,hC,hG,hA,hk,q⟩:=h
  refine ⟨_,pss_cons (ps_set (i := 3) scTakeable.nd rfl (Or.inr rfl) (pe_call Ga (hr.mono (by decide)) rfl Da.mg Da.fn.kp Da.bd .nil pass0 (pa_cons (pv 0) (pa_cons (pv 1) (pa_cons (pv 2) pa_nil)))))
    (pss_one (ps_ret (pe_comp ["number", "chart", "ready"] [Option.none,some 0,some 3] rfl (pi_list (pv 3))
      (fun _ => pg_name (i := 0) (show (["number", "chart", "ready"]:List Str).Nodup by decide +kernel) rfl (Or.inl rfl))
      (fun _ => pts_one (pt_not (pt_val (pe_call Gv hr rfl Dv.mg Dv.fn.kp Dv.bd .nil pass0 (pa_cons (pv 1) (pa_cons (pv 0) (pa_cons (pv 2) pa_nil)))))))
      (fun _ => pv 0) (N:=["chart", "kept", "event", "ready"]) (ks:=(defScope sTakeable).names) rfl rfl (by decide +kernel) (by decide +kernel) (by decide +kernel) (by decide +kernel)))),?_⟩
  have hal:=hC.al
  refine ⟨_,rfl,_,rfl,_,rfl,c,kt,R,As,ks,ev,rfl,hC,hk,fun rl H1 hrl s1 e1 => ?_⟩
  refine ⟨_,rfl,rl,rfl,⟨_,SqL.of e1⟩,fun bk d hd => ?_⟩
  have hrd:=ready_len As ks ev
  refine comp_list (xs:=cV (readyOf As ks ev)) (Pv:=fun i ys σ H' => ∃ v,σ = [v,some (.ref c),some (.ref rl)]∧ys=cV (((readyOf As ks ev).take i).filter fun k => !overB R As (readyOf As ks ev) k)∧Same H1 H')
    ⟨_,rfl,rfl,same_new hd _⟩ (fun i ys σ H2 _ _ ⟨_,_,_,s2⟩ => SqL.of (s2 _ _ e1)) ?_ ?_
  · rintro i x ys σ H2 hx hDi ⟨v,rfl,hys,(s2:Same _ _)⟩
    obtain ⟨k,hk2,rfl⟩:=cV_get hx
    have hkb:=ready_lt k (List.mem_of_getElem? hk2)
    have htk:(readyOf As ks ev).take (i + 1)=(readyOf As ks ev).take i ++ [k]:=by rw [List.take_add_one,hk2]; rfl
    refine ⟨_,rfl,_,rfl,_,rfl,c,rl,R,As,k,readyOf As ks ev,rfl,hC.same (s1.trans s2),hG,hA,hkb,s2 _ _ e1,ready_lt,_,rfl,?_⟩
    cases hb:overB R As (readyOf As ks ev) k with
    | false =>
      refine iteT ?_
      refine ⟨_,rfl,hDi,?_,_,rfl,?_,sameUpd s2 hd _⟩
      · rw [hys,cV_len]
        have a1:=List.length_filter_le (fun k => !overB R As (readyOf As ks ev) k) ((readyOf As ks ev).take i)
        have a3:((readyOf As ks ev).take i).length≤(readyOf As ks ev).length:=by rw [List.length_take]; omega
        exact small1000 (by omega)
      · rw [htk,List.filter_append,cV_app,← hys]
        have:([k].filter fun k => !overB R As (readyOf As ks ev) k)=[k]:=by simp [hb]
        rw [this]; rfl
    | true =>
      refine iteF ?_
      refine ⟨hDi,_,rfl,?_,s2⟩
      rw [htk,List.filter_append]
      have:([k].filter fun k => !overB R As (readyOf As ks ev) k)=[]:=by simp [hb]
      rw [this,List.append_nil]; exact hys
  · rintro ys σ H2 hDn ⟨v,rfl,hys,(s2:Same _ _)⟩
    rw [cV_len,List.take_length] at hys
    exact q d H2 (s1.free hd) (s1.trans s2) (by rw [hDn,hys]; rfl)
end
end Toy
namespace Toy
open PySem L2
seal PySem.wpAny
section
variable {P:Program} {w:World} {K:PySem.W.Frag} {mg:Str→Option Value} {base:Heap}
end
end Toy
namespace Toy
open PySem L2
seal PySem.wpAny
section
variable {P:Program} {w:World} {K:PySem.W.Frag} {mg:Str→Option Value} {base:Heap}
theorem mod_nat {x:Int} {n:Nat} (hn : 0 < n):∃ s:Nat,x % (n:Int)=(s:Int)∧s < n:=by
  have h1:=Int.emod_nonneg x (show (n:Int)≠0 by omega)
  have h2:=Int.emod_lt_of_pos x (show (0:Int) < (n:Int) by omega)
  exact ⟨(x % (n:Int)).toNat,by omega,by omega⟩
end
end Toy
namespace Toy
open PySem L2
seal PySem.wpAny
section
variable {P:Program} {w:World} {K:PySem.W.Frag} {mg:Str→Option Value} {base:Heap}
end
end Toy
namespace Toy
open PySem L2
seal PySem.wpAny
section
variable {P:Program} {w:World} {K:PySem.W.Frag} {mg:Str→Option Value} {base:Heap}
theorem ints_rd {K:PySem.W.Frag} {H:Hp}:∀ xs:List Int,RdVs K H (xs.map V.int) (xs.map PyData.int)
  | [] => .nil
  | x :: r => .cons (.int x) (ints_rd r)
end
end Toy
namespace Toy
open PySem L2
seal PySem.wpAny
section
variable {P:Program} {w:World} {K:PySem.W.Frag} {mg:Str→Option Value} {base:Heap}
end
end Toy
namespace Toy
open PySem L2
seal PySem.wpAny
section
variable {P:Program} {w:World} {K:PySem.W.Frag} {mg:Str→Option Value} {base:Heap}
def first0 (R:List Room1):List Int:=(List.range R.length).map fun k => if choosing R k=true then (((Rm.kidsN (hsOf R) k).headD 0:Nat):Int) else -1
theorem first0_len (R:List Room1):(first0 R).length=R.length:=by simp [first0]
theorem first0_get {R:List Room1} {k:Nat} (h:k < R.length):(first0 R).getD k (-1)=if choosing R k=true then (((Rm.kidsN (hsOf R) k).headD 0:Nat):Int) else -1:=by
  unfold first0
  rw [List.getD_eq_getElem?_getD,List.getElem?_map,List.getElem?_range h]; rfl
def okL (R:List Room1) (chs:List Int) (p k:Nat):Bool:=decide (kindAt R p = "all") || decide (chs.getD p (-1)=(k:Int))
def keptL (R:List Room1) (chs:List Int):List Nat:=(List.range R.length).filter (Rm.kb (okL R chs) (hsOf R))
end
end Toy
namespace Toy
open PySem L2
seal PySem.wpAny
section
variable {P:Program} {w:World} {K:PySem.W.Frag} {mg:Str→Option Value} {base:Heap}
theorem chain_desc {hs:List Int}:∀ i:Nat,(Rm.chain hs i).Pairwise (· > ·):=by
  intro i
  induction i using Nat.strongRecOn with
  | ind i ih =>
    by_cases z : 0≤Rm.hold hs i∧Rm.hold hs i < (i:Int)
    · rw [Rm.chain_up z,List.pairwise_cons]
      refine ⟨fun y hy => ?_,ih _ (by omega)⟩
      have:=Rm.chain_le _ hy
      omega
    · rw [Rm.chain,dif_neg z]; simp
def preOf (hs:List Int) (t g:Nat):List Nat:=(Rm.chain hs t).take (((Rm.chain hs t).map fun (j:Nat) => (j:Int)).idxOf (g:Int))
theorem pre_pos {hs:List Int} {t g k:Nat} (hg:g∈Rm.chain hs t) (hk:k∈preOf hs t g):k∈Rm.chain hs t∧g < k:=by
  unfold preOf at hk
  refine ⟨List.mem_of_mem_take hk,?_⟩
  obtain ⟨i,hi,e⟩:=List.mem_take_iff_getElem.mp hk
  have hm:(g:Int)∈(Rm.chain hs t).map fun (j:Nat) => (j:Int):=List.mem_map.mpr ⟨g,hg,rfl⟩
  have hj:=List.idxOf_lt_length_iff.mpr hm
  have hj2:=hj
  rw [List.length_map] at hj2
  have eg:=List.getElem_idxOf hj
  rw [List.getElem_map] at eg
  have hlt:i < ((Rm.chain hs t).map fun (j:Nat) => (j:Int)).idxOf (g:Int):=by omega
  have:=List.pairwise_iff_getElem.mp (chain_desc (hs:=hs) t) i _ (by omega) hj2 hlt
  omega
def stA (R:List Room1) (g:Nat) (l:List Int) (k:Nat):List Int:=if (decide (kindAt R k = "one") && Rm.li (hsOf R) k g)=true then l.set k ((first0 R).getD k (-1)) else l
def stB (R:List Room1) (l:List Int) (k:Nat):List Int:=if kindAt R (Rm.hold (hsOf R) k).toNat = "all" then l else l.set (Rm.hold (hsOf R) k).toNat (k:Int)
def tgtN (a:Arrow):Nat:=a.2.2.2.1.toNat
def goneL (R:List Room1) (chs:List Int) (a:Arrow):List Int:=(preOf (hsOf R) (tgtN a) (scA R a)).foldl (stB R) ((List.range R.length).foldl (stA R (scA R a)) chs)
theorem stA_yes {R:List Room1} {g k:Nat} (l:List Int) (h:(decide (kindAt R k = "one") && Rm.li (hsOf R) k g)=true):stA R g l k=l.set k ((first0 R).getD k (-1)):=by unfold stA; rw [if_pos h]
theorem stB_set {R:List Room1} {k:Nat} (l:List Int) (h:¬ kindAt R (Rm.hold (hsOf R) k).toNat = "all"):stB R l k=l.set (Rm.hold (hsOf R) k).toNat (k:Int):=by unfold stB; rw [if_neg h]
theorem stA_len (R:List Room1) (g:Nat) (l:List Int) (k:Nat):(stA R g l k).length=l.length:=by unfold stA; split <;> simp
theorem stB_len (R:List Room1) (l:List Int) (k:Nat):(stB R l k).length=l.length:=by unfold stB; split <;> simp
theorem fold_len {f:List Int→Nat→List Int} (hf:∀ l k,(f l k).length=l.length):∀ (ks:List Nat) (l:List Int),(ks.foldl f l).length=l.length
  | [],_ => rfl
  | k :: r,l => by rw [List.foldl_cons,fold_len hf r,hf]
theorem goneL_len (R:List Room1) (chs:List Int) (a:Arrow):(goneL R chs a).length=chs.length:=by
  unfold goneL
  rw [fold_len (stB_len R),fold_len (stA_len R _)]
theorem tgt_int {R:List Room1} {a:Arrow} (h:GoodA R a):a.2.2.2.1=((tgtN a:Nat):Int)∧tgtN a < R.length:=by
  obtain ⟨t,et,ht⟩:=h.tgt
  unfold tgtN
  rw [et,Int.toNat_natCast]
  exact ⟨rfl,ht⟩
theorem sc_in_tgt {R:List Room1} {a:Arrow} (h:GoodA R a):scA R a∈Rm.chain (hsOf R) (tgtN a):=by
  obtain ⟨p,hp⟩:=h.sc
  unfold scA
  rw [hp]
  have:=(scope_in hp).2.2
  unfold Rm.li at this
  have:=of_decide_eq_true this
  exact List.mem_of_mem_tail this
end
end Toy
namespace Toy
open PySem L2
seal PySem.wpAny
section
variable {P:Program} {w:World} {K:PySem.W.Frag} {mg:Str→Option Value} {base:Heap}
def arD (A:List Arrow) (k:Nat):Arrow:=(A[k]?).getD (0,0,0,0,0)
theorem arD_get {A:List Arrow} {k:Nat} (h:k < A.length):arD A k=A[k]:=by unfold arD; rw [List.getElem?_eq_getElem h]; rfl
def behindL (R:List Room1) (A:List Arrow) (chs:List Int) (l:List Nat):List Int:=l.foldl (fun ch k => goneL R ch (arD A k)) chs
def kI (R:List Room1) (chs:List Int):List Int:=(keptL R chs).map fun (j:Nat) => (j:Int)
end
end Toy
namespace Toy
open PySem L2
seal PySem.wpAny
section
variable {P:Program} {w:World} {K:PySem.W.Frag} {mg:Str→Option Value} {base:Heap}
def memL (R:List Room1) (chs:List Int):List Int:=(List.range R.length).map fun k => if kindAt R k = "keep" then chs.getD k (-1) else -1
end
end Toy
namespace Toy
open PySem L2
seal PySem.wpAny
section
variable {P:Program} {w:World} {K:PySem.W.Frag} {mg:Str→Option Value} {base:Heap}
def spRow:Sp:=fun vs H Q _ => ∃ (f d:Addr) (xs:List Int),vs=[.ref f,.ref d]∧H f=some (.tup (xs.map V.int))∧H d=some (.tup (xs.map V.int))∧xs.length≤100∧Q (.bl true) H
theorem scRow:FnScope ["found", "due", "k"] ["found", "due"] (defScope sRow):=⟨rfl,rfl,rfl,by decide +kernel,rfl,by decide +kernel,by decide +kernel⟩
theorem ok_row {f C:Addr} {fd:FuncData} (D:DefAt K mg "_law_row" sRow ["found", "due"] f fd) (T:Txt K mg C):FnOk P w K mg base CX0 1 f fd ["found", "due"] spRow:=by
  refine D.fn.ok scRow (fun vs H Q E h => ?_) (fun cdv A outer s H vs Q E hr h => ?_)
  · obtain ⟨a,d,xs,rfl,_⟩:=h
    rfl
  obtain ⟨a,d,xs,rfl,ha,hd,hx,q⟩:=h
  refine ⟨_,pss_cons (ps_if (PW.pt (pw_or (pt_not (pt_val (pe_callB call_isinst (by rfl) T.inst (by decide +kernel) (pa_cons (pv 0) (pa_cons (pe_bltn (by rfl) T.tup (by decide +kernel) (v:=.ty "tuple") rfl) pa_nil)))))
      (pw_or1 (pt_cmpR op_ne (pe_callB call_len_seq (by rfl) T.len PySem.boot_len (pa_cons (pv 0) pa_nil)) (pe_callB call_len_seq (by rfl) T.len PySem.boot_len (pa_cons (pv 1) pa_nil)) (nomark _))))) pss_never pss_nil)
    (pss_cons (ps_for PassesOwn.never rfl (pi_range1 rfl T.range (pa_cons (pe_callB call_len_seq (by rfl) T.len PySem.boot_len (pa_cons (pv 1) pa_nil)) pa_nil)) (pg_name (i := 2) scRow.nd rfl (Or.inl rfl))
      (pss_one (ps_if (PW.pt (pw_or (pt_val (pe_callB call_isinst (by rfl) T.inst (by decide +kernel) (pa_cons (pe_ix ix_tup (pv 0) (pv 2) (fun _ _ => rfl)) (pa_cons (pe_bltn (by rfl) T.tbool (by decide +kernel) (v:=.ty "bool") rfl) pa_nil))))
        (pw_or (pt_not (pt_val (pe_callB call_isinst (by rfl) T.inst (by decide +kernel) (pa_cons (pe_ix ix_tup (pv 0) (pv 2) (fun _ _ => rfl)) (pa_cons (pe_bltn (by rfl) T.tint (by decide +kernel) (v:=.ty "int") rfl) pa_nil)))))
        (pw_or1 (pt_cmpR op_ne (pe_ix ix_tup (pv 0) (pv 2) (fun _ _ => rfl)) (pe_ix ix_tup (pv 1) (pv 2) (fun _ _ => rfl)) (nomark _)))))) pss_never pss_nil)))
    (pss_one (ps_ret pe_bl))),?_⟩
  refine ⟨_,rfl,_,_,_,_,rfl,.tup ha,T.pp,_,rfl,?_⟩
  refine iteF ?_
  refine ⟨_,rfl,a,_,rfl,.inr (SqT.of ha),_,rfl,d,_,rfl,.inr (SqT.of hd),rfl,_,rfl,?_⟩
  refine iteNS rfl ?_
  refine ⟨_,rfl,d,_,rfl,.inr (SqT.of hd),_,rfl,by rw [List.length_map]; omega,by rw [List.length_map]; omega,?_⟩
  rw [List.length_map]
  refine for_range (fun i σ H1 => ∃ v,σ = [some (.ref a),some (.ref d),v]∧H1=H) ⟨_,rfl,rfl⟩ ?_ ?_
  · rintro i σ H1 hi ⟨v,rfl,rfl⟩
    have hi':i < xs.length:=by omega
    have ek:(0:Int) + (i:Int)=(i:Int):=by omega
    rw [ek]
    refine ⟨_,rfl,_,rfl,a,_,_,_,rfl,rfl,SqT.of ha,ints_get hi',_,_,_,_,rfl,.int _,T.ib,_,rfl,?_⟩
    refine iteF ?_
    refine ⟨_,rfl,_,rfl,a,_,_,_,rfl,rfl,SqT.of ha,ints_get hi',_,_,_,_,rfl,.int _,T.ii,_,rfl,?_⟩
    refine iteF ?_
    refine ⟨_,rfl,_,rfl,a,_,_,_,rfl,rfl,SqT.of ha,ints_get hi',_,rfl,_,rfl,d,_,_,_,rfl,rfl,SqT.of hd,ints_get hi',rfl,_,rfl,?_⟩
    refine iteNS rfl ?_
    exact ⟨_,rfl,rfl⟩
  · rintro σ H1 ⟨v,rfl,rfl⟩
    exact q
end
end Toy
namespace Toy
open PySem L2
seal PySem.wpAny
section
variable {P:Program} {w:World} {K:PySem.W.Frag} {mg:Str→Option Value} {base:Heap}
def spSame:Sp:=fun vs H Q _ => ∃ (f d fk fm dk dm:Addr) (ks ms:List Int),vs=[.ref f,.ref d]∧H f=some (.tup [.ref fk,.ref fm])∧H d=some (.tup [.ref dk,.ref dm])∧H fk=some (.tup (ks.map V.int))∧H dk=some (.tup (ks.map V.int)) ∧
  H fm=some (.tup (ms.map V.int))∧H dm=some (.tup (ms.map V.int))∧ks.length≤100∧ms.length≤100∧Q (.bl true) H
theorem scSame:FnScope ["found", "due"] ["found", "due"] (defScope sSame):=⟨rfl,rfl,rfl,by decide +kernel,rfl,by decide +kernel,by decide +kernel⟩
theorem ok_same {f C fr:Addr} {fd fdr:FuncData} (D:DefAt K mg "_law_same_state" sSame ["found", "due"] f fd) (T:Txt K mg C) (Dr:DefAt K mg "_law_row" sRow ["found", "due"] fr fdr):FnOk P w K mg base CX0 2 f fd ["found", "due"] spSame:=by
  have Gr:FnOk P w K mg base CX0 1 fr fdr ["found", "due"] spRow:=ok_row Dr T
  refine D.fn.ok scSame (fun vs H Q E h => ?_) (fun cdv A outer s H vs Q E hr h => ?_)
  · obtain ⟨f,d,fk,fm,dk,dm,ks,ms,rfl,_⟩:=h
    rfl
  obtain ⟨f,d,fk,fm,dk,dm,ks,ms,rfl,hf,hd,hfk,hdk,hfm,hdm,hk,hm,q⟩:=h
  refine ⟨_,pss_cons (ps_if (PW.pt (pw_or (pt_not (pt_val (pe_callB call_isinst (by rfl) T.inst (by decide +kernel) (pa_cons (pv 0) (pa_cons (pe_bltn (by rfl) T.tup (by decide +kernel) (v:=.ty "tuple") rfl) pa_nil)))))
      (pw_or1 (pt_cmpR op_ne (pe_callB call_len_seq (by rfl) T.len PySem.boot_len (pa_cons (pv 0) pa_nil)) pe_int (nomark _))))) pss_never pss_nil)
    (pss_one (ps_ret (pe_and (pe_call Gr hr rfl Dr.mg Dr.fn.kp Dr.bd .nil pass0 (pa_cons (pe_ix ix_tup (pv 0) pe_int (fun _ _ => rfl)) (pa_cons (pe_ix ix_tup (pv 1) pe_int (fun _ _ => rfl)) pa_nil)))
      (pe_one (pe_call Gr hr rfl Dr.mg Dr.fn.kp Dr.bd .nil pass0 (pa_cons (pe_ix ix_tup (pv 0) pe_int (fun _ _ => rfl)) (pa_cons (pe_ix ix_tup (pv 1) pe_int (fun _ _ => rfl)) pa_nil))))))),?_⟩
  refine ⟨_,rfl,_,_,_,_,rfl,.tup hf,T.pp,_,rfl,?_⟩
  refine iteF ?_
  refine ⟨_,rfl,f,_,rfl,.inr (SqT.of hf),rfl,_,rfl,?_⟩
  refine iteNS rfl ?_
  refine ⟨_,rfl,f,_,_,_,rfl,rfl,SqT.of hf,rfl,_,rfl,d,_,_,_,rfl,rfl,SqT.of hd,rfl,fk,dk,ks,rfl,hfk,hdk,hk,_,rfl,?_⟩
  refine iteT ?_
  exact ⟨_,rfl,f,_,_,_,rfl,rfl,SqT.of hf,rfl,_,rfl,d,_,_,_,rfl,rfl,SqT.of hd,rfl,fm,dm,ms,rfl,hfm,hdm,hm,q⟩
end
end Toy
namespace Toy
open PySem L2
seal PySem.wpAny
section
variable {P:Program} {w:World} {K:PySem.W.Frag} {mg:Str→Option Value} {base:Heap}
theorem memL_first {R:List Room1}:memL R (first0 R)=mem0 R:=by
  unfold memL mem0
  refine List.map_congr_left fun k hk => ?_
  have hk':=List.mem_range.mp hk
  by_cases h:kindAt R k = "keep"
  · rw [if_pos h,if_pos h,first0_get hk',if_pos (keep_choosing hk' h)]
  · rw [if_neg h,if_neg h]
theorem kinds_four {R:List Room1} (hG:Good R) {p:Nat} (hp:p < R.length):kindAt R p = "plain"∨kindAt R p = "one"∨kindAt R p = "all"∨kindAt R p = "keep" := by
  rw [kindAt_get hp]; exact (hG.kind p R[p] (List.getElem?_eq_getElem hp)).1
theorem holder_kind {R:List Room1} (hG:Good R) {p k:Nat} (hk:k∈Rm.kidsN (hsOf R) p):(kindAt R p = "all"∧choosing R p=false)∨(¬ kindAt R p = "all"∧choosing R p=true):=by
  have hlt:p < R.length:=by
    have a:=(Rm.mem_kidsN.mp hk).1
    rw [hsOf_len] at a
    exact Nat.lt_trans (Rm.kid_gt hG.tree hk) a
  rw [choosing_kind hlt]
  rcases kinds_four hG hlt with e | e | e | e
  · exfalso
    rw [kindAt_get hlt] at e
    have h1:=((hG.kind p R[p] (List.getElem?_eq_getElem hlt)).2).mp e
    rw [Rm.kids_kidsN] at h1
    rw [List.map_eq_nil_iff.mp h1] at hk
    cases hk
  · right; rw [e]; exact ⟨by decide +kernel,by decide +kernel⟩
  · left; rw [e]; exact ⟨rfl,by decide +kernel⟩
  · right; rw [e]; exact ⟨by decide +kernel,by decide +kernel⟩
theorem start_ok {R:List Room1} (hG:Good R):∀ k,0 < k→k < (hsOf R).length→(okL R (first0 R) (Rm.hold (hsOf R) k).toNat k=true ↔ k∈chOf R (mem0 R) 0 (Rm.hold (hsOf R) k).toNat):=by
  intro k h0 hk
  have hu:=hG.tree.up k h0 hk
  have hkl:=hk
  rw [hsOf_len] at hkl
  obtain ⟨p,ep⟩ : ∃ p:Nat,Rm.hold (hsOf R) k=(p:Int):=⟨(Rm.hold (hsOf R) k).toNat,by omega⟩
  rw [ep,Int.toNat_natCast]
  have hkid:k∈Rm.kidsN (hsOf R) p:=Rm.mem_kidsN.mpr ⟨hk,ep⟩
  have hp:p < R.length:=by omega
  unfold okL chOf
  rw [first0_get hp]
  rcases holder_kind hG hkid with ⟨a,b⟩ | ⟨a,b⟩
  · rw [decide_eq_true a,Bool.true_or,if_neg (by rw [b]; decide)]
    exact ⟨fun _ => hkid,fun _ => rfl⟩
  · rw [decide_eq_false a,Bool.false_or,if_pos b,if_pos b]
    have tw:((Rm.kidsN (hsOf R) p).filter fun q => Rm.wi (hsOf R) 0 q)=[]:=by
      rw [List.filter_eq_nil_iff]
      intro q hq z
      have:=Rm.kid_gt hG.tree hq
      rw [Rm.wi_end (Nat.zero_le q)] at z
      have:=of_decide_eq_true z
      omega
    rw [if_neg (by rw [tw]; simp)]
    rw [decide_eq_true_eq]
    by_cases hkp:kindAt R p = "keep"
    · rw [if_pos hkp,mem0_get hp,if_pos hkp,Int.toNat_natCast,List.mem_singleton]
      omega
    · rw [if_neg hkp,List.mem_singleton]
      omega
end
end Toy
namespace Toy
open PySem L2
seal PySem.wpAny
section
variable {P:Program} {w:World} {K:PySem.W.Frag} {mg:Str→Option Value} {base:Heap}
theorem set_getD {l:List Int} {i j:Nat} {x:Int} (h:i < l.length):(l.set i x).getD j (-1)=if j=i then x else l.getD j (-1):=by
  rw [List.getD_eq_getElem?_getD,List.getD_eq_getElem?_getD]
  by_cases z:j=i
  · subst z
    rw [List.getElem?_set_self h,if_pos rfl]; rfl
  · rw [List.getElem?_set_ne (fun y => z y.symm),if_neg z]
theorem fold_at {f:List Int→Nat→List Int} {n p:Nat} {v:Int} (hlen:∀ l k,(f l k).length=l.length) {yes:Nat→Prop}:∀ (ks:List Nat) (l:List Int),l.length=n→(∀ k∈ks,yes k→∀ l:List Int,l.length=n→(f l k).getD p (-1)=v)→(∀ k∈ks,¬ yes k→∀ l:List Int,(f l k).getD p (-1)=l.getD p (-1)) →
    ((∃ k∈ks,yes k)→(ks.foldl f l).getD p (-1)=v)∧((∀ k∈ks,¬ yes k)→(ks.foldl f l).getD p (-1)=l.getD p (-1))
  | [],l,_,_,_ => ⟨fun ⟨k,hk,_⟩ => by simp at hk,fun _ => rfl⟩
  | k :: ks,l,hl,hy,hn => by
    obtain ⟨i1,i2⟩:=fold_at hlen ks (f l k) ((hlen l k).trans hl) (fun x hx => hy x (List.mem_cons_of_mem _ hx)) (fun x hx => hn x (List.mem_cons_of_mem _ hx))
    rw [List.foldl_cons]
    refine ⟨fun ⟨x,hx,hyx⟩ => ?_,fun h => ?_⟩
    · by_cases z:∃ k∈ks,yes k
      · exact i1 z
      · have no:∀ y∈ks,¬ yes y:=fun y hy hyy => z ⟨y,hy,hyy⟩
        rw [i2 no]
        rcases List.mem_cons.mp hx with e | e
        · subst e; exact hy x List.mem_cons_self hyx l hl
        · exact absurd hyx (no x e)
    · rw [i2 fun y hy => h y (List.mem_cons_of_mem _ hy)]
      exact hn k List.mem_cons_self (h k List.mem_cons_self) l
structure ChOk (R:List Room1) (chs:List Int):Prop where
  len:chs.length=R.length
  pick:∀ p,p < R.length→choosing R p=true→∃ k∈Rm.kidsN (hsOf R) p,chs.getD p (-1)=(k:Int)
theorem first_ch {R:List Room1} (hG:Good R):ChOk R (first0 R):=by
  refine ⟨first0_len R,fun p hp hc => ⟨_,head_mem (kids_some hG hp hc),?_⟩⟩
  rw [first0_get hp,if_pos hc]
def OnWay (R:List Room1) (a:Arrow) (p k:Nat):Prop:=k∈Rm.chain (hsOf R) (tgtN a)∧Rm.hold (hsOf R) k=(p:Int)∧scA R a < k
theorem pre_mem {hs:List Int} {t g k:Nat} (hg:g∈Rm.chain hs t):k∈preOf hs t g ↔ k∈Rm.chain hs t∧g < k:=by
  refine ⟨pre_pos hg,fun ⟨hk,hgk⟩ => ?_⟩
  unfold preOf
  have hm:(g:Int)∈(Rm.chain hs t).map fun (j:Nat) => (j:Int):=List.mem_map.mpr ⟨g,hg,rfl⟩
  have hj:=List.idxOf_lt_length_iff.mpr hm
  have hj2:=hj
  rw [List.length_map] at hj2
  have eg:=List.getElem_idxOf hj
  rw [List.getElem_map] at eg
  obtain ⟨i,hi,e⟩:=List.mem_iff_getElem.mp hk
  refine List.mem_take_iff_getElem.mpr ⟨i,?_,e⟩
  have hlt:i < ((Rm.chain hs t).map fun (j:Nat) => (j:Int)).idxOf (g:Int):=by
    rcases Nat.lt_trichotomy i (((Rm.chain hs t).map fun (j:Nat) => (j:Int)).idxOf (g:Int)) with y | y | y
    · exact y
    · have eg':((Rm.chain hs t)[i]:Int)=(g:Int):=by
        simp only [y]; exact eg
      omega
    · have:=List.pairwise_iff_getElem.mp (chain_desc (hs:=hs) t) _ i hj2 hi y
      omega
  omega
theorem chain_hold {hs:List Int}:∀ (t:Nat) {k k':Nat},k∈Rm.chain hs t→k'∈Rm.chain hs t→Rm.hold hs k=Rm.hold hs k'→0≤Rm.hold hs k→Rm.hold hs k < (k:Int)→Rm.hold hs k' < (k':Int)→k=k':=by
  intro t k k' hk hk' e h0 h1 h2
  rcases Nat.lt_trichotomy k k' with z | z | z
  · have:=Rm.chain_mono t hk hk' (by omega)
    rw [Rm.chain_up ⟨by omega,h2⟩] at this
    rcases List.mem_cons.mp this with y | y
    · exact y
    · have:=Rm.chain_le _ y
      omega
  · exact z
  · have:=Rm.chain_mono t hk' hk (by omega)
    rw [Rm.chain_up ⟨by omega,h1⟩] at this
    rcases List.mem_cons.mp this with y | y
    · exact y.symm
    · have:=Rm.chain_le _ y
      omega
theorem tail_way {R:List Room1} (hG:Good R):∀ {t:Nat} {g:Nat},t < R.length→g∈(Rm.chain (hsOf R) t).tail→∃ k,k∈Rm.chain (hsOf R) t∧Rm.hold (hsOf R) k=(g:Int)∧g < k:=by
  intro t
  induction t using Nat.strongRecOn with
  | ind t ih =>
    intro g ht hg
    by_cases z : 0≤Rm.hold (hsOf R) t∧Rm.hold (hsOf R) t < (t:Int)
    · rw [Rm.chain_up z] at hg ⊢
      have hg':g∈Rm.chain (hsOf R) (Rm.hold (hsOf R) t).toNat:=hg
      by_cases e:g=(Rm.hold (hsOf R) t).toNat
      · exact ⟨t,List.mem_cons_self,by omega,by omega⟩
      · have hc:Rm.chain (hsOf R) (Rm.hold (hsOf R) t).toNat=(Rm.hold (hsOf R) t).toNat :: (Rm.chain (hsOf R) (Rm.hold (hsOf R) t).toNat).tail:=by rw [Rm.chain]; split <;> rfl
        rw [hc] at hg'
        rcases List.mem_cons.mp hg' with y | y
        · exact absurd y e
        · obtain ⟨k,k1,k2,k3⟩:=ih _ (by omega) (by omega) y
          exact ⟨k,List.mem_cons_of_mem _ k1,k2,k3⟩
    · rw [Rm.chain,dif_neg z] at hg
      simp at hg
section
variable {R:List Room1} {a:Arrow} {chs:List Int}
theorem chain_lt {R:List Room1} (hG:Good R) {t k:Nat} (ht:t < R.length) (hk:k∈Rm.chain (hsOf R) t):k < R.length:=Nat.lt_of_le_of_lt (Rm.chain_le _ hk) ht
theorem way_hold (hG:Good R) (hA:GoodA R a) {k:Nat} (hk:k∈preOf (hsOf R) (tgtN a) (scA R a)):k∈Rm.chain (hsOf R) (tgtN a)∧scA R a < k∧0≤Rm.hold (hsOf R) k∧Rm.hold (hsOf R) k < (k:Int)∧k < R.length:=by
  obtain ⟨h1,h2⟩:=(pre_mem (sc_in_tgt hA)).mp hk
  have hl:=chain_lt hG (tgt_int hA).2 h1
  have:=hG.tree.up k (by omega) (by rw [hsOf_len]; exact hl)
  exact ⟨h1,h2,this.1,this.2,hl⟩
theorem gone_way (hG:Good R) (hA:GoodA R a) (hc:chs.length=R.length) {p k:Nat} (hw:OnWay R a p k) (hp:p < R.length) (hn:¬ kindAt R p = "all"):(goneL R chs a).getD p (-1)=(k:Int):=by
  obtain ⟨w1,w2,w3⟩:=hw
  have hkp:k∈preOf (hsOf R) (tgtN a) (scA R a):=(pre_mem (sc_in_tgt hA)).mpr ⟨w1,w3⟩
  obtain ⟨_,_,q3,q4,_⟩:=way_hold hG hA hkp
  unfold goneL
  refine (fold_at (n:=R.length) (yes:=fun x => Rm.hold (hsOf R) x=(p:Int)) (stB_len R) _ _ (by rw [fold_len (stA_len R _)]; exact hc) (fun x hx hy l hl => ?_) (fun x hx hy l => ?_)).1 ⟨k,hkp,w2⟩
  · obtain ⟨c1,c2,c3,c4,_⟩:=way_hold hG hA hx
    have hy':Rm.hold (hsOf R) x=(p:Int):=hy
    have e:x=k:=chain_hold (tgtN a) c1 w1 (by rw [hy',w2]) c3 c4 q4
    subst e
    have e2:(Rm.hold (hsOf R) x).toNat=p:=by omega
    rw [stB_set l (by rw [e2]; exact hn),e2,set_getD (by omega),if_pos rfl]
  · obtain ⟨c1,c2,c3,c4,_⟩:=way_hold hG hA hx
    have hy':¬ Rm.hold (hsOf R) x=(p:Int):=hy
    unfold stB
    split
    · rfl
    · by_cases hlen:(Rm.hold (hsOf R) x).toNat < l.length
      · rw [set_getD hlen,if_neg (by omega)]
      · rw [List.set_eq_of_length_le (by omega)]
theorem gone_else (hG:Good R) (hA:GoodA R a) (hc:chs.length=R.length) {p:Nat} (hw:∀ k,¬ OnWay R a p k) (hp:p < R.length) :
    (goneL R chs a).getD p (-1)=if (decide (kindAt R p = "one") && Rm.li (hsOf R) p (scA R a))=true then (first0 R).getD p (-1) else chs.getD p (-1):=by
  unfold goneL
  rw [(fold_at (n:=R.length) (v := 0) (yes:=fun x => Rm.hold (hsOf R) x=(p:Int)) (stB_len R) _ _ (by rw [fold_len (stA_len R _)]; exact hc) (fun x hx hy l hl => ?_) (fun x hx hy l => ?_)).2 fun x hx hy => ?_]
  · obtain ⟨f1,f2⟩:=fold_at (f:=stA R (scA R a)) (n:=R.length) (p:=p) (v:=(first0 R).getD p (-1)) (yes:=fun x => x=p∧(decide (kindAt R p = "one") && Rm.li (hsOf R) p (scA R a))=true) (stA_len R _) (List.range R.length) chs hc (fun x hx hy l hl => by
        obtain ⟨e,hy⟩:=hy
        subst e
        rw [stA_yes l hy,set_getD (by omega),if_pos rfl]) (fun x hx hy l => by
        unfold stA
        split
        · rename_i hz
          have nx:¬ p=x:=fun e => hy ⟨e.symm,by rw [e]; exact hz⟩
          by_cases hlen:x < l.length
          · rw [set_getD hlen,if_neg nx]
          · rw [List.set_eq_of_length_le (by omega)]
        · rfl)
    by_cases z:(decide (kindAt R p = "one") && Rm.li (hsOf R) p (scA R a))=true
    · rw [if_pos z]; exact f1 ⟨p,List.mem_range.mpr hp,rfl,z⟩
    · rw [if_neg z]; exact f2 fun x _ hy => z hy.2
  · obtain ⟨c1,c2,_⟩:=way_hold hG hA hx
    exact absurd ⟨c1,hy,c2⟩ (hw x)
  · obtain ⟨c1,c2,c3,c4,_⟩:=way_hold hG hA hx
    have hy':¬ Rm.hold (hsOf R) x=(p:Int):=hy
    unfold stB
    split
    · rfl
    · by_cases hlen:(Rm.hold (hsOf R) x).toNat < l.length
      · rw [set_getD hlen,if_neg (by omega)]
      · rw [List.set_eq_of_length_le (by omega)]
  · obtain ⟨c1,c2,_⟩:=way_hold hG hA hx
    exact hw x ⟨c1,hy,c2⟩
theorem way_in (hG:Good R) (hA:GoodA R a) {p k:Nat} (hw:OnWay R a p k):p < R.length∧k∈Rm.kidsN (hsOf R) p∧Rm.wi (hsOf R) p (scA R a)=true∧Rm.wi (hsOf R) (tgtN a) k=true:=by
  obtain ⟨w1,w2,w3⟩:=hw
  obtain ⟨c1,c2,c3,c4,c5⟩:=way_hold hG hA ((pre_mem (sc_in_tgt hA)).mpr ⟨w1,w3⟩)
  have hk:k∈Rm.kidsN (hsOf R) p:=Rm.mem_kidsN.mpr ⟨by rw [hsOf_len]; exact c5,w2⟩
  have hm:=Rm.chain_mono (tgtN a) (sc_in_tgt hA) w1 (by omega)
  rw [Rm.chain_kid hG.tree hk] at hm
  refine ⟨by omega,hk,?_,decide_eq_true w1⟩
  rcases List.mem_cons.mp hm with y | y
  · omega
  · exact decide_eq_true y
theorem gone_ch (hG:Good R) (hA:GoodA R a) (hc:ChOk R chs):ChOk R (goneL R chs a):=by
  refine ⟨by rw [goneL_len]; exact hc.len,fun p hp hch => ?_⟩
  have hna:¬ kindAt R p = "all" := fun z => by
    rw [choosing_kind hp,z] at hch
    revert hch; decide +kernel
  by_cases hw:∃ k,OnWay R a p k
  · obtain ⟨k,hw⟩:=hw
    exact ⟨k,(way_in hG hA hw).2.1,gone_way hG hA hc.len hw hp hna⟩
  · rw [gone_else hG hA hc.len (fun k z => hw ⟨k,z⟩) hp]
    split
    · exact (first_ch hG).pick p hp hch
    · exact hc.pick p hp hch
theorem gone_out (hG:Good R) (hA:GoodA R a) (hc:chs.length=R.length) {p:Nat} (hp:p < R.length) (hw:Rm.wi (hsOf R) p (scA R a)=false):(goneL R chs a).getD p (-1)=chs.getD p (-1):=by
  rw [gone_else hG hA hc (fun k z => by rw [(way_in hG hA z).2.2.1] at hw; cases hw) hp,if_neg]
  rw [Rm.li_eq,hw]
  simp
theorem kb_out (hG:Good R) (hA:GoodA R a) (hc:chs.length=R.length):∀ k,k < R.length→(Rm.wi (hsOf R) k (scA R a)=false∨k=scA R a)→Rm.kb (okL R (goneL R chs a)) (hsOf R) k=Rm.kb (okL R chs) (hsOf R) k:=by
  intro k
  induction k using Nat.strongRecOn with
  | ind k ih =>
    intro hk hw
    by_cases z:k=0
    · subst z; rw [Rm.kb_root hG.tree,Rm.kb_root hG.tree]
    · have hl:k < (hsOf R).length:=by rw [hsOf_len]; exact hk
      have hu:=hG.tree.up k (by omega) hl
      rw [Rm.kb_up hG.tree (by omega) hl,Rm.kb_up hG.tree (by omega) hl]
      have hpl:(Rm.hold (hsOf R) k).toNat < R.length:=by omega
      have hpw:Rm.wi (hsOf R) (Rm.hold (hsOf R) k).toNat (scA R a)=false:=by
        cases y:Rm.wi (hsOf R) (Rm.hold (hsOf R) k).toNat (scA R a) with
        | false => rfl
        | true =>
          have y1:scA R a∈Rm.chain (hsOf R) (Rm.hold (hsOf R) k).toNat:=of_decide_eq_true y
          have le:=Rm.chain_le _ y1
          rcases hw with hw | hw
          · have:Rm.wi (hsOf R) k (scA R a)=true:=decide_eq_true (by rw [Rm.chain_up hu]; exact List.mem_cons_of_mem _ y1)
            rw [this] at hw; cases hw
          · omega
      rw [ih _ (by omega) hpl (.inl hpw)]
      congr 1
      unfold okL
      rw [gone_out hG hA hc hpl hpw]
theorem ok_in (hG:Good R) (hA:GoodA R a) (hc:ChOk R chs) {mem:List Int} (hm:∀ p,p < R.length→kindAt R p = "keep"→Rm.wi (hsOf R) p (scA R a)=true→mem.getD p (-1)=chs.getD p (-1)) {p k:Nat} (hk:k∈Rm.kidsN (hsOf R) p) (hp:p < R.length) (hw:Rm.wi (hsOf R) p (scA R a)=true) :
    okL R (goneL R chs a) p k=true ↔ k∈chOf R mem (tgtN a) p:=by
  unfold okL chOf
  rcases holder_kind hG hk with ⟨h1,h2⟩ | ⟨h1,h2⟩
  · rw [if_neg (by rw [h2]; decide),decide_eq_true h1]
    simp [hk]
  · rw [if_pos h2,decide_eq_false h1,Bool.false_or,decide_eq_true_eq]
    have gi:scA R a∈Rm.chain (hsOf R) p:=of_decide_eq_true hw
    have gle:=Rm.chain_le _ gi
    have kid_way:∀ x∈Rm.kidsN (hsOf R) p,Rm.wi (hsOf R) (tgtN a) x=true→OnWay R a p x:=fun x hx hy => by
      have:=Rm.kid_gt hG.tree hx
      exact ⟨of_decide_eq_true hy,(Rm.mem_kidsN.mp hx).2,by omega⟩
    by_cases hex:∃ x,OnWay R a p x
    · obtain ⟨x,hx⟩:=hex
      obtain ⟨_,wx2,_,wx4⟩:=way_in hG hA hx
      rw [gone_way hG hA hc.len hx hp h1]
      have hmemx:x∈(Rm.kidsN (hsOf R) p).filter fun y => Rm.wi (hsOf R) (tgtN a) y:=List.mem_filter.mpr ⟨wx2,wx4⟩
      rw [if_pos (fun z => by rw [z] at hmemx; simp at hmemx),List.mem_filter]
      have key:∀ y∈Rm.kidsN (hsOf R) p,Rm.wi (hsOf R) (tgtN a) y=true→y=x:=fun y hy hyw => by
        have wy:=kid_way y hy hyw
        have g1:=Rm.kid_gt hG.tree hy
        have g2:=Rm.kid_gt hG.tree wx2
        exact chain_hold (tgtN a) wy.1 hx.1 (by rw [wy.2.1,hx.2.1]) (by rw [wy.2.1]; omega) (by rw [wy.2.1]; omega) (by rw [hx.2.1]; omega)
      constructor
      · intro z
        have:k=x:=by omega
        rw [this]; exact ⟨wx2,wx4⟩
      · rintro ⟨z1,z2⟩
        rw [key k z1 z2]
    · have none:((Rm.kidsN (hsOf R) p).filter fun y => Rm.wi (hsOf R) (tgtN a) y)=[]:=List.filter_eq_nil_iff.mpr fun x hx hy => hex ⟨x,kid_way x hx hy⟩
      rw [none,if_neg (fun z => z rfl),gone_else hG hA hc.len (fun x z => hex ⟨x,z⟩) hp]
      have hkk:=choosing_kind hp
      rw [h2] at hkk
      have hkk':kindAt R p = "one"∨kindAt R p = "keep" := of_decide_eq_true hkk.symm
      by_cases hkeep:kindAt R p = "keep"
      · rw [if_pos hkeep,decide_eq_false (show ¬ kindAt R p = "one" by rw [hkeep]; decide +kernel),Bool.false_and,if_neg (by decide),hm p hp hkeep hw]
        obtain ⟨y,hy,ey⟩:=hc.pick p hp h2
        rw [ey,Int.toNat_natCast]
        simp
        omega
      · have hone:kindAt R p = "one" := hkk'.resolve_right hkeep
        have hpg:p≠scA R a:=fun e => by
          obtain ⟨q,hq⟩:=hA.sc
          have hli:=(scope_in hq).2.2
          have hsc:scA R a=q:=by unfold scA; rw [hq]; rfl
          have hli':scA R a∈(Rm.chain (hsOf R) (tgtN a)).tail:=by rw [hsc]; exact of_decide_eq_true hli
          exact hex (by rw [e]; exact tail_way hG (tgt_int hA).2 hli')
        rw [if_neg hkeep,decide_eq_true hone,Bool.true_and,Rm.li_eq,hw,decide_eq_false hpg]
        rw [if_pos (by decide),first0_get hp,if_pos h2]
        simp
        omega
end
theorem kept_mem {R:List Room1} {chs:List Int} {k:Nat}:k∈keptL R chs ↔ k < R.length∧Rm.kb (okL R chs) (hsOf R) k=true:=by
  unfold keptL
  rw [List.mem_filter,List.mem_range]
theorem kept_nodup (R:List Room1) (chs:List Int):(keptL R chs).Nodup:=List.Pairwise.filter _ List.nodup_range
theorem kept_len (R:List Room1) (chs:List Int):(keptL R chs).length≤R.length:=by
  have:=List.length_filter_le (Rm.kb (okL R chs) (hsOf R)) (List.range R.length)
  rw [List.length_range] at this
  exact this
theorem kb_hold {R:List Room1} (hG:Good R) {ok:Nat→Nat→Bool} {k:Nat} (h0 : 0 < k) (hk:k < R.length) (h:Rm.kb ok (hsOf R) k=true):Rm.kb ok (hsOf R) (Rm.hold (hsOf R) k).toNat=true∧ok (Rm.hold (hsOf R) k).toNat k=true:=by
  rw [Rm.kb_up hG.tree h0 (by rw [hsOf_len]; exact hk),Bool.and_eq_true] at h
  exact h
theorem kb_chain {R:List Room1} (hG:Good R) {ok:Nat→Nat→Bool}:∀ {k g:Nat},k < R.length→g∈Rm.chain (hsOf R) k→Rm.kb ok (hsOf R) k=true→Rm.kb ok (hsOf R) g=true:=by
  intro k
  induction k using Nat.strongRecOn with
  | ind k ih =>
    intro g hk hg h
    by_cases z : 0≤Rm.hold (hsOf R) k∧Rm.hold (hsOf R) k < (k:Int)
    · rw [Rm.chain_up z] at hg
      rcases List.mem_cons.mp hg with e | e
      · rw [e]; exact h
      · have h0 : 0 < k:=by omega
        exact ih _ (by omega) (by omega) e (kb_hold hG h0 hk h).1
    · rw [Rm.chain,dif_neg z] at hg
      rw [List.mem_singleton.mp hg]; exact h
section
variable {R:List Room1} {a:Arrow} {chs mem:List Int}
theorem ent_kept (hG:Good R) (hA:GoodA R a) (hc:ChOk R chs) (hM:MemOk R mem) (hm:∀ p,p < R.length→kindAt R p = "keep"→Rm.wi (hsOf R) p (scA R a)=true→mem.getD p (-1)=chs.getD p (-1)) (hk:Rm.kb (okL R chs) (hsOf R) (scA R a)=true) :
    ∀ k,k∈Rm.ent (chOf R mem (tgtN a)) 16 (scA R a) ↔ k < R.length∧Rm.wi (hsOf R) k (scA R a)=true∧Rm.kb (okL R (goneL R chs a)) (hsOf R) k=true:=by
  have P:=chOf_pick hG hM (tgtN a)
  have hs:=scA_lt hA
  have hsl:scA R a < (hsOf R).length:=by rw [hsOf_len]; exact hs
  have hself:Rm.wi (hsOf R) (scA R a) (scA R a)=true:=decide_eq_true (Rm.chain_self _ _)
  have hkg:Rm.kb (okL R (goneL R chs a)) (hsOf R) (scA R a)=true:=by rw [kb_out hG hA hc.len _ hs (.inr rfl)]; exact hk
  intro k
  induction k using Nat.strongRecOn with
  | ind k ih =>
    constructor
    · intro h
      obtain ⟨h1,h2⟩:=Rm.ent_sub hG.tree P 16 _ k hsl h
      rw [hsOf_len] at h1
      refine ⟨h1,decide_eq_true h2,?_⟩
      rcases Rm.ent_back hG.tree P 16 _ k hsl h with e | ⟨b1,b2,b3⟩
      · rw [e]; exact hkg
      · have hu:=hG.tree.up k b3 (by rw [hsOf_len]; exact h1)
        obtain ⟨i1,i2,i3⟩:=(ih _ (by omega)).mp b2
        rw [Rm.kb_up hG.tree b3 (by rw [hsOf_len]; exact h1),i3,Bool.true_and]
        have hkid:k∈Rm.kidsN (hsOf R) (Rm.hold (hsOf R) k).toNat:=Rm.mem_kidsN.mpr ⟨by rw [hsOf_len]; exact h1,by omega⟩
        exact (ok_in hG hA hc hm hkid i1 i2).mpr b1
    · rintro ⟨h1,h2,h3⟩
      by_cases e:k=scA R a
      · rw [e]
        exact List.mem_cons_self
      · have hg:scA R a∈Rm.chain (hsOf R) k:=of_decide_eq_true h2
        have hle:=Rm.chain_le _ hg
        have h0 : 0 < k:=by omega
        have hl:k < (hsOf R).length:=by rw [hsOf_len]; exact h1
        have hu:=hG.tree.up k h0 hl
        rw [Rm.chain_up hu] at hg
        have hg':scA R a∈Rm.chain (hsOf R) (Rm.hold (hsOf R) k).toNat:=by
          rcases List.mem_cons.mp hg with y | y
          · exact absurd y.symm e
          · exact y
        obtain ⟨j1,j2⟩:=kb_hold hG h0 h1 h3
        have hpl:(Rm.hold (hsOf R) k).toNat < R.length:=by omega
        have hw:=decide_eq_true hg'
        have hp:=(ih _ (by omega)).mpr ⟨hpl,hw,j1⟩
        have hkid:k∈Rm.kidsN (hsOf R) (Rm.hold (hsOf R) k).toNat:=Rm.mem_kidsN.mpr ⟨hl,by omega⟩
        exact Rm.ent_next hG.tree P 16 _ _ k hsl (by rw [hsOf_len]; have:=hG.most; omega) hp ((ok_in hG hA hc hm hkid hpl hw).mp j2)
theorem mov_mem (hG:Good R) (hA:GoodA R a) (hc:ChOk R chs) (hM:MemOk R mem) (hm:∀ p,p < R.length→kindAt R p = "keep"→Rm.wi (hsOf R) p (scA R a)=true→mem.getD p (-1)=chs.getD p (-1)) (hk:Rm.kb (okL R chs) (hsOf R) (scA R a)=true) :
    ∀ k,k∈movL R mem a (keptL R chs) ↔ k∈keptL R (goneL R chs a):=by
  intro k
  unfold movL stayL
  rw [List.mem_append,List.mem_filter,kept_mem,kept_mem]
  have he:=ent_kept hG hA hc hM hm hk k
  have e1:k∈Rm.ent (chOf R mem a.2.2.2.1.toNat) 16 (scA R a) ↔ k < R.length∧Rm.wi (hsOf R) k (scA R a)=true∧Rm.kb (okL R (goneL R chs a)) (hsOf R) k=true:=he
  rw [e1]
  cases hw:Rm.wi (hsOf R) k (scA R a) with
  | true => simp
  | false =>
    constructor
    · rintro (⟨⟨x1,x2⟩,_⟩ | ⟨_,x,_⟩)
      · exact ⟨x1,by rw [kb_out hG hA hc.len k x1 (.inl hw)]; exact x2⟩
      · cases x
    · rintro ⟨x1,x2⟩
      exact .inl ⟨⟨x1,by rw [← kb_out hG hA hc.len k x1 (.inl hw)]; exact x2⟩,by rfl⟩
theorem mov_nodup (hG:Good R) (hA:GoodA R a) (hM:MemOk R mem):(movL R mem a (keptL R chs)).Nodup:=by
  have hsl:scA R a < (hsOf R).length:=by rw [hsOf_len]; exact scA_lt hA
  have P:=chOf_pick hG hM a.2.2.2.1.toNat
  unfold movL stayL
  rw [List.nodup_append]
  refine ⟨List.Pairwise.filter _ (kept_nodup R chs),Rm.ent_nodup hG.tree P 16 _ hsl,fun x hx y hy e => ?_⟩
  subst e
  have h1:=(List.mem_filter.mp hx).2
  have h2:=(Rm.ent_sub hG.tree P 16 _ x hsl hy).2
  rw [show Rm.wi (hsOf R) x (scA R a)=true from decide_eq_true h2] at h1
  cases h1
theorem mov_sorted (hG:Good R) (hA:GoodA R a) (hc:ChOk R chs) (hM:MemOk R mem) (hm:∀ p,p < R.length→kindAt R p = "keep"→Rm.wi (hsOf R) p (scA R a)=true→mem.getD p (-1)=chs.getD p (-1)) (hk:Rm.kb (okL R chs) (hsOf R) (scA R a)=true)
    {ns:List Int} (hp:ns.Perm (iN (movL R mem a (keptL R chs)))) (hs:ns.Pairwise (·≤·)):ns=kI R (goneL R chs a):=by
  have hq:(movL R mem a (keptL R chs)).Perm (keptL R (goneL R chs a)):=(List.perm_ext_iff_of_nodup (mov_nodup hG hA hM) (kept_nodup R _)).mpr (mov_mem hG hA hc hM hm hk)
  refine (hp.trans (hq.map _)).eq_of_pairwise (fun a b _ _ h1 h2 => Int.le_antisymm h1 h2) hs ?_
  unfold kI
  rw [List.pairwise_map]
  exact (List.Pairwise.filter _ List.pairwise_lt_range).imp fun h => by omega
end
theorem memL_get {R:List Room1} {chs:List Int} {p:Nat} (hp:p < R.length):(memL R chs).getD p (-1)=if kindAt R p = "keep" then chs.getD p (-1) else -1:=by
  unfold memL
  rw [List.getD_eq_getElem?_getD,List.getElem?_map,List.getElem?_range hp]; rfl
theorem memL_ok {R:List Room1} {chs:List Int} (hc:ChOk R chs):MemOk R (memL R chs):=by
  refine ⟨by simp [memL],fun r hr hk => ?_⟩
  rw [memL_get hr,if_pos hk]
  exact hc.pick r hr (keep_choosing hr hk)
def Apart (R:List Room1) (A:List Arrow) (l:List Nat):Prop:=l.Pairwise fun i j => clB R (arD A i) (arD A j)=false
theorem apart_of {R:List Room1} {A:List Arrow}:∀ {l:List Nat},(∀ i∈l,i < A.length)→pairOf (clA R A) l=Option.none→Apart R A l
  | [],_,_ => List.Pairwise.nil
  | x :: l,hl,h => by
    have h':(match l.find? (clA R A x) with | some y => some (x,y) | Option.none => pairOf (clA R A) l)=Option.none:=h
    cases z:l.find? (clA R A x) with
    | some y => rw [z] at h'; cases h'
    | none =>
      rw [z] at h'
      refine List.Pairwise.cons (fun y hy => ?_) (apart_of (fun i hi => hl i (List.mem_cons_of_mem _ hi)) h')
      have q:=List.find?_eq_none.mp z y hy
      have hx:=hl x List.mem_cons_self
      have hyl:=hl y (List.mem_cons_of_mem _ hy)
      rw [clA_get (List.getElem?_eq_getElem hx) (List.getElem?_eq_getElem hyl)] at q
      rw [arD_get hx,arD_get hyl]
      simpa using q
theorem clB_not {R:List Room1} {a b:Arrow} (h:clB R a b=false):Rm.wi (hsOf R) (scA R a) (scA R b)=false∧Rm.wi (hsOf R) (scA R b) (scA R a)=false:=by
  unfold clB at h
  rwa [Bool.or_eq_false_iff] at h
theorem apart_in {R:List Room1} {a b:Arrow} (h:clB R a b=false) {p:Nat} (ha:Rm.wi (hsOf R) p (scA R a)=true) (hb:Rm.wi (hsOf R) p (scA R b)=true):False:=by
  obtain ⟨h1,h2⟩:=clB_not h
  have ga:scA R a∈Rm.chain (hsOf R) p:=of_decide_eq_true ha
  have gb:scA R b∈Rm.chain (hsOf R) p:=of_decide_eq_true hb
  rcases Nat.le_total (scA R a) (scA R b) with z | z
  · have:=Rm.chain_mono p ga gb z
    rw [show Rm.wi (hsOf R) (scA R b) (scA R a)=true from decide_eq_true this] at h2; cases h2
  · have:=Rm.chain_mono p gb ga z
    rw [show Rm.wi (hsOf R) (scA R a) (scA R b)=true from decide_eq_true this] at h1; cases h1
structure Ahead (R:List Room1) (A:List Arrow) (chs0 chs:List Int) (l:List Nat):Prop where
  ch:ChOk R chs
  same:∀ k∈l,∀ p,p < R.length→Rm.wi (hsOf R) p (scA R (arD A k))=true→chs.getD p (-1)=chs0.getD p (-1)
  kept:∀ k∈l,Rm.kb (okL R chs) (hsOf R) (scA R (arD A k))=true
theorem Ahead.next {R:List Room1} (hG:Good R) {A:List Arrow} (hA:∀ x∈A,GoodA R x) {chs0 chs:List Int} {k:Nat} {l:List Nat} (h:Ahead R A chs0 chs (k :: l)) (hl:∀ i∈k :: l,i < A.length) (ap:Apart R A (k :: l)):Ahead R A chs0 (goneL R chs (arD A k)) l:=by
  have ga:∀ i∈k :: l,GoodA R (arD A i):=fun i hi => by rw [arD_get (hl i hi)]; exact hA _ (List.getElem_mem _)
  have gk:=ga k List.mem_cons_self
  refine ⟨gone_ch hG gk h.ch,fun j hj p hp hw => ?_,fun j hj => ?_⟩
  · have hc:=List.rel_of_pairwise_cons ap hj
    have hn:Rm.wi (hsOf R) p (scA R (arD A k))=false:=by
      cases z:Rm.wi (hsOf R) p (scA R (arD A k)) with
      | false => rfl
      | true => exact (apart_in hc z hw).elim
    rw [gone_out hG gk h.ch.len hp hn]
    exact h.same j (List.mem_cons_of_mem _ hj) p hp hw
  · have hc:=List.rel_of_pairwise_cons ap hj
    rw [kb_out hG gk h.ch.len _ (scA_lt (ga j (List.mem_cons_of_mem _ hj))) (.inl (clB_not hc).2)]
    exact h.kept j (List.mem_cons_of_mem _ hj)
theorem rem_get {R:List Room1} (hG:Good R) {chs mem:List Int} (hm:mem.length=R.length) {p:Nat} (hp:p < R.length) :
    (remL R (keptL R chs) mem).getD p (-1)=if kindAt R p = "keep"∧Rm.kb (okL R chs) (hsOf R) p=true∧(∃ k,k < R.length∧Rm.hold (hsOf R) k=(p:Int)∧chs.getD p (-1)=(k:Int)) then chs.getD p (-1) else mem.getD p (-1):=by
  unfold remL
  have hf:=fold_at (f:=remS R) (n:=R.length) (p:=p) (v:=chs.getD p (-1)) (yes:=fun x => Rm.hold (hsOf R) x=(p:Int)∧kindAt R p = "keep") (remS_len R) (keptL R chs) mem hm (fun x hx hy l hl => by
      obtain ⟨y1,y2⟩:=hy
      obtain ⟨k1,k2⟩:=kept_mem.mp hx
      have h0 : 0 < x:=by
        rcases Nat.eq_zero_or_pos x with z | z
        · rw [z,hG.tree.root] at y1; omega
        · exact z
      have e2:(Rm.hold (hsOf R) x).toNat=p:=by omega
      obtain ⟨_,j2⟩:=kb_hold hG h0 k1 k2
      rw [e2] at j2
      unfold okL at j2
      rw [decide_eq_false (show ¬ kindAt R p = "all" by rw [y2]; decide +kernel),Bool.false_or,decide_eq_true_eq] at j2
      unfold remS
      rw [if_pos ⟨by omega,by rw [e2]; exact y2⟩,e2,set_getD (by omega),if_pos rfl,j2]) (fun x hx hy l => by
      unfold remS
      split
      · rename_i hz
        have ne:¬ p=(Rm.hold (hsOf R) x).toNat:=fun e => hy ⟨by omega,by rw [e]; exact hz.2⟩
        by_cases hlen:(Rm.hold (hsOf R) x).toNat < l.length
        · rw [set_getD hlen,if_neg ne]
        · rw [List.set_eq_of_length_le (by omega)]
      · rfl)
  by_cases z:kindAt R p = "keep"∧Rm.kb (okL R chs) (hsOf R) p=true∧(∃ k,k < R.length∧Rm.hold (hsOf R) k=(p:Int)∧chs.getD p (-1)=(k:Int))
  · rw [if_pos z]
    obtain ⟨z1,z2,k,k1,k2,k3⟩:=z
    refine hf.1 ⟨k,kept_mem.mpr ⟨k1,?_⟩,k2,z1⟩
    have h0 : 0 < k:=by
      rcases Nat.eq_zero_or_pos k with y | y
      · rw [y,hG.tree.root] at k2; omega
      · exact y
    rw [Rm.kb_up hG.tree h0 (by rw [hsOf_len]; exact k1),k2,Int.toNat_natCast,z2,Bool.true_and]
    unfold okL
    rw [k3,decide_eq_true rfl,Bool.or_true]
  · rw [if_neg z]
    refine hf.2 fun x hx hy => z ?_
    obtain ⟨y1,y2⟩:=hy
    obtain ⟨k1,k2⟩:=kept_mem.mp hx
    have h0 : 0 < x:=by
      rcases Nat.eq_zero_or_pos x with q | q
      · rw [q,hG.tree.root] at y1; omega
      · exact q
    obtain ⟨j1,j2⟩:=kb_hold hG h0 k1 k2
    have e2:(Rm.hold (hsOf R) x).toNat=p:=by omega
    rw [e2] at j1 j2
    unfold okL at j2
    rw [decide_eq_false (show ¬ kindAt R p = "all" by rw [y2]; decide +kernel),Bool.false_or,decide_eq_true_eq] at j2
    exact ⟨y2,j1,x,k1,y1,j2⟩
def Stayed (R:List Room1) (chs0 chs:List Int):Prop := ∀ p,p < R.length→kindAt R p = "keep"→Rm.kb (okL R chs) (hsOf R) p=false→chs.getD p (-1)=chs0.getD p (-1)
theorem rem_mem {R:List Room1} (hG:Good R) {chs0 chs:List Int} (hc:ChOk R chs) (h0:chs0.length=R.length) (hs:Stayed R chs0 chs):remL R (keptL R chs) (memL R chs0)=memL R chs:=by
  have hl0:(memL R chs0).length=R.length:=by simp [memL]
  refine List.ext_getElem? fun p => ?_
  by_cases hp:p < R.length
  · have e:∀ l:List Int,l.length=R.length→l[p]? = some (l.getD p (-1)):=fun l hl => by rw [List.getD_eq_getElem?_getD,List.getElem?_eq_getElem (by omega)]; rfl
    rw [e _ (by rw [remL_len]; exact hl0),e (memL R chs) (by simp [memL]),rem_get hG hl0 hp,memL_get hp,memL_get hp]
    by_cases hk:kindAt R p = "keep"
    · rw [if_pos hk,if_pos hk]
      cases z:Rm.kb (okL R chs) (hsOf R) p with
      | true =>
        obtain ⟨k,k1,k2⟩:=hc.pick p hp (keep_choosing hp hk)
        obtain ⟨m1,m2⟩:=Rm.mem_kidsN.mp k1
        rw [if_pos ⟨hk,rfl,k,by rw [hsOf_len] at m1; exact m1,m2,k2⟩]
      | false =>
        rw [if_neg (fun y => by cases y.2.1),hs p hp hk z]
    · rw [if_neg hk,if_neg (fun y => hk y.1),if_neg hk]
  · rw [List.getElem?_eq_none (by rw [remL_len]; omega),List.getElem?_eq_none (by simp [memL]; omega)]
theorem Stayed.next {R:List Room1} (hG:Good R) {a:Arrow} (hA:GoodA R a) {chs0 chs mem:List Int} (hc:ChOk R chs) (h:Stayed R chs0 chs) (hsame:∀ p,p < R.length→Rm.wi (hsOf R) p (scA R a)=true→chs.getD p (-1)=chs0.getD p (-1))
    (hk:Rm.kb (okL R chs) (hsOf R) (scA R a)=true) (hM:MemOk R mem) (hm:∀ p,p < R.length→kindAt R p = "keep"→Rm.wi (hsOf R) p (scA R a)=true→mem.getD p (-1)=chs.getD p (-1)):Stayed R chs0 (goneL R chs a):=by
  intro p hp hkeep hnk
  cases hw:Rm.wi (hsOf R) p (scA R a) with
  | false =>
    rw [gone_out hG hA hc.len hp hw]
    refine h p hp hkeep ?_
    rw [← kb_out hG hA hc.len p hp (.inl hw)]; exact hnk
  | true =>
    by_cases hway:∃ k,OnWay R a p k
    ·
      exfalso
      obtain ⟨k,hway⟩:=hway
      have hself:∀ q,q∈Rm.chain (hsOf R) (tgtN a)→Rm.wi (hsOf R) q (scA R a)=true→q < R.length→Rm.kb (okL R (goneL R chs a)) (hsOf R) q=true:=by
        intro q
        induction q using Nat.strongRecOn with
        | ind q ih =>
          intro hq hqw hql
          by_cases e:q=scA R a
          · rw [e,kb_out hG hA hc.len _ (scA_lt hA) (.inr rfl)]; exact hk
          · have gq:scA R a∈Rm.chain (hsOf R) q:=of_decide_eq_true hqw
            have hle:=Rm.chain_le _ gq
            have h0 : 0 < q:=by omega
            have hl:q < (hsOf R).length:=by rw [hsOf_len]; exact hql
            have hu:=hG.tree.up q h0 hl
            have gq':scA R a∈Rm.chain (hsOf R) (Rm.hold (hsOf R) q).toNat:=by
              rw [Rm.chain_up hu] at gq
              rcases List.mem_cons.mp gq with y | y
              · exact absurd y.symm e
              · exact y
            have hpt:(Rm.hold (hsOf R) q).toNat∈Rm.chain (hsOf R) (tgtN a):=Rm.chain_trans _ (show (Rm.hold (hsOf R) q).toNat∈Rm.chain (hsOf R) q by rw [Rm.chain_up hu]; exact List.mem_cons_of_mem _ (Rm.chain_self _ _)) hq
            have hpl:(Rm.hold (hsOf R) q).toNat < R.length:=by omega
            rw [Rm.kb_up hG.tree h0 hl,ih _ (by omega) hpt (decide_eq_true gq') hpl,Bool.true_and]
            have ow:OnWay R a (Rm.hold (hsOf R) q).toNat q:=⟨hq,by omega,by omega⟩
            unfold okL
            by_cases hall:kindAt R (Rm.hold (hsOf R) q).toNat = "all"
            · rw [decide_eq_true hall,Bool.true_or]
            · rw [gone_way hG hA hc.len ow hpl hall,decide_eq_true rfl,Bool.or_true]
      obtain ⟨_,w2,w3,_⟩:=way_in hG hA hway
      have hpt:p∈Rm.chain (hsOf R) (tgtN a):=Rm.chain_trans _ (show p∈Rm.chain (hsOf R) k by rw [Rm.chain_kid hG.tree w2]; exact List.mem_cons_of_mem _ (Rm.chain_self _ _)) hway.1
      rw [hself p hpt w3 hp] at hnk
      cases hnk
    · rw [gone_else hG hA hc.len (fun k z => hway ⟨k,z⟩) hp,decide_eq_false (show ¬ kindAt R p = "one" by rw [hkeep]; decide +kernel),Bool.false_and,if_neg (by decide)]
      exact hsame p hp hw
end
end Toy
namespace Toy
open PySem L2
seal PySem.wpAny
section
variable {P:Program} {w:World} {K:PySem.W.Frag} {mg:Str→Option Value} {base:Heap}
def deedsL (A:List Arrow) (l:List Nat):List Int:=l.map fun k => (arD A k).2.2.2.2
def tkL (R:List Room1) (A:List Arrow) (chs:List Int) (ev:Int):List Nat:=takeOf R A (kI R chs) ev
def spStepped (C CC:Addr):Sp:=fun vs H Q E => ∃ (c st kt mt:Addr) (R:List Room1) (A:List Arrow) (chs:List Int) (ev:Int),vs=[.ref c,.ref st,.int ev]∧ChartAt C H c R A∧Good R∧(∀ a∈A,GoodA R a) ∧
  H st=some (.tup [.ref kt,.ref mt])∧H kt=some (.tup ((kI R chs).map V.int))∧H mt=some (.tup ((memL R chs).map V.int))∧ChOk R chs ∧
  (∀ i j,pairOf (clA R A) (tkL R A chs ev)=some (i,j)→∀ (d tp:Addr) (H':Hp),Same H H'→H' d=some (XD d (clF (.ref tp) (i:Int) (j:Int)))→H' tp=some (.tup [.int ev])→E (.ref CC) (some d) H') ∧
  (pairOf (clA R A) (tkL R A chs ev)=Option.none→∀ (t s' kt' mt' dd:Addr) (H':Hp),Same H H'→H' t=some (.tup [.ref s',.ref dd])→H' s'=some (.tup [.ref kt',.ref mt'])→H' kt'=some (.tup ((kI R (behindL R A chs (tkL R A chs ev))).map V.int)) →
    H' mt'=some (.tup ((memL R (behindL R A chs (tkL R A chs ev))).map V.int))→H' dd=some (.tup ((deedsL A (tkL R A chs ev)).map V.int))→Q (.ref t) H')
theorem take_kept {R:List Room1} (hG:Good R) {A:List Arrow} (hA:∀ x∈A,GoodA R x) {chs:List Int} {ev:Int}:∀ k∈tkL R A chs ev,Rm.kb (okL R chs) (hsOf R) (scA R (arD A k))=true:=by
  intro k hk
  have hlt:=take_lt k hk
  have h1:=(List.mem_filter.mp (List.mem_filter.mp hk).1).2
  unfold openAt at h1
  rw [List.getElem?_eq_getElem hlt] at h1
  have h2:openB A[k] (kI R chs) ev=true:=h1
  unfold openB at h2
  rw [Bool.and_eq_true,Bool.and_eq_true] at h2
  have hs:A[k].1∈kI R chs:=of_decide_eq_true h2.1.2
  obtain ⟨s,hs1,hs2⟩:=List.mem_map.mp hs
  obtain ⟨k1,k2⟩:=kept_mem.mp hs1
  rw [arD_get hlt]
  have ga:=hA _ (List.getElem_mem hlt)
  obtain ⟨q,hq⟩:=ga.sc
  have hsc:scA R A[k] = q:=by unfold scA; rw [hq]; rfl
  have hm:=(scope_in hq).1
  have es:A[k].1.toNat=s:=by rw [← hs2]; simp
  rw [es] at hm
  rw [hsc]
  exact kb_chain hG k1 (List.mem_of_mem_tail hm) k2
theorem pair_mem {cl:Nat→Nat→Bool}:∀ {l:List Nat} {i j:Nat},pairOf cl l=some (i,j)→i∈l∧j∈l
  | [],_,_,h => by cases h
  | x :: l,i,j,h => by
    have h':(match l.find? (cl x) with | some y => some (x,y) | Option.none => pairOf cl l)=some (i,j):=h
    cases z:l.find? (cl x) with
    | some y =>
      rw [z] at h'
      cases h'
      exact ⟨List.mem_cons_self,List.mem_cons_of_mem _ (List.mem_of_find?_eq_some z)⟩
    | none =>
      rw [z] at h'
      obtain ⟨a,b⟩:=pair_mem h'
      exact ⟨List.mem_cons_of_mem _ a,List.mem_cons_of_mem _ b⟩
theorem behind_take (R:List Room1) (A:List Arrow) (chs:List Int) {l:List Nat} {i k:Nat} (hk:l[i]? = some k):behindL R A chs (l.take (i + 1))=goneL R (behindL R A chs (l.take i)) (arD A k):=by
  unfold behindL
  rw [List.take_add_one,hk,List.foldl_append]; rfl
theorem scStepped:FnScope ["chart", "state", "event", "kept", "memory", "taken", "pair", "number", "deeds"] ["chart", "state", "event"] (defScope sStepped):=⟨rfl,rfl,rfl,by decide +kernel,rfl,by decide +kernel,by decide +kernel⟩
theorem ok_stepped {f C CC CE fI ft fc fm fr:Addr} {fd fdI fdt fdc fdm fdr:FuncData} (D:DefAt K mg "stepped" sStepped ["chart", "state", "event"] f fd) (T:Txt K mg C) (X:ClashTxt K mg CC CE fI) (mgX:mg "Clash" = some (.ref CC)) (kpX:PySem.W.keepIn K (.ref CC)=true) (bX:Binds K fdI ["self", "events", "first", "second"] []) (GX:FnOk P w K mg base CX0 1 fI fdI ["self", "events", "first", "second"] (spClash CC))
    (Dt:DefAt K mg "takeable" sTakeable ["chart", "kept", "event"] ft fdt) (Gt:FnOk P w K mg base CX0 4 ft fdt ["chart", "kept", "event"] (spTakeable K C)) (Dc:DefAt K mg "clash_of" sClashOf ["chart", "numbers"] fc fdc) (Gc:FnOk P w K mg base CX0 6 fc fdc ["chart", "numbers"] (spClashOf C))
    (Dm:DefAt K mg "moved" sMoved ["chart", "kept", "memory", "number"] fm fdm) (Gm:FnOk P w K mg base CX0 20 fm fdm ["chart", "kept", "memory", "number"] (spMoved C)) (Dr:DefAt K mg "remembered" sRemembered ["chart", "kept", "memory"] fr fdr) :
    FnOk P w K mg base (CXN true P w) 21 f fd ["chart", "state", "event"] (spStepped C CC):=by
  have Gr:FnOk P w K mg base CX0 1 fr fdr ["chart", "kept", "memory"] (spRem C):=ok_rem Dr T
  refine D.fn.okX scStepped (fun vs H Q E h => ?_) (fun cdv A outer s H vs Q E hr h => ?_)
  · obtain ⟨c,st,kt,mt,R,As,chs,ev,rfl,_⟩:=h
    rfl
  obtain ⟨c,st,kt,mt,R,As,chs,ev,rfl,hC,hG,hA,hst,hkt,hmt,hch,qE,qQ⟩:=h
  refine ⟨_,pss_cons (ps_set (i := 3) scStepped.nd rfl (Or.inl rfl) (pe_ix ix_tup (pv 1) pe_int (fun _ _ => rfl)))
    (pss_cons (ps_set (i := 4) scStepped.nd rfl (Or.inl rfl) (pe_ix ix_tup (pv 1) pe_int (fun _ _ => rfl)))
    (pss_cons (ps_set (i := 5) scStepped.nd rfl (Or.inl rfl) (pe_call Gt (hr.mono (by decide)) rfl Dt.mg Dt.fn.kp Dt.bd .nil pass0 (pa_cons (pv 0) (pa_cons (pv 3) (pa_cons (pv 2) pa_nil)))))
    (pss_cons (ps_set (i := 6) scStepped.nd rfl (Or.inl rfl) (pe_call Gc (hr.mono (by decide)) rfl Dc.mg Dc.fn.kp Dc.bd .nil pass0 (pa_cons (pv 0) (pa_cons (pv 5) pa_nil))))
    (pss_cons (ps_if (pt_cmpR op_notN (pv 6) pe_non (nomark _)) (pss_one (ps_raiseC (E:=E) (E0:=fun _ _ _ => False) (CX:=CX0) X.x GX (fun _ _ _ _ _ z => z) wants_out rfl (hr.mono (by decide)) bX rfl mgX kpX (pa_cons (pe_tup (pa_cons (pv 2) pa_nil)) (pa_cons (pe_ix ix_tup (pv 6) pe_int (fun _ _ => rfl)) (pa_cons (pe_ix ix_tup (pv 6) pe_int (fun _ _ => rfl)) pa_nil))))) pss_nil)
    (pss_cons (ps_for passes_own0 rfl (pi_list (pv 5)) (pg_name (i := 7) scStepped.nd rfl (Or.inl rfl))
      (pss_one (ps_set (i := 3) scStepped.nd rfl (Or.inl rfl) (pe_call Gm hr rfl Dm.mg Dm.fn.kp Dm.bd .nil pass0 (pa_cons (pv 0) (pa_cons (pv 3) (pa_cons (pv 4) (pa_cons (pv 7) pa_nil))))))))
    (pss_cons (ps_set (i := 8) scStepped.nd rfl (Or.inl rfl) (pe_callTy call_tuple_of (by rfl) T.tup (by decide +kernel) (pa_cons (pe_comp ["number", "chart"] [Option.none,some 0] rfl (pi_list (pv 5)) (fun _ => pg_name (i := 0) (show (["number", "chart"]:List Str).Nodup by decide +kernel) rfl (Or.inl rfl)) (fun _ => pts_nil)
      (fun _ => pe_ix ix_tup (pe_ix ix_list (pe_fld (pv 1) rfl) (pv 0) (fun _ _ => rfl)) (pe_gint T.ded rfl) (fun _ _ => rfl))
      (N:=["chart", "state", "event", "kept", "memory", "taken", "pair", "number", "deeds"]) (ks:=(defScope sStepped).names) rfl rfl (by decide +kernel) (by decide +kernel) (by decide +kernel) (by decide +kernel)) pa_nil)))
    (pss_one (ps_ret (pe_tup (pa_cons (pe_tup (pa_cons (pv 3) (pa_cons (pe_call Gr (hr.mono (by decide)) rfl Dr.mg Dr.fn.kp Dr.bd .nil pass0 (pa_cons (pv 0) (pa_cons (pv 3) (pa_cons (pv 4) pa_nil)))) pa_nil))) (pa_cons (pv 8) pa_nil))))))))))),?_⟩
  have hal:=hC.al
  have hrl:=hG.most
  refine ⟨_,rfl,st,_,_,_,rfl,rfl,SqT.of hst,rfl,?_⟩
  refine ⟨_,rfl,st,_,_,_,rfl,rfl,SqT.of hst,rfl,?_⟩
  refine ⟨_,rfl,_,rfl,_,rfl,c,kt,R,As,kI R chs,ev,rfl,hC,hG,hA,SqT.of hkt,fun tk H1 htk s1 e1 => ?_⟩
  have e1':H1 tk=some (.lst (cV (tkL R As chs ev))):=e1
  have hlt:∀ i∈tkL R As chs ev,i < As.length:=fun i hi => take_lt i hi
  have hln:(tkL R As chs ev).length≤100:=Nat.le_trans (take_len R As (kI R chs) ev) hal
  have hkp:=take_kept (chs:=chs) (ev:=ev) hG hA
  refine ⟨_,rfl,_,rfl,c,tk,R,As,tkL R As chs ev,rfl,hC.same s1,hG,hA,e1',hln,hlt,?_⟩
  cases hp:pairOf (clA R As) (tkL R As chs ev) with
  | some ij =>
    obtain ⟨i,j⟩:=ij
    intro pt H2 s2 e2
    have s02:=s1.trans s2
    refine ⟨_,rfl,rfl,_,rfl,?_⟩
    refine iteT ?_
    refine ⟨_,rfl,(by show 1≤sizeLine; decide),fun tp htp => ?_⟩
    have s3:=same_new htp (.tup [.int ev])
    have etp:(upd H2 tp (.tup [.int ev])) tp=some (.tup [.int ev]):=upd_same
    generalize upd H2 tp (.tup [.int ev])=H3 at s3 etp ⊢
    have sm:∀ x:Nat,x≤100→((x:Int)).natAbs.log2 < 1920:=fun x hx => by
      have e:((x:Int)).natAbs=x:=Int.natAbs_natCast x
      rw [e]
      by_cases z:x=0
      · subst z; decide
      · exact (Nat.log2_lt z).mpr (Nat.lt_of_le_of_lt hx (by decide +kernel))
    have hij:i≤100∧j≤100:=by
      have hm:=pair_mem hp
      exact ⟨by have:=hlt i hm.1; omega,by have:=hlt j hm.2; omega⟩
    refine ⟨_,rfl,pt,_,_,_,rfl,rfl,SqT.of (s3 _ _ e2),rfl,_,rfl,pt,_,_,_,rfl,rfl,SqT.of (s3 _ _ e2),rfl,(by show 3≤100; decide),fun ax hax => ?_⟩
    refine ⟨ax,.ref tp,(i:Int),(j:Int),rfl,upd_same,sm i hij.1,sm j hij.2,fun d hd => ⟨rfl,d,?_,?_⟩⟩
    · have nda:d≠ax:=fun z => by rw [z,upd_same] at hd; cases hd
      rw [upd_ne (Ne.symm nda),upd_same]
    · have nda:d≠ax:=fun z => by rw [z,upd_same] at hd; cases hd
      have hd3:H3 d=Option.none:=by rw [upd_ne nda] at hd; exact hd
      have kp:∀ x o,H3 x=some o→drp (upd (upd (upd H3 ax (XI ax CC Option.none)) ax (XI ax CC (some d))) d (XD d (clF (.ref tp) (i:Int) (j:Int)))) ax x=some o:=fun x o e => by
        have n1:x≠ax:=ne_of_none e hax
        rw [drp_ne n1,upd_ne (ne_of_none e hd3),upd_ne n1,upd_ne n1]; exact e
      refine qE i j hp d tp _ (fun x o e => kp x o (s3 _ _ (s02 _ _ e))) ?_ (kp _ _ etp)
      rw [drp_ne nda,upd_same]
  | none =>
    intro H2 s2
    have s02:=s1.trans s2
    have e2:=s2 _ _ e1'
    refine ⟨_,rfl,rfl,_,rfl,?_⟩
    refine iteF ?_
    have ap:=apart_of hlt hp
    have hM:=memL_ok hch
    refine ⟨_,rfl,tk,rfl,⟨_,SqL.of e2⟩,?_⟩
    generalize htl:tkL R As chs ev=l at e2 hlt hln hkp hp ap qQ
    refine for_list (K:=K) (xs:=cV l) (fun i σ H3 => ∃ v7 k3,σ = [some (.ref c),some (.ref st),some (.int ev),some (.ref k3),some (.ref mt),some (.ref tk),some .non,v7,Option.none]∧Same H2 H3∧H3 k3=some (.tup ((kI R (behindL R As chs (l.take i))).map V.int))∧Ahead R As chs (behindL R As chs (l.take i)) (l.drop i)∧Stayed R chs (behindL R As chs (l.take i)))
      ⟨_,kt,rfl,Same.refl _,s02 _ _ hkt,⟨hch,fun k _ p _ _ => rfl,fun k hk => hkp k hk⟩,fun p _ _ _ => rfl⟩ ?_ ?_ ?_
    · rintro i σ H3 hi ⟨v7,k3,rfl,(s3:Same _ _),_⟩
      exact SqL.of (s3 _ _ e2)
    · rintro i x σ H3 hx ⟨v7,k3,rfl,(s3:Same _ _),e3,hah,hsy⟩
      obtain ⟨k,hk,rfl⟩:=cV_get hx
      have hkl:=hlt k (List.mem_of_getElem? hk)
      have hd:l.drop i=k :: l.drop (i + 1):=by
        obtain ⟨hi,e⟩:=List.getElem?_eq_some_iff.mp hk
        rw [List.drop_eq_getElem_cons hi,e]
      rw [hd] at hah
      have hld:∀ y∈k :: l.drop (i + 1),y < As.length:=fun y hy => hlt y (by rw [← hd] at hy; exact List.mem_of_mem_drop hy)
      have apd:Apart R As (k :: l.drop (i + 1)):=by rw [← hd]; exact List.Pairwise.sublist (List.drop_sublist i l) ap
      have s03:=s02.trans s3
      have ga:GoodA R (arD As k):=by rw [arD_get hkl]; exact hA _ (List.getElem_mem hkl)
      have hak:As[k]? = some (arD As k):=by rw [arD_get hkl]; exact List.getElem?_eq_getElem hkl
      have hmm:∀ p,p < R.length→kindAt R p = "keep"→Rm.wi (hsOf R) p (scA R (arD As k))=true→(memL R chs).getD p (-1)=(behindL R As chs (l.take i)).getD p (-1):=fun p hp hkk hw => by
        rw [memL_get hp,if_pos hkk,hah.same k List.mem_cons_self p hp hw]
      refine ⟨_,rfl,_,rfl,_,rfl,_,rfl,c,k3,mt,R,As,memL R chs,keptL R (behindL R As chs (l.take i)),k,arD As k,rfl,hC.same s03,hG,hak,ga,e3,fun y hy => (kept_mem.mp hy).1,Nat.le_trans (kept_len R _) (by omega),s03 _ _ hmt,hM,fun t ns H4 s4 hperm hsrt e4 => ?_⟩
      have ens:=mov_sorted hG ga hah.ch hM hmm (hah.kept k List.mem_cons_self) hperm hsrt
      rw [ens] at e4
      have eb:=behind_take R As chs hk
      refine ⟨_,t,rfl,s3.trans s4,by rw [eb]; exact e4,by rw [eb]; exact hah.next hG hA hld apd,?_⟩
      rw [eb]
      exact hsy.next hG ga hah.ch (hah.same k List.mem_cons_self) (hah.kept k List.mem_cons_self) hM hmm
    · rintro σ H3 ⟨v7,k3,rfl,(s3:Same _ _),e3,hah,hsy⟩
      rw [cV_len,List.take_length] at e3 hah hsy
      have s03:=s02.trans s3
      obtain ⟨dx,la,ma,ps,qs,h1,h2,h3,h4,h5⟩:=(hC.same s03).ob
      refine ⟨_,rfl,tk,rfl,⟨_,SqL.of (s3 _ _ e2)⟩,fun bk D hD => ?_⟩
      refine comp_listA (K:=K) (xs:=cV l) (Pv:=fun j ys σ H' => ∃ v,σ = [v,some (.ref c)]∧ys=(deedsL As (l.take j)).map V.int∧Same H3 H') ⟨_,rfl,rfl,same_new hD _⟩ ?_ ?_ ?_
      · rintro j ys σ H' hj hDj ⟨v,rfl,_,(s':Same _ _)⟩
        exact SqL.of (s' _ _ (s3 _ _ e2))
      · rintro j x ys σ H' hx hDj ⟨v,rfl,hys,(s':Same _ _)⟩
        obtain ⟨k,hk,rfl⟩:=cV_get hx
        have hkl:=hlt k (List.mem_of_getElem? hk)
        obtain ⟨p,hp1,hp2⟩:=arrow_at h5 hkl
        have hjl:=(List.getElem?_eq_some_iff.mp hk).1
        refine ⟨_,rfl,c,C,dx,_,_,rfl,s' _ _ h1,T.cl,T.nA,flds_arrows la ma,_,rfl,ma,_,_,_,rfl,rfl,SqL.of (s' _ _ h4),hp1,p,_,_,_,rfl,rfl,SqT.of (s' _ _ hp2),rfl,hDj,?_,⟨_,rfl,?_,sameUpd s' hD _⟩⟩
        · rw [hys,List.length_map]
          unfold deedsL
          rw [List.length_map,List.length_take]; exact small1000 (by omega)
        · unfold deedsL at hys ⊢
          rw [List.take_add_one,hk,List.map_append,List.map_append,← hys]
          show ys ++ [V.int As[k].2.2.2.2] = ys ++ [V.int (arD As k).2.2.2.2]
          rw [arD_get hkl]
      · rintro ys σ H4 hD4 ⟨v,rfl,hys,(s4:Same _ _)⟩
        rw [cV_len,List.take_length] at hys
        subst hys
        refine ⟨D,_,rfl,.inl ⟨SqL.of hD4,fun dd hdd => ?_⟩⟩
        have s5:=same_new hdd (.tup ((deedsL As l).map V.int))
        have edd:(upd H4 dd (.tup ((deedsL As l).map V.int))) dd=some (.tup ((deedsL As l).map V.int)):=upd_same
        generalize upd H4 dd (.tup ((deedsL As l).map V.int))=H5 at s5 edd ⊢
        have s35:=s4.trans s5
        have s05:=s03.trans s35
        refine ⟨_,rfl,_,rfl,_,rfl,_,rfl,c,k3,mt,R,As,memL R chs,keptL R (behindL R As chs l),rfl,hC.same s05,hG,s35 _ _ e3,fun y hy => (kept_mem.mp hy).1,s05 _ _ hmt,by simp [memL],fun m6 H6 s6 e6 => ?_⟩
        rw [rem_mem hG hah.ch hch.len hsy] at e6
        refine ⟨(by show 2≤sizeLine; decide),fun sp hsp => ?_⟩
        have s7:=same_new hsp (.tup [.ref k3,.ref m6])
        refine ⟨_,rfl,(by show 2≤sizeLine; decide),fun t ht => ?_⟩
        have s8:=same_new ht (.tup [.ref sp,.ref dd])
        have s58:=s6.trans (s7.trans s8)
        exact qQ hp t sp k3 m6 dd _ (s05.trans s58) upd_same (s8 _ _ upd_same) ((s35.trans s58) _ _ e3) ((s7.trans s8) _ _ e6) (s58 _ _ edd)
end
end Toy
namespace Toy
open PySem L2
seal PySem.wpAny
section
variable {P:Program} {w:World} {K:PySem.W.Frag} {mg:Str→Option Value} {base:Heap}
def p2 {α : Type} (a b : α) (x:Int) : α:=if x=0 then a else b
def p3 {α : Type} (a b c : α) (x:Int) : α:=if x=0 then a else if x=1 then b else c
def goodB (R:List Room1):Bool:=decide (0 < R.length) && decide (R.length≤16) && decide (Rm.hold (hsOf R) 0 = -1) && ((List.range R.length).all fun i => decide (i=0) || (decide (0≤Rm.hold (hsOf R) i) && decide (Rm.hold (hsOf R) i < (i:Int)))) &&
  ((List.range R.length).all fun i => (decide (kindAt R i = "plain") || decide (kindAt R i = "one") || decide (kindAt R i = "all") || decide (kindAt R i = "keep")) && (decide (kindAt R i = "plain") == (Rm.kids (hsOf R) i).isEmpty))
theorem goodB_of {R:List Room1} (h:goodB R=true):Good R:=by
  unfold goodB at h
  simp only [Bool.and_eq_true,decide_eq_true_eq,List.all_eq_true,List.mem_range,Bool.or_eq_true,beq_iff_eq] at h
  obtain ⟨⟨⟨⟨h1,h2⟩,h3⟩,h4⟩,h5⟩:=h
  refine ⟨⟨by rw [hsOf_len]; exact h1,h3,fun i h0 hi => ?_⟩,h2,fun i r hr => ?_⟩
  · rw [hsOf_len] at hi
    rcases h4 i hi with z | z
    · omega
    · exact z
  · obtain ⟨hi,rfl⟩:=List.getElem?_eq_some_iff.mp hr
    obtain ⟨a,b⟩:=h5 i hi
    rw [kindAt_get hi] at a b
    refine ⟨?_,?_⟩
    · rcases a with ((a | a) | a) | a
      · exact .inl a
      · exact .inr (.inl a)
      · exact .inr (.inr (.inl a))
      · exact .inr (.inr (.inr a))
    · rw [← List.isEmpty_iff,← b,decide_eq_true_eq]
end
end Toy
namespace Toy
open PySem L2
seal PySem.wpAny
section
variable {P:Program} {w:World} {K:PySem.W.Frag} {mg:Str→Option Value} {base:Heap}
theorem Items.app {H:Hp} {ps qs:List Addr} {os ts:List (List V)} (h:Items H ps os) (k:Items H qs ts):Items H (ps ++ qs) (os ++ ts):=by
  refine ⟨by simp [h.1,k.1],fun i p o a b => ?_⟩
  have hl:=h.1
  by_cases hi:i < ps.length
  · rw [List.getElem?_append_left hi] at a
    rw [List.getElem?_append_left (by omega)] at b
    exact h.2 i p o a b
  · rw [List.getElem?_append_right (by omega)] at a
    rw [List.getElem?_append_right (by omega)] at b
    rw [hl] at a
    exact k.2 _ p o a b
theorem Items.none {H:Hp}:Items H [] []:=⟨rfl,fun i p o a _ => by cases a⟩
theorem Items.put {H H1:Hp} {d t:Addr} {ps:List Addr} {os:List (List V)} {o:List V} (hd:H d=Option.none) (s1:Same H H1) (hD:H1 d=some (.lst (ps.map V.ref))) (hI:Items H1 ps os) (ht:H1 t=Option.none) :
    Same H (upd (upd H1 t (.tup o)) d (.lst (ps.map V.ref ++ [V.ref t])))∧Items (upd (upd H1 t (.tup o)) d (.lst (ps.map V.ref ++ [V.ref t]))) (ps ++ [t]) (os ++ [o]):=by
  have ndt:d≠t:=ne_of_none hD ht
  refine ⟨sameUpd (s1.trans (same_new ht _)) hd _,Items.snoc ⟨hI.1,fun i p u a b => ?_⟩ ?_⟩
  · have e:=hI.2 i p u a b
    rw [upd_ne (ne_of e hD (by intro z; cases z)),upd_ne (ne_of_none e ht)]; exact e
  · rw [upd_ne ndt.symm,upd_same]
theorem comp_items {H:Hp} {n:Nat} {D:Addr} {te:TE} {f:Nat→List V} {Q:VK} {τ : List (Option V)} {v0:Option V} (hn:n≤100) (hD:H D=Option.none)
    (hte:∀ (i:Nat) H' Q,i < n→Same H H'→(∀ t,H' t=Option.none→Q (.ref t) (upd H' t (.tup (f i))))→te (some (.int ((0:Int) + (i:Int))) :: τ) H' Q)
    (q:∀ ps H',Same H H'→H' D=some (.lst (ps.map V.ref))→Items H' ps ((List.range n).map f)→Q (.ref D) H'):tLoop (Itr 0 n) (gName 0) tYes te D Q (v0 :: τ) (upd H D (.lst [])):=by
  refine comp_rangeA (Pv:=fun i ys σ H' => ∃ v ps,σ = v :: τ∧ys=ps.map V.ref∧Same H H'∧Items H' ps ((List.range i).map f)) ⟨_,[],rfl,rfl,same_new hD _,Items.none⟩ ?_ ?_
  · rintro i ys σ H' hi hDi ⟨v,ps,rfl,rfl,(s:Same _ _),hI⟩
    refine hte i _ _ hi s fun t ht => ?_
    have nDt:D≠t:=ne_of_none hDi ht
    have lp:=hI.1
    rw [List.length_map,List.length_range] at lp
    obtain ⟨s2,hI2⟩:=Items.put (o:=f i) hD s hDi hI ht
    refine ⟨by rw [upd_ne nDt]; exact hDi,by rw [List.length_map,lp]; exact small1000 (by omega),⟨_,ps ++ [t],rfl,by rw [List.map_append]; rfl,s2,?_⟩⟩
    rw [List.range_succ,List.map_append]
    exact hI2
  · rintro ys σ H' hDn ⟨v,ps,rfl,rfl,(s:Same _ _),hI⟩
    exact q ps H' s hDn hI
theorem Items.cat {H H1:Hp} {p:Addr} {ps qs:List Addr} {os us:List (List V)} (h:Items H ps os) (s:Same H H1) (k:Items H1 qs us) (hp:H1 p=Option.none) :
    Same H (upd H1 p (.lst (ps.map V.ref ++ qs.map V.ref)))∧(upd H1 p (.lst (ps.map V.ref ++ qs.map V.ref))) p=some (.lst ((ps ++ qs).map V.ref))∧Items (upd H1 p (.lst (ps.map V.ref ++ qs.map V.ref))) (ps ++ qs) (os ++ us):=by
  have s2:=same_new hp (.lst (ps.map V.ref ++ qs.map V.ref))
  exact ⟨s.trans s2,by rw [upd_same,List.map_append],(h.same (s.trans s2)).app (k.same s2)⟩
theorem Items.add {H H1:Hp} {d t:Addr} {ps:List Addr} {B:List Arrow} (o:List V) (x:Arrow) (ho:o=aV x) (hd:H d=Option.none) (s1:Same H H1) (hD:H1 d=some (.lst (ps.map V.ref))) (hI:Items H1 ps (B.map aV)) (ht:H1 t=Option.none) :
    Same H (upd (upd H1 t (.tup o)) d (.lst (ps.map V.ref ++ [V.ref t])))∧(upd (upd H1 t (.tup o)) d (.lst (ps.map V.ref ++ [V.ref t]))) d=some (.lst ((ps ++ [t]).map V.ref))∧Items (upd (upd H1 t (.tup o)) d (.lst (ps.map V.ref ++ [V.ref t]))) (ps ++ [t]) ((B ++ [x]).map aV):=by
  subst ho
  obtain ⟨a,b⟩:=Items.put (o:=aV x) hd s1 hD hI ht
  exact ⟨a,by rw [upd_same,List.map_append]; rfl,by rw [List.map_append]; exact b⟩
end
end Toy
namespace Toy
open PySem L2
seal PySem.wpAny
section
variable {P:Program} {w:World} {K:PySem.W.Frag} {mg:Str→Option Value} {base:Heap}
theorem same_seqT {K:PySem.W.Frag} {H H':Hp} {a:Addr} {xs:List V} (e:Same H H') (h:SqT K H a xs):SqT K H' a xs:=by
  rcases h with (h | ⟨o,h⟩) | h
  · exact .inl (.inl (e _ _ h))
  · exact .inl (.inr ⟨o,e _ _ h⟩)
  · exact .inr h
theorem call_tuple_ofK {X:Cx} {K:PySem.W.Frag} (hK:X.K=K):CallR X (.type "tuple") (fun xs H Q => ∃ p ys,xs=[.ref p]∧((SqL K H p ys∧∀ l,H l=Option.none→Q (.ref l) (upd H l (.tup ys)))∨(SqT K H p ys∧Q (.ref p) H))):=by
  subst hK
  exact call_tuple_of
theorem op_catAK {X:Cx} {K:PySem.W.Frag} (hK:X.K=K):OpR X (binaryOp .Add) (rCatA K):=by
  subst hK
  exact op_catA
theorem ok_clashH {fI C CE:Addr} {fd:FuncData} (F:Fun K "__init__" "Clash.__init__" sClash fI fd) (T:ClashTxt K mg C CE fI):FnOkH P w K mg base CX0 1 fI fd ["self", "events", "first", "second"] (spClash C):=by
  refine F.okH scClash (fun vs H Q E h => ?_) (fun cdv A outer s H vs Q E hr h => ?_)
  · obtain ⟨a,p,i,j,rfl,_⟩:=h
    rfl
  obtain ⟨a,p,i,j,rfl,ha,hi,hj,q⟩:=h
  refine ⟨_,pss_cons (ps_expr (pe_sup T.x T.u rfl T.mgE (pa_cons (pv 0) (pa_cons (pe_fstr (pfs_cons pf_text (pfs_cons (pf_int (pv 2)) (pfs_cons pf_text (pfs_cons (pf_int (pv 3)) (pfs_cons pf_text pfs_nil)))))) pa_nil))))
    (pss_cons (ps_xfld T.x T.e (pv 0) (pv 1))
    (pss_cons (ps_xfld T.x T.f (pv 0) (pv 2))
    (pss_one (ps_xfld T.x T.s (pv 0) (pv 3))))),?_⟩
  refine ⟨_,rfl,⟨⟨trivial,⟨_,rfl,i,rfl,rfl,hi⟩,trivial,⟨_,rfl,j,rfl,rfl,hj⟩,trivial,trivial⟩,fun y => ?_⟩⟩
  refine ⟨a,Option.none,.str y,rfl,ha,?_⟩
  refine ⟨_,rfl,_,rfl,a,rfl,.inl ⟨ha,fun d hd => ?_⟩⟩
  have nda:d≠a:=fun z => by rw [z,ha] at hd; cases hd
  have e1:upd (upd H a (XI a C (some d))) d (XD d [("events",p)]) a=some (XI a C (some d)):=by rw [upd_ne (Ne.symm nda),upd_same]
  refine ⟨_,rfl,_,rfl,a,rfl,.inr ⟨d,_,e1,upd_same,nda,(by show 1 < 100; decide),?_⟩⟩
  rw [upd_upd]
  have e2:upd (upd H a (XI a C (some d))) d (XD d (putF "first" (.int i) [("events",p)])) a=some (XI a C (some d)):=by rw [upd_ne (Ne.symm nda),upd_same]
  refine ⟨_,rfl,_,rfl,a,rfl,.inr ⟨d,_,e2,upd_same,nda,?_,?_⟩⟩
  · have:=length_putF "first" (.int i) [("events",p)]
    simp only [List.length_cons,List.length_nil] at this
    omega
  rw [upd_upd]
  exact q d hd
def spStepB (K:PySem.W.Frag) (C CC:Addr):Sp:=fun vs H Q E => ∃ (c ah st kt mt:Addr) (R:List Room1) (A:List Arrow) (chs evs:List Int) (ev:Int),vs=[.ref c,.ref ah,.ref st,.int ev]∧ChartAt C H c R A∧Good R∧(∀ a∈A,GoodA R a) ∧
  (SqL K H ah (evs.map V.int)∨SqT K H ah (evs.map V.int))∧evs.length≤100∧H st=some (.tup [.ref kt,.ref mt])∧H kt=some (.tup ((kI R chs).map V.int))∧H mt=some (.tup ((memL R chs).map V.int))∧ChOk R chs ∧
  (∀ i j,pairOf (clA R A) (tkL R A chs ev)=some (i,j)→∀ (d tp:Addr) (H':Hp),Same H H'→H' d=some (XD d (clF (.ref tp) (i:Int) (j:Int)))→H' tp=some (.tup ((evs ++ [ev]).map V.int))→E (.ref CC) (some d) H') ∧
  (pairOf (clA R A) (tkL R A chs ev)=Option.none→∀ (t s' kt' mt' dd:Addr) (H':Hp),Same H H'→H' t=some (.tup [.ref s',.ref dd])→H' s'=some (.tup [.ref kt',.ref mt'])→H' kt'=some (.tup ((kI R (behindL R A chs (tkL R A chs ev))).map V.int)) →
    H' mt'=some (.tup ((memL R (behindL R A chs (tkL R A chs ev))).map V.int))→H' dd=some (.tup ((deedsL A (tkL R A chs ev)).map V.int))→Q (.ref t) H')
theorem clF_first' (p:V) (i j:Int):(clF p i j).lookup ("first" : Str)=some (.int i):=by
  unfold clF
  rw [lookup_putF,if_neg (by decide +kernel),lookup_putF,if_pos rfl]
theorem clF_second' (p:V) (i j:Int):(clF p i j).lookup ("second" : Str)=some (.int j):=by
  unfold clF
  rw [lookup_putF,if_pos rfl]
theorem nat_log {x:Nat} (hx:x≤100):((x:Int)).natAbs.log2 < 1920:=by
  have e:((x:Int)).natAbs=x:=Int.natAbs_natCast x
  rw [e]
  by_cases z:x=0
  · subst z; decide
  · exact (Nat.log2_lt z).mpr (Nat.lt_of_le_of_lt hx (by decide +kernel))
theorem scStepB:FnScope ["chart", "ahead", "state", "event", "refusal"] ["chart", "ahead", "state", "event"] (defScope sStepB):=⟨rfl,rfl,rfl,by decide +kernel,rfl,by decide +kernel,by decide +kernel⟩
theorem ok_stepB {f C CC CE fI fs:Addr} {fd fdI fds:FuncData} (D:DefAt K mg "step_behind" sStepB ["chart", "ahead", "state", "event"] f fd) (T:Txt K mg C) (X:ClashTxt K mg CC CE fI) (mgX:mg "Clash" = some (.ref CC)) (kpX:PySem.W.keepIn K (.ref CC)=true) (bX:Binds K fdI ["self", "events", "first", "second"] [])
    (GX:FnOkH P w K mg base CX0 1 fI fdI ["self", "events", "first", "second"] (spClash CC)) (bC:PySem.W.subIn K (.ref CC) (.type "BaseException")=some true) (kC:PySem.W.kitCls K (.ref CC) (.ref CC)=some true)
    (Ds:DefAt K mg "stepped" sStepped ["chart", "state", "event"] fs fds) (Gs:FnOk P w K mg base (CXN true P w) 21 fs fds ["chart", "state", "event"] (spStepped C CC)) :
    FnOk P w K mg base (CXN false P w) 22 f fd ["chart", "ahead", "state", "event"] (spStepB K C CC):=by
  refine D.fn.okX scStepB (fun vs H Q E h => ?_) (fun cdv A outer s H vs Q E hr h => ?_)
  · obtain ⟨c,ah,st,kt,mt,R,As,chs,evs,ev,rfl,_⟩:=h
    rfl
  obtain ⟨c,ah,st,kt,mt,R,As,chs,evs,ev,rfl,hC,hG,hA,hah,hel,hst,hkt,hmt,hch,qE,qQ⟩:=h
  refine ⟨_,pss_one (ps_tryRet (px_call Gs rfl hr rfl Ds.mg Ds.fn.kp Ds.bd (pa_cons (pv 0) (pa_cons (pv 2) (pa_cons (pv 3) pa_nil))))
    (ph_raise (i := 4) (E0:=fun _ _ _ => False) X.x GX (fun _ _ _ _ _ z => z) (hr.mono (by decide)) bX leaves_out rfl rfl mgX bC scStepB.nd rfl rfl rfl mgX kpX
      (fun _ => pa_cons (pe_op (op_catAK (K:=K) rfl) (pe_callTy (T := "tuple") (call_tuple_ofK (K:=K) rfl) (by rfl) T.tup (by decide +kernel) (pa_cons (pv 1) pa_nil)) (pe_tup (pa_cons (pv 3) pa_nil))) (pa_cons (pe_xfldN X.x X.f (pv 4)) (pa_cons (pe_xfldN X.x X.s (pv 4)) pa_nil))))),?_⟩
  refine ⟨_,rfl,_,rfl,_,rfl,c,st,kt,mt,R,As,chs,ev,rfl,hC,hG,hA,hst,hkt,hmt,hch,fun i j hp d tp H1 s1 hd htp => ⟨kC,fun x hx => ?_⟩,fun hn t s' kt' mt' dd H1 s1 g1 g2 g3 g4 g5 => qQ hn t s' kt' mt' dd H1 s1 g1 g2 g3 g4 g5⟩
  have s2:=s1.trans (same_new hx (XOn x (.ref CC) (some d)))
  have ex:(upd H1 x (XOn x (.ref CC) (some d))) x=some (XOn x (.ref CC) (some d)):=upd_same
  have ed:=same_new hx (XOn x (.ref CC) (some d)) _ _ hd
  generalize upd H1 x (XOn x (.ref CC) (some d))=H2 at s2 ex ed ⊢
  have hlt:∀ k∈tkL R As chs ev,k < As.length:=fun k hk => take_lt k hk
  have hal:=hC.al
  have hij:i≤100∧j≤100:=by
    have hm:=pair_mem hp
    exact ⟨by have:=hlt i hm.1; omega,by have:=hlt j hm.2; omega⟩
  have fin:∀ (tq:Addr) (H3:Hp),Same H2 H3→H3 tq=some (.tup ((evs ++ [ev]).map V.int)) →
      tCons (tXn CC (tVar 4) "first") (tCons (tXn CC (tVar 4) "second") tNil) [some (.ref c),some (.ref ah),some (.ref st),some (.int ev),some (.ref x)] H3 (fun xs H4 => (V.ref tq :: xs).length≤100∧∀ a',H4 a'=Option.none →
        spClash CC (.ref a' :: V.ref tq :: xs) (upd H4 a' (XI a' CC Option.none)) (fun v H5 => v = .non∧x≠a'∧∃ d',H5 a'=some (XI a' CC (some d'))∧H5 x=some (XOn x (.ref CC) (some d))∧E (.ref CC) (some d') (drp H5 a')) fun _ _ _ => False):=by
    intro tq H3 s3 e3
    have ex3:=s3 _ _ ex
    have ed3:=s3 _ _ ed
    refine ⟨_,rfl,x,d,_,_,rfl,ex3,ed3,clF_first' _ _ _,_,rfl,x,d,_,_,rfl,ex3,ed3,clF_second' _ _ _,(by show 3≤100; decide),fun ax hax => ?_⟩
    refine ⟨ax,.ref tq,(i:Int),(j:Int),rfl,upd_same,nat_log hij.1,nat_log hij.2,fun dx hdx => ?_⟩
    have nda:dx≠ax:=fun z => by rw [z,upd_same] at hdx; cases hdx
    have hd3:H3 dx=Option.none:=by rw [upd_ne nda] at hdx; exact hdx
    have kp:∀ y o,H3 y=some o→(upd (upd (upd H3 ax (XI ax CC Option.none)) ax (XI ax CC (some dx))) dx (XD dx (clF (.ref tq) (i:Int) (j:Int)))) y=some o:=fun y o e => by
      have n1:y≠ax:=ne_of_none e hax
      rw [upd_ne (ne_of_none e hd3),upd_ne n1,upd_ne n1]; exact e
    refine ⟨rfl,ne_of_none ex3 hax,dx,?_,kp _ _ ex3,?_⟩
    · rw [upd_ne (Ne.symm nda),upd_same]
    · have kq:∀ y o,H3 y=some o→drp (upd (upd (upd H3 ax (XI ax CC Option.none)) ax (XI ax CC (some dx))) dx (XD dx (clF (.ref tq) (i:Int) (j:Int)))) ax y=some o:=fun y o e => by
        rw [drp_ne (ne_of_none e hax)]; exact kp y o e
      refine qE i j hp dx tq _ (fun y o e => kq y o (s3 _ _ (s2 _ _ e))) ?_ (kq _ _ e3)
      rw [drp_ne nda,upd_same]
  have mid:∀ (tl:Addr) (H3:Hp),Same H2 H3→SqT K H3 tl (evs.map V.int)→∀ (t1:Addr),H3 t1=Option.none→rCatA K (.ref tl) (.ref t1) (upd H3 t1 (.tup [.int ev])) fun v H4 => ∃ tq:Addr,v = .ref tq∧Same H2 H4∧H4 tq=some (.tup ((evs ++ [ev]).map V.int)):=by
    intro tl H3 s3 h3 t1 ht1
    have s4:=same_new ht1 (.tup [.int ev])
    refine ⟨tl,t1,_,_,rfl,rfl,same_seqT s4 h3,SqT.of upd_same,(fun z => by cases z),?_,fun z => ?_,fun z p hp' => ?_⟩
    · rw [List.length_map]; exact small (by show _ + 1≤1000; omega)
    · have ze:evs=[]:=List.map_eq_nil_iff.mp z
      refine ⟨t1,rfl,s3.trans s4,?_⟩
      rw [upd_same,ze]; rfl
    · refine ⟨p,rfl,(s3.trans s4).trans (same_new hp' _),?_⟩
      rw [upd_same,List.map_append]; rfl
  rcases hah with hl | ht
  · refine ⟨_,rfl,ah,_,rfl,.inl ⟨s2.seq hl,fun tl htl => ?_⟩⟩
    have s3:=same_new htl (.tup (evs.map V.int))
    refine ⟨_,rfl,(by show 1≤sizeLine; decide),fun t1 ht1 => ?_⟩
    obtain ⟨a1,b1,xs,ys,x1,x2,y1,y2,y3,y4,y5,y6⟩:=mid tl _ s3 (SqT.of upd_same) t1 ht1
    exact ⟨a1,b1,xs,ys,x1,x2,y1,y2,y3,y4,fun z => by obtain ⟨tq,e,s5,e5⟩:=y5 z; cases e; exact fin _ _ s5 e5,fun z p hp' => by obtain ⟨tq,e,s5,e5⟩:=y6 z p hp'; cases e; exact fin _ _ s5 e5⟩
  · refine ⟨_,rfl,ah,_,rfl,.inr ⟨same_seqT s2 ht,?_⟩⟩
    refine ⟨_,rfl,(by show 1≤sizeLine; decide),fun t1 ht1 => ?_⟩
    obtain ⟨a1,b1,xs,ys,x1,x2,y1,y2,y3,y4,y5,y6⟩:=mid ah _ (Same.refl _) (same_seqT s2 ht) t1 ht1
    exact ⟨a1,b1,xs,ys,x1,x2,y1,y2,y3,y4,fun z => by obtain ⟨tq,e,s5,e5⟩:=y5 z; cases e; exact fin _ _ s5 e5,fun z p hp' => by obtain ⟨tq,e,s5,e5⟩:=y6 z p hp'; cases e; exact fin _ _ s5 e5⟩
end
end Toy
namespace Toy
open PySem L2
seal PySem.wpAny
section
variable {P:Program} {w:World} {K:PySem.W.Frag} {mg:Str→Option Value} {base:Heap}
structure RC (R:List Room1) (chs:List Int):Prop where
  ok:ChOk R chs
  non:∀ p,p < R.length→choosing R p=false→chs.getD p (-1) = -1
  one:∀ p,p < R.length→kindAt R p = "one"→Rm.kb (okL R chs) (hsOf R) p=false→chs.getD p (-1)=(first0 R).getD p (-1)
theorem first_rc {R:List Room1} (hG:Good R):RC R (first0 R):=⟨first_ch hG,fun p hp hc => by rw [first0_get hp,if_neg (by rw [hc]; decide)],fun _ _ _ _ => rfl⟩
section
variable {R:List Room1} {a:Arrow} {chs:List Int}
theorem gone_non (hG:Good R) (hA:GoodA R a) (hc:chs.length=R.length) {p:Nat} (hp:p < R.length) (hn:choosing R p=false):(goneL R chs a).getD p (-1)=chs.getD p (-1):=by
  have none:¬ kindAt R p = "one" := fun z => by rw [choosing_kind hp,decide_eq_true (Or.inl z)] at hn; cases hn
  unfold goneL
  rw [(fold_at (n:=R.length) (v := 0) (yes:=fun _ => False) (stB_len R) _ _ (by rw [fold_len (stA_len R _)]; exact hc) (fun x hx hy l hl => hy.elim) (fun x hx hy l => ?_)).2 fun x hx hy => hy]
  · exact (fold_at (f:=stA R (scA R a)) (n:=R.length) (p:=p) (v := 0) (yes:=fun _ => False) (stA_len R _) (List.range R.length) chs hc (fun x hx hy l hl => hy.elim) (fun x hx hy l => by
        unfold stA
        split
        · rename_i hz
          rw [Bool.and_eq_true] at hz
          have nx:¬ p=x:=fun e => none (by rw [e]; exact of_decide_eq_true hz.1)
          by_cases hlen:x < l.length
          · rw [set_getD hlen,if_neg nx]
          · rw [List.set_eq_of_length_le (by omega)]
        · rfl)).2 fun x hx hy => hy
  · obtain ⟨c1,c2,c3,c4,c5⟩:=way_hold hG hA hx
    unfold stB
    split
    · rfl
    · rename_i hz
      have nx:¬ p=(Rm.hold (hsOf R) x).toNat:=fun e => by
        rw [← e] at hz
        have hk:x∈Rm.kidsN (hsOf R) p:=Rm.mem_kidsN.mpr ⟨by rw [hsOf_len]; exact c5,by omega⟩
        rcases holder_kind hG hk with ⟨h1,_⟩ | ⟨_,h2⟩
        · exact hz h1
        · rw [hn] at h2; cases h2
      by_cases hlen:(Rm.hold (hsOf R) x).toNat < l.length
      · rw [set_getD hlen,if_neg nx]
      · rw [List.set_eq_of_length_le (by omega)]
theorem way_kept (hG:Good R) (hA:GoodA R a) (hc:ChOk R chs) (hk:Rm.kb (okL R chs) (hsOf R) (scA R a)=true):∀ k,k∈Rm.chain (hsOf R) (tgtN a)→scA R a≤k→Rm.kb (okL R (goneL R chs a)) (hsOf R) k=true:=by
  intro k
  induction k using Nat.strongRecOn with
  | ind k ih =>
    intro h1 h2
    by_cases z:k=scA R a
    · rw [z,kb_out hG hA hc.len _ (scA_lt hA) (.inr rfl)]; exact hk
    · obtain ⟨_,_,c3,c4,c5⟩:=way_hold hG hA ((pre_mem (sc_in_tgt hA)).mpr ⟨h1,by omega⟩)
      have hl:k < (hsOf R).length:=by rw [hsOf_len]; exact c5
      have hw:OnWay R a (Rm.hold (hsOf R) k).toNat k:=⟨h1,by omega,by omega⟩
      obtain ⟨w1,w2,w3,w4⟩:=way_in hG hA hw
      have hpc:(Rm.hold (hsOf R) k).toNat∈Rm.chain (hsOf R) (tgtN a):=Rm.chain_trans _ (by rw [Rm.chain_up ⟨c3,c4⟩]; exact List.mem_cons_of_mem _ (Rm.chain_self _ _)) h1
      rw [Rm.kb_up hG.tree (by omega) hl,ih _ (by omega) hpc (Rm.chain_le _ (of_decide_eq_true w3)),Bool.true_and]
      unfold okL
      by_cases ha:kindAt R (Rm.hold (hsOf R) k).toNat = "all"
      · rw [decide_eq_true ha,Bool.true_or]
      · rw [gone_way hG hA hc.len hw w1 ha,decide_eq_true (rfl:((k:Nat):Int)=(k:Int)),Bool.or_true]
theorem gone_rc (hG:Good R) (hA:GoodA R a) (h:RC R chs) (hk:Rm.kb (okL R chs) (hsOf R) (scA R a)=true):RC R (goneL R chs a):=by
  refine ⟨gone_ch hG hA h.ok,fun p hp hn => by rw [gone_non hG hA h.ok.len hp hn]; exact h.non p hp hn,fun p hp ho hb => ?_⟩
  by_cases hw:∃ k,OnWay R a p k
  · obtain ⟨k,hw⟩:=hw
    obtain ⟨w1,w2,w3,w4⟩:=way_in hG hA hw
    have hpc:p∈Rm.chain (hsOf R) (tgtN a):=Rm.chain_trans _ (by rw [Rm.chain_kid hG.tree w2]; exact List.mem_cons_of_mem _ (Rm.chain_self _ _)) hw.1
    rw [way_kept hG hA h.ok hk p hpc (Rm.chain_le _ (of_decide_eq_true w3))] at hb
    cases hb
  · rw [gone_else hG hA h.ok.len (fun k z => hw ⟨k,z⟩) hp]
    split
    · rfl
    · rename_i hz
      rw [decide_eq_true ho,Bool.true_and,Rm.li_eq] at hz
      refine h.one p hp ho ?_
      rw [← kb_out hG hA h.ok.len p hp ?_]
      · exact hb
      · by_cases e:p=scA R a
        · exact .inr e
        · left
          cases y:Rm.wi (hsOf R) p (scA R a) with
          | false => rfl
          | true => rw [y,decide_eq_false e] at hz; exact absurd rfl hz
end
theorem behind_rc {R:List Room1} (hG:Good R) {A:List Arrow} (hA:∀ x∈A,GoodA R x) {chs0:List Int}:∀ (l:List Nat) (chs:List Int),Ahead R A chs0 chs l→(∀ i∈l,i < A.length)→Apart R A l→RC R chs→RC R (behindL R A chs l)
  | [],_,_,_,_,h => h
  | k :: l,chs,hah,hl,ap,h => by
    have gk:GoodA R (arD A k):=by rw [arD_get (hl k List.mem_cons_self)]; exact hA _ (List.getElem_mem _)
    exact behind_rc hG hA l _ (hah.next hG hA hl ap) (fun i hi => hl i (List.mem_cons_of_mem _ hi)) (List.Pairwise.of_cons ap) (gone_rc hG gk h (hah.kept k List.mem_cons_self))
theorem step_rc {R:List Room1} (hG:Good R) {A:List Arrow} (hA:∀ x∈A,GoodA R x) {chs:List Int} {ev:Int} (h:RC R chs) (hp:pairOf (clA R A) (tkL R A chs ev)=Option.none):RC R (behindL R A chs (tkL R A chs ev)) :=
  behind_rc (chs0:=chs) hG hA _ _ ⟨h.ok,fun _ _ _ _ _ => rfl,take_kept hG hA⟩ (fun i hi => take_lt i hi) (apart_of (fun i hi => take_lt i hi) hp) h
theorem list_ext_getD {c c':List Int} (hl:c.length=c'.length) (h:∀ p,p < c.length→c.getD p (-1)=c'.getD p (-1)):c=c':=by
  refine List.ext_getElem hl fun i h1 h2 => ?_
  have:=h i h1
  rw [List.getD_eq_getElem?_getD,List.getD_eq_getElem?_getD,List.getElem?_eq_getElem h1,List.getElem?_eq_getElem h2] at this
  exact this
theorem state_inj {R:List Room1} (hG:Good R) {c c':List Int} (h:RC R c) (h':RC R c') (hk:kI R c=kI R c') (hm:memL R c=memL R c'):c=c':=by
  have ek:keptL R c=keptL R c':=by
    unfold kI at hk
    exact (List.map_inj_right fun x y e => by omega).mp hk
  have kb:∀ p,p < R.length→Rm.kb (okL R c) (hsOf R) p=Rm.kb (okL R c') (hsOf R) p:=fun p hp => by
    have i1:=kept_mem (R:=R) (chs:=c) (k:=p)
    have i2:=kept_mem (R:=R) (chs:=c') (k:=p)
    rw [ek] at i1
    have i3:=i1.symm.trans i2
    cases x:Rm.kb (okL R c) (hsOf R) p with
    | true => exact ((i3.mp ⟨hp,x⟩).2).symm
    | false =>
      cases y:Rm.kb (okL R c') (hsOf R) p with
      | false => rfl
      | true => rw [(i3.mpr ⟨hp,y⟩).2] at x; cases x
  refine list_ext_getD (h.ok.len.trans h'.ok.len.symm) fun p hp => ?_
  rw [h.ok.len] at hp
  cases hc:choosing R p with
  | false => rw [h.non p hp hc,h'.non p hp hc]
  | true =>
    by_cases hkp:kindAt R p = "keep"
    · have e:(memL R c).getD p (-1)=(memL R c').getD p (-1):=by rw [hm]
      rw [memL_get hp,memL_get hp,if_pos hkp,if_pos hkp] at e
      exact e
    · have ho:kindAt R p = "one" := by
        rw [choosing_kind hp] at hc
        exact (of_decide_eq_true hc).resolve_right hkp
      cases hb:Rm.kb (okL R c) (hsOf R) p with
      | false => rw [h.one p hp ho hb,h'.one p hp ho (by rw [← kb p hp]; exact hb)]
      | true =>
        obtain ⟨k,k1,k2⟩:=h.ok.pick p hp hc
        obtain ⟨m1,m2⟩:=Rm.mem_kidsN.mp k1
        have hgt:=Rm.kid_gt hG.tree k1
        rw [hsOf_len] at m1
        have e2:(Rm.hold (hsOf R) k).toNat=p:=by omega
        have hkk:Rm.kb (okL R c) (hsOf R) k=true:=by
          rw [Rm.kb_up hG.tree (by omega) (by rw [hsOf_len]; exact m1),e2,hb,Bool.true_and]
          unfold okL
          rw [k2,decide_eq_true (rfl:((k:Nat):Int)=(k:Int)),Bool.or_true]
        rw [kb k m1] at hkk
        obtain ⟨_,j2⟩:=kb_hold hG (by omega) m1 hkk
        rw [e2] at j2
        unfold okL at j2
        rw [decide_eq_false (show ¬ kindAt R p = "all" by rw [ho]; decide +kernel),Bool.false_or,decide_eq_true_eq] at j2
        rw [k2,j2]
theorem nodup_le {α : Type} [DecidableEq α]:∀ (l m:List α),l.Nodup→(∀ x∈l,x∈m)→l.length≤m.length
  | [],m,_,_ => Nat.zero_le _
  | x :: l,m,hn,hs => by
    have hx:=hs x List.mem_cons_self
    obtain ⟨n1,n2⟩:=List.nodup_cons.mp hn
    have:=nodup_le l (m.erase x) n2 fun y hy => (List.mem_erase_of_ne (fun e => n1 (by rw [← e]; exact hy))).mpr (hs y (List.mem_cons_of_mem _ hy))
    rw [List.length_erase_of_mem hx] at this
    have hp:=List.length_pos_of_mem hx
    rw [List.length_cons]
    omega
end
end Toy
namespace Toy
open PySem L2
seal PySem.wpAny
section
variable {P:Program} {w:World} {K:PySem.W.Frag} {mg:Str→Option Value} {base:Heap}
def shapes (n:Nat) (ds:List PyData):Prop:=PyData.canLayAll0 ds=true∧PyData.depthAll ds≤n∧PyData.eqvAll ds ds=true
def shape (n:Nat) (d:PyData):Prop:=PyData.canLay0 d=true∧PyData.depth d≤n∧PyData.eqv d d=true
theorem shapes_map {β : Type} {g : β→PyData} {n:Nat}:∀ bs:List β,(∀ b∈bs,shape n (g b))→shapes n (bs.map g)
  | [],_ => ⟨rfl,by simp [PyData.depthAll],rfl⟩
  | b :: bs,h => by
    obtain ⟨i1,i2,i3⟩:=shapes_map bs fun x hx => h x (List.mem_cons_of_mem _ hx)
    obtain ⟨j1,j2,j3⟩:=h b List.mem_cons_self
    refine ⟨?_,?_,?_⟩
    · simp only [List.map_cons,PyData.canLayAll0,i1,j1,Bool.and_true]
    · simp only [List.map_cons,PyData.depthAll]; omega
    · simp only [List.map_cons,PyData.eqvAll,i3,j3,Bool.and_true]
theorem shape_tuple {n:Nat} {ds:List PyData} (h:shapes n ds):shape (n + 1) (.tuple ds):=by
  obtain ⟨a,b,c⟩:=h
  exact ⟨by simpa only [PyData.canLay0] using a,by simp only [PyData.depth]; omega,by simpa only [PyData.eqv] using c⟩
theorem shape_int (i:Int):shape 0 (.int i):=⟨rfl,by simp [PyData.depth],by simp only [PyData.eqv,beq_self_eq_true]⟩
theorem shape_ints (xs:List Int):shapes 0 (xs.map PyData.int):=shapes_map xs fun i _ => shape_int i
theorem shaped_of {n:Nat} {d:PyData} (h:shape n d) (hn:n≤8):SeqAt.shaped d=true:=by
  obtain ⟨a,b,_⟩:=h
  unfold SeqAt.shaped
  rw [Bool.and_eq_true]
  exact ⟨a,decide_eq_true (by omega)⟩
end
end Toy
namespace Toy
open PySem L2
seal PySem.wpAny
section
variable {P:Program} {w:World} {K:PySem.W.Frag} {mg:Str→Option Value} {base:Heap}
def Z {α β : Type} (R : α→β→Prop) (xs:List α) (ys:List β):Prop:=xs.length=ys.length∧∀ (i:Nat) x y,xs[i]? = some x→ys[i]? = some y→R x y
theorem Z.nil {α β : Type} {R : α→β→Prop}:Z R [] []:=⟨rfl,fun i x y h => by simp at h⟩
theorem Z.mono {α β : Type} {R S : α→β→Prop} {xs:List α} {ys:List β} (h:Z R xs ys) (m:∀ x y,R x y→S x y):Z S xs ys:=⟨h.1,fun i x y a b => m _ _ (h.2 i x y a b)⟩
theorem Z.monoM {α β : Type} {R S : α→β→Prop} {xs:List α} {ys:List β} (h:Z R xs ys) (m:∀ x y,x∈xs→R x y→S x y):Z S xs ys:=⟨h.1,fun i x y a b => m _ _ (List.mem_of_getElem? a) (h.2 i x y a b)⟩
theorem Z.at {α β : Type} {R : α→β→Prop} {xs:List α} {ys:List β} (h:Z R xs ys) {i:Nat} {y : β} (e:ys[i]? = some y):∃ x,xs[i]? = some x∧R x y:=by
  obtain ⟨hi,_⟩:=List.getElem?_eq_some_iff.mp e
  have hi':i < xs.length:=by rw [h.1]; exact hi
  exact ⟨xs[i],List.getElem?_eq_getElem hi',h.2 i _ y (List.getElem?_eq_getElem hi') e⟩
theorem Z.at1 {α β : Type} {R : α→β→Prop} {xs:List α} {ys:List β} (h:Z R xs ys) {i:Nat} {x : α} (e:xs[i]? = some x):∃ y,ys[i]? = some y∧R x y:=by
  obtain ⟨hi,_⟩:=List.getElem?_eq_some_iff.mp e
  have hi':i < ys.length:=by rw [← h.1]; exact hi
  exact ⟨ys[i],List.getElem?_eq_getElem hi',h.2 i x _ e (List.getElem?_eq_getElem hi')⟩
theorem Z.snoc {α β : Type} {R : α→β→Prop} {xs:List α} {ys:List β} {x : α} {y : β} (h:Z R xs ys) (r:R x y):Z R (xs ++ [x]) (ys ++ [y]):=by
  refine ⟨by simp [h.1],fun i p q a b => ?_⟩
  by_cases hi:i < xs.length
  · rw [List.getElem?_append_left hi] at a
    rw [List.getElem?_append_left (by rw [← h.1]; exact hi)] at b
    exact h.2 i p q a b
  · have hl:=h.1
    rw [List.getElem?_append_right (by omega)] at a
    rw [List.getElem?_append_right (by omega)] at b
    have e1:i - xs.length=0:=by
      cases z:i - xs.length with
      | zero => rfl
      | succ n => rw [z] at a; simp at a
    have e2:i - ys.length=0:=by omega
    rw [e1] at a
    rw [e2] at b
    simp at a b
    subst a b
    exact r
theorem Z.cons {α β : Type} {R : α→β→Prop} {xs:List α} {ys:List β} {x : α} {y : β} (h:Z R xs ys) (r:R x y):Z R (x :: xs) (y :: ys):=by
  refine ⟨by simp [h.1],fun i p q a b => ?_⟩
  cases i with
  | zero => simp at a b; subst a b; exact r
  | succ i => exact h.2 i p q (by simpa using a) (by simpa using b)
theorem Z.uncons {α β : Type} {R : α→β→Prop} {xs:List α} {ys:List β} {x : α} {y : β} (h:Z R (x :: xs) (y :: ys)):R x y∧Z R xs ys :=
  ⟨h.2 0 x y rfl rfl,by have:=h.1; simpa using this,fun i p q a b => h.2 (i + 1) p q (by simpa using a) (by simpa using b)⟩
abbrev Ent:=Int×List Int
abbrev Mach:=List (List Ent)
def DeedsAt (H:Hp) (v:V) (ds:List Int):Prop := ∃ d,v = .ref d∧H d=some (.tup (ds.map V.int))
def EntAt (H:Hp) (v:V) (e:Ent):Prop := ∃ t u,v = .ref t∧H t=some (.tup [.int e.1,u])∧DeedsAt H u e.2
def RowAt (H:Hp) (p:Addr) (r:List Ent):Prop := ∃ vs,H p=some (.lst vs)∧Z (EntAt H) vs r
def RowsAt (H:Hp) (ps:List Addr) (M:Mach):Prop:=Z (RowAt H) ps M
def Keeps (l:Addr) (H H':Hp):Prop := ∀ x o,H x=some o→x≠l→H' x=some o
theorem DeedsAt.keep {H H':Hp} {l:Addr} {v:V} {ds:List Int} (k:Keeps l H H') (hl:∀ ys,H l≠some (.tup ys)) (h:DeedsAt H v ds):DeedsAt H' v ds:=by
  obtain ⟨d,e,h⟩:=h
  exact ⟨d,e,k _ _ h fun z => hl _ (by rw [← z]; exact h)⟩
theorem EntAt.keep {H H':Hp} {l:Addr} {v:V} {e:Ent} (k:Keeps l H H') (hl:∀ ys,H l≠some (.tup ys)) (h:EntAt H v e):EntAt H' v e:=by
  obtain ⟨t,u,e1,h1,h2⟩:=h
  exact ⟨t,u,e1,k _ _ h1 (fun z => hl _ (by rw [← z]; exact h1)),h2.keep k hl⟩
theorem RowAt.keep {H H':Hp} {l p:Addr} {r:List Ent} (k:Keeps l H H') (hl:∀ ys,H l≠some (.tup ys)) (n:p≠l) (h:RowAt H p r):RowAt H' p r:=by
  obtain ⟨vs,h1,h2⟩:=h
  exact ⟨vs,k _ _ h1 n,h2.mono fun _ _ z => z.keep k hl⟩
theorem RowsAt.keep {H H':Hp} {l:Addr} {ps:List Addr} {M:Mach} (k:Keeps l H H') (hl:∀ ys,H l≠some (.tup ys)) (n:∀ p∈ps,p≠l) (h:RowsAt H ps M):RowsAt H' ps M :=
  h.monoM fun p _ hp z => z.keep k hl (n p hp)
theorem DeedsAt.same {H H':Hp} {v:V} {ds:List Int} (s:Same H H') (h:DeedsAt H v ds):DeedsAt H' v ds:=by
  obtain ⟨d,e,h⟩:=h
  exact ⟨d,e,s _ _ h⟩
theorem EntAt.same {H H':Hp} {v:V} {e:Ent} (s:Same H H') (h:EntAt H v e):EntAt H' v e:=by
  obtain ⟨t,u,e1,h1,h2⟩:=h
  exact ⟨t,u,e1,s _ _ h1,h2.same s⟩
theorem RowAt.same {H H':Hp} {p:Addr} {r:List Ent} (s:Same H H') (h:RowAt H p r):RowAt H' p r:=by
  obtain ⟨vs,h1,h2⟩:=h
  exact ⟨vs,s _ _ h1,h2.mono fun _ _ z => z.same s⟩
theorem RowsAt.same {H H':Hp} {ps:List Addr} {M:Mach} (s:Same H H') (h:RowsAt H ps M):RowsAt H' ps M:=h.mono fun _ _ z => z.same s
theorem lst_tup {H:Hp} {l:Addr} {xs:List V} (h:H l=some (.lst xs)):∀ ys,H l≠some (.tup ys):=fun ys z => by rw [h] at z; cases z
theorem kf1:¬ (("states" : Str) = "rows"):=by decide +kernel
theorem kf2:¬ (("states" : Str) = "ways"):=by decide +kernel
theorem kf3:¬ (("rows" : Str) = "ways"):=by decide +kernel
def fflds (s r y:Addr):List (Str×V):=putF "ways" (.ref y) (putF "rows" (.ref r) (putF "states" (.ref s) []))
theorem fflds_states (s r y:Addr):(fflds s r y).lookup ("states" : Str)=some (.ref s):=by
  unfold fflds
  rw [lookup_putF,if_neg kf2,lookup_putF,if_neg kf1,lookup_putF,if_pos rfl]
theorem fflds_rows (s r y:Addr):(fflds s r y).lookup ("rows" : Str)=some (.ref r):=by
  unfold fflds
  rw [lookup_putF,if_neg kf3,lookup_putF,if_pos rfl]
theorem fflds_ways (s r y:Addr):(fflds s r y).lookup ("ways" : Str)=some (.ref y):=by
  unfold fflds
  rw [lookup_putF,if_pos rfl]
structure FlTxt (K:PySem.W.Frag) (mg:Str→Option Value) (C:Addr):Prop where
  cl:Cls K C
  nS:NoAttr K C "states"
  nR:NoAttr K C "rows"
  nW:NoAttr K C "ways"
  mgC:mg "Flat" = some (.ref C)
  list:mg "list" = none
end
end Toy
namespace Toy
open PySem L2
seal PySem.wpAny
section
variable {P:Program} {w:World} {K:PySem.W.Frag} {mg:Str→Option Value} {base:Heap}
def ListsAt (H:Hp) (ps:List Addr) (vss:List (List V)):Prop:=Z (fun p vs => H p=some (.lst vs)) ps vss
def spFInit (C:Addr):Sp:=fun vs H Q _ => ∃ (c dx s r y:Addr) (qs:List Addr) (ss:List V) (vss:List (List V)) (ws:List V),vs=[.ref c,.ref s,.ref r,.ref y]∧H c=some (.ins C dx [])∧H s=some (.lst ss)∧H r=some (.lst (qs.map V.ref))∧ListsAt H qs vss∧H y=some (.lst ws)∧qs.length≤100 ∧
  ∀ (s' r' y':Addr) (ps:List Addr) (H':Hp),Keeps c H H'→H' c=some (.ins C dx (fflds s' r' y'))→H s'=Option.none→H' s'=some (.lst ss)→H r'=Option.none→H' r'=some (.lst (ps.map V.ref))→ListsAt H' ps vss→(∀ p∈ps,H p=Option.none∧p≠r')→H y'=Option.none→H' y'=some (.lst ws)→Q .non H'
theorem scFInit:FnScope ["self", "states", "rows", "ways"] ["self", "states", "rows", "ways"] (defScope sFInit):=⟨rfl,rfl,rfl,by decide +kernel,rfl,by decide +kernel,by decide +kernel⟩
theorem ok_finit {f C:Addr} {fd:FuncData} (F:Fun K "__init__" "Flat.__init__" sFInit f fd) (T:FlTxt K mg C):FnOk P w K mg base CX0 1 f fd ["self", "states", "rows", "ways"] (spFInit C):=by
  refine F.ok scFInit (fun vs H Q E h => ?_) (fun cdv A outer s H vs Q E hr h => ?_)
  · obtain ⟨c,dx,s,r,y,qs,ss,vss,ws,rfl,_⟩:=h
    rfl
  obtain ⟨c,dx,sa,ra,ya,qs,ss,vss,ws,rfl,hc,hs,hra,hqs,hy,hl,q⟩:=h
  refine ⟨_,pss_cons (ps_fld (pv 0) (pe_callTy call_list_of (by rfl) T.list (by decide +kernel) (pa_cons (pv 1) pa_nil)) rfl)
    (pss_cons (ps_fld (pv 0) (pe_comp ["row"] [Option.none] rfl (pi_list (pv 2)) (fun _ => pg_name (i := 0) (show (["row"]:List Str).Nodup by decide +kernel) rfl (Or.inl rfl)) (fun _ => pts_nil)
      (fun _ => pe_callTy call_list_of (by rfl) T.list (by decide +kernel) (pa_cons (pv 0) pa_nil))
      (N:=["self", "states", "rows", "ways"]) (ks:=(defScope sFInit).names) rfl rfl (by decide +kernel) (by decide +kernel) (by decide +kernel) (by decide +kernel)) rfl)
    (pss_one (ps_fld (pv 0) (pe_callTy call_list_of (by rfl) T.list (by decide +kernel) (pa_cons (pv 3) pa_nil)) rfl))),?_⟩
  refine ⟨_,rfl,sa,_,rfl,.inl (SqL.of hs),fun l1 hl1 => ?_⟩
  have n1:c≠l1:=ne_of_none hc hl1
  refine ⟨_,rfl,c,C,dx,_,rfl,(by rw [upd_ne n1]; exact hc),T.cl,T.nS,(by show 0 < 1000; decide),?_⟩
  have k1:Keeps c H (upd (upd H l1 (.lst ss)) c (.ins C dx (putF "states" (.ref l1) []))):=fun x o e n => by rw [upd_ne n,upd_ne (ne_of_none e hl1)]; exact e
  have c1:(upd (upd H l1 (.lst ss)) c (.ins C dx (putF "states" (.ref l1) []))) c=some (.ins C dx (putF "states" (.ref l1) [])):=upd_same
  have e1:(upd (upd H l1 (.lst ss)) c (.ins C dx (putF "states" (.ref l1) []))) l1=some (.lst ss):=by rw [upd_ne n1.symm,upd_same]
  have f1:∀ x,(upd (upd H l1 (.lst ss)) c (.ins C dx (putF "states" (.ref l1) []))) x=Option.none→H x=Option.none:=fun x e => by
    cases z:H x with
    | none => rfl
    | some o =>
      by_cases n:x=c
      · rw [n,c1] at e; cases e
      · rw [k1 x o z n] at e; cases e
  generalize upd (upd H l1 (.lst ss)) c (.ins C dx (putF "states" (.ref l1) []))=H1 at k1 c1 e1 f1 ⊢
  have ntc:∀ {p xs},H p=some (.lst xs)→p≠c:=fun e => ne_of e hc (by intro z; cases z)
  have r1:H1 ra=some (.lst (qs.map V.ref)):=k1 _ _ hra (ntc hra)
  refine ⟨_,rfl,ra,rfl,⟨_,SqL.of r1⟩,fun bk D hD => ?_⟩
  refine comp_listA (K:=K) (xs:=qs.map V.ref) (Pv:=fun i ys σ H' => ∃ v ps,σ = [v]∧ys=ps.map V.ref∧Same H1 H'∧ListsAt H' ps (vss.take i)∧∀ p∈ps,H1 p=Option.none∧p≠D) ⟨_,[],rfl,rfl,same_new hD _,by rw [List.take_zero]; exact Z.nil,fun p hp => by simp at hp⟩ ?_ ?_ ?_
  · rintro i ys σ H' hi hDi ⟨v,ps,rfl,rfl,s2,_,_⟩
    exact SqL.of (s2 _ _ r1)
  · rintro i x ys σ H' hx hDi ⟨v,ps,rfl,rfl,s2,hL,hps⟩
    obtain ⟨qa,hqa,rfl⟩ : ∃ qa,qs[i]? = some qa∧V.ref qa=x:=by
      rw [List.getElem?_map] at hx
      cases z:qs[i]? with
      | none => rw [z] at hx; simp at hx
      | some p => rw [z] at hx; exact ⟨p,rfl,by simpa using hx⟩
    obtain ⟨vs,hvs,hq⟩:=hqs.at1 hqa
    refine ⟨_,rfl,qa,vs,rfl,.inl (SqL.of (s2 _ _ (k1 _ _ hq (ntc hq)))),fun l hl => ?_⟩
    have nDl:D≠l:=ne_of_none hDi hl
    have hi:i < vss.length:=(List.getElem?_eq_some_iff.mp hvs).1
    refine ⟨by rw [upd_ne nDl]; exact hDi,?_,⟨_,ps ++ [l],rfl,by rw [List.map_append]; rfl,?_,?_,fun p hp => ?_⟩⟩
    · have z:=hL.1
      rw [List.length_take] at z
      have z2:=hqs.1
      rw [List.length_map]
      exact small1000 (by omega)
    · exact sameUpd (sameUpd s2 (s2.free hl) _) hD _
    · rw [List.take_succ,hvs]
      refine Z.snoc (hL.monoM fun p vs hp e => ?_) ?_
      · show (upd (upd H' l (.lst _)) D _) p=_
        rw [upd_ne (hps p hp).2,upd_ne (ne_of_none e hl)]; exact e
      · show (upd (upd H' l (.lst _)) D _) l=_
        rw [upd_ne nDl.symm,upd_same]
    · rcases List.mem_append.mp hp with z | z
      · exact hps p z
      · have z':p=l:=by simpa using z
        subst z'
        exact ⟨s2.free hl,nDl.symm⟩
  · rintro ys σ H2 hD2 ⟨v,ps,rfl,rfl,s2,hL,hps⟩
    have ecl:(qs.map V.ref).length=vss.length:=by rw [List.length_map,hqs.1]
    rw [ecl,List.take_length] at hL
    refine ⟨_,rfl,c,C,dx,_,rfl,s2 _ _ c1,T.cl,T.nR,(by show 1 < 1000; decide),?_⟩
    have c2:=s2 _ _ c1
    have ncD:c≠D:=ne_of_none c1 hD
    have npc:∀ p∈ps,p≠c:=fun p hp z => by
      have y:=(hps p hp).1
      rw [z,c1] at y
      cases y
    have k2:Keeps c H2 (upd H2 c (.ins C dx (putF "rows" (.ref D) (putF "states" (.ref l1) [])))):=fun x o e n => by rw [upd_ne n]; exact e
    have c3:(upd H2 c (.ins C dx (putF "rows" (.ref D) (putF "states" (.ref l1) [])))) c=some (.ins C dx (putF "rows" (.ref D) (putF "states" (.ref l1) []))):=upd_same
    have f3:∀ x,(upd H2 c (.ins C dx (putF "rows" (.ref D) (putF "states" (.ref l1) [])))) x=Option.none→H2 x=Option.none:=fun x e => by
      by_cases n:x=c
      · rw [n,c3] at e; cases e
      · rw [upd_ne n] at e; exact e
    generalize upd H2 c (.ins C dx (putF "rows" (.ref D) (putF "states" (.ref l1) [])))=H3 at k2 c3 f3 ⊢
    have y3:H3 ya=some (.lst ws):=k2 _ _ (s2 _ _ (k1 _ _ hy (ntc hy))) (ntc hy)
    refine ⟨_,rfl,ya,_,rfl,.inl (SqL.of y3),fun l3 hl3 => ?_⟩
    have n3:c≠l3:=ne_of_none c3 hl3
    refine ⟨_,rfl,c,C,dx,_,rfl,(by rw [upd_ne n3]; exact c3),T.cl,T.nW,(by show 2 < 1000; decide),?_⟩
    have k4:Keeps c H3 (upd (upd H3 l3 (.lst ws)) c (.ins C dx (putF "ways" (.ref l3) (putF "rows" (.ref D) (putF "states" (.ref l1) []))))):=fun x o e n => by rw [upd_ne n,upd_ne (ne_of_none e hl3)]; exact e
    have hl3':=f3 _ hl3
    have hl3H:H1 l3=Option.none:=s2.free hl3'
    refine q l1 D l3 ps _ (fun x o e n => k4 _ _ (k2 _ _ (s2 _ _ (k1 _ _ e n)) n) n) upd_same hl1 (k4 _ _ (k2 _ _ (s2 _ _ e1) n1.symm) n1.symm) (f1 _ hD) (k4 _ _ (k2 _ _ hD2 ncD.symm) ncD.symm) (hL.monoM fun p vs hp e => k4 _ _ (k2 _ _ e (npc p hp)) (npc p hp)) (fun p hp => ⟨f1 _ (hps p hp).1,(hps p hp).2⟩) (f1 _ hl3H) ?_
    rw [upd_ne n3.symm,upd_same]
end
end Toy
namespace Toy
open PySem L2
seal PySem.wpAny
section
variable {P:Program} {w:World} {K:PySem.W.Frag} {mg:Str→Option Value} {base:Heap}
inductive Refu where
  | clash (evs:List Int) (i j:Nat)
  | many
structure FS where
  cs:List (List Int)
  ws:List (List Int)
  rows:List (List Ent)
  row:List Ent
def nxE (R:List Room1) (A:List Arrow) (c:List Int) (e:Int):List Int:=behindL R A c (tkL R A c e)
def ddE (R:List Room1) (A:List Arrow) (c:List Int) (e:Int):List Int:=deedsL A (tkL R A c e)
def fput (R:List Room1) (A:List Arrow) (c w:List Int) (S:FS) (e:Int):Except Refu FS :=
  if nxE R A c e∈S.cs then .ok ⟨S.cs,S.ws,S.rows,S.row ++ [(((S.cs.idxOf (nxE R A c e):Nat):Int),ddE R A c e)]⟩
  else if S.cs.length=30 then .error .many
  else .ok ⟨S.cs ++ [nxE R A c e],S.ws ++ [w ++ [e]],S.rows,S.row ++ [(((S.cs.length:Nat):Int),ddE R A c e)]⟩
def fstep (R:List Room1) (A:List Arrow) (c w:List Int) (S:FS) (e:Int):Except Refu FS :=
  match pairOf (clA R A) (tkL R A c e) with
  | some (i,j) => .error (.clash (w ++ [e]) i j)
  | Option.none => fput R A c w S e
def fevs (R:List Room1) (A:List Arrow) (c w:List Int):List Int→FS→Except Refu FS
  | [],S => .ok S
  | e :: r,S => match fstep R A c w S e with
    | .error x => .error x
    | .ok S' => fevs R A c w r S'
def frow (R:List Room1) (A:List Arrow) (n:Nat) (S:FS):Except Refu FS:=fevs R A (S.cs.getD n []) (S.ws.getD n []) [0,1,2,3] ⟨S.cs,S.ws,S.rows,[]⟩
def ffold (R:List Room1) (A:List Arrow):Nat→Nat→FS→Except Refu FS
  | 0,_,S => .ok S
  | f + 1,n,S => if n < S.cs.length then
      match frow R A n S with
      | .error x => .error x
      | .ok S' => ffold R A f (n + 1) ⟨S'.cs,S'.ws,S'.rows ++ [S'.row],[]⟩
    else .ok S
def fS0 (R:List Room1):FS:=⟨[first0 R],[[]],[],[]⟩
def foldO (R:List Room1) (A:List Arrow):Except Refu FS:=ffold R A 31 0 (fS0 R)
structure FI (R:List Room1) (S:FS):Prop where
  rc:∀ c∈S.cs,RC R c
  nd:S.cs.Nodup
  wl:S.ws.length=S.cs.length
  le:S.cs.length≤30
  wb:∀ (i:Nat) w,S.ws[i]? = some w→w.length≤i
theorem fi_first {R:List Room1} (hG:Good R):FI R (fS0 R):=by
  refine ⟨fun c hc => ?_,List.nodup_cons.mpr ⟨by simp,List.nodup_nil⟩,rfl,by show 1≤30; decide,fun i w h => ?_⟩
  · rw [List.mem_singleton.mp hc]; exact first_rc hG
  · cases i with
    | zero => cases h; exact Nat.le_refl 0
    | succ i => cases h
theorem FI.push {R:List Room1} {S:FS} (h:FI R S) {c w:List Int} {r:List Ent} (hc:RC R c) (hn:¬ c∈S.cs) (hl:S.cs.length≠30) (hw:w.length≤S.cs.length):FI R ⟨S.cs ++ [c],S.ws ++ [w],S.rows,r⟩:=by
  have hle:=h.le
  refine ⟨fun x hx => ?_,?_,?_,?_,fun i x hx => ?_⟩
  · rcases List.mem_append.mp hx with z | z
    · exact h.rc x z
    · rw [List.mem_singleton.mp z]; exact hc
  · refine List.nodup_append.mpr ⟨h.nd,List.nodup_cons.mpr ⟨by simp,List.nodup_nil⟩,fun x hx y hy e => ?_⟩
    rw [e,List.mem_singleton.mp hy] at hx
    exact hn hx
  · show (S.ws ++ [w]).length=(S.cs ++ [c]).length
    rw [List.length_append,List.length_append,h.wl]; rfl
  · show (S.cs ++ [c]).length≤30
    rw [List.length_append]
    simp only [List.length_cons,List.length_nil]
    omega
  · have hx':(S.ws ++ [w])[i]? = some x:=hx
    by_cases z:i < S.ws.length
    · rw [List.getElem?_append_left z] at hx'
      exact h.wb i x hx'
    · rw [List.getElem?_append_right (by omega)] at hx'
      cases e:i - S.ws.length with
      | zero => rw [e] at hx'; cases hx'; have:=h.wl; omega
      | succ k => rw [e] at hx'; cases hx'
theorem FI.row {R:List Room1} {S:FS} (h:FI R S) {rs:List (List Ent)} {r:List Ent}:FI R ⟨S.cs,S.ws,rs,r⟩:=⟨h.rc,h.nd,h.wl,h.le,h.wb⟩
def StAt (R:List Room1) (H:Hp) (p:Addr) (c:List Int):Prop := ∃ kt mt,H p=some (.tup [.ref kt,.ref mt])∧H kt=some (.tup ((kI R c).map V.int))∧H mt=some (.tup ((memL R c).map V.int))
def WayAt (H:Hp) (p:Addr) (w:List Int):Prop:=H p=some (.tup (w.map V.int))
def TS (H H':Hp):Prop := ∀ x ys,H x=some (.tup ys)→H' x=some (.tup ys)
theorem same_ts {H H':Hp} (s:Same H H'):TS H H':=fun x _ e => s x _ e
theorem TS.trans {H H' H'':Hp} (a:TS H H') (b:TS H' H''):TS H H'':=fun x ys e => b _ _ (a _ _ e)
theorem ts_upd {H:Hp} {a:Addr} {xs:List V} {o:HO} (h:H a=some (.lst xs)):TS H (upd H a o):=fun x ys e => by
  rw [upd_ne (fun z => by rw [z,h] at e; cases e)]; exact e
theorem StAt.ts {R:List Room1} {H H':Hp} {p:Addr} {c:List Int} (t:TS H H') (h:StAt R H p c):StAt R H' p c:=by
  obtain ⟨kt,mt,a,b,d⟩:=h
  exact ⟨kt,mt,t _ _ a,t _ _ b,t _ _ d⟩
theorem EntAt.ts {H H':Hp} {v:V} {e:Ent} (t:TS H H') (h:EntAt H v e):EntAt H' v e:=by
  obtain ⟨a,u,e1,h1,d,e2,h2⟩:=h
  exact ⟨a,u,e1,t _ _ h1,d,e2,t _ _ h2⟩
structure FoldAt (R:List Room1) (H:Hp) (sl wl rl:Addr) (ps qs rs:List Addr) (S:FS):Prop where
  es:H sl=some (.lst (ps.map V.ref))
  st:Z (StAt R H) ps S.cs
  ew:H wl=some (.lst (qs.map V.ref))
  wt:Z (WayAt H) qs S.ws
  er:H rl=some (.lst (rs.map V.ref))
  rt:RowsAt H rs S.rows
  n1:sl≠wl
  n2:sl≠rl
  n3:wl≠rl
  nr:∀ p∈rs,p≠sl∧p≠wl∧p≠rl
section
variable {R:List Room1} {H H':Hp} {sl wl rl:Addr} {ps qs rs:List Addr} {S:FS}
theorem FoldAt.same (h:FoldAt R H sl wl rl ps qs rs S) (s:Same H H'):FoldAt R H' sl wl rl ps qs rs S :=
  ⟨s _ _ h.es,h.st.mono fun _ _ z => z.ts (same_ts s),s _ _ h.ew,h.wt.mono fun _ _ z => s _ _ z,s _ _ h.er,h.rt.same s,h.n1,h.n2,h.n3,h.nr⟩
theorem FoldAt.setRow (h:FoldAt R H sl wl rl ps qs rs S) {r:List Ent}:FoldAt R H sl wl rl ps qs rs ⟨S.cs,S.ws,S.rows,r⟩:=⟨h.es,h.st,h.ew,h.wt,h.er,h.rt,h.n1,h.n2,h.n3,h.nr⟩
theorem FoldAt.other (h:FoldAt R H sl wl rl ps qs rs S) {l:Addr} {xs:List V} {o:HO} (hl:H l=some (.lst xs)) (a1:l≠sl) (a2:l≠wl) (a3:l≠rl) (a4:∀ p∈rs,p≠l):FoldAt R (upd H l o) sl wl rl ps qs rs S:=by
  have t:TS H (upd H l o):=ts_upd hl
  refine ⟨by rw [upd_ne a1.symm]; exact h.es,h.st.mono fun _ _ z => z.ts t,by rw [upd_ne a2.symm]; exact h.ew,h.wt.mono fun _ _ z => t _ _ z,by rw [upd_ne a3.symm]; exact h.er,?_,h.n1,h.n2,h.n3,h.nr⟩
  exact h.rt.keep (fun x o e n => by rw [upd_ne n]; exact e) (lst_tup hl) a4
theorem FoldAt.push (h:FoldAt R H sl wl rl ps qs rs S) {p q:Addr} {c w:List Int} {r:List Ent} (hp:StAt R H p c) (s:Same (upd H sl (.lst (ps.map V.ref ++ [.ref p]))) H') (hq:WayAt H' q w) :
    FoldAt R (upd H' wl (.lst (qs.map V.ref ++ [.ref q]))) sl wl rl (ps ++ [p]) (qs ++ [q]) rs ⟨S.cs ++ [c],S.ws ++ [w],S.rows,r⟩:=by
  have t1:TS H (upd H sl (.lst (ps.map V.ref ++ [.ref p]))):=ts_upd h.es
  have ew:H' wl=some (.lst (qs.map V.ref)):=s _ _ (by rw [upd_ne h.n1.symm]; exact h.ew)
  have t2:=(t1.trans (same_ts s)).trans (ts_upd (o:=.lst (qs.map V.ref ++ [.ref q])) ew)
  refine ⟨?_,?_,?_,?_,?_,?_,h.n1,h.n2,h.n3,h.nr⟩
  · rw [upd_ne h.n1,s _ _ upd_same,List.map_append]; rfl
  · exact Z.snoc (h.st.mono fun _ _ z => z.ts t2) (hp.ts t2)
  · rw [upd_same,List.map_append]; rfl
  · exact Z.snoc (h.wt.mono fun _ _ z => t2 _ _ z) (ts_upd ew _ _ hq)
  · rw [upd_ne h.n3.symm]; exact s _ _ (by rw [upd_ne h.n2.symm]; exact h.er)
  · refine RowsAt.keep (l:=wl) (fun x o e n => by rw [upd_ne n]; exact e) (lst_tup ew) (fun p hp => (h.nr p hp).2.1) (RowsAt.same s ?_)
    exact h.rt.keep (fun x o e n => by rw [upd_ne n]; exact e) (lst_tup h.es) (fun p hp => (h.nr p hp).1)
theorem FoldAt.rowed (h:FoldAt R H sl wl rl ps qs rs S) {l:Addr} {vs:List V} {r:List Ent} (hl:H l=some (.lst vs)) (hv:Z (EntAt H) vs r) (a1:l≠sl) (a2:l≠wl) (a3:l≠rl) :
    FoldAt R (upd H rl (.lst (rs.map V.ref ++ [.ref l]))) sl wl rl ps qs (rs ++ [l]) ⟨S.cs,S.ws,S.rows ++ [r],[]⟩:=by
  have t:TS H (upd H rl (.lst (rs.map V.ref ++ [.ref l]))):=ts_upd h.er
  refine ⟨by rw [upd_ne h.n2]; exact h.es,h.st.mono fun _ _ z => z.ts t,by rw [upd_ne h.n3]; exact h.ew,h.wt.mono fun _ _ z => t _ _ z,by rw [upd_same,List.map_append]; rfl,?_,h.n1,h.n2,h.n3,fun p hp => ?_⟩
  · refine Z.snoc (h.rt.keep (fun x o e n => by rw [upd_ne n]; exact e) (lst_tup h.er) (fun p hp => (h.nr p hp).2.2)) ⟨vs,?_,hv.mono fun _ _ z => z.ts t⟩
    rw [upd_ne a3]; exact hl
  · rcases List.mem_append.mp hp with z | z
    · exact h.nr p z
    · rw [List.mem_singleton.mp z]; exact ⟨a1,a2,a3⟩
end
def stD (R:List Room1) (c:List Int):PyData:=.tuple [.tuple ((kI R c).map PyData.int),.tuple ((memL R c).map PyData.int)]
theorem eqv_intsF:∀ a b:List Int,PyData.eqvAll (a.map PyData.int) (b.map PyData.int)=decide (a=b)
  | [],[] => rfl
  | [],_ :: _ => rfl
  | _ :: _,[] => rfl
  | x :: a,y :: b => by
    simp only [List.map_cons,PyData.eqvAll,PyData.eqv,eqv_intsF a b]
    by_cases z:x=y
    · subst z
      simp
    · simp [z]
theorem stD_eqv {R:List Room1} (hG:Good R) {c c':List Int} (h:RC R c) (h':RC R c'):(stD R c).eqv (stD R c')=decide (c=c'):=by
  unfold stD
  simp only [PyData.eqv,PyData.eqvAll,eqv_intsF,Bool.and_true]
  by_cases z:c=c'
  · subst z; simp
  · rw [decide_eq_false z,Bool.and_eq_false_iff]
    by_cases y:kI R c=kI R c'
    · right; exact decide_eq_false fun x => z (state_inj hG h h' y x)
    · left; exact decide_eq_false y
theorem stD_shape (R:List Room1) (c:List Int):shape 2 (stD R c):=by
  obtain ⟨a1,a2,a3⟩:=shape_tuple (shape_ints (kI R c))
  obtain ⟨b1,b2,b3⟩:=shape_tuple (shape_ints (memL R c))
  exact shape_tuple ⟨by simp only [PyData.canLayAll0,a1,b1,Bool.and_true],by simp only [PyData.depthAll]; omega,by simp only [PyData.eqvAll,a3,b3,Bool.and_true]⟩
theorem st_rd {K:PySem.W.Frag} {R:List Room1} {H:Hp} {p:Addr} {c:List Int} (h:StAt R H p c):RdV K H (.ref p) (stD R c):=by
  obtain ⟨kt,mt,a,b,d⟩:=h
  exact .tup (SqT.of a) (.cons (.tup (SqT.of b) (ints_rd _)) (.cons (.tup (SqT.of d) (ints_rd _)) .nil))
theorem z_rd {K:PySem.W.Frag} {H:Hp} {β : Type} {S:Addr→β→Prop} {D : β→PyData} (hS:∀ p c,S p c→RdV K H (.ref p) (D c)):∀ {ps:List Addr} {cs:List β},Z S ps cs→RdVs K H (ps.map V.ref) (cs.map D)
  | [],[],_ => .nil
  | [],_ :: _,h => by have:=h.1; simp at this
  | _ :: _,[],h => by have:=h.1; simp at this
  | p :: ps,c :: cs,h => .cons (hS p c h.uncons.1) (z_rd hS h.uncons.2)
theorem anyD {α : Type} [DecidableEq α] {D : α→PyData} {y : α}:∀ {xs:List α},(∀ x∈xs,(D x).eqv (D y)=decide (x=y))→((xs.map D).any fun e => e.eqv (D y))=decide (y∈xs)
  | [],_ => rfl
  | x :: xs,h => by
    rw [List.map_cons,List.any_cons,h x List.mem_cons_self,anyD fun z hz => h z (List.mem_cons_of_mem _ hz)]
    by_cases z:x=y
    · subst z; simp
    · have:(y∈x :: xs) ↔ y∈xs:=by
        rw [List.mem_cons]
        exact ⟨fun q => q.resolve_left fun e => z e.symm,.inr⟩
      rw [decide_eq_false z,Bool.false_or]
      exact decide_eq_decide.mpr this.symm
theorem idxD {α : Type} [BEq α] [LawfulBEq α] [DecidableEq α] {D : α→PyData} {y : α} {xs:List α} (h:∀ x∈xs,(D x).eqv (D y)=decide (x=y)) (hy:y∈xs) :
    ∃ hj:xs.idxOf y < (xs.map D).length,((xs.map D)[xs.idxOf y]).eqv (D y)=true∧∀ (m:Nat) (hm:m < (xs.map D).length),m < xs.idxOf y→((xs.map D)[m]).eqv (D y)=false:=by
  have hj:=List.idxOf_lt_length_iff.mpr hy
  refine ⟨by rw [List.length_map]; exact hj,?_,fun m hm hl => ?_⟩
  · rw [List.getElem_map,h _ (List.getElem_mem hj),List.getElem_idxOf hj]; simp
  · rw [List.getElem_map,h _ (List.getElem_mem _)]
    refine decide_eq_false fun e => ?_
    have hl':m < xs.findIdx (· == y):=hl
    have:=List.not_of_lt_findIdx hl'
    rw [e,beq_self_eq_true] at this
    cases this
theorem started_keyF {R:List Room1} (hG:Good R) {ns':List Int} (hp:ns'.Perm (iN (Rm.ent (chOf R (mem0 R) 0) 16 0))) (hs:ns'.Pairwise (·≤·)):ns'=kI R (first0 R):=by
  have:=Rm.ent_sorted hG.tree (chOf_pick hG (mem0_ok hG) 0) (f := 16) (by rw [hsOf_len]; exact hG.most) (start_ok hG) hp hs
  rw [this,hsOf_len]; rfl
end
end Toy
namespace Toy
open PySem L2
seal PySem.wpAny
section
variable {P:Program} {w:World} {K:PySem.W.Frag} {mg:Str→Option Value} {base:Heap}
structure ManyTxt (K:PySem.W.Frag) (mg:Str→Option Value) (CT:Addr):Prop where
  mgT:mg "TooMany" = some (.ref CT)
  ex:PySem.W.excIn K CT bmV "ValueError.__new__" = true
  most:∃ t,mg "MOST_STATES" = some (.int 30 t)
def spMore (CT:Addr):Sp:=fun vs H Q E => ∃ (l:Addr) (xs:List V),vs=[.ref l]∧H l=some (.lst xs)∧(xs.length=30→E (.ref CT) Option.none H)∧(xs.length≠30→Q .non H)
theorem scMore:FnScope ["states"] ["states"] (defScope sMore):=⟨rfl,rfl,rfl,by decide +kernel,rfl,by decide +kernel,by decide +kernel⟩
theorem ok_more {f C CT:Addr} {fd:FuncData} (D:DefAt K mg "check_one_more" sMore ["states"] f fd) (T:Txt K mg C) (B:ManyTxt K mg CT):FnOk P w K mg base (CXE P w) 1 f fd ["states"] (spMore CT):=by
  refine D.fn.okX scMore (fun vs H Q E h => ?_) (fun cdv A outer s H vs Q E hr h => ?_)
  · obtain ⟨l,xs,rfl,_⟩:=h
    rfl
  obtain ⟨l,xs,rfl,hl,q1,q2⟩:=h
  refine ⟨_,pss_one (ps_if (pt_cmpR op_eq (pe_callB call_len_seq (by rfl) T.len PySem.boot_len (pa_cons (pv 0) pa_nil)) (pe_gint B.most rfl) (nomark _))
    (pss_one (ps_raise (E:=E) wants_out rfl rfl B.mgT B.ex (pa_cons (pe_fstr (pfs_cons pf_text (pfs_cons (pf_int (pe_gint B.most rfl)) (pfs_cons pf_text pfs_nil)))) pa_nil))) pss_nil),?_⟩
  refine ⟨_,rfl,l,_,rfl,.inl (SqL.of hl),rfl,_,rfl,?_⟩
  refine ite2 (fun z => ?_) (fun z => ?_)
  · have z':xs.length=30:=by
      have:(xs.length:Int)=30:=by simpa using z
      omega
    exact ⟨⟨trivial,⟨30,rfl,rfl,by decide +kernel⟩,trivial,trivial⟩,fun y => ⟨by show 1≤100; decide,q1 z'⟩⟩
  · exact q2 fun e => by rw [e] at z; exact absurd (by decide) z
structure FlatF (R:List Room1) (CF:Addr) (H:Hp) (f s r y:Addr) (ps rs qs:List Addr) (S:FS):Prop where
  ob:∃ dx,H f=some (.ins CF dx (fflds s r y))
  es:H s=some (.lst (ps.map V.ref))
  st:Z (StAt R H) ps S.cs
  er:H r=some (.lst (rs.map V.ref))
  rt:RowsAt H rs S.rows
  ew:H y=some (.lst (qs.map V.ref))
  wt:Z (WayAt H) qs S.ws
def FoldQ (R:List Room1) (CF CC CT:Addr) (Q:VK) (E:XK) (H:Hp):Except Refu FS→Prop
  | .error (.clash evs i j) => evs.length≤100→∀ (d tp:Addr) (H':Hp),Same H H'→H' d=some (XD d (clF (.ref tp) (i:Int) (j:Int)))→H' tp=some (.tup (evs.map V.int))→E (.ref CC) (some d) H'
  | .error .many => ∀ H',Same H H'→E (.ref CT) Option.none H'
  | .ok S => ∀ (f s r y:Addr) (ps rs qs:List Addr) (H':Hp),Same H H'→FlatF R CF H' f s r y ps rs qs S→FI R S→S.rows.length=S.cs.length→Q (.ref f) H'
def spFolded (C CF CC CT:Addr):Sp:=fun vs H Q E => ∃ (c:Addr) (R:List Room1) (A:List Arrow),vs=[.ref c]∧ChartAt C H c R A∧Good R∧(∀ a∈A,GoodA R a)∧FoldQ R CF CC CT Q E H (foldO R A)
theorem rows_lists {H:Hp}:∀ {rs:List Addr} {M:Mach},RowsAt H rs M→∃ vss,ListsAt H rs vss∧Z (fun vs r => Z (EntAt H) vs r) vss M
  | [],[],_ => ⟨[],Z.nil,Z.nil⟩
  | [],_ :: _,h => by have:=h.1; simp at this
  | _ :: _,[],h => by have:=h.1; simp at this
  | p :: rs,r :: M,h => by
    obtain ⟨⟨vs,h1,h2⟩,h3⟩:=Z.uncons h
    obtain ⟨vss,a,b⟩:=rows_lists h3
    exact ⟨vs :: vss,Z.cons a h1,Z.cons b h2⟩
theorem lists_rows {H H':Hp} (t:TS H H') {ps:List Addr} {vss:List (List V)} {M:Mach} (h:ListsAt H' ps vss) (g:Z (fun vs r => Z (EntAt H) vs r) vss M):RowsAt H' ps M:=by
  refine ⟨h.1.trans g.1,fun i p r hp hr => ?_⟩
  obtain ⟨vs,hv,hz⟩:=Z.at g hr
  exact ⟨vs,h.2 i p vs hp hv,hz.mono fun _ _ z => z.ts t⟩
theorem fevs_cons {R:List Room1} {A:List Arrow} {c w:List Int} {S:FS} {k:Nat} (hk:k < 4):fevs R A c w (([0,1,2,3]:List Int).drop k) S=match fstep R A c w S (k:Int) with
    | .error x => .error x
    | .ok S' => fevs R A c w (([0,1,2,3]:List Int).drop (k + 1)) S':=by
  match k,hk with
  | 0,_ => rfl
  | 1,_ => rfl
  | 2,_ => rfl
  | 3,_ => rfl
def fcont (R:List Room1) (A:List Arrow) (f n:Nat):Except Refu FS→Except Refu FS
  | .error x => .error x
  | .ok S' => ffold R A f (n + 1) ⟨S'.cs,S'.ws,S'.rows ++ [S'.row],[]⟩
theorem ffold_go {R:List Room1} {A:List Arrow} {f n:Nat} {S:FS} (h:n < S.cs.length):ffold R A (f + 1) n S=fcont R A f n (frow R A n S):=by
  unfold ffold
  rw [if_pos h]
  cases frow R A n S <;> rfl
theorem ffold_end {R:List Room1} {A:List Arrow} {f n:Nat} {S:FS} (h:¬ n < S.cs.length):ffold R A f n S = .ok S:=by
  cases f with
  | zero => rfl
  | succ f => unfold ffold; rw [if_neg h]
theorem scFolded:FnScope ["chart", "states", "rows", "ways", "state", "way", "row", "event", "step"] ["chart"] (defScope sFolded):=⟨rfl,rfl,rfl,by decide +kernel,rfl,by decide +kernel,by decide +kernel⟩
theorem ok_folded {f C CF CC CT fs fb fm fi:Addr} {fd fds fdb fdm fdi:FuncData} (D:DefAt K mg "folded" sFolded ["chart"] f fd) (T:Txt K mg C) (TF:FlTxt K mg CF) (M:Mk K CF fi) (bi:Binds K fdi ["self", "states", "rows", "ways"] []) (Gi:FnOk P w K mg base CX0 1 fi fdi ["self", "states", "rows", "ways"] (spFInit CF))
    (Ds:DefAt K mg "started" sStarted ["chart"] fs fds) (Gs:FnOk P w K mg base CX0 20 fs fds ["chart"] (spStarted C))
    (Db:DefAt K mg "step_behind" sStepB ["chart", "ahead", "state", "event"] fb fdb) (Gb:FnOk P w K mg base (CXN false P w) 22 fb fdb ["chart", "ahead", "state", "event"] (spStepB K C CC))
    (Dm:DefAt K mg "check_one_more" sMore ["states"] fm fdm) (Gm:FnOk P w K mg base (CXN false P w) 1 fm fdm ["states"] (spMore CT)) :
    FnOk P w K mg base (CXN false P w) 23 f fd ["chart"] (spFolded C CF CC CT):=by
  refine D.fn.okX scFolded (fun vs H Q E h => ?_) (fun cdv A outer s H vs Q E hr h => ?_)
  · obtain ⟨c,R,As,rfl,_⟩:=h
    rfl
  obtain ⟨c,R,As,rfl,hC,hG,hA,q⟩:=h
  refine ⟨_,pss_cons (ps_set (i := 1) scFolded.nd rfl (Or.inl rfl) (pe_lst (pa_cons (pe_call Gs (hr.mono (by decide)) rfl Ds.mg Ds.fn.kp Ds.bd .nil pass0 (pa_cons (pv 0) pa_nil)) pa_nil)))
    (pss_cons (ps_set (i := 2) scFolded.nd rfl (Or.inl rfl) (pe_lst pa_nil))
    (pss_cons (ps_set (i := 3) scFolded.nd rfl (Or.inl rfl) (pe_lst (pa_cons (pe_tup pa_nil) pa_nil)))
    (pss_cons (ps_while passes_own0 (pt_cmpR op_lt (pe_callB call_len_seq (by rfl) T.len PySem.boot_len (pa_cons (pv 2) pa_nil)) (pe_callB call_len_seq (by rfl) T.len PySem.boot_len (pa_cons (pv 1) pa_nil)) (nomark _))
      (pss_cons (ps_set (i := 4) scFolded.nd rfl (Or.inl rfl) (pe_ix ix_list (pv 1) (pe_callB call_len_seq (by rfl) T.len PySem.boot_len (pa_cons (pv 2) pa_nil)) (fun _ _ => rfl)))
      (pss_cons (ps_set (i := 5) scFolded.nd rfl (Or.inl rfl) (pe_ix ix_list (pv 3) (pe_callB call_len_seq (by rfl) T.len PySem.boot_len (pa_cons (pv 2) pa_nil)) (fun _ _ => rfl)))
      (pss_cons (ps_set (i := 6) scFolded.nd rfl (Or.inl rfl) (pe_lst pa_nil))
      (pss_cons (ps_for passes_own0 rfl (pi_range1 rfl T.range (pa_cons (pe_op op_add (pe_gint T.lastE rfl) pe_int) pa_nil)) (pg_name (i := 7) scFolded.nd rfl (Or.inl rfl))
        (pss_cons (ps_set (i := 8) scFolded.nd rfl (Or.inl rfl) (pe_call Gb hr rfl Db.mg Db.fn.kp Db.bd .nil passes_on (pa_cons (pv 0) (pa_cons (pv 5) (pa_cons (pv 4) (pa_cons (pv 7) pa_nil))))))
        (pss_cons (ps_if (pt_cmpR (op_notInD hr.units) (pe_ix ix_tup (pv 8) pe_int (fun _ _ => rfl)) (pv 1) (by with_unfolding_all rfl))
          (pss_cons (ps_expr (pe_call Gm (hr.mono (by decide)) rfl Dm.mg Dm.fn.kp Dm.bd .nil passes_on (pa_cons (pv 1) pa_nil)))
          (pss_cons (ps_expr (pe_bm PySem.F.plainAttrs_list PySem.F.slot_list_append PySem.F.type_list_append mt_append (pv 1) (pa_cons (pe_ix ix_tup (pv 8) pe_int (fun _ _ => rfl)) pa_nil)))
          (pss_one (ps_expr (pe_bm PySem.F.plainAttrs_list PySem.F.slot_list_append PySem.F.type_list_append mt_append (pv 3) (pa_cons (pe_op op_catA (pv 5) (pe_tup (pa_cons (pv 7) pa_nil))) pa_nil)))))) pss_nil)
        (pss_one (ps_expr (pe_bm PySem.F.plainAttrs_list PySem.F.slot_list_append PySem.F.type_list_append mt_append (pv 6) (pa_cons (pe_tup (pa_cons (pe_bm PySem.F.plainAttrs_list PySem.F.slot_list_index PySem.F.type_list_index (mt_indexD hr.units) (pv 1) (pa_cons (pe_ix ix_tup (pv 8) pe_int (fun _ _ => rfl)) pa_nil)) (pa_cons (pe_ix ix_tup (pv 8) pe_int (fun _ _ => rfl)) pa_nil))) pa_nil)))))))
      (pss_one (ps_expr (pe_bm PySem.F.plainAttrs_list PySem.F.slot_list_append PySem.F.type_list_append mt_append (pv 2) (pa_cons (pv 6) pa_nil)))))))))
    (pss_one (ps_ret (pe_make M Gi (hr.mono (by decide)) rfl TF.mgC bi .nil pass0 (pa_cons (pv 1) (pa_cons (pv 2) (pa_cons (pv 3) pa_nil))))))))),?_⟩
  refine ⟨_,rfl,c,R,As,rfl,hC,hG,fun st0 kt0 mt0 ns H1 s1 e1 e2 e3 hp0 hs0 => ?_⟩
  have en:=started_keyF hG hp0 hs0
  subst en
  refine ⟨(by show 1≤sizeLine; decide),fun sl hsl => ?_⟩
  have s2:=same_new hsl (.lst [.ref st0])
  have es2:(upd H1 sl (.lst [.ref st0])) sl=some (.lst [.ref st0]):=upd_same
  have f0:StAt R (upd H1 sl (.lst [.ref st0])) st0 (first0 R):=⟨kt0,mt0,s2 _ _ e1,s2 _ _ e2,by rw [memL_first]; exact s2 _ _ e3⟩
  have s02:=s1.trans s2
  have fsl:H sl=Option.none:=s1.free hsl
  generalize upd H1 sl (.lst [.ref st0])=H2 at s2 es2 f0 s02 ⊢
  refine ⟨(by show 0≤sizeLine; decide),fun rl hrl => ?_⟩
  have s3:=same_new hrl (.lst [])
  have er3:(upd H2 rl (.lst [])) rl=some (.lst []):=upd_same
  have nsr:sl≠rl:=ne_of_none es2 hrl
  have s03:=s02.trans s3
  have frl:H rl=Option.none:=s02.free hrl
  generalize upd H2 rl (.lst [])=H3 at s3 er3 s03 ⊢
  refine ⟨(by show 0≤sizeLine; decide),fun w0 hw0 => ?_⟩
  have s4:=same_new hw0 (.tup [])
  have ew0:(upd H3 w0 (.tup [])) w0=some (.tup []):=upd_same
  have s04:=s03.trans s4
  have er4:=s4 _ _ er3
  have es4:=s4 _ _ (s3 _ _ es2)
  have f4:=f0.ts (same_ts (s3.trans s4))
  generalize upd H3 w0 (.tup [])=H4 at s4 ew0 s04 er4 es4 f4 ⊢
  refine ⟨(by show 1≤sizeLine; decide),fun wl hwl => ?_⟩
  have s5:=same_new hwl (.lst [.ref w0])
  have ew5:(upd H4 wl (.lst [.ref w0])) wl=some (.lst [.ref w0]):=upd_same
  have s05:=s04.trans s5
  have fwl:H wl=Option.none:=s04.free hwl
  have nsw:sl≠wl:=ne_of_none es4 hwl
  have nrw:rl≠wl:=ne_of_none er4 hwl
  have hF5:FoldAt R (upd H4 wl (.lst [.ref w0])) sl wl rl [st0] [w0] [] (fS0 R) :=
    ⟨s5 _ _ es4,Z.cons Z.nil (f4.ts (same_ts s5)),ew5,Z.cons Z.nil (s5 _ _ ew0),s5 _ _ er4,Z.nil,nsw,nsr,nrw.symm,fun p hp => by cases hp⟩
  generalize upd H4 wl (.lst [.ref w0])=H5 at s5 ew5 s05 hF5 ⊢
  refine ⟨fun m σ H' => ∃ n S v4 v5 v6 v7 v8 ps qs rs,σ = [some (.ref c),some (.ref sl),some (.ref rl),some (.ref wl),v4,v5,v6,v7,v8]∧Same H H'∧FoldAt R H' sl wl rl ps qs rs S∧FI R S∧S.rows.length=n∧n≤S.cs.length∧m=31 - n∧ffold R As (31 - n) n S=foldO R As,
    ⟨31,0,fS0 R,_,_,_,_,_,_,_,_,rfl,s05,hF5,fi_first hG,rfl,Nat.zero_le _,rfl,rfl⟩,?_⟩
  rintro m σ H6 ⟨n,S,v4,v5,v6,v7,v8,ps,qs,rs,rfl,s06,hF,hI,hn,hnl,rfl,hfo⟩
  have lr:(rs.map V.ref).length=n:=by rw [List.length_map,hF.rt.1,hn]
  have ls:(ps.map V.ref).length=S.cs.length:=by rw [List.length_map,hF.st.1]
  have h30:=hI.le
  refine ⟨_,rfl,rl,_,rfl,.inl (SqL.of hF.er),_,rfl,sl,_,rfl,.inl (SqL.of hF.es),_,_,rfl,rfl,_,rfl,?_⟩
  by_cases hlt:n < S.cs.length
  · rw [decide_eq_true (show ((rs.map V.ref).length:Int) < ((ps.map V.ref).length:Int) by rw [lr,ls]; omega)]
    refine iteT ?_
    refine ⟨fun σ' H' => ∃ S v4 v5 v6 v7 v8 ps qs rs,σ'=[some (.ref c),some (.ref sl),some (.ref rl),some (.ref wl),v4,v5,v6,v7,v8]∧Same H H'∧FoldAt R H' sl wl rl ps qs rs S∧FI R S∧S.rows.length=n + 1∧n + 1≤S.cs.length∧ffold R As (31 - (n + 1)) (n + 1) S=foldO R As,?_,?_⟩
    · rintro σ' H' ⟨S',a4,a5,a6,a7,a8,ps',qs',rs',rfl,b1,b2,b3,b4,b5,b6⟩
      exact ⟨31 - (n + 1),by omega,n + 1,S',a4,a5,a6,a7,a8,ps',qs',rs',rfl,b1,b2,b3,b4,b5,rfl,b6⟩
    obtain ⟨cn,hcn⟩ : ∃ cn,S.cs[n]? = some cn:=⟨_,List.getElem?_eq_getElem hlt⟩
    obtain ⟨wn,hwn⟩ : ∃ wn,S.ws[n]? = some wn:=⟨_,List.getElem?_eq_getElem (by rw [hI.wl]; exact hlt)⟩
    obtain ⟨st,hst,hSt⟩:=hF.st.at hcn
    obtain ⟨wy,hwy,hWy⟩:=hF.wt.at hwn
    have hrc:=hI.rc cn (List.mem_of_getElem? hcn)
    have hwln:=hI.wb n wn hwn
    have aS:atI (ps.map V.ref) ((rs.map V.ref).length:Int)=some (.ref st):=atI_nat (by rw [lr,List.getElem?_map,hst]; rfl)
    have aW:atI (qs.map V.ref) ((rs.map V.ref).length:Int)=some (.ref wy):=atI_nat (by rw [lr,List.getElem?_map,hwy]; rfl)
    refine ⟨_,rfl,_,rfl,rl,_,rfl,.inl (SqL.of hF.er),sl,_,_,_,rfl,rfl,SqL.of hF.es,aS,?_⟩
    refine ⟨_,rfl,_,rfl,rl,_,rfl,.inl (SqL.of hF.er),wl,_,_,_,rfl,rfl,SqL.of hF.ew,aW,?_⟩
    refine ⟨(by show 0≤sizeLine; decide),fun rw' hrw => ?_⟩
    have s7:=same_new hrw (.lst [])
    have erw:(upd H6 rw' (.lst [])) rw'=some (.lst []):=upd_same
    have nw1:rw'≠sl:=(ne_of_none hF.es hrw).symm
    have nw2:rw'≠wl:=(ne_of_none hF.ew hrw).symm
    have nw3:rw'≠rl:=(ne_of_none hF.er hrw).symm
    have nw4:∀ p∈rs,p≠rw':=fun p hp => by
      obtain ⟨i,hi⟩:=List.mem_iff_getElem?.mp hp
      obtain ⟨r,hr',vs,h1,h2⟩:=Z.at1 hF.rt hi
      exact ne_of_none h1 hrw
    have frw:H rw'=Option.none:=s06.free hrw
    have s07:=s06.trans s7
    have hF7:=hF.same s7
    have hSt7:=hSt.ts (same_ts s7)
    have hWy7:WayAt (upd H6 rw' (.lst [])) wy wn:=s7 _ _ hWy
    generalize upd H6 rw' (.lst [])=H7 at s7 erw s07 hF7 hSt7 hWy7 ⊢
    have hco:fcont R As (30 - n) n (fevs R As cn wn ([0,1,2,3]:List Int) ⟨S.cs,S.ws,S.rows,[]⟩)=foldO R As:=by
      rw [← hfo,show 31 - n=30 - n + 1 by omega,ffold_go hlt]
      unfold frow
      rw [List.getD_eq_getElem?_getD,hcn,List.getD_eq_getElem?_getD,hwn]; rfl
    refine ⟨_,_,rfl,rfl,4,rfl,by decide,by decide,?_⟩
    refine for_range (fun k σ H8 => ∃ S v7 v8 ps qs vs,σ = [some (.ref c),some (.ref sl),some (.ref rl),some (.ref wl),some (.ref st),some (.ref wy),some (.ref rw'),v7,v8]∧Same H H8∧FoldAt R H8 sl wl rl ps qs rs S∧H8 rw'=some (.lst vs)∧Z (EntAt H8) vs S.row∧StAt R H8 st cn∧WayAt H8 wy wn∧FI R S∧S.rows.length=n∧n < S.cs.length∧S.row.length=k ∧
      fcont R As (30 - n) n (fevs R As cn wn (([0,1,2,3]:List Int).drop k) S)=foldO R As)
      ⟨⟨S.cs,S.ws,S.rows,[]⟩,_,_,ps,qs,[],rfl,s07,⟨hF7.es,hF7.st,hF7.ew,hF7.wt,hF7.er,hF7.rt,hF7.n1,hF7.n2,hF7.n3,hF7.nr⟩,erw,Z.nil,hSt7,hWy7,hI.row,hn,hlt,rfl,hco⟩ ?_ ?_
    · rintro k σ H8 hk ⟨S,v7,v8,ps,qs,vs,rfl,(s08:Same _ _),hF,erw,hvs,hSt,hWy,hI,hn,hlt,hrk,hco⟩
      have ek:(0:Int) + (k:Int)=(k:Int):=by omega
      rw [ek]
      have hk4:k < 4:=hk
      rw [fevs_cons hk4] at hco
      have h30:=hI.le
      obtain ⟨kt,mt,g1,g2,g3⟩:=id hSt
      refine ⟨_,rfl,_,rfl,_,rfl,_,rfl,c,wy,st,kt,mt,R,As,cn,wn,(k:Int),rfl,hC.same s08,hG,hA,.inr (SqT.of hWy),by omega,g1,g2,g3,hrc.ok,fun i j hp d tp H9 s9 hd htp => ?_,fun hp t s' kt' mt' dd H9 s9 a1 a2 a3 a4 a5 => ?_⟩
      · have hfe:foldO R As = .error (.clash (wn ++ [(k:Int)]) i j):=by
          rw [← hco]
          unfold fstep
          rw [hp]; rfl
        rw [hfe] at q
        exact q (by rw [List.length_append]; simp only [List.length_cons,List.length_nil]; omega) d tp H9 (s08.trans s9) hd htp
      · have hfs:fstep R As cn wn S (k:Int)=fput R As cn wn S (k:Int):=by
          unfold fstep
          rw [hp]
        rw [hfs] at hco
        unfold fput at hco
        have s09:=s08.trans s9
        have hF9:=hF.same s9
        have hx:StAt R H9 s' (nxE R As cn (k:Int)):=⟨kt',mt',a2,a3,a4⟩
        have hxr:RC R (nxE R As cn (k:Int)):=step_rc hG hA hrc hp
        have hdd:H9 dd=some (.tup ((ddE R As cn (k:Int)).map V.int)):=a5
        have erw9:=s9 _ _ erw
        have hvs9:=hvs.mono fun _ _ z => EntAt.ts (same_ts s9) z
        have hSt9:=hSt.ts (same_ts s9)
        have hWy9:WayAt H9 wy wn:=s9 _ _ hWy
        generalize nxE R As cn (k:Int)=nx at hx hxr hco
        generalize hdE:ddE R As cn (k:Int)=dE at hdd hco
        have hvl:vs.length=k:=by rw [hvs.1,hrk]
        have hqv:∀ x∈S.cs,(stD R x).eqv (stD R nx)=decide (x=nx):=fun x hx => stD_eqv hG (hI.rc x hx) hxr
        have hsh:∀ e∈S.cs.map (stD R),SeqAt.shaped e=true:=fun e he => by
          obtain ⟨x,_,rfl⟩:=List.mem_map.mp he
          exact shaped_of (stD_shape R x) (by decide)
        have hsx:SeqAt.shaped (stD R nx)=true:=shaped_of (stD_shape R nx) (by decide)
        have hdx:(stD R nx).depth≤62:=Nat.le_trans (stD_shape R nx).2.1 (by decide)
        have fdt:∀ {H10:Hp},TS H9 H10→H10 t=some (.tup [.ref s',.ref dd]):=fun z => z _ _ a1
        refine ⟨_,rfl,t,_,_,_,rfl,rfl,SqT.of a1,rfl,_,rfl,sl,_,_,_,rfl,SqL.of hF9.es,z_rd (fun p c z => st_rd z) hF9.st,st_rd hx,hsh,hsx,hdx,_,rfl,?_⟩
        rw [if_pos rfl]
        by_cases hin:nx∈S.cs
        · rw [show ((S.cs.map (stD R)).any fun e => e.eqv (stD R nx))=true from (anyD hqv).trans (by simpa using hin)]
          refine iteF ?_
          rw [if_pos hin] at hco
          obtain ⟨hj,hy,hno⟩:=idxD hqv hin
          refine ⟨_,rfl,.inl ⟨rfl,_,SqL.of erw9⟩,_,rfl,.inl ⟨rfl,_,SqL.of hF9.es⟩,_,rfl,t,_,_,_,rfl,rfl,SqT.of a1,rfl,sl,.ref s',_,_,_,S.cs.idxOf nx,hj,rfl,rfl,SqL.of hF9.es,z_rd (fun p c z => st_rd z) hF9.st,st_rd hx,hsh,hsx,hdx,?_,hy,hno,_,rfl,t,_,_,_,rfl,rfl,SqT.of a1,rfl,(by show 2≤sizeLine; decide),fun tp htp => ?_⟩
          · rw [List.length_map]; omega
          have s10:=same_new htp (.tup [.int ((S.cs.idxOf nx:Nat):Int),.ref dd])
          have etp:(upd H9 tp (.tup [.int ((S.cs.idxOf nx:Nat):Int),.ref dd])) tp=some (.tup [.int ((S.cs.idxOf nx:Nat):Int),.ref dd]):=upd_same
          generalize upd H9 tp (.tup [.int ((S.cs.idxOf nx:Nat):Int),.ref dd])=H10 at s10 etp ⊢
          have erw10:=s10 _ _ erw9
          refine ⟨rw',_,_,rfl,rfl,erw10,by rw [hvl]; exact small1000 (by omega),?_⟩
          have t10:TS H10 (upd H10 rw' (.lst (vs ++ [.ref tp]))):=ts_upd erw10
          have t910:=(same_ts s10).trans t10
          exact ⟨_,_,_,ps,qs,vs ++ [.ref tp],rfl,sameUpd (s09.trans s10) frw _,((hF9.same s10).other erw10 nw1 nw2 nw3 nw4).setRow,upd_same,
            Z.snoc (hvs9.mono fun _ _ z => EntAt.ts t910 z) ⟨tp,.ref dd,rfl,t10 _ _ etp,dd,rfl,t910 _ _ hdd⟩,hSt9.ts t910,t910 _ _ hWy9,hI.row,hn,hlt,by show (S.row ++ [_]).length=k + 1; rw [List.length_append,hrk]; rfl,hco⟩
        · rw [show ((S.cs.map (stD R)).any fun e => e.eqv (stD R nx))=false from (anyD hqv).trans (by simpa using hin)]
          refine iteT ?_
          rw [if_neg hin] at hco
          refine ⟨_,rfl,sl,_,rfl,hF9.es,fun h30' => ?_,fun hne => ?_⟩
          · have hc30:S.cs.length=30:=by rw [List.length_map,hF9.st.1] at h30'; exact h30'
            rw [if_pos hc30] at hco
            rw [← hco] at q
            exact q H9 s09
          have hc30:S.cs.length≠30:=by rw [List.length_map,hF9.st.1] at hne; exact hne
          rw [if_neg hc30] at hco
          have hpl:(ps.map V.ref).length=S.cs.length:=by rw [List.length_map,hF9.st.1]
          have hql:(qs.map V.ref).length=S.cs.length:=by rw [List.length_map,hF9.wt.1,hI.wl]
          refine ⟨_,rfl,.inl ⟨rfl,_,SqL.of hF9.es⟩,_,rfl,t,_,_,_,rfl,rfl,SqT.of a1,rfl,sl,_,_,rfl,rfl,hF9.es,by rw [hpl]; exact small1000 (by omega),?_⟩
          have tA:TS H9 (upd H9 sl (.lst (ps.map V.ref ++ [.ref s']))):=ts_upd hF9.es
          have ewA:(upd H9 sl (.lst (ps.map V.ref ++ [.ref s']))) wl=some (.lst (qs.map V.ref)):=by rw [upd_ne hF9.n1.symm]; exact hF9.ew
          have erA:(upd H9 sl (.lst (ps.map V.ref ++ [.ref s']))) rw'=some (.lst vs):=by rw [upd_ne nw1]; exact erw9
          have sA:Same H (upd H9 sl (.lst (ps.map V.ref ++ [.ref s']))):=sameUpd s09 fsl _
          generalize hHA:upd H9 sl (.lst (ps.map V.ref ++ [.ref s']))=HA at tA ewA erA sA ⊢
          refine ⟨_,rfl,.inl ⟨rfl,_,SqL.of ewA⟩,_,rfl,_,rfl,(by show 1≤sizeLine; decide),fun t1 ht1 => ?_⟩
          have sB:=same_new ht1 (.tup [.int (k:Int)])
          have et1:(upd HA t1 (.tup [.int (k:Int)])) t1=some (.tup [.int (k:Int)]):=upd_same
          generalize upd HA t1 (.tup [.int (k:Int)])=HB at sB et1 ⊢
          have hWyB:HB wy=some (.tup (wn.map V.int)):=sB _ _ (tA _ _ hWy9)
          have goal:∀ (q1:Addr) (HC:Hp),Same HA HC→WayAt HC q1 (wn ++ [(k:Int)])→∃ (S':FS) (ps' qs':List Addr),FoldAt R (upd HC wl (.lst (qs.map V.ref ++ [.ref q1]))) sl wl rl ps' qs' rs S'∧FI R S'∧S'.rows=S.rows∧S'.cs=S.cs ++ [nx]∧S'.ws=S.ws ++ [wn ++ [(k:Int)]]∧TS H9 (upd HC wl (.lst (qs.map V.ref ++ [.ref q1])))∧(upd HC wl (.lst (qs.map V.ref ++ [.ref q1]))) rw'=some (.lst vs)∧Same H (upd HC wl (.lst (qs.map V.ref ++ [.ref q1]))):=by
            intro q1 HC sC hq1
            refine ⟨⟨S.cs ++ [nx],S.ws ++ [wn ++ [(k:Int)]],S.rows,[]⟩,ps ++ [s'],qs ++ [q1],hF9.push hx (by rw [hHA]; exact sC) hq1,hI.push hxr hin hc30 (by rw [List.length_append]; simp only [List.length_cons,List.length_nil]; omega),rfl,rfl,rfl,(tA.trans (same_ts sC)).trans (ts_upd (sC _ _ ewA)),by rw [upd_ne nw2]; exact sC _ _ erA,sameUpd (sA.trans sC) fwl _⟩
          refine ⟨wy,t1,_,_,rfl,rfl,SqT.of hWyB,SqT.of et1,(fun z => by cases z),?_,fun hz => ?_,fun hz q1 hq1 => ?_⟩
          · rw [List.length_map]; exact small (by show _ + 1≤1000; omega)
          · have hw0:wn=[]:=List.map_eq_nil_iff.mp hz
            refine ⟨wl,_,_,rfl,rfl,sB _ _ ewA,by rw [hql]; exact small1000 (by omega),?_⟩
            obtain ⟨S',ps',qs',hF',hI',er1,ec1,ew1,t9',erw',s0'⟩:=goal t1 HB sB (by show HB t1=_; rw [et1,hw0]; rfl)
            generalize upd HB wl (.lst (qs.map V.ref ++ [.ref t1]))=HD at hF' t9' erw' s0' ⊢
            have hin':nx∈S'.cs:=by rw [ec1]; exact List.mem_append_right _ (List.mem_singleton.mpr rfl)
            have hqv':∀ x∈S'.cs,(stD R x).eqv (stD R nx)=decide (x=nx):=fun x hx => stD_eqv hG (hI'.rc x hx) hxr
            have hsh':∀ e∈S'.cs.map (stD R),SeqAt.shaped e=true:=fun e he => by
              obtain ⟨x,_,rfl⟩:=List.mem_map.mp he
              exact shaped_of (stD_shape R x) (by decide)
            obtain ⟨hj,hy,hno⟩:=idxD hqv' hin'
            have hix:S'.cs.idxOf nx=S.cs.length:=by rw [ec1,List.idxOf_append,if_neg hin,List.idxOf_cons_self,Nat.zero_add]
            have h30':=hI'.le
            have a1':=t9' _ _ a1
            refine ⟨_,rfl,.inl ⟨rfl,_,SqL.of erw'⟩,_,rfl,.inl ⟨rfl,_,SqL.of hF'.es⟩,_,rfl,t,_,_,_,rfl,rfl,SqT.of a1',rfl,sl,.ref s',_,_,_,S'.cs.idxOf nx,hj,rfl,rfl,SqL.of hF'.es,z_rd (fun p c z => st_rd z) hF'.st,st_rd (hx.ts t9'),hsh',hsx,hdx,?_,hy,hno,_,rfl,t,_,_,_,rfl,rfl,SqT.of a1',rfl,(by show 2≤sizeLine; decide),fun tp htp => ?_⟩
            · rw [List.length_map]; omega
            have s10:=same_new htp (.tup [.int ((S'.cs.idxOf nx:Nat):Int),.ref dd])
            have etp:(upd HD tp (.tup [.int ((S'.cs.idxOf nx:Nat):Int),.ref dd])) tp=some (.tup [.int ((S'.cs.idxOf nx:Nat):Int),.ref dd]):=upd_same
            generalize upd HD tp (.tup [.int ((S'.cs.idxOf nx:Nat):Int),.ref dd])=H10 at s10 etp ⊢
            have erw10:=s10 _ _ erw'
            refine ⟨rw',_,_,rfl,rfl,erw10,by rw [hvl]; exact small1000 (by omega),?_⟩
            have t10:TS H10 (upd H10 rw' (.lst (vs ++ [.ref tp]))):=ts_upd erw10
            have t910:=t9'.trans ((same_ts s10).trans t10)
            rw [hix] at etp
            refine ⟨⟨S'.cs,S'.ws,S'.rows,S.row ++ [(((S.cs.length:Nat):Int),dE)]⟩,_,_,ps',qs',vs ++ [.ref tp],rfl,sameUpd (s0'.trans s10) frw _,((hF'.same s10).other erw10 nw1 nw2 nw3 nw4).setRow,upd_same,
              Z.snoc (hvs9.mono fun _ _ z => EntAt.ts t910 z) ⟨tp,.ref dd,rfl,t10 _ _ etp,dd,rfl,t910 _ _ hdd⟩,hSt9.ts t910,t910 _ _ hWy9,hI'.row,by rw [← hn,er1],by show n < S'.cs.length; rw [ec1,List.length_append]; omega,by show (S.row ++ [_]).length=k + 1; rw [List.length_append,hrk]; rfl,?_⟩
            rw [ec1,ew1,er1]
            exact hco
          · refine ⟨wl,_,_,rfl,rfl,(sB.trans (same_new hq1 _)) _ _ ewA,by rw [hql]; exact small1000 (by omega),?_⟩
            obtain ⟨S',ps',qs',hF',hI',er1,ec1,ew1,t9',erw',s0'⟩:=goal q1 (upd HB q1 (.tup (wn.map V.int ++ [.int (k:Int)]))) (sB.trans (same_new hq1 _)) (by show (upd HB q1 _) q1=_; rw [upd_same,List.map_append]; rfl)
            generalize upd (upd HB q1 (.tup (wn.map V.int ++ [.int (k:Int)]))) wl (.lst (qs.map V.ref ++ [.ref q1]))=HD at hF' t9' erw' s0' ⊢
            have hin':nx∈S'.cs:=by rw [ec1]; exact List.mem_append_right _ (List.mem_singleton.mpr rfl)
            have hqv':∀ x∈S'.cs,(stD R x).eqv (stD R nx)=decide (x=nx):=fun x hx => stD_eqv hG (hI'.rc x hx) hxr
            have hsh':∀ e∈S'.cs.map (stD R),SeqAt.shaped e=true:=fun e he => by
              obtain ⟨x,_,rfl⟩:=List.mem_map.mp he
              exact shaped_of (stD_shape R x) (by decide)
            obtain ⟨hj,hy,hno⟩:=idxD hqv' hin'
            have hix:S'.cs.idxOf nx=S.cs.length:=by rw [ec1,List.idxOf_append,if_neg hin,List.idxOf_cons_self,Nat.zero_add]
            have h30':=hI'.le
            have a1':=t9' _ _ a1
            refine ⟨_,rfl,.inl ⟨rfl,_,SqL.of erw'⟩,_,rfl,.inl ⟨rfl,_,SqL.of hF'.es⟩,_,rfl,t,_,_,_,rfl,rfl,SqT.of a1',rfl,sl,.ref s',_,_,_,S'.cs.idxOf nx,hj,rfl,rfl,SqL.of hF'.es,z_rd (fun p c z => st_rd z) hF'.st,st_rd (hx.ts t9'),hsh',hsx,hdx,?_,hy,hno,_,rfl,t,_,_,_,rfl,rfl,SqT.of a1',rfl,(by show 2≤sizeLine; decide),fun tp htp => ?_⟩
            · rw [List.length_map]; omega
            have s10:=same_new htp (.tup [.int ((S'.cs.idxOf nx:Nat):Int),.ref dd])
            have etp:(upd HD tp (.tup [.int ((S'.cs.idxOf nx:Nat):Int),.ref dd])) tp=some (.tup [.int ((S'.cs.idxOf nx:Nat):Int),.ref dd]):=upd_same
            generalize upd HD tp (.tup [.int ((S'.cs.idxOf nx:Nat):Int),.ref dd])=H10 at s10 etp ⊢
            have erw10:=s10 _ _ erw'
            refine ⟨rw',_,_,rfl,rfl,erw10,by rw [hvl]; exact small1000 (by omega),?_⟩
            have t10:TS H10 (upd H10 rw' (.lst (vs ++ [.ref tp]))):=ts_upd erw10
            have t910:=t9'.trans ((same_ts s10).trans t10)
            rw [hix] at etp
            refine ⟨⟨S'.cs,S'.ws,S'.rows,S.row ++ [(((S.cs.length:Nat):Int),dE)]⟩,_,_,ps',qs',vs ++ [.ref tp],rfl,sameUpd (s0'.trans s10) frw _,((hF'.same s10).other erw10 nw1 nw2 nw3 nw4).setRow,upd_same,
              Z.snoc (hvs9.mono fun _ _ z => EntAt.ts t910 z) ⟨tp,.ref dd,rfl,t10 _ _ etp,dd,rfl,t910 _ _ hdd⟩,hSt9.ts t910,t910 _ _ hWy9,hI'.row,by rw [← hn,er1],by show n < S'.cs.length; rw [ec1,List.length_append]; omega,by show (S.row ++ [_]).length=k + 1; rw [List.length_append,hrk]; rfl,?_⟩
            rw [ec1,ew1,er1]
            exact hco
    · rintro σ H8 ⟨S,v7,v8,ps,qs,vs,rfl,(s08:Same _ _),hF,erw,hvs,hSt,hWy,hI,hn,hlt,hrk,hco⟩
      have lr:(rs.map V.ref).length=n:=by rw [List.length_map,hF.rt.1,hn]
      have h30:=hI.le
      refine ⟨_,rfl,.inl ⟨rfl,_,SqL.of hF.er⟩,_,rfl,rl,_,_,rfl,rfl,hF.er,by rw [lr]; exact small1000 (by omega),?_⟩
      refine ⟨⟨S.cs,S.ws,S.rows ++ [S.row],[]⟩,_,_,_,_,_,ps,qs,rs ++ [rw'],rfl,sameUpd s08 frl _,hF.rowed erw hvs nw1 nw2 nw3,hI.row,by show (S.rows ++ [S.row]).length=n + 1; rw [List.length_append,hn]; rfl,hlt,?_⟩
      rw [show 31 - (n + 1)=30 - n by omega]
      exact hco
  · rw [decide_eq_false (show ¬ ((rs.map V.ref).length:Int) < ((ps.map V.ref).length:Int) by rw [lr,ls]; omega)]
    refine iteF ?_
    rw [ffold_end hlt] at hfo
    rw [← hfo] at q
    obtain ⟨vss,hL,hZ⟩:=rows_lists hF.rt
    refine ⟨_,rfl,_,rfl,_,rfl,?_⟩
    intro fl dx hfl hdx nfd
    have kc:Same H6 (upd (upd H6 dx (.own fl)) fl (.ins CF dx [])):=fun x o e => by
      rw [upd_ne (ne_of_none e hfl),upd_ne (ne_of_none e hdx)]; exact e
    refine ⟨fl,dx,sl,rl,wl,rs,_,vss,_,rfl,upd_same,kc _ _ hF.es,kc _ _ hF.er,hL.mono fun _ _ z => kc _ _ z,kc _ _ hF.ew,?_,fun s' r' y' ps' H7 k7 o1 o2 o3 o4 o5 o6 o7 o8 o9 => ⟨rfl,?_⟩⟩
    · rw [List.length_map] at lr; omega
    have s67:Same H6 H7:=fun x o e => k7 _ _ (kc _ _ e) (ne_of_none e hfl)
    exact q fl s' r' y' ps ps' qs H7 (s06.trans s67) ⟨⟨dx,o1⟩,o3,hF.st.mono fun _ _ z => z.ts (same_ts s67),o5,lists_rows (same_ts s67) o6 hZ,o9,hF.wt.mono fun _ _ z => s67 _ _ z⟩ hI (by omega)
end
end Toy
namespace Toy
open PySem L2
seal PySem.wpAny
section
variable {P:Program} {w:World} {K:PySem.W.Frag} {mg:Str→Option Value} {base:Heap}
def spEntries:Sp:=fun vs H Q _ => ∃ (f d:Addr) (row:List Ent),vs=[.ref f,.ref d]∧RowAt H f row∧RowAt H d row∧row.length≤100∧(∀ e∈row,e.2.length≤100)∧Q (.bl true) H
theorem scEntries:FnScope ["found", "due", "k", "entry"] ["found", "due"] (defScope sEntries):=⟨rfl,rfl,rfl,by decide +kernel,rfl,by decide +kernel,by decide +kernel⟩
theorem ok_entries {f C fr:Addr} {fd fdr:FuncData} (D:DefAt K mg "_law_entries" sEntries ["found", "due"] f fd) (T:Txt K mg C) (Dr:DefAt K mg "_law_row" sRow ["found", "due"] fr fdr):FnOk P w K mg base CX0 2 f fd ["found", "due"] spEntries:=by
  have Gr:FnOk P w K mg base CX0 1 fr fdr ["found", "due"] spRow:=ok_row Dr T
  refine D.fn.ok scEntries (fun vs H Q E h => ?_) (fun cdv A outer s H vs Q E hr h => ?_)
  · obtain ⟨f,d,row,rfl,_⟩:=h
    rfl
  obtain ⟨fa,da,row,rfl,⟨fs,hf,hZ1⟩,⟨ds,hd,hZ2⟩,hX,hX2,q⟩:=h
  refine ⟨_,pss_cons (ps_if (PW.pt (pw_or (pt_not (pt_val (pe_callB call_isinst (by rfl) T.inst (by decide +kernel) (pa_cons (pv 0) (pa_cons (pe_bltn (by rfl) T.list (by decide +kernel) (v:=.ty "list") rfl) pa_nil)))))
      (pw_or1 (pt_cmpR op_ne (pe_callB call_len_seq (by rfl) T.len PySem.boot_len (pa_cons (pv 0) pa_nil)) (pe_callB call_len_seq (by rfl) T.len PySem.boot_len (pa_cons (pv 1) pa_nil)) (nomark _))))) pss_never pss_nil)
    (pss_cons (ps_for PassesOwn.never rfl (pi_range1 rfl T.range (pa_cons (pe_callB call_len_seq (by rfl) T.len PySem.boot_len (pa_cons (pv 1) pa_nil)) pa_nil)) (pg_name (i := 2) scEntries.nd rfl (Or.inl rfl))
      (pss_cons (ps_set (i := 3) scEntries.nd rfl (Or.inl rfl) (pe_ix ix_list (pv 0) (pv 2) (fun _ _ => rfl)))
      (pss_cons (ps_if (PW.pt (pw_or (pt_not (pt_val (pe_callB call_isinst (by rfl) T.inst (by decide +kernel) (pa_cons (pv 3) (pa_cons (pe_bltn (by rfl) T.tup (by decide +kernel) (v:=.ty "tuple") rfl) pa_nil)))))
        (pw_or (pt_cmpR op_ne (pe_callB call_len_seq (by rfl) T.len PySem.boot_len (pa_cons (pv 3) pa_nil)) pe_int (nomark _))
        (pw_or1 (pt_val (pe_callB call_isinst (by rfl) T.inst (by decide +kernel) (pa_cons (pe_ix ix_tup (pv 3) pe_int (fun _ _ => rfl)) (pa_cons (pe_bltn (by rfl) T.tbool (by decide +kernel) (v:=.ty "bool") rfl) pa_nil)))))))) pss_never pss_nil)
      (pss_one (ps_if (PW.pt (pw_or (pt_not (pt_val (pe_callB call_isinst (by rfl) T.inst (by decide +kernel) (pa_cons (pe_ix ix_tup (pv 3) pe_int (fun _ _ => rfl)) (pa_cons (pe_bltn (by rfl) T.tint (by decide +kernel) (v:=.ty "int") rfl) pa_nil)))))
        (pw_or (pt_cmpR op_ne (pe_ix ix_tup (pv 3) pe_int (fun _ _ => rfl)) (pe_ix ix_tup (pe_ix ix_list (pv 1) (pv 2) (fun _ _ => rfl)) pe_int (fun _ _ => rfl)) (nomark _))
        (pw_or1 (pt_not (pt_val (pe_call Gr hr rfl Dr.mg Dr.fn.kp Dr.bd .nil pass0 (pa_cons (pe_ix ix_tup (pv 3) pe_int (fun _ _ => rfl)) (pa_cons (pe_ix ix_tup (pe_ix ix_list (pv 1) (pv 2) (fun _ _ => rfl)) pe_int (fun _ _ => rfl)) pa_nil))))))))) pss_never pss_nil)))))
    (pss_one (ps_ret pe_bl))),?_⟩
  refine ⟨_,rfl,_,_,_,_,rfl,.lst hf,T.ll,_,rfl,?_⟩
  refine iteF ?_
  refine ⟨_,rfl,fa,_,rfl,.inl (SqL.of hf),_,rfl,da,_,rfl,.inl (SqL.of hd),rfl,_,rfl,?_⟩
  have el:fs.length=ds.length:=by rw [hZ1.1,hZ2.1]
  rw [el]
  refine iteNS rfl ?_
  have dl:=hZ2.1
  refine ⟨_,rfl,da,_,rfl,.inl (SqL.of hd),_,rfl,by omega,by omega,?_⟩
  refine for_range (fun i σ H1 => ∃ v3 v2,σ = [some (.ref fa),some (.ref da),v2,v3]∧H1=H) ⟨_,_,rfl,rfl⟩ ?_ ?_
  · rintro i σ H1 hi ⟨v3,v2,rfl,rfl⟩
    have hi':i < row.length:=by omega
    have ek:(0:Int) + (i:Int)=(i:Int):=by omega
    rw [ek]
    obtain ⟨x1,a1,t1,u1,rfl,b1,d1,rfl,c1⟩:=hZ1.at (List.getElem?_eq_getElem hi')
    obtain ⟨x2,a2,t2,u2,rfl,b2,d2,rfl,c2⟩:=hZ2.at (List.getElem?_eq_getElem hi')
    refine ⟨_,rfl,_,rfl,fa,_,_,_,rfl,rfl,SqL.of hf,atI_nat a1,?_⟩
    refine ⟨_,rfl,_,_,_,_,rfl,.tup b1,T.pp,_,rfl,?_⟩
    refine iteF ?_
    refine ⟨_,rfl,t1,_,rfl,.inr (SqT.of b1),rfl,_,rfl,?_⟩
    refine iteNS rfl ?_
    refine ⟨_,rfl,t1,_,_,_,rfl,rfl,SqT.of b1,rfl,_,_,_,_,rfl,.int _,T.ib,_,rfl,?_⟩
    refine iteF ?_
    refine ⟨_,rfl,t1,_,_,_,rfl,rfl,SqT.of b1,rfl,_,_,_,_,rfl,.int _,T.ii,_,rfl,?_⟩
    refine iteF ?_
    refine ⟨_,rfl,t1,_,_,_,rfl,rfl,SqT.of b1,rfl,_,rfl,_,rfl,da,_,_,_,rfl,rfl,SqL.of hd,atI_nat a2,t2,_,_,_,rfl,rfl,SqT.of b2,rfl,rfl,_,rfl,?_⟩
    refine iteNS rfl ?_
    refine ⟨_,rfl,t1,_,_,_,rfl,rfl,SqT.of b1,rfl,_,rfl,_,rfl,da,_,_,_,rfl,rfl,SqL.of hd,atI_nat a2,t2,_,_,_,rfl,rfl,SqT.of b2,rfl,d1,d2,_,rfl,c1,c2,hX2 _ (List.getElem_mem hi'),_,rfl,?_⟩
    refine iteF ?_
    exact ⟨_,_,rfl,rfl⟩
  · rintro σ H1 ⟨v3,v2,rfl,rfl⟩
    exact q
end
end Toy
namespace Toy
open PySem L2
seal PySem.wpAny
section
variable {P:Program} {w:World} {K:PySem.W.Frag} {mg:Str→Option Value} {base:Heap}
theorem fput_ok {R:List Room1} {A:List Arrow} {c w:List Int} {S S':FS} {e:Int} (h:fput R A c w S e = .ok S'):S'.rows=S.rows∧S.cs.length≤S'.cs.length:=by
  unfold fput at h
  split at h
  · cases h; exact ⟨rfl,Nat.le_refl _⟩
  · split at h
    · cases h
    · cases h
      refine ⟨rfl,?_⟩
      show S.cs.length≤(S.cs ++ [_]).length
      rw [List.length_append]; omega
theorem fevs_ok {R:List Room1} {A:List Arrow} {c w:List Int}:∀ (es:List Int) {S S':FS},fevs R A c w es S = .ok S'→S'.rows=S.rows∧S.cs.length≤S'.cs.length
  | [],S,S',h => by cases h; exact ⟨rfl,Nat.le_refl _⟩
  | e :: es,S,S',h => by
    unfold fevs at h
    split at h
    · cases h
    · rename_i S1 h1
      have i1:S1.rows=S.rows∧S.cs.length≤S1.cs.length:=by
        unfold fstep at h1
        split at h1
        · cases h1
        · exact fput_ok h1
      obtain ⟨j1,j2⟩:=fevs_ok es h
      exact ⟨j1.trans i1.1,Nat.le_trans i1.2 j2⟩
end
end Toy
namespace Toy
open PySem L2
seal PySem.wpAny
section
variable {P:Program} {w:World} {K:PySem.W.Frag} {mg:Str→Option Value} {base:Heap}
def RowSm (A:List Arrow) (r:List Ent):Prop:=r.length≤4∧∀ e∈r,e.2.length≤A.length
theorem fput_sm {R:List Room1} {A:List Arrow} {c w:List Int} {S S':FS} {e:Int} (h:fput R A c w S e = .ok S'):∃ i,S'.row=S.row ++ [(i,ddE R A c e)]:=by
  unfold fput at h
  split at h
  · cases h; exact ⟨_,rfl⟩
  · split at h
    · cases h
    · cases h; exact ⟨_,rfl⟩
theorem ddE_len (R:List Room1) (A:List Arrow) (c:List Int) (e:Int):(ddE R A c e).length≤A.length:=by
  unfold ddE deedsL
  rw [List.length_map]
  exact take_len R A (kI R c) e
theorem fevs_sm {R:List Room1} {A:List Arrow} {c w:List Int}:∀ (es:List Int) {S S':FS},fevs R A c w es S = .ok S'→(∀ x∈S.row,x.2.length≤A.length)→S'.row.length=S.row.length + es.length∧∀ x∈S'.row,x.2.length≤A.length
  | [],S,S',h,hs => by cases h; exact ⟨rfl,hs⟩
  | e :: es,S,S',h,hs => by
    unfold fevs at h
    split at h
    · cases h
    · rename_i S1 h1
      obtain ⟨i,hi⟩ : ∃ i,S1.row=S.row ++ [(i,ddE R A c e)]:=by
        unfold fstep at h1
        split at h1
        · cases h1
        · exact fput_sm h1
      obtain ⟨j1,j2⟩:=fevs_sm es h (fun x hx => by
        rw [hi] at hx
        rcases List.mem_append.mp hx with z | z
        · exact hs x z
        · rw [List.mem_singleton.mp z]; exact ddE_len R A c e)
      refine ⟨?_,j2⟩
      rw [j1,hi,List.length_append,List.length_cons]
      simp only [List.length_cons,List.length_nil]
      omega
theorem ffold_sm {R:List Room1} {A:List Arrow}:∀ (f n:Nat) {S S':FS},ffold R A f n S = .ok S'→(∀ r∈S.rows,RowSm A r)→∀ r∈S'.rows,RowSm A r
  | 0,n,S,S',h,hs => by cases h; exact hs
  | f + 1,n,S,S',h,hs => by
    unfold ffold at h
    split at h
    · split at h
      · cases h
      · rename_i S1 h1
        unfold frow at h1
        obtain ⟨a1,a2⟩:=fevs_sm _ h1 (fun x hx => by cases hx)
        have b1:=(fevs_ok _ h1).1
        refine ffold_sm f (n + 1) h fun r hr => ?_
        rcases List.mem_append.mp hr with z | z
        · rw [b1] at z; exact hs r z
        · rw [List.mem_singleton.mp z]
          exact ⟨by rw [a1]; exact Nat.le_refl 4,a2⟩
    · cases h; exact hs
end
end Toy
namespace Toy
open PySem L2
seal PySem.wpAny
section
variable {P:Program} {w:World} {K:PySem.W.Frag} {mg:Str→Option Value} {base:Heap}
structure Wk where
  nx:List Int→Int→List Int
  dd:List Int→Int→List Int
  pr:List Int→Int→Option (Nat×Nat)
  m:Nat
def gput (W:Wk) (c w:List Int) (S:FS) (e:Int):Except Refu FS :=
  if W.nx c e∈S.cs then .ok ⟨S.cs,S.ws,S.rows,S.row ++ [(((S.cs.idxOf (W.nx c e):Nat):Int),W.dd c e)]⟩
  else if S.cs.length=W.m then .error .many
  else .ok ⟨S.cs ++ [W.nx c e],S.ws ++ [w ++ [e]],S.rows,S.row ++ [(((S.cs.length:Nat):Int),W.dd c e)]⟩
def gstep (W:Wk) (c w:List Int) (S:FS) (e:Int):Except Refu FS :=
  match W.pr c e with
  | some (i,j) => .error (.clash (w ++ [e]) i j)
  | Option.none => gput W c w S e
def gevs (W:Wk) (c w:List Int):List Int→FS→Except Refu FS
  | [],S => .ok S
  | e :: r,S => match gstep W c w S e with
    | .error x => .error x
    | .ok S' => gevs W c w r S'
def grow (W:Wk) (n:Nat) (S:FS):Except Refu FS:=gevs W (S.cs.getD n []) (S.ws.getD n []) [0,1,2,3] ⟨S.cs,S.ws,S.rows,[]⟩
def gfold (W:Wk):Nat→Nat→FS→Except Refu FS
  | 0,_,S => .ok S
  | f + 1,n,S => if n < S.cs.length then
      match grow W n S with
      | .error x => .error x
      | .ok S' => gfold W f (n + 1) ⟨S'.cs,S'.ws,S'.rows ++ [S'.row],[]⟩
    else .ok S
theorem get_app {α : Type} {l m:List α} {i:Nat} {x : α} (h:l[i]? = some x):(l ++ m)[i]? = some x:=by
  have hi:=(List.getElem?_eq_some_iff.mp h).1
  rw [List.getElem?_append_left hi]; exact h
theorem get_snoc {α : Type} {l:List α} {y x : α} {i:Nat} (h:(l ++ [y])[i]? = some x):l[i]? = some x∨(i=l.length∧x=y):=by
  by_cases hi:i < l.length
  · rw [List.getElem?_append_left hi] at h; exact .inl h
  · right
    rw [List.getElem?_append_right (by omega)] at h
    cases e:i - l.length with
    | zero => rw [e] at h; exact ⟨by omega,(Option.some.inj h).symm⟩
    | succ k => rw [e] at h; cases h
end
end Toy
namespace Toy
open PySem L2
seal PySem.wpAny
section
variable {P:Program} {w:World} {K:PySem.W.Frag} {mg:Str→Option Value} {base:Heap}
def wkE (R:List Room1) (A:List Arrow):Wk:=⟨nxE R A,ddE R A,fun c e => pairOf (clA R A) (tkL R A c e),30⟩
theorem fevs_g {R:List Room1} {A:List Arrow} {c w:List Int}:∀ (es:List Int) (S:FS),fevs R A c w es S=gevs (wkE R A) c w es S
  | [],S => rfl
  | e :: es,S => by
    have h1:fstep R A c w S e=gstep (wkE R A) c w S e:=rfl
    unfold fevs gevs
    rw [h1]
    cases gstep (wkE R A) c w S e with
    | error x => rfl
    | ok S1 => exact fevs_g es S1
theorem ffold_g {R:List Room1} {A:List Arrow}:∀ (f n:Nat) (S:FS),ffold R A f n S=gfold (wkE R A) f n S
  | 0,n,S => rfl
  | f + 1,n,S => by
    have h1:frow R A n S=grow (wkE R A) n S:=fevs_g _ _
    unfold ffold gfold
    rw [h1]
    split
    · cases grow (wkE R A) n S with
      | error x => rfl
      | ok S1 => exact ffold_g f (n + 1) _
    · rfl
theorem mem_at {α : Type} {l:List α} {x : α} (h:x∈l):∃ i:Nat,l[i]? = some x:=by
  obtain ⟨i,hi,rfl⟩:=List.mem_iff_getElem.mp h
  exact ⟨i,List.getElem?_eq_getElem hi⟩
end
end Toy
namespace Toy
open PySem L2
seal PySem.wpAny
section
variable {P:Program} {w:World} {K:PySem.W.Frag} {mg:Str→Option Value} {base:Heap}
def mapS (f:List Int→List Int) (S:FS):FS:=⟨S.cs.map f,S.ws,S.rows,S.row⟩
def mapX (f:List Int→List Int):Except Refu FS→Except Refu FS
  | .ok S => .ok (mapS f S)
  | .error x => .error x
structure Sim (W V:Wk) (f:List Int→List Int) (P:List Int→Prop):Prop where
  inj:∀ a b,P a→P b→f a=f b→a=b
  cl:∀ a (e:Nat),P a→e < 4→V.pr a (e:Int)=Option.none→P (V.nx a (e:Int))
  nx:∀ a (e:Nat),P a→e < 4→V.pr a (e:Int)=Option.none→W.nx (f a) (e:Int)=f (V.nx a (e:Int))
  dd:∀ a (e:Nat),P a→e < 4→V.pr a (e:Int)=Option.none→W.dd (f a) (e:Int)=V.dd a (e:Int)
  pr:∀ a (e:Nat),P a→e < 4→W.pr (f a) (e:Int)=V.pr a (e:Int)
  m:W.m=V.m
theorem mem_mapP {f:List Int→List Int} {P:List Int→Prop} (inj:∀ a b,P a→P b→f a=f b→a=b) {x:List Int} (hx:P x) {l:List (List Int)} (hl:∀ c∈l,P c):f x∈l.map f ↔ x∈l:=by
  refine ⟨fun h => ?_,fun h => List.mem_map.mpr ⟨x,h,rfl⟩⟩
  obtain ⟨y,hy,e⟩:=List.mem_map.mp h
  rw [← inj y x (hl y hy) hx e]; exact hy
theorem idx_mapP {f:List Int→List Int} {P:List Int→Prop} (inj:∀ a b,P a→P b→f a=f b→a=b) {x:List Int} (hx:P x):∀ {l:List (List Int)},(∀ c∈l,P c)→(l.map f).idxOf (f x)=l.idxOf x
  | [],_ => rfl
  | y :: l,hl => by
    rw [List.map_cons,List.idxOf_cons,List.idxOf_cons]
    by_cases z:y=x
    · subst z; simp
    · have z':¬ f y=f x:=fun e => z (inj y x (hl y List.mem_cons_self) hx e)
      rw [idx_mapP inj hx fun c hc => hl c (List.mem_cons_of_mem _ hc)]
      have b1:(f y == f x)=false:=by simpa using z'
      have b2:(y == x)=false:=by simpa using z
      rw [b1,b2]
section
variable {W V:Wk} {f:List Int→List Int} {P:List Int→Prop}
theorem sim_step (h:Sim W V f P) {c w:List Int} {S:FS} {e:Nat} (hc:P c) (he:e < 4) (hS:∀ x∈S.cs,P x):gstep W (f c) w (mapS f S) (e:Int)=mapX f (gstep V c w S (e:Int))∧∀ S',gstep V c w S (e:Int) = .ok S'→∀ x∈S'.cs,P x:=by
  unfold gstep
  rw [h.pr c e hc he]
  cases hp:V.pr c (e:Int) with
  | some ij => exact ⟨rfl,fun S' z => by cases z⟩
  | none =>
    have hx:=h.cl c e hc he hp
    have g1:gput W (f c) w (mapS f S) (e:Int)=mapX f (gput V c w S (e:Int)):=by
      unfold gput
      rw [h.nx c e hc he hp,h.dd c e hc he hp,h.m]
      by_cases hin:V.nx c (e:Int)∈S.cs
      · rw [if_pos hin,if_pos (show f (V.nx c (e:Int))∈(mapS f S).cs from (mem_mapP h.inj hx hS).mpr hin)]
        show Except.ok _=Except.ok _
        unfold mapS
        simp only [idx_mapP h.inj hx hS]
      · rw [if_neg hin,if_neg (show ¬ f (V.nx c (e:Int))∈(mapS f S).cs from fun z => hin ((mem_mapP h.inj hx hS).mp z))]
        have hl:(mapS f S).cs.length=S.cs.length:=List.length_map _
        rw [hl]
        by_cases hm:S.cs.length=V.m
        · rw [if_pos hm,if_pos hm]; rfl
        · rw [if_neg hm,if_neg hm]
          show Except.ok _=Except.ok _
          unfold mapS
          simp only [List.map_append,List.map_cons,List.map_nil]
    refine ⟨g1,fun S' z => ?_⟩
    have z':gput V c w S (e:Int) = .ok S':=z
    unfold gput at z'
    split at z'
    · cases z'; exact hS
    · split at z'
      · cases z'
      · cases z'
        intro x hx'
        rcases List.mem_append.mp hx' with y | y
        · exact hS x y
        · rw [List.mem_singleton.mp y]; exact hx
theorem sim_evs (h:Sim W V f P) {c w:List Int} (hc:P c):∀ (es:List Nat) (S:FS),(∀ e∈es,e < 4)→(∀ x∈S.cs,P x) →
    gevs W (f c) w (es.map fun (e:Nat) => (e:Int)) (mapS f S)=mapX f (gevs V c w (es.map fun (e:Nat) => (e:Int)) S)∧∀ S',gevs V c w (es.map fun (e:Nat) => (e:Int)) S = .ok S'→∀ x∈S'.cs,P x
  | [],S,_,hS => ⟨rfl,fun S' z => by cases z; exact hS⟩
  | e :: es,S,he,hS => by
    obtain ⟨a1,a2⟩:=sim_step (w:=w) h hc (he e List.mem_cons_self) hS
    rw [List.map_cons]
    unfold gevs
    rw [a1]
    cases hs:gstep V c w S (e:Int) with
    | error x => exact ⟨rfl,fun S' z => by cases z⟩
    | ok S1 => exact sim_evs h hc es S1 (fun x hx => he x (List.mem_cons_of_mem _ hx)) (a2 S1 hs)
theorem sim_fold (h:Sim W V f P):∀ (k n:Nat) (S:FS),(∀ x∈S.cs,P x)→gfold W k n (mapS f S)=mapX f (gfold V k n S)
  | 0,n,S,hS => rfl
  | k + 1,n,S,hS => by
    unfold gfold
    have hl:(mapS f S).cs.length=S.cs.length:=List.length_map _
    rw [hl]
    by_cases hlt:n < S.cs.length
    · rw [if_pos hlt,if_pos hlt]
      have hc:=List.getElem?_eq_getElem hlt
      have hP:P (S.cs.getD n []):=by
        rw [List.getD_eq_getElem?_getD,hc]
        exact hS _ (List.getElem_mem hlt)
      have hg:(mapS f S).cs.getD n [] = f (S.cs.getD n []):=by
        show (S.cs.map f).getD n [] = _
        rw [List.getD_eq_getElem?_getD,List.getElem?_map,hc,List.getD_eq_getElem?_getD,hc]; rfl
      obtain ⟨a1,a2⟩:=sim_evs (w:=S.ws.getD n []) h hP [0,1,2,3] ⟨S.cs,S.ws,S.rows,[]⟩ (by decide) hS
      have hr:grow W n (mapS f S)=mapX f (grow V n S):=by
        unfold grow
        rw [hg]
        exact a1
      rw [hr]
      cases hs:grow V n S with
      | error x => rfl
      | ok S1 => exact sim_fold h k (n + 1) ⟨S1.cs,S1.ws,S1.rows ++ [S1.row],[]⟩ (a2 S1 hs)
    · rw [if_neg hlt,if_neg hlt]; rfl
end
section
variable {V:Wk}
def Wk.top (V:Wk) (m:Nat):Wk:=⟨V.nx,V.dd,V.pr,m⟩
def cutX:Except Refu FS→Except Refu FS
  | .ok S => if S.cs.length≤30 then .ok S else .error .many
  | .error _ => .error .many
theorem gput_len {W:Wk} {c w:List Int} {S S':FS} {e:Int} (h:gput W c w S e = .ok S'):S.cs.length≤S'.cs.length∧S'.cs.length≤S.cs.length + 1:=by
  unfold gput at h
  split at h
  · cases h; exact ⟨Nat.le_refl _,Nat.le_succ _⟩
  · split at h
    · cases h
    · cases h
      show _≤(S.cs ++ [_]).length∧(S.cs ++ [_]).length≤_
      rw [List.length_append]
      exact ⟨Nat.le_add_right _ _,Nat.le_refl _⟩
theorem gevs_len {W:Wk} {c w:List Int}:∀ (es:List Int) {S S':FS},gevs W c w es S = .ok S'→S.cs.length≤S'.cs.length
  | [],S,S',h => by cases h; exact Nat.le_refl _
  | e :: es,S,S',h => by
    unfold gevs at h
    split at h
    · cases h
    · rename_i S1 h1
      unfold gstep at h1
      split at h1
      · cases h1
      · exact Nat.le_trans (gput_len h1).1 (gevs_len es h)
theorem gfold_len {W:Wk}:∀ (f n:Nat) {S S':FS},gfold W f n S = .ok S'→S.cs.length≤S'.cs.length
  | 0,n,S,S',h => by cases h; exact Nat.le_refl _
  | f + 1,n,S,S',h => by
    unfold gfold at h
    split at h
    · split at h
      · cases h
      · rename_i S1 h1
        exact Nat.le_trans (gevs_len (S:=⟨S.cs,S.ws,S.rows,[]⟩) _ h1) (gfold_len f (n + 1) (S:=⟨S1.cs,S1.ws,S1.rows ++ [S1.row],[]⟩) h)
    · cases h; exact Nat.le_refl _
theorem cut_over {x:Except Refu FS} (h:∀ S,x = .ok S→30 < S.cs.length):cutX x = .error .many:=by
  cases x with
  | error y => rfl
  | ok S =>
    show (if S.cs.length≤30 then _ else _)=_
    rw [if_neg (by have:=h S rfl; omega)]
theorem cut_evs (hp:∀ c e,V.pr c e=Option.none) {c w:List Int}:∀ (es:List Int) (S:FS),S.cs.length≤30→gevs (V.top 30) c w es S=cutX (gevs (V.top 100) c w es S)
  | [],S,h => by
    show Except.ok S=if S.cs.length≤30 then _ else _
    rw [if_pos h]
  | e :: es,S,h => by
    unfold gevs gstep
    rw [show (V.top 30).pr c e=Option.none from hp c e,show (V.top 100).pr c e=Option.none from hp c e]
    show (match gput (V.top 30) c w S e with | .error x => Except.error x | .ok S' => gevs (V.top 30) c w es S')=cutX (match gput (V.top 100) c w S e with | .error x => Except.error x | .ok S' => gevs (V.top 100) c w es S')
    unfold gput
    show (match (if V.nx c e∈S.cs then _ else if S.cs.length=30 then _ else _:Except Refu FS) with | .error x => Except.error x | .ok S' => gevs (V.top 30) c w es S')=cutX (match (if V.nx c e∈S.cs then _ else if S.cs.length=100 then _ else _:Except Refu FS) with | .error x => Except.error x | .ok S' => gevs (V.top 100) c w es S')
    by_cases hin:V.nx c e∈S.cs
    · rw [if_pos hin,if_pos hin]
      exact cut_evs hp es _ h
    · rw [if_neg hin,if_neg hin,if_neg (show ¬ S.cs.length=100 by omega)]
      by_cases h30:S.cs.length=30
      · rw [if_pos h30]
        refine (cut_over fun S' z => ?_).symm
        have z1:=gevs_len es z
        have z2:S.cs.length + 1≤S'.cs.length:=by
          refine Nat.le_trans (Nat.le_of_eq ?_) z1
          show _=(S.cs ++ [_]).length
          rw [List.length_append]; rfl
        omega
      · rw [if_neg h30]
        refine cut_evs hp es _ ?_
        show (S.cs ++ [_]).length≤30
        rw [List.length_append]
        show S.cs.length + 1≤30
        omega
theorem cut_fold (hp:∀ c e,V.pr c e=Option.none):∀ (f n:Nat) (S:FS),S.cs.length≤30→gfold (V.top 30) f n S=cutX (gfold (V.top 100) f n S)
  | 0,n,S,h => by
    show Except.ok S=if S.cs.length≤30 then _ else _
    rw [if_pos h]
  | f + 1,n,S,h => by
    unfold gfold
    by_cases hlt:n < S.cs.length
    · rw [if_pos hlt,if_pos hlt]
      have hr:grow (V.top 30) n S=cutX (grow (V.top 100) n S):=cut_evs hp _ _ h
      rw [hr]
      cases hg:grow (V.top 100) n S with
      | error x => rfl
      | ok S1 =>
        show (match (if S1.cs.length≤30 then Except.ok S1 else Except.error Refu.many:Except Refu FS) with | .error x => Except.error x | .ok S' => gfold (V.top 30) f (n + 1) ⟨S'.cs,S'.ws,S'.rows ++ [S'.row],[]⟩)=cutX (gfold (V.top 100) f (n + 1) ⟨S1.cs,S1.ws,S1.rows ++ [S1.row],[]⟩)
        by_cases h1:S1.cs.length≤30
        · rw [if_pos h1]
          exact cut_fold hp f (n + 1) _ h1
        · rw [if_neg h1]
          refine (cut_over fun S' z => ?_).symm
          have z1:=gfold_len f (n + 1) z
          have z2:S1.cs.length≤S'.cs.length:=z1
          omega
    · rw [if_neg hlt,if_neg hlt]
      show Except.ok S=if S.cs.length≤30 then _ else _
      rw [if_pos h]
end
theorem gevs_top {W:Wk} {c w:List Int}:∀ (es:List Int) {S S':FS},S.cs.length≤W.m→gevs W c w es S = .ok S'→S'.cs.length≤W.m
  | [],S,S',hl,h => by cases h; exact hl
  | e :: es,S,S',hl,h => by
    unfold gevs at h
    split at h
    · cases h
    · rename_i S1 h1
      refine gevs_top es ?_ h
      unfold gstep at h1
      split at h1
      · cases h1
      · unfold gput at h1
        split at h1
        · cases h1; exact hl
        · split at h1
          · cases h1
          · cases h1
            show (S.cs ++ [_]).length≤_
            rw [List.length_append]
            show S.cs.length + 1≤_
            omega
theorem gfold_more {W:Wk}:∀ (f n:Nat) (S:FS),S.cs.length≤W.m→W.m < f + n→gfold W (f + 1) n S=gfold W f n S
  | 0,n,S,hl,hf => by
    unfold gfold
    rw [if_neg (by omega)]
  | f + 1,n,S,hl,hf => by
    rw [gfold,gfold]
    by_cases hlt:n < S.cs.length
    · rw [if_pos hlt,if_pos hlt]
      cases hg:grow W n S with
      | error x => rfl
      | ok S1 => exact gfold_more f (n + 1) ⟨S1.cs,S1.ws,S1.rows ++ [S1.row],[]⟩ (gevs_top (S:=⟨S.cs,S.ws,S.rows,[]⟩) (S':=S1) _ hl hg) (by omega)
    · rw [if_neg hlt,if_neg hlt]
theorem gfold_enough {W:Wk} {f n:Nat} {S:FS} (hl:S.cs.length≤W.m) (hf:W.m < f + n):∀ d,gfold W (f + d) n S=gfold W f n S
  | 0 => rfl
  | d + 1 => by rw [← Nat.add_assoc,gfold_more (f + d) n S hl (by omega),gfold_enough hl hf d]
end
end Toy
namespace Toy
open PySem L2
seal PySem.wpAny
section
variable {P:Program} {w:World} {K:PySem.W.Frag} {mg:Str→Option Value} {base:Heap}
def haR0 (one other:Nat) (k1 k2:Str):List Room1:=([(-1, "one"),(0, "all"),(1,k1),(1,k2)]:List Room1) ++ (List.range one).map (fun _ => ((2, "plain"):Room1)) ++ (List.range other).map (fun _ => ((3, "plain"):Room1))
def haR (one other:Nat) (k1 k2:Str) (x:Bool):List Room1:=haR0 one other k1 k2 ++ (if x=true then [((0, "plain"):Room1)] else [])
def haA0 (one other:Nat):List Arrow:=(List.range one).map (fun (k:Nat) => (((4:Int) + ((0:Int) + (k:Int)),0,-1,(4:Int) + ((0:Int) + (k:Int) + 1) % (one:Int),(0:Int) + (k:Int)):Arrow)) ++
  (List.range other).map (fun (k:Nat) => (((4:Int) + (one:Int) + ((0:Int) + (k:Int)),1,-1,(4:Int) + (one:Int) + ((0:Int) + (k:Int) + 1) % (other:Int),(50:Int) + ((0:Int) + (k:Int))):Arrow))
def haA (one other:Nat) (x:Bool):List Arrow:=haA0 one other ++ (if x=true then [(1,2,-1,(4:Int) + (one:Int) + (other:Int),99)] else [])
def spHalls:Sp:=fun vs H Q _ => ∃ (one other:Nat) (kl:Addr) (k1 k2:Str) (x:Bool),vs=[.int one,.int other,.ref kl,.bl x]∧H kl=some (.lst [.str k1,.str k2])∧0 < one∧one≤6∧0 < other∧other≤6 ∧
  ∀ (t r ar:Addr) (ps qs:List Addr) (H':Hp),Same H H'→H' t=some (.tup [.ref r,.ref ar])→H' r=some (.lst (ps.map V.ref))→Items H' ps ((haR one other k1 k2 x).map rV)→H' ar=some (.lst (qs.map V.ref))→Items H' qs ((haA one other x).map aV)→Q (.ref t) H'
theorem scHalls:FnScope ["one", "other", "kinds", "extra", "rooms", "arrows", "far"] ["one", "other", "kinds", "extra"] (defScope sHalls):=⟨rfl,rfl,rfl,by decide +kernel,rfl,by decide +kernel,by decide +kernel⟩
theorem ok_halls {f C:Addr} {fd:FuncData} (D:DefAt K mg "_law_halls" sHalls ["one", "other", "kinds", "extra"] f fd) (T:Txt K mg C):FnOk P w K mg base CX0 1 f fd ["one", "other", "kinds", "extra"] spHalls:=by
  refine D.fn.ok scHalls (fun vs H Q E h => ?_) (fun cdv A outer s H vs Q E hr h => ?_)
  · obtain ⟨one,other,kl,k1,k2,x,rfl,_⟩:=h
    rfl
  obtain ⟨one,other,kl,k1,k2,x,rfl,hkl,o1,o2,o3,o4,q⟩:=h
  refine ⟨_,pss_cons (ps_set (i := 4) scHalls.nd rfl (Or.inl rfl) (pe_lst (pa_cons (pe_tup (pa_cons (pe_un un_neg pe_int) (pa_cons pe_str pa_nil))) (pa_cons (pe_tup (pa_cons pe_int (pa_cons pe_str pa_nil))) (pa_cons (pe_tup (pa_cons pe_int (pa_cons (pe_ix ix_list (pv 2) pe_int (fun _ _ => rfl)) pa_nil))) (pa_cons (pe_tup (pa_cons pe_int (pa_cons (pe_ix ix_list (pv 2) pe_int (fun _ _ => rfl)) pa_nil))) pa_nil))))))
      (pss_cons (ps_set (i := 4) scHalls.nd rfl (Or.inl rfl) (pe_op op_cat (pe_op op_cat (pv 4) (pe_comp ["k"] [Option.none] rfl (pi_range1 rfl T.range (pa_cons (pv 0) pa_nil)) (fun _ => pg_name (i := 0) (show (["k"]:List Str).Nodup by decide +kernel) rfl (Or.inl rfl)) (fun _ => pts_nil) (fun _ => (pe_tup (pa_cons pe_int (pa_cons pe_str pa_nil)))) (N:=["one", "other", "kinds", "extra", "rooms", "arrows", "far"]) (ks:=(defScope sHalls).names) rfl rfl (by decide +kernel) (by decide +kernel) (by decide +kernel) (by decide +kernel))) (pe_comp ["k"] [Option.none] rfl (pi_range1 rfl T.range (pa_cons (pv 1) pa_nil)) (fun _ => pg_name (i := 0) (show (["k"]:List Str).Nodup by decide +kernel) rfl (Or.inl rfl)) (fun _ => pts_nil) (fun _ => (pe_tup (pa_cons pe_int (pa_cons pe_str pa_nil)))) (N:=["one", "other", "kinds", "extra", "rooms", "arrows", "far"]) (ks:=(defScope sHalls).names) rfl rfl (by decide +kernel) (by decide +kernel) (by decide +kernel) (by decide +kernel))))
      (pss_cons (ps_comp (i := 5) ["k", "one"] [Option.none,some 0] rfl scHalls.nd rfl rfl (pi_range1 rfl T.range (pa_cons (pv 0) pa_nil)) (fun _ => pg_name (i := 0) (show (["k", "one"]:List Str).Nodup by decide +kernel) rfl (Or.inl rfl)) (fun _ => pts_nil) (fun _ => (pe_tup (pa_cons (pe_op op_add pe_int (pv 0)) (pa_cons pe_int (pa_cons (pe_un un_neg pe_int) (pa_cons (pe_op op_add pe_int (pe_op op_mod (pe_op op_add (pv 0) pe_int) (pv 1))) (pa_cons (pv 0) pa_nil))))))) (N:=["one", "other", "kinds", "extra", "rooms", "arrows", "far"]) (ks:=(defScope sHalls).names) rfl rfl (by decide +kernel) (by decide +kernel) (by decide +kernel) (by decide +kernel))
      (pss_cons (ps_set (i := 6) scHalls.nd rfl (Or.inr rfl) (pe_op op_add pe_int (pv 0)))
      (pss_cons (ps_set (i := 5) scHalls.nd rfl (Or.inl rfl) (pe_op op_cat (pv 5) (pe_comp ["k", "far", "other"] [Option.none,some 6,some 1] rfl (pi_range1 rfl T.range (pa_cons (pv 1) pa_nil)) (fun _ => pg_name (i := 0) (show (["k", "far", "other"]:List Str).Nodup by decide +kernel) rfl (Or.inl rfl)) (fun _ => pts_nil) (fun _ => (pe_tup (pa_cons (pe_op op_add (pv 1) (pv 0)) (pa_cons pe_int (pa_cons (pe_un un_neg pe_int) (pa_cons (pe_op op_add (pv 1) (pe_op op_mod (pe_op op_add (pv 0) pe_int) (pv 2))) (pa_cons (pe_op op_add pe_int (pv 0)) pa_nil))))))) (N:=["one", "other", "kinds", "extra", "rooms", "arrows", "far"]) (ks:=(defScope sHalls).names) rfl rfl (by decide +kernel) (by decide +kernel) (by decide +kernel) (by decide +kernel))))
      (pss_cons (ps_if (pt_val (pv 3)) (pss_cons (ps_expr (pe_bm PySem.F.plainAttrs_list PySem.F.slot_list_append PySem.F.type_list_append mt_append (pv 4) (pa_cons (pe_tup (pa_cons pe_int (pa_cons pe_str pa_nil))) pa_nil)))
      (pss_one (ps_expr (pe_bm PySem.F.plainAttrs_list PySem.F.slot_list_append PySem.F.type_list_append mt_append (pv 5) (pa_cons (pe_tup (pa_cons pe_int (pa_cons pe_int (pa_cons (pe_un un_neg pe_int) (pa_cons (pe_op op_add (pv 6) (pv 1)) (pa_cons pe_int pa_nil)))))) pa_nil))))) pss_nil)
      (pss_one (ps_ret (pe_tup (pa_cons (pv 4) (pa_cons (pv 5) pa_nil)))))))))),?_⟩
  refine ⟨1,rfl,(by show 2≤sizeLine; decide),fun t1 h1 => ?_⟩
  have s1:=same_new h1 (.tup [.int (-1),.str "one"])
  have e1:(upd H t1 (.tup [.int (-1),.str "one"])) t1=some (.tup [.int (-1),.str "one"]):=upd_same
  generalize upd H t1 (.tup [.int (-1),.str "one"])=H1 at s1 e1 ⊢
  refine ⟨(by show 2≤sizeLine; decide),fun t2 h2 => ?_⟩
  have s2:=same_new h2 (.tup [.int 0,.str "all"])
  have e2:(upd H1 t2 (.tup [.int 0,.str "all"])) t2=some (.tup [.int 0,.str "all"]):=upd_same
  generalize upd H1 t2 (.tup [.int 0,.str "all"])=H2 at s2 e2 ⊢
  have s02:=s1.trans s2
  refine ⟨_,rfl,kl,_,_,_,rfl,rfl,SqL.of (s02 _ _ hkl),rfl,(by show 2≤sizeLine; decide),fun t3 h3 => ?_⟩
  have s3:=same_new h3 (.tup [.int 1,.str k1])
  have e3:(upd H2 t3 (.tup [.int 1,.str k1])) t3=some (.tup [.int 1,.str k1]):=upd_same
  generalize upd H2 t3 (.tup [.int 1,.str k1])=H3 at s3 e3 ⊢
  refine ⟨_,rfl,kl,_,_,_,rfl,rfl,SqL.of ((s02.trans s3) _ _ hkl),rfl,(by show 2≤sizeLine; decide),fun t4 h4 => ?_⟩
  have s4:=same_new h4 (.tup [.int 1,.str k2])
  have e4:(upd H3 t4 (.tup [.int 1,.str k2])) t4=some (.tup [.int 1,.str k2]):=upd_same
  generalize upd H3 t4 (.tup [.int 1,.str k2])=H4 at s4 e4 ⊢
  refine ⟨(by show 4≤sizeLine; decide),fun r0 hr0 => ?_⟩
  have s5:=same_new hr0 (.lst [.ref t1,.ref t2,.ref t3,.ref t4])
  have e5:(upd H4 r0 (.lst [.ref t1,.ref t2,.ref t3,.ref t4])) r0=some (.lst ([t1,t2,t3,t4].map V.ref)):=upd_same
  generalize upd H4 r0 (.lst [.ref t1,.ref t2,.ref t3,.ref t4])=H5 at s5 e5 ⊢
  have s05:=s1.trans (s2.trans (s3.trans (s4.trans s5)))
  have I5:Items H5 [t1,t2,t3,t4] [[.int (-1),.str "one"],[.int 0,.str "all"],[.int 1,.str k1],[.int 1,.str k2]] :=
    (((Items.none.snoc (s5 _ _ (s4 _ _ (s3 _ _ (s2 _ _ e1))))).snoc (s5 _ _ (s4 _ _ (s3 _ _ e2)))).snoc (s5 _ _ (s4 _ _ e3))).snoc (s5 _ _ e4)
  clear e1 e2 e3 e4 s1 s2 s3 s4 h1 h2 h3 h4 s5 hr0 s02
  generalize [t1,t2,t3,t4] = ps5 at e5 I5
  have l5:(ps5.map V.ref).length=4:=by rw [List.length_map,I5.1]; rfl
  have eo:((one:Nat):Int).toNat=one:=by omega
  have et:((other:Nat):Int).toNat=other:=by omega
  refine ⟨_,rfl,_,rfl,_,rfl,(by omega),(by omega),fun bk d1 hd1 => ?_⟩
  rw [eo]
  refine comp_items (f:=fun _ => [.int 2,.str "plain"]) (by omega) hd1 (fun i H' Q hi s' k => ⟨(by show 2≤sizeLine; decide),k⟩) ?_
  intro ps6 H6 s6 e6 I6
  have l6:(ps6.map V.ref).length=one:=by rw [List.length_map,I6.1,List.length_map,List.length_range]
  refine ⟨r0,d1,_,_,rfl,rfl,s6 _ _ e5,e6,(by rw [l5,l6]; exact small (by omega)),fun p7 hp7 => ?_⟩
  obtain ⟨s7,e7,I7⟩:=I5.cat s6 I6 hp7
  generalize upd H6 p7 (.lst (ps5.map V.ref ++ ps6.map V.ref))=H7 at s7 e7 I7 ⊢
  refine ⟨_,rfl,_,rfl,(by omega),(by omega),fun bk d2 hd2 => ?_⟩
  rw [et]
  refine comp_items (f:=fun _ => [.int 3,.str "plain"]) (by omega) hd2 (fun i H' Q hi s' k => ⟨(by show 2≤sizeLine; decide),k⟩) ?_
  intro ps8 H8 s8 e8 I8
  have l7:((ps5 ++ ps6).map V.ref).length=4 + one:=by rw [List.map_append,List.length_append,l5,l6]
  have l8:(ps8.map V.ref).length=other:=by rw [List.length_map,I8.1,List.length_map,List.length_range]
  refine ⟨p7,d2,_,_,rfl,rfl,s8 _ _ e7,e8,(by rw [l7,l8]; exact small (by omega)),fun p9 hp9 => ?_⟩
  obtain ⟨s9,e9,I9⟩:=I7.cat s8 I8 hp9
  generalize upd H8 p9 (.lst ((ps5 ++ ps6).map V.ref ++ ps8.map V.ref))=H9 at s9 e9 I9 ⊢
  have l9:((ps5 ++ ps6 ++ ps8).map V.ref).length=4 + one + other:=by rw [List.map_append,List.length_append,l7,l8]
  generalize hpsr:ps5 ++ ps6 ++ ps8=psr at e9 I9 l9
  have fr9:H p9=Option.none:=(s05.trans (s7.trans s8)).free hp9
  have s09:Same H H9:=s05.trans (s7.trans s9)
  have IrR:Items H9 psr ((haR0 one other k1 k2).map rV):=by
    unfold haR0
    rw [List.map_append,List.map_append,List.map_map,List.map_map]
    exact I9
  clear I9 I8 I7 I6 I5 s05 s7 s9
  refine ⟨_,rfl,_,rfl,(by omega),(by omega),fun bk d4 hd4 => ?_⟩
  rw [eo]
  refine comp_items (f:=fun (k:Nat) => [.int ((4:Int) + ((0:Int) + (k:Int))),.int 0,.int (-1),.int ((4:Int) + ((0:Int) + (k:Int) + 1) % (one:Int)),.int ((0:Int) + (k:Int))]) (by omega) hd4
    (fun i H' Q hi s' k => ⟨_,rfl,_,_,rfl,rfl,1,rfl,_,rfl,_,_,rfl,rfl,_,rfl,_,_,rfl,rfl,(by show (0:Int) < (one:Int); omega),_,_,rfl,rfl,_,rfl,(by show 5≤sizeLine; decide),k⟩) ?_
  intro qs1 H12 s12 e12 I12
  have m1:(qs1.map V.ref).length=one:=by rw [List.length_map,I12.1,List.length_map,List.length_range]
  refine ⟨_,rfl,_,_,rfl,rfl,?_⟩
  refine ⟨_,rfl,_,rfl,_,rfl,(by omega),(by omega),fun bk d5 hd5 => ?_⟩
  rw [et]
  refine comp_items (f:=fun (k:Nat) => [.int ((4:Int) + (one:Int) + ((0:Int) + (k:Int))),.int 1,.int (-1),.int ((4:Int) + (one:Int) + ((0:Int) + (k:Int) + 1) % (other:Int)),.int ((50:Int) + ((0:Int) + (k:Int)))]) (by omega) hd5
    (fun i H' Q hi s' k => ⟨_,rfl,_,rfl,_,_,rfl,rfl,1,rfl,_,rfl,_,rfl,_,_,rfl,rfl,_,rfl,_,_,rfl,rfl,(by show (0:Int) < (other:Int); omega),_,_,rfl,rfl,_,rfl,_,_,rfl,rfl,(by show 5≤sizeLine; decide),k⟩) ?_
  intro qs2 H13 s13 e13 I13
  have m2:(qs2.map V.ref).length=other:=by rw [List.length_map,I13.1,List.length_map,List.length_range]
  refine ⟨d4,d5,_,_,rfl,rfl,s13 _ _ e12,e13,(by rw [m1,m2]; exact small (by omega)),fun p14 hp14 => ?_⟩
  obtain ⟨s14,e14,I14⟩:=I12.cat s13 I13 hp14
  generalize upd H13 p14 (.lst (qs1.map V.ref ++ qs2.map V.ref))=H14 at s14 e14 I14 ⊢
  have m3:((qs1 ++ qs2).map V.ref).length=one + other:=by rw [List.map_append,List.length_append,m1,m2]
  generalize qs1 ++ qs2=qsr at e14 I14 m3
  have fr14:H p14=Option.none:=(s09.trans (s12.trans s13)).free hp14
  have s914:Same H9 H14:=s12.trans s14
  have IaA:Items H14 qsr ((haA0 one other).map aV):=by
    unfold haA0
    rw [List.map_append,List.map_map,List.map_map]
    exact I14
  have s014:=s09.trans s914
  have er14:=s914 _ _ e9
  have Ir14:=IrR.same s914
  have npp:p9≠p14:=ne_of_none (s13 _ _ (s12 _ _ e9)) hp14
  have fin:∀ (ps' qs':List Addr) (H':Hp),Same H H'→H' p9=some (.lst (ps'.map V.ref))→Items H' ps' ((haR one other k1 k2 x).map rV)→H' p14=some (.lst (qs'.map V.ref))→Items H' qs' ((haA one other x).map aV)→∀ t,H' t=Option.none→Q (.ref t) (upd H' t (.tup [.ref p9,.ref p14])):=fun ps' qs' H' s' f1 f2 f3 f4 t ht => by
    have s19:=same_new ht (.tup [.ref p9,.ref p14])
    exact q t p9 p14 ps' qs' _ (s'.trans s19) upd_same (s19 _ _ f1) (f2.same s19) (s19 _ _ f3) (f4.same s19)
  refine ⟨_,rfl,_,rfl,?_⟩
  cases hx:x with
  | false =>
    subst hx
    refine iteF ?_
    refine ⟨_,rfl,_,rfl,(by show 2≤sizeLine; decide),fun t ht => ?_⟩
    exact fin psr qsr H14 s014 er14 (by unfold haR; rw [if_neg (by decide),List.append_nil]; exact Ir14) e14 (by unfold haA; rw [if_neg (by decide),List.append_nil]; exact IaA) t ht
  | true =>
    subst hx
    refine iteT ?_
    refine ⟨_,rfl,.inl ⟨rfl,_,SqL.of er14⟩,(by show 2≤sizeLine; decide),fun t9 ht9 => ?_⟩
    have s15:=same_new ht9 (.tup [.int 0,.str "plain"])
    refine ⟨p9,_,_,rfl,rfl,s15 _ _ er14,by rw [l9]; exact small1000 (by omega),?_⟩
    obtain ⟨sX,IX⟩:=Items.put (o:=[.int 0,.str "plain"]) fr9 s014 er14 Ir14 ht9
    have t14:TS H14 (upd (upd H14 t9 (.tup [.int 0,.str "plain"])) p9 (.lst (psr.map V.ref ++ [.ref t9]))):=(same_ts s15).trans (ts_upd (s15 _ _ er14))
    have eX:(upd (upd H14 t9 (.tup [.int 0,.str "plain"])) p9 (.lst (psr.map V.ref ++ [.ref t9]))) p9=some (.lst ((psr ++ [t9]).map V.ref)):=by rw [upd_same,List.map_append]; rfl
    have e14X:(upd (upd H14 t9 (.tup [.int 0,.str "plain"])) p9 (.lst (psr.map V.ref ++ [.ref t9]))) p14=some (.lst (qsr.map V.ref)):=by rw [upd_ne npp.symm]; exact s15 _ _ e14
    have IaX:Items (upd (upd H14 t9 (.tup [.int 0,.str "plain"])) p9 (.lst (psr.map V.ref ++ [.ref t9]))) qsr ((haA0 one other).map aV):=⟨IaA.1,fun i p o a b => t14 _ _ (IaA.2 i p o a b)⟩
    generalize upd (upd H14 t9 (.tup [.int 0,.str "plain"])) p9 (.lst (psr.map V.ref ++ [.ref t9]))=H16 at sX IX eX e14X IaX ⊢
    refine ⟨_,rfl,.inl ⟨rfl,_,SqL.of e14X⟩,1,rfl,_,rfl,_,rfl,_,_,rfl,rfl,(by show 5≤sizeLine; decide),fun t10 ht10 => ?_⟩
    have s17:=same_new ht10 (.tup [.int 1,.int 2,.int (-1),.int ((4:Int) + (one:Int) + (other:Int)),.int 99])
    refine ⟨p14,_,_,rfl,rfl,s17 _ _ e14X,by rw [m3]; exact small1000 (by omega),?_⟩
    obtain ⟨sY,eY,IY⟩:=Items.add [.int 1,.int 2,.int (-1),.int ((4:Int) + (one:Int) + (other:Int)),.int 99] ((1,2,-1,(4:Int) + (one:Int) + (other:Int),99):Arrow) rfl fr14 sX e14X IaX ht10
    have t16:TS H16 (upd (upd H16 t10 (.tup [.int 1,.int 2,.int (-1),.int ((4:Int) + (one:Int) + (other:Int)),.int 99])) p14 (.lst (qsr.map V.ref ++ [.ref t10]))):=(same_ts s17).trans (ts_upd (s17 _ _ e14X))
    have eX':(upd (upd H16 t10 (.tup [.int 1,.int 2,.int (-1),.int ((4:Int) + (one:Int) + (other:Int)),.int 99])) p14 (.lst (qsr.map V.ref ++ [.ref t10]))) p9=some (.lst ((psr ++ [t9]).map V.ref)):=by rw [upd_ne npp]; exact s17 _ _ eX
    refine ⟨_,rfl,_,rfl,(by show 2≤sizeLine; decide),fun t ht => ?_⟩
    refine fin (psr ++ [t9]) (qsr ++ [t10]) _ sY eX' ?_ eY ?_ t ht
    · unfold haR
      rw [if_pos rfl,List.map_append]
      exact ⟨IX.1,fun i p o a b => t16 _ _ (IX.2 i p o a b)⟩
    · unfold haA
      rw [if_pos rfl]
      exact IY
end
end Toy
namespace Toy
open PySem L2
seal PySem.wpAny
section
variable {P:Program} {w:World} {K:PySem.W.Frag} {mg:Str→Option Value} {base:Heap}
def PlAt (H:Hp) (v:V) (p:List Int):Prop:=(p=[]∧v = .non)∨∃ (t:Addr) (i j:Int),p=[i,j]∧v = .ref t∧H t=some (.tup [.int i,.int j])
theorem PlAt.ts {H H':Hp} {v:V} {p:List Int} (s:TS H H') (h:PlAt H v p):PlAt H' v p:=by
  rcases h with h | ⟨t,i,j,a,b,c⟩
  · exact .inl h
  · exact .inr ⟨t,i,j,a,b,s _ _ c⟩
theorem dec_int {i j:Int}:decide (V.int i=V.int j)=decide (i=j):=by
  by_cases z:i=j
  · subst z; simp
  · rw [decide_eq_false z,decide_eq_false fun y => z (by injection y)]
def gonP (one other:Nat) (x:Bool) (p:List Int) (e:Int):List Int:=match p with
  | [i,j] => if e=0 then [(i + 1) % (one:Int),j] else if e=1 then [i,(j + 1) % (other:Int)] else if e=2 then (if x=true then [] else p) else p
  | _ => p
def gonD (x:Bool) (p:List Int) (e:Int):List Int:=match p with
  | [i,j] => if e=0 then [i] else if e=1 then [50 + j] else if e=2 then (if x=true then [99] else []) else []
  | _ => []
def spGon:Sp:=fun vs H Q _ => ∃ (v:V) (p:List Int) (e one other:Nat) (x:Bool),vs=[v,.int e,.int one,.int other,.bl x]∧PlAt H v p∧e < 4∧0 < one∧0 < other∧∀ (t d:Addr) (v':V) (H':Hp),Same H H'→H' t=some (.tup [v',.ref d])→PlAt H' v' (gonP one other x p (e:Int))→H' d=some (.tup ((gonD x p (e:Int)).map V.int))→Q (.ref t) H'
theorem scGon:FnScope ["place", "event", "one", "other", "extra"] ["place", "event", "one", "other", "extra"] (defScope sGon):=⟨rfl,rfl,rfl,by decide +kernel,rfl,by decide +kernel,by decide +kernel⟩
theorem ok_gon {f C:Addr} {fd:FuncData} (D:DefAt K mg "_law_gone_on" sGon ["place", "event", "one", "other", "extra"] f fd) (T:Txt K mg C):FnOk P w K mg base CX0 1 f fd ["place", "event", "one", "other", "extra"] spGon:=by
  refine D.fn.ok scGon (fun vs H Q E h => ?_) (fun cdv A outer s H vs Q E hr h => ?_)
  · obtain ⟨v,p,e,one,other,x,rfl,_⟩:=h
    rfl
  obtain ⟨v,p,e,one,other,x,rfl,hP,he,h1,h2,q⟩:=h
  refine ⟨_,pss_cons (ps_if (PW.pt (pw_or (pt_cmpR op_isN (pv 0) pe_non (nomark _)) (pw_or (pt_cmpR op_eq (pv 1) pe_int (nomark _)) (pw_or1 (PW.pt (pw_and (pt_cmpR op_eq (pv 1) pe_int (nomark _)) (pw_and1 (pt_not (pt_val (pv 4)))))))))) (pss_one (ps_ret (pe_tup (pa_cons (pv 0) (pa_cons (pe_tup pa_nil) pa_nil))))) pss_nil)
      (pss_cons (ps_if (pt_cmpR op_eq (pv 1) pe_int (nomark _)) (pss_one (ps_ret (pe_tup (pa_cons (pe_tup (pa_cons (pe_op op_mod (pe_op op_add (pe_ix ix_tup (pv 0) pe_int (fun _ _ => rfl)) pe_int) (pv 2)) (pa_cons (pe_ix ix_tup (pv 0) pe_int (fun _ _ => rfl)) pa_nil))) (pa_cons (pe_tup (pa_cons (pe_ix ix_tup (pv 0) pe_int (fun _ _ => rfl)) pa_nil)) pa_nil))))) pss_nil)
      (pss_cons (ps_if (pt_cmpR op_eq (pv 1) pe_int (nomark _)) (pss_one (ps_ret (pe_tup (pa_cons (pe_tup (pa_cons (pe_ix ix_tup (pv 0) pe_int (fun _ _ => rfl)) (pa_cons (pe_op op_mod (pe_op op_add (pe_ix ix_tup (pv 0) pe_int (fun _ _ => rfl)) pe_int) (pv 3)) pa_nil))) (pa_cons (pe_tup (pa_cons (pe_op op_add pe_int (pe_ix ix_tup (pv 0) pe_int (fun _ _ => rfl))) pa_nil)) pa_nil))))) pss_nil)
      (pss_one (ps_ret (pe_tup (pa_cons pe_non (pa_cons (pe_tup (pa_cons pe_int pa_nil)) pa_nil))))))),?_⟩
  have stay:gonP one other x p (e:Int)=p→gonD x p (e:Int)=[]→∀ t0,H t0=Option.none→∀ t,(upd H t0 (.tup [])) t=Option.none→Q (.ref t) (upd (upd H t0 (.tup [])) t (.tup [v,.ref t0])):=fun g1 g2 t0 h0 t ht => by
    have sA:=same_new h0 (.tup [])
    have sB:=same_new ht (.tup [v,.ref t0])
    exact q t t0 v _ (sA.trans sB) upd_same (by rw [g1]; exact hP.ts (same_ts (sA.trans sB))) (by rw [g2]; exact sB _ _ upd_same)
  have two:(2:Nat)≤sizeLine:=by decide
  have one':(1:Nat)≤sizeLine:=by decide
  have zero':(0:Nat)≤sizeLine:=by decide
  rcases id hP with ⟨rfl,rfl⟩ | ⟨t,i,j,rfl,rfl,ht⟩
  · refine ⟨_,rfl,rfl,_,rfl,?_⟩
    refine iteT ?_
    refine iteT ?_
    exact ⟨_,rfl,zero',fun t0 h0 => ⟨two,fun t ht => stay rfl rfl t0 h0 t ht⟩⟩
  · refine ⟨_,rfl,rfl,_,rfl,?_⟩
    refine iteF ?_
    refine ⟨_,rfl,rfl,_,rfl,?_⟩
    rw [dec_int]
    match e,he with
    | 0,_ =>
      refine iteF ?_
      refine ⟨_,rfl,rfl,_,rfl,?_⟩
      refine iteF ?_
      refine iteF ?_
      refine ⟨_,rfl,rfl,_,rfl,?_⟩
      refine iteT ?_
      refine ⟨_,rfl,t,_,_,_,rfl,rfl,SqT.of ht,rfl,_,_,rfl,rfl,_,rfl,_,_,rfl,rfl,(by show (0:Int) < (one:Int); omega),_,rfl,t,_,_,_,rfl,rfl,SqT.of ht,rfl,two,fun t1 ht1 => ?_⟩
      have sA:=same_new ht1 (.tup [.int ((i + 1) % (one:Int)),.int j])
      refine ⟨_,rfl,t,_,_,_,rfl,rfl,SqT.of (sA _ _ ht),rfl,one',fun t2 ht2 => ⟨two,fun t3 ht3 => ?_⟩⟩
      have sB:=same_new ht2 (.tup [.int i])
      have sC:=same_new ht3 (.tup [.ref t1,.ref t2])
      exact q t3 t2 (.ref t1) _ (sA.trans (sB.trans sC)) upd_same (.inr ⟨t1,_,_,rfl,rfl,(sB.trans sC) _ _ upd_same⟩) (sC _ _ upd_same)
    | 1,_ =>
      refine iteF ?_
      refine ⟨_,rfl,rfl,_,rfl,?_⟩
      refine iteF ?_
      refine iteF ?_
      refine ⟨_,rfl,rfl,_,rfl,?_⟩
      refine iteF ?_
      refine ⟨_,rfl,rfl,_,rfl,?_⟩
      refine iteT ?_
      refine ⟨_,rfl,t,_,_,_,rfl,rfl,SqT.of ht,rfl,_,rfl,t,_,_,_,rfl,rfl,SqT.of ht,rfl,_,_,rfl,rfl,_,rfl,_,_,rfl,rfl,(by show (0:Int) < (other:Int); omega),two,fun t1 ht1 => ?_⟩
      have sA:=same_new ht1 (.tup [.int i,.int ((j + 1) % (other:Int))])
      refine ⟨_,rfl,t,_,_,_,rfl,rfl,SqT.of (sA _ _ ht),rfl,_,_,rfl,rfl,one',fun t2 ht2 => ⟨two,fun t3 ht3 => ?_⟩⟩
      have sB:=same_new ht2 (.tup [.int (50 + j)])
      have sC:=same_new ht3 (.tup [.ref t1,.ref t2])
      exact q t3 t2 (.ref t1) _ (sA.trans (sB.trans sC)) upd_same (.inr ⟨t1,_,_,rfl,rfl,(sB.trans sC) _ _ upd_same⟩) (sC _ _ upd_same)
    | 2,_ =>
      refine iteF ?_
      refine ⟨_,rfl,rfl,_,rfl,?_⟩
      refine iteT ?_
      refine ⟨_,rfl,_,rfl,?_⟩
      cases x with
      | false =>
        refine iteT ?_
        exact ⟨_,rfl,zero',fun t0 h0 => ⟨two,fun t ht => stay rfl rfl t0 h0 t ht⟩⟩
      | true =>
        refine iteF ?_
        refine ⟨_,rfl,rfl,_,rfl,?_⟩
        refine iteF ?_
        refine ⟨_,rfl,rfl,_,rfl,?_⟩
        refine iteF ?_
        refine ⟨one',fun t2 ht2 => ⟨two,fun t3 ht3 => ?_⟩⟩
        have sB:=same_new ht2 (.tup [.int 99])
        have sC:=same_new ht3 (.tup [.non,.ref t2])
        exact q t3 t2 .non _ (sB.trans sC) upd_same (.inl ⟨rfl,rfl⟩) (sC _ _ upd_same)
    | 3,_ =>
      refine iteT ?_
      refine iteT ?_
      exact ⟨_,rfl,zero',fun t0 h0 => ⟨two,fun t ht => stay rfl rfl t0 h0 t ht⟩⟩
end
end Toy
namespace Toy
open PySem L2
seal PySem.wpAny
section
variable {P:Program} {w:World} {K:PySem.W.Frag} {mg:Str→Option Value} {base:Heap}
theorem gevs_cons {W:Wk} {c w:List Int} {S:FS} {k:Nat} (hk:k < 4):gevs W c w (([0,1,2,3]:List Int).drop k) S=match gstep W c w S (k:Int) with
    | .error x => .error x
    | .ok S' => gevs W c w (([0,1,2,3]:List Int).drop (k + 1)) S':=by
  match k,hk with
  | 0,_ => rfl
  | 1,_ => rfl
  | 2,_ => rfl
  | 3,_ => rfl
def gcont (W:Wk) (f n:Nat):Except Refu FS→Except Refu FS
  | .error x => .error x
  | .ok S' => gfold W f (n + 1) ⟨S'.cs,S'.ws,S'.rows ++ [S'.row],[]⟩
theorem gfold_go {W:Wk} {f n:Nat} {S:FS} (h:n < S.cs.length):gfold W (f + 1) n S=gcont W f n (grow W n S):=by
  unfold gfold
  rw [if_pos h]
  cases grow W n S <;> rfl
theorem gfold_end {W:Wk} {f n:Nat} {S:FS} (h:¬ n < S.cs.length):gfold W f n S = .ok S:=by
  cases f with
  | zero => rfl
  | succ f => unfold gfold; rw [if_neg h]
def plD:List Int→PyData
  | [i,j] => .tuple [.int i,.int j]
  | _ => .none
def PlOk (p:List Int):Prop:=p=[]∨∃ i j,p=[i,j]
theorem PlAt.ok {H:Hp} {v:V} {p:List Int} (h:PlAt H v p):PlOk p:=by
  rcases h with ⟨h,_⟩ | ⟨t,i,j,a,_⟩
  · exact .inl h
  · exact .inr ⟨i,j,a⟩
theorem pl_rd {K:PySem.W.Frag} {H:Hp} {v:V} {p:List Int} (h:PlAt H v p):RdV K H v (plD p):=by
  rcases h with ⟨rfl,rfl⟩ | ⟨t,i,j,rfl,rfl,c⟩
  · exact .non
  · exact .tup (SqT.of c) (.cons (.int _) (.cons (.int _) .nil))
theorem zpl_rd {K:PySem.W.Frag} {H:Hp}:∀ {vs:List V} {cs:List (List Int)},Z (PlAt H) vs cs→RdVs K H vs (cs.map plD)
  | [],[],_ => .nil
  | [],_ :: _,h => by have:=h.1; simp at this
  | _ :: _,[],h => by have:=h.1; simp at this
  | v :: vs,c :: cs,h => .cons (pl_rd h.uncons.1) (zpl_rd h.uncons.2)
theorem pl_eqv {p q:List Int} (hp:PlOk p) (hq:PlOk q):(plD p).eqv (plD q)=decide (p=q):=by
  rcases hp with rfl | ⟨i,j,rfl⟩ <;> rcases hq with rfl | ⟨k,l,rfl⟩
  · rfl
  · rfl
  · rfl
  · show PyData.eqv (.tuple [.int i,.int j]) (.tuple [.int k,.int l])=_
    have:=eqv_intsF [i,j] [k,l]
    simp only [PyData.eqv]
    exact this
theorem pl_shape (p:List Int):shape 1 (plD p):=by
  unfold plD
  split
  · exact shape_tuple (shape_ints [_,_])
  · exact ⟨rfl,by simp [PyData.depth],rfl⟩
structure PFold (H:Hp) (pl wl:Addr) (vs:List V) (qs:List Addr) (S:FS):Prop where
  ep:H pl=some (.lst vs)
  pt:Z (PlAt H) vs S.cs
  ew:H wl=some (.lst (qs.map V.ref))
  wt:Z (WayAt H) qs S.ws
  n1:pl≠wl
  wl:S.ws.length=S.cs.length
theorem PFold.same {H H':Hp} {pl wl:Addr} {vs:List V} {qs:List Addr} {S:FS} (h:PFold H pl wl vs qs S) (s:Same H H'):PFold H' pl wl vs qs S:=⟨s _ _ h.ep,h.pt.mono fun _ _ z => z.ts (same_ts s),s _ _ h.ew,h.wt.mono fun _ _ z => s _ _ z,h.n1,h.wl⟩
theorem PFold.push {H H':Hp} {pl wl:Addr} {vs:List V} {qs:List Addr} {S:FS} (h:PFold H pl wl vs qs S) {v:V} {q:Addr} {c w:List Int} {rs:List (List Ent)} {r:List Ent} (hp:PlAt H v c) (s:Same (upd H pl (.lst (vs ++ [v]))) H') (hq:WayAt H' q w) :
    PFold (upd H' wl (.lst (qs.map V.ref ++ [.ref q]))) pl wl (vs ++ [v]) (qs ++ [q]) ⟨S.cs ++ [c],S.ws ++ [w],rs,r⟩:=by
  have t1:TS H (upd H pl (.lst (vs ++ [v]))):=ts_upd h.ep
  have ew:H' wl=some (.lst (qs.map V.ref)):=s _ _ (by rw [upd_ne h.n1.symm]; exact h.ew)
  have t2:=(t1.trans (same_ts s)).trans (ts_upd (o:=.lst (qs.map V.ref ++ [.ref q])) ew)
  refine ⟨?_,?_,?_,?_,h.n1,?_⟩
  · rw [upd_ne h.n1]; exact s _ _ upd_same
  · exact Z.snoc (h.pt.mono fun _ _ z => z.ts t2) (hp.ts t2)
  · rw [upd_same,List.map_append]; rfl
  · exact Z.snoc (h.wt.mono fun _ _ z => t2 _ _ z) (ts_upd ew _ _ hq)
  · show (S.ws ++ [_]).length=(S.cs ++ [_]).length
    rw [List.length_append,List.length_append,h.wl]; rfl
def wkH (one other:Nat) (x:Bool) (m:Nat):Wk:=⟨gonP one other x,gonD x,fun _ _ => Option.none,m⟩
def pS0:FS:=⟨[[0,0]],[[]],[],[]⟩
def WalkQ (Q:VK) (H:Hp):Except Refu FS→Prop
  | .error _ => False
  | .ok S => ∀ (t pl rl wl:Addr) (vs:List V) (rs qs:List Addr) (H':Hp),Same H H'→H' t=some (.tup [.ref pl,.ref rl,.ref wl])→PFold H' pl wl vs qs S→H' rl=some (.lst (rs.map V.ref))→RowsAt H' rs S.rows→S.rows.length=S.cs.length→Q (.ref t) H'
def spWalk:Sp:=fun vs H Q _ => ∃ (one other:Nat) (x:Bool),vs=[.int one,.int other,.bl x]∧0 < one∧0 < other∧WalkQ Q H (gfold (wkH one other x 100) 101 0 pS0)
theorem scWalk:FnScope ["one", "other", "extra", "places", "ways", "rows", "here", "row", "event", "behind"] ["one", "other", "extra"] (defScope sWalk):=⟨rfl,rfl,rfl,by decide +kernel,rfl,by decide +kernel,by decide +kernel⟩
theorem way_cat {K:PySem.W.Frag} {HA:Hp} {pw t1:Addr} {wn:List Int} {k:Int} {R0:V→Hp→Prop} (hl:wn.length≤100) (hA2:HA pw=some (.tup (wn.map V.int))) (hR:∀ (q1:Addr) (HC:Hp),Same HA HC→HC q1=some (.tup ((wn ++ [k]).map V.int))→R0 (.ref q1) HC) (ht1:HA t1=Option.none) :
    rCatA K (.ref pw) (.ref t1) (upd HA t1 (.tup [.int k])) R0:=by
  have sB:=same_new ht1 (.tup [.int k])
  have et1:(upd HA t1 (.tup [.int k])) t1=some (.tup [.int k]):=upd_same
  have hW:=sB _ _ hA2
  generalize upd HA t1 (.tup [.int k])=HB at sB et1 hW ⊢
  refine ⟨pw,t1,_,_,rfl,rfl,SqT.of hW,SqT.of et1,(fun z => by cases z),?_,fun hz => ?_,fun hz q1 hq1 => ?_⟩
  · rw [List.length_map]; exact small (by show _ + 1≤1000; omega)
  · have hw0:wn=[]:=List.map_eq_nil_iff.mp hz
    exact hR t1 HB sB (by rw [et1,hw0]; rfl)
  · exact hR q1 _ (sB.trans (same_new hq1 _)) (by rw [upd_same,List.map_append]; rfl)
theorem PFold.other {H:Hp} {pl wl:Addr} {vs:List V} {qs:List Addr} {S:FS} (h:PFold H pl wl vs qs S) {l:Addr} {xs:List V} {o:HO} (hl:H l=some (.lst xs)) (a1:l≠pl) (a2:l≠wl):PFold (upd H l o) pl wl vs qs S:=by
  have t:TS H (upd H l o):=ts_upd hl
  exact ⟨by rw [upd_ne a1.symm]; exact h.ep,h.pt.mono fun _ _ z => z.ts t,by rw [upd_ne a2.symm]; exact h.ew,h.wt.mono fun _ _ z => t _ _ z,h.n1,h.wl⟩
theorem ok_walk {f C fb:Addr} {fd fdb:FuncData} (D:DefAt K mg "_law_walk" sWalk ["one", "other", "extra"] f fd) (T:Txt K mg C) (Db:DefAt K mg "_law_gone_on" sGon ["place", "event", "one", "other", "extra"] fb fdb):FnOk P w K mg base CX0 2 f fd ["one", "other", "extra"] spWalk:=by
  have Gb:FnOk P w K mg base CX0 1 fb fdb ["place", "event", "one", "other", "extra"] spGon:=ok_gon Db T
  refine D.fn.ok scWalk (fun vs H Q E h => ?_) (fun cdv A outer s H vs Q E hr h => ?_)
  · obtain ⟨one,other,x,rfl,_⟩:=h
    rfl
  obtain ⟨one,other,x,rfl,o1,o2,q⟩:=h
  obtain ⟨t9,p9,r9⟩ : ∃ t,PSs (cxOf CX0 P w K mg base ["one", "other", "extra", "places", "ways", "rows", "here", "row", "event", "behind"] "_law_walk" (defScope sWalk) f cdv A outer s H E).nox
        (match (defBody sWalk).getD 3 (.Pass ⟨0,0,0,0⟩) with | .While _ wb _ _ => (match wb.getD 2 (.Pass ⟨0,0,0,0⟩) with | .For _ _ b _ _ => b.drop 2 | _ => []) | _ => []) t ∧
      ∀ (D':Ends) (pl wl rl rw' tb dd:Addr) (n:Nat) (v':V) (v8:Option V) (S:FS) (nx dE:List Int) (vs vr:List V) (qs:List Addr) (row:List Ent) (HA:Hp),H rw'=Option.none→Same H HA→PFold HA pl wl vs qs S→S.cs.length≤100→rw'≠pl→rw'≠wl→HA tb=some (.tup [v',.ref dd])→PlAt HA v' nx→HA dd=some (.tup (dE.map V.int))→nx∈S.cs→HA rw'=some (.lst vr)→Z (EntAt HA) vr row→row.length≤100 →
        (∀ (H':Hp) vr',Same H H'→PFold H' pl wl vs qs S→H' rw'=some (.lst vr')→Z (EntAt H') vr' (row ++ [(((S.cs.idxOf nx:Nat):Int),dE)])→(∀ y o,HA y=some o→y≠rw'→H' y=some o)→D'.nx [some (.int one),some (.int other),some (.bl x),some (.ref pl),some (.ref wl),some (.ref rl),some (.int n),some (.ref rw'),v8,some (.ref tb)] H') →
        t D' [some (.int one),some (.int other),some (.bl x),some (.ref pl),some (.ref wl),some (.ref rl),some (.int n),some (.ref rw'),v8,some (.ref tb)] HA:=by
    refine ⟨_,pss_one (ps_expr (pe_bm PySem.F.plainAttrs_list PySem.F.slot_list_append PySem.F.type_list_append mt_append (pv 7) (pa_cons (pe_tup (pa_cons (pe_bm PySem.F.plainAttrs_list PySem.F.slot_list_index PySem.F.type_list_index (mt_indexD hr.units) (pv 3) (pa_cons (pe_ix ix_tup (pv 9) pe_int (fun _ _ => rfl)) pa_nil)) (pa_cons (pe_ix ix_tup (pv 9) pe_int (fun _ _ => rfl)) pa_nil))) pa_nil))),?_⟩
    intro D' pl wl rl rw' tb dd n v' v8 S nx dE vs vr qs row HA frw s0 hF h100 nw1 nw2 htb hPv hdd hin hrw hZ hrl k
    have ls:vs.length=S.cs.length:=hF.pt.1
    have hqv:∀ x∈S.cs,(plD x).eqv (plD nx)=decide (x=nx):=fun x hx => by
      obtain ⟨i,hi⟩:=mem_at hx
      obtain ⟨y,_,hy⟩:=hF.pt.at hi
      exact pl_eqv hy.ok hPv.ok
    have hsh:∀ e∈S.cs.map plD,SeqAt.shaped e=true:=fun e he => by
      obtain ⟨x,_,rfl⟩:=List.mem_map.mp he
      exact shaped_of (pl_shape x) (by decide)
    have hsx:SeqAt.shaped (plD nx)=true:=shaped_of (pl_shape nx) (by decide)
    have hdx:(plD nx).depth≤62:=Nat.le_trans (pl_shape nx).2.1 (by decide)
    obtain ⟨hj,hy,hno⟩:=idxD hqv hin
    refine ⟨_,rfl,.inl ⟨rfl,_,SqL.of hrw⟩,_,rfl,.inl ⟨rfl,_,SqL.of hF.ep⟩,_,rfl,tb,_,_,_,rfl,rfl,SqT.of htb,rfl,pl,v',_,_,_,S.cs.idxOf nx,hj,rfl,rfl,SqL.of hF.ep,zpl_rd hF.pt,pl_rd hPv,hsh,hsx,hdx,(by rw [List.length_map]; omega),hy,hno,_,rfl,tb,_,_,_,rfl,rfl,SqT.of htb,rfl,(by show 2≤sizeLine; decide),fun tp htp => ?_⟩
    have s10:=same_new htp (.tup [.int ((S.cs.idxOf nx:Nat):Int),.ref dd])
    have etp:(upd HA tp (.tup [.int ((S.cs.idxOf nx:Nat):Int),.ref dd])) tp=some (.tup [.int ((S.cs.idxOf nx:Nat):Int),.ref dd]):=upd_same
    generalize upd HA tp (.tup [.int ((S.cs.idxOf nx:Nat):Int),.ref dd])=H10 at s10 etp ⊢
    have erw10:=s10 _ _ hrw
    refine ⟨rw',_,_,rfl,rfl,erw10,by rw [hZ.1]; exact small1000 (by omega),?_⟩
    have t10:TS H10 (upd H10 rw' (.lst (vr ++ [.ref tp]))):=ts_upd erw10
    have tA:=(same_ts s10).trans t10
    exact k _ (vr ++ [.ref tp]) (sameUpd (s0.trans s10) frw _) ((hF.same s10).other erw10 nw1 nw2) upd_same (Z.snoc (hZ.mono fun _ _ z => EntAt.ts tA z) ⟨tp,.ref dd,rfl,t10 _ _ etp,dd,rfl,tA _ _ hdd⟩) fun y o e n => by rw [upd_ne n]; exact s10 _ _ e
  refine ⟨_,pss_cons (ps_set (i := 3) scWalk.nd rfl (Or.inl rfl) (pe_lst (pa_cons (pe_tup (pa_cons pe_int (pa_cons pe_int pa_nil))) pa_nil)))
      (pss_cons (ps_set (i := 4) scWalk.nd rfl (Or.inl rfl) (pe_lst (pa_cons (pe_tup pa_nil) pa_nil)))
      (pss_cons (ps_set (i := 5) scWalk.nd rfl (Or.inl rfl) (pe_lst pa_nil))
      (pss_cons (ps_while PassesOwn.never (pt_cmpR op_lt (pe_callB call_len_seq (by rfl) T.len PySem.boot_len (pa_cons (pv 5) pa_nil)) (pe_callB call_len_seq (by rfl) T.len PySem.boot_len (pa_cons (pv 3) pa_nil)) (nomark _)) (pss_cons (ps_set (i := 6) scWalk.nd rfl (Or.inl rfl) (pe_callB call_len_seq (by rfl) T.len PySem.boot_len (pa_cons (pv 5) pa_nil)))
      (pss_cons (ps_set (i := 7) scWalk.nd rfl (Or.inl rfl) (pe_lst pa_nil))
      (pss_cons (ps_for PassesOwn.never rfl (pi_range1 rfl T.range (pa_cons pe_int pa_nil)) (pg_name (i := 8) scWalk.nd rfl (Or.inl rfl)) (pss_cons (ps_set (i := 9) scWalk.nd rfl (Or.inl rfl) (pe_call Gb hr rfl Db.mg Db.fn.kp Db.bd .nil pass0 (pa_cons (pe_ix ix_list (pv 3) (pv 6) (fun _ _ => rfl)) (pa_cons (pv 8) (pa_cons (pv 0) (pa_cons (pv 1) (pa_cons (pv 2) pa_nil)))))))
      (pss_cons (ps_if (pt_cmpR (op_notInD hr.units) (pe_ix ix_tup (pv 9) pe_int (fun _ _ => rfl)) (pv 3) (by with_unfolding_all rfl)) (pss_cons (ps_expr (pe_bm PySem.F.plainAttrs_list PySem.F.slot_list_append PySem.F.type_list_append mt_append (pv 3) (pa_cons (pe_ix ix_tup (pv 9) pe_int (fun _ _ => rfl)) pa_nil)))
      (pss_one (ps_expr (pe_bm PySem.F.plainAttrs_list PySem.F.slot_list_append PySem.F.type_list_append mt_append (pv 4) (pa_cons (pe_op op_catA (pe_ix ix_list (pv 4) (pv 6) (fun _ _ => rfl)) (pe_tup (pa_cons (pv 8) pa_nil))) pa_nil))))) pss_nil)
      p9)))
      (pss_one (ps_expr (pe_bm PySem.F.plainAttrs_list PySem.F.slot_list_append PySem.F.type_list_append mt_append (pv 5) (pa_cons (pv 7) pa_nil))))))))
      (pss_one (ps_ret (pe_tup (pa_cons (pv 3) (pa_cons (pv 5) (pa_cons (pv 4) pa_nil))))))))),?_⟩
  generalize hres:gfold (wkH one other x 100) 101 0 pS0=res at q
  refine ⟨(by show 2≤sizeLine; decide),fun t0 ht0 => ?_⟩
  have s1:=same_new ht0 (.tup [.int 0,.int 0])
  have e1:(upd H t0 (.tup [.int 0,.int 0])) t0=some (.tup [.int 0,.int 0]):=upd_same
  generalize upd H t0 (.tup [.int 0,.int 0])=H1 at s1 e1 ⊢
  refine ⟨(by show 1≤sizeLine; decide),fun pl hpl => ?_⟩
  have s2:=same_new hpl (.lst [.ref t0])
  have e2:(upd H1 pl (.lst [.ref t0])) pl=some (.lst [.ref t0]):=upd_same
  have s02:=s1.trans s2
  have fpl:H pl=Option.none:=s1.free hpl
  have e12:=s2 _ _ e1
  generalize upd H1 pl (.lst [.ref t0])=H2 at s2 e2 s02 e12 ⊢
  refine ⟨(by show 0≤sizeLine; decide),fun w0 hw0 => ?_⟩
  have s3:=same_new hw0 (.tup [])
  have e3:(upd H2 w0 (.tup [])) w0=some (.tup []):=upd_same
  have s03:=s02.trans s3
  have e23:=s3 _ _ e2
  have e13:=s3 _ _ e12
  generalize upd H2 w0 (.tup [])=H3 at s3 e3 s03 e23 e13 ⊢
  refine ⟨(by show 1≤sizeLine; decide),fun wl hwl => ?_⟩
  have s4:=same_new hwl (.lst [.ref w0])
  have e4:(upd H3 wl (.lst [.ref w0])) wl=some (.lst [.ref w0]):=upd_same
  have s04:=s03.trans s4
  have fwl:H wl=Option.none:=s03.free hwl
  have npw:pl≠wl:=ne_of_none e23 hwl
  have hF0:PFold (upd H3 wl (.lst [.ref w0])) pl wl [.ref t0] [w0] pS0:=⟨s4 _ _ e23,Z.cons Z.nil (.inr ⟨t0,0,0,rfl,rfl,s4 _ _ e13⟩),e4,Z.cons Z.nil (s4 _ _ e3),npw,rfl⟩
  generalize upd H3 wl (.lst [.ref w0])=H4 at s4 e4 s04 hF0 ⊢
  refine ⟨(by show 0≤sizeLine; decide),fun rl hrl => ?_⟩
  have s5:=same_new hrl (.lst [])
  have e5:(upd H4 rl (.lst [])) rl=some (.lst []):=upd_same
  have s05:=s04.trans s5
  have frl:H rl=Option.none:=s04.free hrl
  have npr:pl≠rl:=ne_of_none hF0.ep hrl
  have nwr:wl≠rl:=ne_of_none hF0.ew hrl
  have hF5:=hF0.same s5
  generalize upd H4 rl (.lst [])=H5 at s5 e5 s05 hF5 ⊢
  refine ⟨fun m σ H' => ∃ (n:Nat) (S:FS) (v6 v7 v8 v9:Option V) (vs:List V) (qs rs:List Addr),σ = [some (.int one),some (.int other),some (.bl x),some (.ref pl),some (.ref wl),some (.ref rl),v6,v7,v8,v9]∧Same H H'∧PFold H' pl wl vs qs S∧H' rl=some (.lst (rs.map V.ref))∧RowsAt H' rs S.rows∧(∀ p∈rs,p≠pl∧p≠wl∧p≠rl)∧S.cs.length≤100∧(∀ (i:Nat) w,S.ws[i]? = some w→w.length≤i)∧S.rows.length=n∧n≤S.cs.length∧m=101 - n∧gfold (wkH one other x 100) (101 - n) n S=res,
    ⟨101,0,pS0,_,_,_,_,_,_,[],rfl,s05,hF5,e5,Z.nil,(fun p hp => by cases hp),by show 1≤100; decide,(fun i w h => by
      cases i with
      | zero => cases h; exact Nat.le_refl 0
      | succ i => cases h),rfl,Nat.zero_le _,rfl,hres⟩,?_⟩
  rintro m σ H6 ⟨n,S,v6,v7,v8,v9,vs,qs,rs,rfl,s06,hF,er6,hrt,hnr,h100,hwb,hn,hnl,rfl,hfo⟩
  have ls:vs.length=S.cs.length:=hF.pt.1
  have lr:(rs.map V.ref).length=n:=by rw [List.length_map,hrt.1,hn]
  refine ⟨_,rfl,rl,_,rfl,.inl (SqL.of er6),_,rfl,pl,_,rfl,.inl (SqL.of hF.ep),_,_,rfl,rfl,_,rfl,?_⟩
  by_cases hlt:n < S.cs.length
  · rw [decide_eq_true (show ((rs.map V.ref).length:Int) < (vs.length:Int) by rw [lr,ls]; omega)]
    refine iteT ?_
    refine ⟨fun σ' H' => ∃ (S:FS) (v6 v7 v8 v9:Option V) (vs:List V) (qs rs:List Addr),σ'=[some (.int one),some (.int other),some (.bl x),some (.ref pl),some (.ref wl),some (.ref rl),v6,v7,v8,v9]∧Same H H'∧PFold H' pl wl vs qs S∧H' rl=some (.lst (rs.map V.ref))∧RowsAt H' rs S.rows∧(∀ p∈rs,p≠pl∧p≠wl∧p≠rl)∧S.cs.length≤100∧(∀ (i:Nat) w,S.ws[i]? = some w→w.length≤i)∧S.rows.length=n + 1∧n + 1≤S.cs.length∧gfold (wkH one other x 100) (101 - (n + 1)) (n + 1) S=res,?_,?_⟩
    · rintro σ' H' ⟨S',a6,a7,a8,a9,vs',qs',rs',rfl,b1,b2,b3,b4,b5,b6,b7,b8,b9,b10⟩
      exact ⟨101 - (n + 1),by omega,n + 1,S',a6,a7,a8,a9,vs',qs',rs',rfl,b1,b2,b3,b4,b5,b6,b7,b8,b9,rfl,b10⟩
    have hgo:gcont (wkH one other x 100) (100 - n) n (grow (wkH one other x 100) n S)=res:=by rw [← hfo,show 101 - n=100 - n + 1 by omega,gfold_go hlt]
    obtain ⟨cn,hcn⟩ : ∃ cn,S.cs[n]? = some cn:=⟨_,List.getElem?_eq_getElem hlt⟩
    obtain ⟨wn,hwn⟩ : ∃ wn,S.ws[n]? = some wn:=⟨_,List.getElem?_eq_getElem (by rw [hF.wl]; exact hlt)⟩
    have hgr:grow (wkH one other x 100) n S=gevs (wkH one other x 100) cn wn ([0,1,2,3]:List Int) ⟨S.cs,S.ws,S.rows,[]⟩:=by
      unfold grow
      rw [List.getD_eq_getElem?_getD,hcn,List.getD_eq_getElem?_getD,hwn]; rfl
    rw [hgr] at hgo
    refine ⟨_,rfl,rl,_,rfl,.inl (SqL.of er6),?_⟩
    rw [lr]
    refine ⟨(by show 0≤sizeLine; decide),fun rw' hrw => ?_⟩
    have s7:=same_new hrw (.lst [])
    have e7:(upd H6 rw' (.lst [])) rw'=some (.lst []):=upd_same
    have nw1:rw'≠pl:=(ne_of_none hF.ep hrw).symm
    have nw2:rw'≠wl:=(ne_of_none hF.ew hrw).symm
    have nw3:rw'≠rl:=(ne_of_none er6 hrw).symm
    have nw4:∀ p∈rs,p≠rw':=fun p hp => by
      obtain ⟨i,hi⟩:=mem_at hp
      obtain ⟨ro,_,vr,h1,_⟩:=hrt.at1 hi
      exact ne_of_none h1 hrw
    have frw:H rw'=Option.none:=s06.free hrw
    have hF7:=hF.same s7
    have er7:=s7 _ _ er6
    have hrt7:=hrt.same s7
    have s07:=s06.trans s7
    generalize upd H6 rw' (.lst [])=H7 at s7 e7 hF7 er7 hrt7 s07 ⊢
    refine ⟨4,rfl,by decide,by decide,?_⟩
    refine for_range (fun k σ H8 => ∃ (S:FS) (v8 v9:Option V) (vs vr:List V) (qs:List Addr),σ = [some (.int one),some (.int other),some (.bl x),some (.ref pl),some (.ref wl),some (.ref rl),some (.int n),some (.ref rw'),v8,v9]∧Same H H8∧PFold H8 pl wl vs qs S∧H8 rl=some (.lst (rs.map V.ref))∧RowsAt H8 rs S.rows∧H8 rw'=some (.lst vr)∧Z (EntAt H8) vr S.row∧S.cs.length≤100∧(∀ (i:Nat) w,S.ws[i]? = some w→w.length≤i)∧S.rows.length=n∧S.row.length=k∧S.cs[n]? = some cn∧S.ws[n]? = some wn ∧
      gcont (wkH one other x 100) (100 - n) n (gevs (wkH one other x 100) cn wn (([0,1,2,3]:List Int).drop k) S)=res)
      ⟨⟨S.cs,S.ws,S.rows,[]⟩,_,_,vs,[],qs,rfl,s07,⟨hF7.ep,hF7.pt,hF7.ew,hF7.wt,hF7.n1,hF7.wl⟩,er7,hrt7,e7,Z.nil,h100,hwb,hn,rfl,hcn,hwn,hgo⟩ ?_ ?_
    · clear hgo hgr hfo hlt hnl h100 hwb hcn hwn ls hF s06 hF7 er7 hrt7 s07 e7 s7 hrt er6 hn lr
      rintro k σ H8 hk ⟨S,v8,v9,vs,vr,qs,rfl,(s08:Same _ _),hF,erl,hrt,erw,hvr,h100,hwb,hn,hrk,hcn,hwn,hco⟩
      have ek:(0:Int) + (k:Int)=(k:Int):=by omega
      rw [ek]
      have hk4:k < 4:=hk
      rw [gevs_cons hk4] at hco
      obtain ⟨v,hv,hPv⟩:=hF.pt.at hcn
      obtain ⟨pw,hpw,hPw⟩:=hF.wt.at hwn
      have hil:=(List.getElem?_eq_some_iff.mp hcn).1
      have hwln:=hwb n wn hwn
      refine ⟨_,rfl,_,rfl,pl,_,_,_,rfl,rfl,SqL.of hF.ep,atI_nat hv,_,rfl,_,rfl,_,rfl,_,rfl,v,cn,k,one,other,x,rfl,hPv,hk4,o1,o2,fun tb dd v' H1 s1 g1 g2 g3 => ?_⟩
      have hst:gstep (wkH one other x 100) cn wn S (k:Int)=gput (wkH one other x 100) cn wn S (k:Int):=rfl
      rw [hst] at hco
      unfold gput at hco
      have enx:((wkH one other x 100)).nx cn (k:Int)=gonP one other x cn (k:Int):=rfl
      have edd:((wkH one other x 100)).dd cn (k:Int)=gonD x cn (k:Int):=rfl
      have em:((wkH one other x 100)).m=100:=rfl
      rw [enx,edd,em] at hco
      generalize gonP one other x cn (k:Int)=nx at g2 hco
      generalize gonD x cn (k:Int)=dE at g3 hco
      have hF1:=hF.same s1
      have s01:=s08.trans s1
      have ls:vs.length=S.cs.length:=hF.pt.1
      have hqv:∀ x∈S.cs,(plD x).eqv (plD nx)=decide (x=nx):=fun x hx => by
        obtain ⟨i,hi⟩:=mem_at hx
        obtain ⟨y,_,hy⟩:=hF.pt.at hi
        exact pl_eqv hy.ok g2.ok
      have hsh:∀ e∈S.cs.map plD,SeqAt.shaped e=true:=fun e he => by
        obtain ⟨x,_,rfl⟩:=List.mem_map.mp he
        exact shaped_of (pl_shape x) (by decide)
      have hsx:SeqAt.shaped (plD nx)=true:=shaped_of (pl_shape nx) (by decide)
      have hdx:(plD nx).depth≤62:=Nat.le_trans (pl_shape nx).2.1 (by decide)
      refine ⟨_,rfl,tb,_,_,_,rfl,rfl,SqT.of g1,rfl,_,rfl,pl,_,_,_,rfl,SqL.of hF1.ep,zpl_rd hF1.pt,pl_rd g2,hsh,hsx,hdx,_,rfl,?_⟩
      rw [if_pos rfl]
      by_cases hin:nx∈S.cs
      · rw [show ((S.cs.map plD).any fun e => e.eqv (plD nx))=true from (anyD hqv).trans (by simpa using hin)]
        refine iteF ?_
        rw [if_pos hin] at hco
        refine r9 _ pl wl rl rw' tb dd n v' _ S nx dE vs vr qs S.row H1 frw s01 hF1 h100 nw1 nw2 g1 g2 g3 hin (s1 _ _ erw) (hvr.mono fun _ _ z => EntAt.ts (same_ts s1) z) (by omega) fun H' vr' sH hF' erw' hvr' kp => ?_
        refine ⟨⟨S.cs,S.ws,S.rows,S.row ++ [(((S.cs.idxOf nx:Nat):Int),dE)]⟩,_,_,vs,vr',qs,rfl,sH,⟨hF'.ep,hF'.pt,hF'.ew,hF'.wt,hF'.n1,hF'.wl⟩,kp _ _ (s1 _ _ erl) nw3.symm,?_,erw',hvr',h100,hwb,hn,?_,hcn,hwn,hco⟩
        · exact (hrt.same s1).keep (fun y o e n => kp _ _ e n) (lst_tup (s1 _ _ erw)) nw4
        · show (S.row ++ [_]).length=k + 1
          rw [List.length_append,hrk]; rfl
      · rw [show ((S.cs.map plD).any fun e => e.eqv (plD nx))=false from (anyD hqv).trans (by simpa using hin)]
        refine iteT ?_
        rw [if_neg hin] at hco
        have hm:¬ S.cs.length=100:=fun z => by
          rw [if_pos z] at hco
          have hco':res = .error .many:=hco.symm
          rw [hco'] at q
          exact q
        rw [if_neg hm] at hco
        refine ⟨_,rfl,.inl ⟨rfl,_,SqL.of hF1.ep⟩,_,rfl,tb,_,_,_,rfl,rfl,SqT.of g1,rfl,pl,_,_,rfl,rfl,hF1.ep,by rw [ls]; exact small1000 (by omega),?_⟩
        have tA:TS H1 (upd H1 pl (.lst (vs ++ [v']))):=ts_upd hF1.ep
        have ewA:(upd H1 pl (.lst (vs ++ [v']))) wl=some (.lst (qs.map V.ref)):=by rw [upd_ne hF1.n1.symm]; exact hF1.ew
        have sA:Same H (upd H1 pl (.lst (vs ++ [v']))):=sameUpd s01 fpl _
        have kA:∀ y o,H1 y=some o→y≠pl→(upd H1 pl (.lst (vs ++ [v']))) y=some o:=fun y o e n => by rw [upd_ne n]; exact e
        have hpwA:(upd H1 pl (.lst (vs ++ [v']))) pw=some (.tup (wn.map V.int)):=tA _ _ (s1 _ _ hPw)
        generalize hHA:upd H1 pl (.lst (vs ++ [v']))=H2 at tA ewA sA hpwA kA ⊢
        refine ⟨_,rfl,.inl ⟨rfl,_,SqL.of ewA⟩,_,rfl,_,rfl,wl,_,_,_,rfl,rfl,SqL.of ewA,atI_nat (by rw [List.getElem?_map,hpw]; rfl),_,rfl,(by show 1≤sizeLine; decide),fun t1 ht1 => ?_⟩
        refine way_cat (by omega) hpwA (fun q1 HC sC hq1 => ?_) ht1
        have hql:(qs.map V.ref).length=S.cs.length:=by rw [List.length_map,hF1.wt.1,hF1.wl]
        have ewC:=sC _ _ ewA
        refine ⟨wl,_,_,rfl,rfl,ewC,by rw [hql]; exact small1000 (by omega),?_⟩
        have hFP:=hF1.push (rs:=S.rows) (r:=S.row) g2 (by rw [hHA]; exact sC) hq1
        have sD:Same H (upd HC wl (.lst (qs.map V.ref ++ [.ref q1]))):=sameUpd (sA.trans sC) fwl _
        have tD:TS H1 (upd HC wl (.lst (qs.map V.ref ++ [.ref q1]))):=(tA.trans (same_ts sC)).trans (ts_upd ewC)
        have kD:∀ y o,H1 y=some o→y≠pl→y≠wl→(upd HC wl (.lst (qs.map V.ref ++ [.ref q1]))) y=some o:=fun y o e n1 n2 => by rw [upd_ne n2]; exact sC _ _ (kA _ _ e n1)
        generalize upd HC wl (.lst (qs.map V.ref ++ [.ref q1]))=HD at hFP sD tD kD ⊢
        have hix:(S.cs ++ [nx]).idxOf nx=S.cs.length:=by rw [List.idxOf_append,if_neg hin,List.idxOf_cons_self,Nat.zero_add]
        have l31:(S.cs ++ [nx]).length≤100:=by rw [List.length_append]; show S.cs.length + 1≤100; omega
        refine r9 _ pl wl rl rw' tb dd n v' _ ⟨S.cs ++ [nx],S.ws ++ [wn ++ [(k:Int)]],S.rows,S.row⟩ nx dE _ vr _ S.row HD frw sD hFP l31 nw1 nw2 (tD _ _ g1) (g2.ts tD) (tD _ _ g3) (List.mem_append_right _ (List.mem_singleton.mpr rfl)) (kD _ _ (s1 _ _ erw) nw1 nw2) (hvr.mono fun _ _ z => EntAt.ts ((same_ts s1).trans tD) z) (by omega) fun H' vr' sH hF' erw' hvr' kp => ?_
        have hvr2:Z (EntAt H') vr' (S.row ++ [(((S.cs.length:Nat):Int),dE)]):=by
          have e:(((S.cs ++ [nx]).idxOf nx:Nat):Int)=((S.cs.length:Nat):Int):=by rw [hix]
          rw [← e]; exact hvr'
        refine ⟨⟨S.cs ++ [nx],S.ws ++ [wn ++ [(k:Int)]],S.rows,S.row ++ [(((S.cs.length:Nat):Int),dE)]⟩,_,_,_,vr',_,rfl,sH,⟨hF'.ep,hF'.pt,hF'.ew,hF'.wt,hF'.n1,hF'.wl⟩,kp _ _ (kD _ _ (s1 _ _ erl) npr.symm nwr.symm) nw3.symm,?_,erw',hvr2,l31,(fun i w' hw' => ?_),hn,?_,get_app hcn,get_app hwn,hco⟩
        · refine RowsAt.keep (l:=rw') (fun y o e n => kp _ _ e n) (lst_tup (kD _ _ (s1 _ _ erw) nw1 nw2)) nw4 ((hrt.same s1).monoM fun p ro hp z => ?_)
          obtain ⟨vs',h1,h2⟩:=z
          exact ⟨vs',kD _ _ h1 (hnr p hp).1 (hnr p hp).2.1,h2.mono fun _ _ y => EntAt.ts tD y⟩
        · rcases get_snoc hw' with z | ⟨z,rfl⟩
          · exact hwb i w' z
          · rw [List.length_append]
            have:=hF1.wl
            show wn.length + 1≤i
            omega
        · show (S.row ++ [_]).length=k + 1
          rw [List.length_append,hrk]; rfl
    · rintro σ H8 ⟨S,v8,v9,vs,vr,qs,rfl,(s08:Same _ _),hF,erl,hrt,erw,hvr,h100,hwb,hn,hrk,hcn,hwn,hco⟩
      have hil:=(List.getElem?_eq_some_iff.mp hcn).1
      have lr:(rs.map V.ref).length=n:=by rw [List.length_map,hrt.1,hn]
      refine ⟨_,rfl,.inl ⟨rfl,_,SqL.of erl⟩,_,rfl,rl,_,_,rfl,rfl,erl,by rw [lr]; exact small1000 (by omega),?_⟩
      have t:TS H8 (upd H8 rl (.lst (rs.map V.ref ++ [.ref rw']))):=ts_upd erl
      refine ⟨⟨S.cs,S.ws,S.rows ++ [S.row],[]⟩,_,_,_,_,vs,qs,rs ++ [rw'],rfl,sameUpd s08 frl _,?_,by rw [upd_same,List.map_append]; rfl,?_,?_,h100,hwb,?_,hil,?_⟩
      · have hO:=hF.other (o:=.lst (rs.map V.ref ++ [.ref rw'])) erl npr.symm nwr.symm
        exact ⟨hO.ep,hO.pt,hO.ew,hO.wt,hO.n1,hO.wl⟩
      · refine Z.snoc (hrt.keep (fun y o e n => by rw [upd_ne n]; exact e) (lst_tup erl) (fun p hp => (hnr p hp).2.2)) ⟨vr,?_,hvr.mono fun _ _ z => EntAt.ts t z⟩
        rw [upd_ne nw3]; exact erw
      · intro p hp
        rcases List.mem_append.mp hp with z | z
        · exact hnr p z
        · rw [List.mem_singleton.mp z]; exact ⟨nw1,nw2,nw3⟩
      · show (S.rows ++ [S.row]).length=n + 1
        rw [List.length_append,hn]; rfl
      · rw [show 101 - (n + 1)=100 - n by omega]
        exact hco
  · rw [decide_eq_false (show ¬ ((rs.map V.ref).length:Int) < (vs.length:Int) by rw [lr,ls]; omega)]
    refine iteF ?_
    rw [gfold_end hlt] at hfo
    rw [← hfo] at q
    refine ⟨_,rfl,_,rfl,_,rfl,(by show 3≤sizeLine; decide),fun t ht => ?_⟩
    have s9:=same_new ht (.tup [.ref pl,.ref rl,.ref wl])
    exact q t pl rl wl vs rs qs _ (s06.trans s9) upd_same (hF.same s9) (s9 _ _ er6) (hrt.same s9) (by omega)
end
end Toy
namespace Toy
open PySem L2
seal PySem.wpAny
section
variable {P:Program} {w:World} {K:PySem.W.Frag} {mg:Str→Option Value} {base:Heap}
def soK (one other:Nat) (p:List Int):List Int:=match p with
  | [i,j] => [0,1,2,3,4 + i,4 + (one:Int) + j]
  | _ => [0,4 + (one:Int) + (other:Int)]
def mem0H (one other:Nat) (x:Bool):List Int:=(List.range (4 + one + other + (if x=true then 1 else 0))).map fun _ => -1
def soM (one other:Nat) (k1 k2:Str) (x:Bool) (p:List Int):List Int:=match p with
  | [i,j] => (fun m => if k2 = "keep" then m.set 3 (4 + (one:Int) + j) else m) (if k1 = "keep" then (mem0H one other x).set 2 (4 + i) else mem0H one other x)
  | _ => mem0H one other x
def spStateOf:Sp:=fun vs H Q _ => ∃ (v:V) (p:List Int) (one other:Nat) (kl:Addr) (k1 k2:Str) (x:Bool),vs=[v,.int one,.int other,.ref kl,.bl x]∧PlAt H v p∧H kl=some (.lst [.str k1,.str k2])∧one≤6∧other≤6 ∧
  ∀ (t kt mt:Addr) (H':Hp),Same H H'→H' t=some (.tup [.ref kt,.ref mt])→H' kt=some (.tup ((soK one other p).map V.int))→H' mt=some (.tup ((soM one other k1 k2 x p).map V.int))→Q (.ref t) H'
theorem scStateOf:FnScope ["place", "one", "other", "kinds", "extra", "memory"] ["place", "one", "other", "kinds", "extra"] (defScope sStateOf):=⟨rfl,rfl,rfl,by decide +kernel,rfl,by decide +kernel,by decide +kernel⟩
theorem dec_str {a b:Str}:decide (V.str a=V.str b)=decide (a=b):=by
  by_cases z:a=b
  · subst z; simp
  · rw [decide_eq_false z,decide_eq_false fun y => z (by injection y)]
theorem ok_state_of {f C:Addr} {fd:FuncData} (D:DefAt K mg "_law_state_of" sStateOf ["place", "one", "other", "kinds", "extra"] f fd) (T:Txt K mg C):FnOk P w K mg base CX0 1 f fd ["place", "one", "other", "kinds", "extra"] spStateOf:=by
  refine D.fn.ok scStateOf (fun vs H Q E h => ?_) (fun cdv A outer s H vs Q E hr h => ?_)
  · obtain ⟨v,p,one,other,kl,k1,k2,x,rfl,_⟩:=h
    rfl
  obtain ⟨v,p,one,other,kl,k1,k2,x,rfl,hP,hkl,o1,o2,q⟩:=h
  have six:(6:Nat)≤sizeLine:=by decide
  have two:(2:Nat)≤sizeLine:=by decide
  obtain ⟨t5,p5,r5⟩ : ∃ t,PSs (cxOf CX0 P w K mg base ["place", "one", "other", "kinds", "extra", "memory"] "_law_state_of" (defScope sStateOf) f cdv A outer s H E).nox ((defBody sStateOf).drop 4) t ∧
      ∀ (D':Ends) (tp md:Addr) (i j:Int) (m:List Int) (H1:Hp),v = .ref tp→p=[i,j]→D'.rt=Q→Same H H1→H1 md=some (.lst (m.map V.int))→soM one other k1 k2 x [i,j] = m→t D' [some v,some (.int one),some (.int other),some (.ref kl),some (.bl x),some (.ref md)] H1:=by
    refine ⟨_,pss_one (ps_ret (pe_tup (pa_cons (pe_tup (pa_cons pe_int (pa_cons pe_int (pa_cons pe_int (pa_cons pe_int (pa_cons (pe_op op_add pe_int (pe_ix ix_tup (pv 0) pe_int (fun _ _ => rfl))) (pa_cons (pe_op op_add (pe_op op_add pe_int (pv 1)) (pe_ix ix_tup (pv 0) pe_int (fun _ _ => rfl))) pa_nil))))))) (pa_cons (pe_callTy call_tuple_of (by rfl) T.tup (by decide +kernel) (pa_cons (pv 5) pa_nil)) pa_nil)))),?_⟩
    intro D' tp md i j m H1 ev ep eD s1 emd hm
    subst ev ep
    have htp:H1 tp=some (.tup [.int i,.int j]):=by
      rcases hP with ⟨z,_⟩ | ⟨t,a,b,z1,z2,z3⟩
      · cases z
      · cases z1; cases z2; exact s1 _ _ z3
    have q':=q
    rw [← eD] at q'
    refine ⟨_,rfl,tp,_,_,_,rfl,rfl,SqT.of htp,rfl,_,_,rfl,rfl,_,rfl,_,_,rfl,rfl,_,rfl,tp,_,_,_,rfl,rfl,SqT.of htp,rfl,_,_,rfl,rfl,six,fun t1 ht1 => ?_⟩
    have sA:=same_new ht1 (.tup [.int 0,.int 1,.int 2,.int 3,.int (4 + i),.int (4 + (one:Int) + j)])
    refine ⟨_,rfl,md,_,rfl,.inl ⟨SqL.of (sA _ _ emd),fun t2 ht2 => ?_⟩⟩
    have sB:=same_new ht2 (.tup (m.map V.int))
    refine ⟨two,fun t3 ht3 => ?_⟩
    have sC:=same_new ht3 (.tup [.ref t1,.ref t2])
    exact q' t3 t1 t2 _ (s1.trans (sA.trans (sB.trans sC))) upd_same ((sB.trans sC) _ _ upd_same) (by rw [hm]; exact sC _ _ upd_same)
  obtain ⟨t4,p4,r4⟩ : ∃ t,PSs (cxOf CX0 P w K mg base ["place", "one", "other", "kinds", "extra", "memory"] "_law_state_of" (defScope sStateOf) f cdv A outer s H E).nox ((defBody sStateOf).drop 3) t ∧
      ∀ (D':Ends) (tp md:Addr) (i j:Int) (H1:Hp),v = .ref tp→p=[i,j]→D'.rt=Q→Same H H1→H md=Option.none→H1 md=some (.lst ((if k1 = "keep" then (mem0H one other x).set 2 (4 + i) else mem0H one other x).map V.int))→t D' [some v,some (.int one),some (.int other),some (.ref kl),some (.bl x),some (.ref md)] H1:=by
    refine ⟨_,pss_cons (ps_if (pt_cmpR op_eq (pe_ix ix_list (pv 3) pe_int (fun _ _ => rfl)) pe_str (nomark _)) (pss_one (ps_asg (pe_op op_add (pe_op op_add pe_int (pv 1)) (pe_ix ix_tup (pv 0) pe_int (fun _ _ => rfl))) (pg_sub (pv 5) pe_int set_list))) pss_nil)
      p5,?_⟩
    intro D' tp md i j H1 ev ep eD s1 fmd emd
    have ev0:=ev
    have ep0:=ep
    subst ev ep
    have htp:H1 tp=some (.tup [.int i,.int j]):=by
      rcases hP with ⟨z,_⟩ | ⟨t,a,b,z1,z2,z3⟩
      · cases z
      · cases z1; cases z2; exact s1 _ _ z3
    have hml:(if k1 = "keep" then (mem0H one other x).set 2 (4 + i) else mem0H one other x).length=4 + one + other + (if x=true then 1 else 0):=by
      have h0:(mem0H one other x).length=4 + one + other + (if x=true then 1 else 0):=by unfold mem0H; rw [List.length_map,List.length_range]
      split
      · rw [List.length_set,h0]
      · exact h0
    have hM:soM one other k1 k2 x [i,j] = (fun m:List Int => if k2 = "keep" then m.set 3 (4 + (one:Int) + j) else m) (if k1 = "keep" then (mem0H one other x).set 2 (4 + i) else mem0H one other x):=rfl
    generalize (if k1 = "keep" then (mem0H one other x).set 2 (4 + i) else mem0H one other x)=m at emd hml hM
    refine ⟨_,rfl,kl,_,_,_,rfl,rfl,SqL.of (s1 _ _ hkl),rfl,rfl,_,rfl,?_⟩
    rw [dec_str]
    by_cases hk:k2 = "keep"
    · rw [decide_eq_true hk]
      refine iteT ?_
      refine ⟨_,rfl,_,_,rfl,rfl,_,rfl,tp,_,_,_,rfl,rfl,SqT.of htp,rfl,_,_,rfl,rfl,_,rfl,md,_,(3:Int),3,rfl,rfl,emd,ixN_at (by rw [List.length_map,hml]; exact Nat.lt_of_lt_of_le (by omega : 3 < 4 + one + other) (Nat.le_add_right _ _)),?_⟩
      refine r5 D' tp md i j (m.set 3 (4 + (one:Int) + j)) _ ev0 ep0 eD (sameUpd s1 fmd _) ?_ ?_
      · rw [upd_same,← List.map_set]
      · rw [hM]; exact if_pos hk
    · rw [decide_eq_false hk]
      refine iteF ?_
      refine r5 D' tp md i j m H1 ev0 ep0 eD s1 emd ?_
      rw [hM]; exact if_neg hk
  refine ⟨_,pss_cons (ps_comp (i := 5) ["room"] [Option.none] rfl scStateOf.nd rfl rfl (pi_range1 rfl T.range (pa_cons (pe_op op_add (pe_op op_add (pe_op op_add pe_int (pv 1)) (pv 2)) (pe_callTy call_int1 (by rfl) T.tint (by decide +kernel) (pa_cons (pv 4) pa_nil))) pa_nil)) (fun _ => pg_name (i := 0) (show (["room"]:List Str).Nodup by decide +kernel) rfl (Or.inl rfl)) (fun _ => pts_nil) (fun _ => (pe_un un_neg pe_int)) (N:=["place", "one", "other", "kinds", "extra", "memory"]) (ks:=(defScope sStateOf).names) rfl rfl (by decide +kernel) (by decide +kernel) (by decide +kernel) (by decide +kernel))
      (pss_cons (ps_if (pt_cmpR op_isN (pv 0) pe_non (nomark _)) (pss_one (ps_ret (pe_tup (pa_cons (pe_tup (pa_cons pe_int (pa_cons (pe_op op_add (pe_op op_add pe_int (pv 1)) (pv 2)) pa_nil))) (pa_cons (pe_callTy call_tuple_of (by rfl) T.tup (by decide +kernel) (pa_cons (pv 5) pa_nil)) pa_nil))))) pss_nil)
      (pss_cons (ps_if (pt_cmpR op_eq (pe_ix ix_list (pv 3) pe_int (fun _ _ => rfl)) pe_str (nomark _)) (pss_one (ps_asg (pe_op op_add pe_int (pe_ix ix_tup (pv 0) pe_int (fun _ _ => rfl))) (pg_sub (pv 5) pe_int set_list))) pss_nil)
      p4)),?_⟩
  have ex:((4:Int) + (one:Int) + (other:Int) + (if x=true then 1 else 0))=((4 + one + other + (if x=true then 1 else 0):Nat):Int):=by cases x <;> simp <;> omega
  refine ⟨_,rfl,_,_,rfl,rfl,_,rfl,_,_,rfl,rfl,_,rfl,.inr ⟨x,rfl,_,_,rfl,rfl,((4 + one + other + (if x=true then 1 else 0):Nat):Int),by rw [← ex],by split <;> omega,by split <;> omega,fun bk md hmd => ?_⟩⟩
  have en:(((4 + one + other + (if x=true then 1 else 0):Nat):Int)).toNat=4 + one + other + (if x=true then 1 else 0):=by omega
  rw [en]
  have hn30 : 4 + one + other + (if x=true then 1 else 0)≤30:=by split <;> omega
  generalize hnn : 4 + one + other + (if x=true then 1 else 0)=n at hn30
  refine comp_rangeA (Pv:=fun i ys σ H' => (∃ v,σ = [v])∧ys=((List.range i).map fun _ => (-1:Int)).map V.int∧Same H H') ⟨⟨_,rfl⟩,rfl,same_new hmd _⟩ ?_ ?_
  · rintro i ys σ H' hi hDi ⟨⟨v',rfl⟩,hys,(s':Same _ _)⟩
    refine ⟨1,rfl,hDi,?_,⟨_,rfl⟩,?_,sameUpd s' hmd _⟩
    · rw [hys,List.length_map,List.length_map,List.length_range]; exact small1000 (by omega)
    · rw [hys,List.range_succ,List.map_append,List.map_append]; rfl
  · rintro ys σ H1 hDn ⟨⟨v',rfl⟩,hys,(s1:Same _ _)⟩
    have em:H1 md=some (.lst ((mem0H one other x).map V.int)):=by unfold mem0H; rw [hnn,hDn,hys]
    have h0:(mem0H one other x).length=4 + one + other + (if x=true then 1 else 0):=by unfold mem0H; rw [List.length_map,List.length_range]
    refine ⟨_,rfl,rfl,_,rfl,?_⟩
    rcases id hP with ⟨rfl,rfl⟩ | ⟨tp,i,j,ep,ev,htp⟩
    · refine iteT ?_
      refine ⟨_,rfl,_,_,rfl,rfl,_,rfl,_,_,rfl,rfl,two,fun t1 ht1 => ?_⟩
      have sA:=same_new ht1 (.tup [.int 0,.int (4 + (one:Int) + (other:Int))])
      refine ⟨_,rfl,md,_,rfl,.inl ⟨SqL.of (sA _ _ em),fun t2 ht2 => ?_⟩⟩
      have sB:=same_new ht2 (.tup ((mem0H one other x).map V.int))
      refine ⟨two,fun t3 ht3 => ?_⟩
      have sC:=same_new ht3 (.tup [.ref t1,.ref t2])
      exact q t3 t1 t2 _ (s1.trans (sA.trans (sB.trans sC))) upd_same ((sB.trans sC) _ _ upd_same) (sC _ _ upd_same)
    · have hv:decide (v=V.non)=false:=by rw [ev]; rfl
      rw [hv]
      refine iteF ?_
      refine ⟨_,rfl,kl,_,_,_,rfl,rfl,SqL.of (s1 _ _ hkl),rfl,rfl,_,rfl,?_⟩
      rw [dec_str]
      by_cases hk:k1 = "keep"
      · rw [decide_eq_true hk]
        refine iteT ?_
        refine ⟨_,rfl,tp,_,_,_,ev,rfl,SqT.of (s1 _ _ htp),rfl,_,_,rfl,rfl,_,rfl,md,_,(2:Int),2,rfl,rfl,em,ixN_at (by rw [List.length_map,h0]; exact Nat.lt_of_lt_of_le (by omega : 2 < 4 + one + other) (Nat.le_add_right _ _)),?_⟩
        refine r4 _ tp md i j _ ev ep rfl (sameUpd s1 hmd _) hmd ?_
        rw [upd_same,← List.map_set,if_pos hk]
      · rw [decide_eq_false hk]
        refine iteF ?_
        refine r4 _ tp md i j H1 ev ep rfl s1 hmd ?_
        rw [if_neg hk]; exact em
end
end Toy
namespace Toy
open PySem L2
seal PySem.wpAny
section
variable {P:Program} {w:World} {K:PySem.W.Frag} {mg:Str→Option Value} {base:Heap}
theorem call_isxK {X:Cx} {K:PySem.W.Frag} (hK:X.K=K):CallR X (.builtin "isinstance") (fun xs H Q => ∃ a C d n,xs=[.ref a,.ty n]∧H a=some (XO a C d)∧PySem.W.kitCls K C (.type n)=some true∧Q (.bl true) H):=by
  subst hK
  exact call_isx
structure AllTxt (K:PySem.W.Frag) (mg:Str→Option Value) (CE CC CT CB:Addr):Prop where
  mgE:mg "ChartError" = some (.ref CE)
  mgC:mg "Clash" = some (.ref CC)
  mgT:mg "TooMany" = some (.ref CT)
  mgB:mg "BadChart" = some (.ref CB)
  vE:mg "ValueError" = none
  bE:PySem.W.subIn K (.ref CE) (.type "BaseException")=some true
  bC:PySem.W.subIn K (.ref CC) (.type "BaseException")=some true
  bT:PySem.W.subIn K (.ref CT) (.type "BaseException")=some true
  bB:PySem.W.subIn K (.ref CB) (.type "BaseException")=some true
  kE:PySem.W.kitCls K (.ref CT) (.ref CE)=some true
  kC:PySem.W.kitCls K (.ref CT) (.ref CC)=some false
  kB:PySem.W.kitCls K (.ref CT) (.ref CB)=some false
  kT:PySem.W.kitCls K (.ref CT) (.ref CT)=some true
  kV:PySem.W.kitCls K (.ref CT) (.type "ValueError")=some true
def FoundQ (R:List Room1) (CF:Addr) (Q:VK) (H:Hp):Except Refu FS→Prop
  | .error (.clash _ _ _) => False
  | .error .many => ∀ (t:Addr) (H':Hp),Same H H'→H' t=some (.tup [.non,.int 3])→Q (.ref t) H'
  | .ok S => ∀ (t f s r y:Addr) (ps rs qs:List Addr) (H':Hp),Same H H'→H' t=some (.tup [.ref f,.int 0])→FlatF R CF H' f s r y ps rs qs S→FI R S→S.rows.length=S.cs.length→Q (.ref t) H'
def spFoundIn (C CF:Addr):Sp:=fun vs H Q _ => ∃ (c:Addr) (R:List Room1) (A:List Arrow),vs=[.ref c]∧ChartAt C H c R A∧Good R∧(∀ a∈A,GoodA R a)∧FoundQ R CF Q H (foldO R A)
theorem scFoundIn:FnScope ["chart", "found", "refused"] ["chart"] (defScope sFoundIn):=⟨rfl,rfl,rfl,by decide +kernel,rfl,by decide +kernel,by decide +kernel⟩
theorem ok_found_in {f C CF CC CE CT CB fo:Addr} {fd fdo:FuncData} (D:DefAt K mg "_law_found_in" sFoundIn ["chart"] f fd) (S:AllTxt K mg CE CC CT CB)
    (Do:DefAt K mg "folded" sFolded ["chart"] fo fdo) (Go:FnOk P w K mg base (CXE P w) 23 fo fdo ["chart"] (spFolded C CF CC CT)):FnOk P w K mg base CX0 24 f fd ["chart"] (spFoundIn C CF):=by
  refine D.fn.ok scFoundIn (fun vs H Q E h => ?_) (fun cdv A outer s H vs Q E hr h => ?_)
  · obtain ⟨c,R,As,rfl,_⟩:=h
    rfl
  obtain ⟨c,R,As,rfl,hC,hG,hA,q⟩:=h
  refine ⟨_,pss_cons (ps_set (i := 1) scFoundIn.nd rfl (Or.inl rfl) pe_non)
      (pss_cons (ps_set (i := 2) scFoundIn.nd rfl (Or.inl rfl) pe_int)
      (pss_cons (ps_trySet (i := 1) (px_call Go rfl hr rfl Do.mg Do.fn.kp Do.bd (pa_cons (pv 0) pa_nil)) (ph_cons rfl S.mgC S.bC (fun _ => pss_one (ps_set (i := 2) scFoundIn.nd rfl (Or.inl rfl) pe_int)) (ph_cons rfl S.mgB S.bB (fun _ => pss_one (ps_set (i := 2) scFoundIn.nd rfl (Or.inl rfl) pe_int)) (ph_cons rfl S.mgT S.bT (fun _ => pss_one (ps_set (i := 2) scFoundIn.nd rfl (Or.inl rfl) pe_int)) ph_none))) scFoundIn.nd rfl (Or.inl rfl))
      (pss_one (ps_ret (pe_tup (pa_cons (pv 1) (pa_cons (pv 2) pa_nil))))))),?_⟩
  refine ⟨_,rfl,c,R,As,rfl,hC,hG,hA,?_⟩
  cases hfo:foldO R As with
  | error x =>
    rw [hfo] at q
    cases x with
    | clash evs i j => exact q.elim
    | many =>
      intro H1 s1
      refine ⟨false,S.kC,?_⟩
      refine iteF ?_
      refine ⟨false,S.kB,?_⟩
      refine iteF ?_
      refine ⟨true,S.kT,?_⟩
      refine iteT ?_
      refine ⟨_,rfl,_,rfl,(by show 2≤sizeLine; decide),fun t ht => ?_⟩
      exact q t _ (s1.trans (same_new ht _)) upd_same
  | ok S' =>
    rw [hfo] at q
    intro fl sa ra ya ps rs qs H1 s1 hF hI hn
    refine ⟨_,rfl,_,rfl,(by show 2≤sizeLine; decide),fun t ht => ?_⟩
    have s11:=same_new ht (.tup [.ref fl,.int 0])
    exact q t fl sa ra ya ps rs qs _ (s1.trans s11) upd_same ⟨by obtain ⟨dx,z⟩:=hF.ob; exact ⟨dx,s11 _ _ z⟩,s11 _ _ hF.es,hF.st.mono fun _ _ z => z.ts (same_ts s11),s11 _ _ hF.er,hF.rt.same s11,s11 _ _ hF.ew,hF.wt.mono fun _ _ z => s11 _ _ z⟩ hI hn
def spAnyR (C:Addr):Sp:=fun vs H Q _ => ∃ (c:Addr) (R:List Room1) (A:List Arrow),vs=[.ref c]∧ChartAt C H c R A∧Good R∧(∀ a∈A,GoodA R a)∧foldO R A = .error .many∧∀ H',Q (.bl true) H'
theorem scAny:FnScope ["chart", "refused", "e"] ["chart"] (defScope sAnyR):=⟨rfl,rfl,rfl,by decide +kernel,rfl,by decide +kernel,by decide +kernel⟩
theorem ok_any {f C CF CC CE CT CB fo:Addr} {fd fdo:FuncData} (D:DefAt K mg "_law_any_refusal" sAnyR ["chart"] f fd) (T:Txt K mg C) (S:AllTxt K mg CE CC CT CB)
    (Do:DefAt K mg "folded" sFolded ["chart"] fo fdo) (Go:FnOk P w K mg base (CXE P w) 23 fo fdo ["chart"] (spFolded C CF CC CT)):FnOk P w K mg base CX0 24 f fd ["chart"] (spAnyR C):=by
  refine D.fn.ok scAny (fun vs H Q E h => ?_) (fun cdv A outer s H vs Q E hr h => ?_)
  · obtain ⟨c,R,As,rfl,_⟩:=h
    rfl
  obtain ⟨c,R,As,rfl,hC,hG,hA,hm,q⟩:=h
  refine ⟨_,pss_cons (ps_set (i := 1) scAny.nd rfl (Or.inl rfl) pe_bl)
      (pss_cons (ps_try (px_call Go rfl hr rfl Do.mg Do.fn.kp Do.bd (pa_cons (pv 0) pa_nil)) (ph_as (i := 2) rfl S.mgE S.bE scAny.nd rfl rfl (fun _ => pss_one (ps_set (i := 1) scAny.nd rfl (Or.inl rfl) (pe_callB (id := "isinstance") (call_isxK (K:=K) rfl) (by rfl) T.inst (by decide +kernel) (pa_cons (pv 2) (pa_cons (pe_bltn (by rfl) S.vE (by decide +kernel) (v:=.ty "ValueError") rfl) pa_nil))))) ph_none))
      (pss_one (ps_ret (pv 1)))),?_⟩
  refine ⟨_,rfl,c,R,As,rfl,hC,hG,hA,?_⟩
  rw [hm]
  intro H1 s1
  refine ⟨true,S.kE,?_⟩
  rw [if_pos rfl]
  intro x hx
  refine ⟨_,rfl,x,.ref CT,Option.none, "ValueError",rfl,upd_same,S.kV,?_⟩
  exact ⟨_,rfl,q _⟩
end
end Toy
namespace Toy
open PySem L2
seal PySem.wpAny
section
variable {P:Program} {w:World} {K:PySem.W.Frag} {mg:Str→Option Value} {base:Heap}
def goodAB (R:List Room1) (a:Arrow):Bool:=decide (0≤a.1) && decide (a.1 < (R.length:Int)) && decide (0≤a.2.1) && decide (a.2.1≤3) && decide (-1≤a.2.2.1) && decide (a.2.2.1 < (R.length:Int)) && decide (0≤a.2.2.2.1) && decide (a.2.2.2.1 < (R.length:Int)) && decide (0≤a.2.2.2.2) && decide (a.2.2.2.2≤99) && (scopeOf R a.1.toNat a.2.2.2.1.toNat).isSome
theorem goodAB_of {R:List Room1} {a:Arrow} (h:goodAB R a=true):GoodA R a:=by
  unfold goodAB at h
  simp only [Bool.and_eq_true,decide_eq_true_eq] at h
  obtain ⟨⟨⟨⟨⟨⟨⟨⟨⟨⟨h1,h2⟩,h3⟩,h4⟩,h5⟩,h6⟩,h7⟩,h8⟩,h9⟩,h10⟩,h11⟩:=h
  exact ⟨⟨a.1.toNat,by omega,by omega⟩,⟨h3,h4⟩,⟨h5,h6⟩,⟨a.2.2.2.1.toNat,by omega,by omega⟩,⟨h9,h10⟩,Option.isSome_iff_exists.mp h11⟩
def fPh (one other:Nat) (x:Bool) (p:List Int):List Int:=match p with
  | [i,j] => [1,-1,4 + i,4 + (one:Int) + j] ++ List.replicate (one + other + (if x=true then 1 else 0)) (-1)
  | _ => [4 + (one:Int) + (other:Int),-1,4,4 + (one:Int)] ++ List.replicate (one + other + (if x=true then 1 else 0)) (-1)
def PlInX (one other:Nat) (x:Bool) (p:List Int):Prop:=(x=true∧p=[])∨∃ i j:Nat,p=[(i:Int),(j:Int)]∧i < one∧j < other
def plsX (one other:Nat) (x:Bool):List (List Int):=(if x=true then [[]] else []) ++ (List.range one).flatMap fun (i:Nat) => (List.range other).map fun (j:Nat) => [(i:Int),(j:Int)]
theorem plsX_mem {one other:Nat} {x:Bool} {p:List Int} (h:PlInX one other x p):p∈plsX one other x:=by
  rcases h with ⟨rfl,rfl⟩ | ⟨i,j,rfl,hi,hj⟩
  · exact List.mem_append_left _ List.mem_cons_self
  · exact List.mem_append_right _ (List.mem_flatMap.mpr ⟨i,List.mem_range.mpr hi,List.mem_map.mpr ⟨j,List.mem_range.mpr hj,rfl⟩⟩)
theorem fPh_inj {one other:Nat} {x:Bool} {p q:List Int} (hp:PlInX one other x p) (hq:PlInX one other x q) (h:fPh one other x p=fPh one other x q):p=q:=by
  rcases hp with ⟨_,rfl⟩ | ⟨i,j,rfl,hi,hj⟩ <;> rcases hq with ⟨_,rfl⟩ | ⟨k,l,rfl,hk,hl⟩
  · rfl
  · have h1:(4 + (one:Int) + (other:Int))=1:=by injection h
    omega
  · have h1:(1:Int)=4 + (one:Int) + (other:Int):=by injection h
    omega
  · have h1:[1,-1,4 + (i:Int),4 + (one:Int) + (j:Int)] ++ List.replicate (one + other + (if x=true then 1 else 0)) (-1)=[1,-1,4 + (k:Int),4 + (one:Int) + (l:Int)] ++ List.replicate (one + other + (if x=true then 1 else 0)) (-1):=h
    have h2:=List.append_cancel_right h1
    simp only [List.cons.injEq,and_true,true_and] at h2
    have e1:(i:Int)=k:=by omega
    have e2:(j:Int)=l:=by omega
    rw [e1,e2]
theorem mod_in {i n:Nat} (hn : 0 < n):∃ k:Nat,((i:Int) + 1) % (n:Int)=(k:Int)∧k < n:=by
  have h1:=Int.emod_nonneg ((i:Int) + 1) (show (n:Int)≠0 by omega)
  have h2:=Int.emod_lt_of_pos ((i:Int) + 1) (show (0:Int) < (n:Int) by omega)
  exact ⟨(((i:Int) + 1) % (n:Int)).toNat,by omega,by omega⟩
theorem gon_in {one other:Nat} {x:Bool} {p:List Int} {e:Int} (o1 : 0 < one) (o2 : 0 < other) (h:PlInX one other x p):PlInX one other x (gonP one other x p e):=by
  rcases h with ⟨h,rfl⟩ | ⟨i,j,rfl,hi,hj⟩
  · exact .inl ⟨h,rfl⟩
  · show PlInX one other x (if e=0 then [((i:Int) + 1) % (one:Int),(j:Int)] else if e=1 then [(i:Int),((j:Int) + 1) % (other:Int)] else if e=2 then (if x=true then [] else [(i:Int),(j:Int)]) else [(i:Int),(j:Int)])
    split
    · obtain ⟨k,e,hk⟩:=mod_in (i:=i) o1
      rw [e]; exact .inr ⟨k,j,rfl,hk,hj⟩
    · split
      · obtain ⟨k,e,hk⟩:=mod_in (i:=j) o2
        rw [e]; exact .inr ⟨i,k,rfl,hi,hk⟩
      · split
        · split
          · rename_i hx
            exact .inl ⟨hx,rfl⟩
          · exact .inr ⟨i,j,rfl,hi,hj⟩
        · exact .inr ⟨i,j,rfl,hi,hj⟩
def haB (one other:Nat) (k1 k2:Str) (x:Bool):Bool :=
  goodB (haR one other k1 k2 x) && decide (first0 (haR one other k1 k2 x)=fPh one other x [0,0]) && ((haA one other x).all (goodAB (haR one other k1 k2 x))) && (plsX one other x).all fun p =>
    decide (kI (haR one other k1 k2 x) (fPh one other x p)=soK one other p) && decide (memL (haR one other k1 k2 x) (fPh one other x p)=soM one other k1 k2 x p) && ([0,1,2,3]:List Nat).all fun e =>
      decide (pairOf (clA (haR one other k1 k2 x) (haA one other x)) (tkL (haR one other k1 k2 x) (haA one other x) (fPh one other x p) (e:Int))=Option.none) && decide (behindL (haR one other k1 k2 x) (haA one other x) (fPh one other x p) (tkL (haR one other k1 k2 x) (haA one other x) (fPh one other x p) (e:Int))=fPh one other x (gonP one other x p (e:Int))) &&
      decide (deedsL (haA one other x) (tkL (haR one other k1 k2 x) (haA one other x) (fPh one other x p) (e:Int))=gonD x p (e:Int))
def haT (t:Nat×Nat×Nat):Bool:=match t.2.2 with
  | 0 => haB t.1 t.2.1 "one" "keep" false
  | 1 => haB t.1 t.2.1 "one" "one" false
  | 2 => haB t.1 t.2.1 "keep" "keep" false
  | 3 => haB t.1 t.2.1 "keep" "one" false
  | _ => haB t.1 t.2.1 "one" "one" true
theorem haT0:haT (1,1,0)=true:=by decide +kernel
theorem haT1:haT (1,1,1)=true:=by decide +kernel
theorem haT2:haT (1,1,2)=true:=by decide +kernel
theorem haT3:haT (1,1,3)=true:=by decide +kernel
theorem haT4:haT (1,1,4)=true:=by decide +kernel
theorem haT5:haT (1,2,0)=true:=by decide +kernel
theorem haT6:haT (1,2,1)=true:=by decide +kernel
theorem haT7:haT (1,2,2)=true:=by decide +kernel
theorem haT8:haT (1,2,3)=true:=by decide +kernel
theorem haT9:haT (1,2,4)=true:=by decide +kernel
theorem haT10:haT (1,3,0)=true:=by decide +kernel
theorem haT11:haT (1,3,1)=true:=by decide +kernel
theorem haT12:haT (1,3,2)=true:=by decide +kernel
theorem haT13:haT (1,3,3)=true:=by decide +kernel
theorem haT14:haT (1,3,4)=true:=by decide +kernel
theorem haT15:haT (1,4,0)=true:=by decide +kernel
theorem haT16:haT (1,4,1)=true:=by decide +kernel
theorem haT17:haT (1,4,2)=true:=by decide +kernel
theorem haT18:haT (1,4,3)=true:=by decide +kernel
theorem haT19:haT (1,4,4)=true:=by decide +kernel
theorem haT20:haT (1,5,0)=true:=by decide +kernel
theorem haT21:haT (1,5,1)=true:=by decide +kernel
theorem haT22:haT (1,5,2)=true:=by decide +kernel
theorem haT23:haT (1,5,3)=true:=by decide +kernel
theorem haT24:haT (1,5,4)=true:=by decide +kernel
theorem haT25:haT (1,6,0)=true:=by decide +kernel
theorem haT26:haT (1,6,1)=true:=by decide +kernel
theorem haT27:haT (1,6,2)=true:=by decide +kernel
theorem haT28:haT (1,6,3)=true:=by decide +kernel
theorem haT29:haT (1,6,4)=true:=by decide +kernel
theorem haT30:haT (2,1,0)=true:=by decide +kernel
theorem haT31:haT (2,1,1)=true:=by decide +kernel
theorem haT32:haT (2,1,2)=true:=by decide +kernel
theorem haT33:haT (2,1,3)=true:=by decide +kernel
theorem haT34:haT (2,1,4)=true:=by decide +kernel
theorem haT35:haT (2,2,0)=true:=by decide +kernel
theorem haT36:haT (2,2,1)=true:=by decide +kernel
theorem haT37:haT (2,2,2)=true:=by decide +kernel
theorem haT38:haT (2,2,3)=true:=by decide +kernel
theorem haT39:haT (2,2,4)=true:=by decide +kernel
theorem haT40:haT (2,3,0)=true:=by decide +kernel
theorem haT41:haT (2,3,1)=true:=by decide +kernel
theorem haT42:haT (2,3,2)=true:=by decide +kernel
theorem haT43:haT (2,3,3)=true:=by decide +kernel
theorem haT44:haT (2,3,4)=true:=by decide +kernel
theorem haT45:haT (2,4,0)=true:=by decide +kernel
theorem haT46:haT (2,4,1)=true:=by decide +kernel
theorem haT47:haT (2,4,2)=true:=by decide +kernel
theorem haT48:haT (2,4,3)=true:=by decide +kernel
theorem haT49:haT (2,4,4)=true:=by decide +kernel
theorem haT50:haT (2,5,0)=true:=by decide +kernel
theorem haT51:haT (2,5,1)=true:=by decide +kernel
theorem haT52:haT (2,5,2)=true:=by decide +kernel
theorem haT53:haT (2,5,3)=true:=by decide +kernel
theorem haT54:haT (2,5,4)=true:=by decide +kernel
theorem haT55:haT (2,6,0)=true:=by decide +kernel
theorem haT56:haT (2,6,1)=true:=by decide +kernel
theorem haT57:haT (2,6,2)=true:=by decide +kernel
theorem haT58:haT (2,6,3)=true:=by decide +kernel
theorem haT59:haT (2,6,4)=true:=by decide +kernel
theorem haT60:haT (3,1,0)=true:=by decide +kernel
theorem haT61:haT (3,1,1)=true:=by decide +kernel
theorem haT62:haT (3,1,2)=true:=by decide +kernel
theorem haT63:haT (3,1,3)=true:=by decide +kernel
theorem haT64:haT (3,1,4)=true:=by decide +kernel
theorem haT65:haT (3,2,0)=true:=by decide +kernel
theorem haT66:haT (3,2,1)=true:=by decide +kernel
theorem haT67:haT (3,2,2)=true:=by decide +kernel
theorem haT68:haT (3,2,3)=true:=by decide +kernel
theorem haT69:haT (3,2,4)=true:=by decide +kernel
theorem haT70:haT (3,3,0)=true:=by decide +kernel
theorem haT71:haT (3,3,1)=true:=by decide +kernel
theorem haT72:haT (3,3,2)=true:=by decide +kernel
theorem haT73:haT (3,3,3)=true:=by decide +kernel
theorem haT74:haT (3,3,4)=true:=by decide +kernel
theorem haT75:haT (3,4,0)=true:=by decide +kernel
theorem haT76:haT (3,4,1)=true:=by decide +kernel
theorem haT77:haT (3,4,2)=true:=by decide +kernel
theorem haT78:haT (3,4,3)=true:=by decide +kernel
theorem haT79:haT (3,4,4)=true:=by decide +kernel
theorem haT80:haT (3,5,0)=true:=by decide +kernel
theorem haT81:haT (3,5,1)=true:=by decide +kernel
theorem haT82:haT (3,5,2)=true:=by decide +kernel
theorem haT83:haT (3,5,3)=true:=by decide +kernel
theorem haT84:haT (3,5,4)=true:=by decide +kernel
theorem haT85:haT (3,6,0)=true:=by decide +kernel
theorem haT86:haT (3,6,1)=true:=by decide +kernel
theorem haT87:haT (3,6,2)=true:=by decide +kernel
theorem haT88:haT (3,6,3)=true:=by decide +kernel
theorem haT89:haT (3,6,4)=true:=by decide +kernel
theorem haT90:haT (4,1,0)=true:=by decide +kernel
theorem haT91:haT (4,1,1)=true:=by decide +kernel
theorem haT92:haT (4,1,2)=true:=by decide +kernel
theorem haT93:haT (4,1,3)=true:=by decide +kernel
theorem haT94:haT (4,1,4)=true:=by decide +kernel
theorem haT95:haT (4,2,0)=true:=by decide +kernel
theorem haT96:haT (4,2,1)=true:=by decide +kernel
theorem haT97:haT (4,2,2)=true:=by decide +kernel
theorem haT98:haT (4,2,3)=true:=by decide +kernel
theorem haT99:haT (4,2,4)=true:=by decide +kernel
theorem haT100:haT (4,3,0)=true:=by decide +kernel
theorem haT101:haT (4,3,1)=true:=by decide +kernel
theorem haT102:haT (4,3,2)=true:=by decide +kernel
theorem haT103:haT (4,3,3)=true:=by decide +kernel
theorem haT104:haT (4,3,4)=true:=by decide +kernel
theorem haT105:haT (4,4,0)=true:=by decide +kernel
theorem haT106:haT (4,4,1)=true:=by decide +kernel
theorem haT107:haT (4,4,2)=true:=by decide +kernel
theorem haT108:haT (4,4,3)=true:=by decide +kernel
theorem haT109:haT (4,4,4)=true:=by decide +kernel
theorem haT110:haT (4,5,0)=true:=by decide +kernel
theorem haT111:haT (4,5,1)=true:=by decide +kernel
theorem haT112:haT (4,5,2)=true:=by decide +kernel
theorem haT113:haT (4,5,3)=true:=by decide +kernel
theorem haT114:haT (4,5,4)=true:=by decide +kernel
theorem haT115:haT (4,6,0)=true:=by decide +kernel
theorem haT116:haT (4,6,1)=true:=by decide +kernel
theorem haT117:haT (4,6,2)=true:=by decide +kernel
theorem haT118:haT (4,6,3)=true:=by decide +kernel
theorem haT119:haT (4,6,4)=true:=by decide +kernel
theorem haT120:haT (5,1,0)=true:=by decide +kernel
theorem haT121:haT (5,1,1)=true:=by decide +kernel
theorem haT122:haT (5,1,2)=true:=by decide +kernel
theorem haT123:haT (5,1,3)=true:=by decide +kernel
theorem haT124:haT (5,1,4)=true:=by decide +kernel
theorem haT125:haT (5,2,0)=true:=by decide +kernel
theorem haT126:haT (5,2,1)=true:=by decide +kernel
theorem haT127:haT (5,2,2)=true:=by decide +kernel
theorem haT128:haT (5,2,3)=true:=by decide +kernel
theorem haT129:haT (5,2,4)=true:=by decide +kernel
theorem haT130:haT (5,3,0)=true:=by decide +kernel
theorem haT131:haT (5,3,1)=true:=by decide +kernel
theorem haT132:haT (5,3,2)=true:=by decide +kernel
theorem haT133:haT (5,3,3)=true:=by decide +kernel
theorem haT134:haT (5,3,4)=true:=by decide +kernel
theorem haT135:haT (5,4,0)=true:=by decide +kernel
theorem haT136:haT (5,4,1)=true:=by decide +kernel
theorem haT137:haT (5,4,2)=true:=by decide +kernel
theorem haT138:haT (5,4,3)=true:=by decide +kernel
theorem haT139:haT (5,4,4)=true:=by decide +kernel
theorem haT140:haT (5,5,0)=true:=by decide +kernel
theorem haT141:haT (5,5,1)=true:=by decide +kernel
theorem haT142:haT (5,5,2)=true:=by decide +kernel
theorem haT143:haT (5,5,3)=true:=by decide +kernel
theorem haT144:haT (5,5,4)=true:=by decide +kernel
theorem haT145:haT (5,6,0)=true:=by decide +kernel
theorem haT146:haT (5,6,1)=true:=by decide +kernel
theorem haT147:haT (5,6,2)=true:=by decide +kernel
theorem haT148:haT (5,6,3)=true:=by decide +kernel
theorem haT149:haT (5,6,4)=true:=by decide +kernel
theorem haT150:haT (6,1,0)=true:=by decide +kernel
theorem haT151:haT (6,1,1)=true:=by decide +kernel
theorem haT152:haT (6,1,2)=true:=by decide +kernel
theorem haT153:haT (6,1,3)=true:=by decide +kernel
theorem haT154:haT (6,1,4)=true:=by decide +kernel
theorem haT155:haT (6,2,0)=true:=by decide +kernel
theorem haT156:haT (6,2,1)=true:=by decide +kernel
theorem haT157:haT (6,2,2)=true:=by decide +kernel
theorem haT158:haT (6,2,3)=true:=by decide +kernel
theorem haT159:haT (6,2,4)=true:=by decide +kernel
theorem haT160:haT (6,3,0)=true:=by decide +kernel
theorem haT161:haT (6,3,1)=true:=by decide +kernel
theorem haT162:haT (6,3,2)=true:=by decide +kernel
theorem haT163:haT (6,3,3)=true:=by decide +kernel
theorem haT164:haT (6,3,4)=true:=by decide +kernel
theorem haT165:haT (6,4,0)=true:=by decide +kernel
theorem haT166:haT (6,4,1)=true:=by decide +kernel
theorem haT167:haT (6,4,2)=true:=by decide +kernel
theorem haT168:haT (6,4,3)=true:=by decide +kernel
theorem haT169:haT (6,4,4)=true:=by decide +kernel
theorem haT170:haT (6,5,0)=true:=by decide +kernel
theorem haT171:haT (6,5,1)=true:=by decide +kernel
theorem haT172:haT (6,5,2)=true:=by decide +kernel
theorem haT173:haT (6,5,3)=true:=by decide +kernel
theorem haT174:haT (6,5,4)=true:=by decide +kernel
theorem haT175:haT (6,6,0)=true:=by decide +kernel
theorem haT176:haT (6,6,1)=true:=by decide +kernel
theorem haT177:haT (6,6,2)=true:=by decide +kernel
theorem haT178:haT (6,6,3)=true:=by decide +kernel
def haTs:List (Nat×Nat×Nat):=([1,2,3,4,5,6]:List Nat).flatMap fun one => ([1,2,3,4,5,6]:List Nat).flatMap fun other => (if one + other≤11 then [0,1,2,3,4] else [0,1,2,3]).map fun m => (one,other,m)
theorem haTs_is:haTs=[(1,1,0),(1,1,1),(1,1,2),(1,1,3),(1,1,4),(1,2,0),(1,2,1),(1,2,2),(1,2,3),(1,2,4),(1,3,0),(1,3,1),(1,3,2),(1,3,3),(1,3,4),(1,4,0),(1,4,1),(1,4,2),(1,4,3),(1,4,4),(1,5,0),(1,5,1),(1,5,2),(1,5,3),(1,5,4),(1,6,0),(1,6,1),(1,6,2),(1,6,3),(1,6,4),(2,1,0),(2,1,1),(2,1,2),(2,1,3),(2,1,4),(2,2,0),(2,2,1),(2,2,2),(2,2,3),(2,2,4),(2,3,0),(2,3,1),(2,3,2),(2,3,3),(2,3,4),(2,4,0),(2,4,1),(2,4,2),(2,4,3),(2,4,4),(2,5,0),(2,5,1),(2,5,2),(2,5,3),(2,5,4),(2,6,0),(2,6,1),(2,6,2),(2,6,3),(2,6,4),(3,1,0),(3,1,1),(3,1,2),(3,1,3),(3,1,4),(3,2,0),(3,2,1),(3,2,2),(3,2,3),(3,2,4),(3,3,0),(3,3,1),(3,3,2),(3,3,3),(3,3,4),(3,4,0),(3,4,1),(3,4,2),(3,4,3),(3,4,4),(3,5,0),(3,5,1),(3,5,2),(3,5,3),(3,5,4),(3,6,0),(3,6,1),(3,6,2),(3,6,3),(3,6,4),(4,1,0),(4,1,1),(4,1,2),(4,1,3),(4,1,4),(4,2,0),(4,2,1),(4,2,2),(4,2,3),(4,2,4),(4,3,0),(4,3,1),(4,3,2),(4,3,3),(4,3,4),(4,4,0),(4,4,1),(4,4,2),(4,4,3),(4,4,4),(4,5,0),(4,5,1),(4,5,2),(4,5,3),(4,5,4),(4,6,0),(4,6,1),(4,6,2),(4,6,3),(4,6,4),(5,1,0),(5,1,1),(5,1,2),(5,1,3),(5,1,4),(5,2,0),(5,2,1),(5,2,2),(5,2,3),(5,2,4),(5,3,0),(5,3,1),(5,3,2),(5,3,3),(5,3,4),(5,4,0),(5,4,1),(5,4,2),(5,4,3),(5,4,4),(5,5,0),(5,5,1),(5,5,2),(5,5,3),(5,5,4),(5,6,0),(5,6,1),(5,6,2),(5,6,3),(5,6,4),(6,1,0),(6,1,1),(6,1,2),(6,1,3),(6,1,4),(6,2,0),(6,2,1),(6,2,2),(6,2,3),(6,2,4),(6,3,0),(6,3,1),(6,3,2),(6,3,3),(6,3,4),(6,4,0),(6,4,1),(6,4,2),(6,4,3),(6,4,4),(6,5,0),(6,5,1),(6,5,2),(6,5,3),(6,5,4),(6,6,0),(6,6,1),(6,6,2),(6,6,3)]:=by decide +kernel
theorem haTs_ok:∀ t∈haTs,haT t=true:=by
  rw [haTs_is]
  intro t h
  rcases List.mem_cons.mp h with rfl | h
  · exact haT0
  rcases List.mem_cons.mp h with rfl | h
  · exact haT1
  rcases List.mem_cons.mp h with rfl | h
  · exact haT2
  rcases List.mem_cons.mp h with rfl | h
  · exact haT3
  rcases List.mem_cons.mp h with rfl | h
  · exact haT4
  rcases List.mem_cons.mp h with rfl | h
  · exact haT5
  rcases List.mem_cons.mp h with rfl | h
  · exact haT6
  rcases List.mem_cons.mp h with rfl | h
  · exact haT7
  rcases List.mem_cons.mp h with rfl | h
  · exact haT8
  rcases List.mem_cons.mp h with rfl | h
  · exact haT9
  rcases List.mem_cons.mp h with rfl | h
  · exact haT10
  rcases List.mem_cons.mp h with rfl | h
  · exact haT11
  rcases List.mem_cons.mp h with rfl | h
  · exact haT12
  rcases List.mem_cons.mp h with rfl | h
  · exact haT13
  rcases List.mem_cons.mp h with rfl | h
  · exact haT14
  rcases List.mem_cons.mp h with rfl | h
  · exact haT15
  rcases List.mem_cons.mp h with rfl | h
  · exact haT16
  rcases List.mem_cons.mp h with rfl | h
  · exact haT17
  rcases List.mem_cons.mp h with rfl | h
  · exact haT18
  rcases List.mem_cons.mp h with rfl | h
  · exact haT19
  rcases List.mem_cons.mp h with rfl | h
  · exact haT20
  rcases List.mem_cons.mp h with rfl | h
  · exact haT21
  rcases List.mem_cons.mp h with rfl | h
  · exact haT22
  rcases List.mem_cons.mp h with rfl | h
  · exact haT23
  rcases List.mem_cons.mp h with rfl | h
  · exact haT24
  rcases List.mem_cons.mp h with rfl | h
  · exact haT25
  rcases List.mem_cons.mp h with rfl | h
  · exact haT26
  rcases List.mem_cons.mp h with rfl | h
  · exact haT27
  rcases List.mem_cons.mp h with rfl | h
  · exact haT28
  rcases List.mem_cons.mp h with rfl | h
  · exact haT29
  rcases List.mem_cons.mp h with rfl | h
  · exact haT30
  rcases List.mem_cons.mp h with rfl | h
  · exact haT31
  rcases List.mem_cons.mp h with rfl | h
  · exact haT32
  rcases List.mem_cons.mp h with rfl | h
  · exact haT33
  rcases List.mem_cons.mp h with rfl | h
  · exact haT34
  rcases List.mem_cons.mp h with rfl | h
  · exact haT35
  rcases List.mem_cons.mp h with rfl | h
  · exact haT36
  rcases List.mem_cons.mp h with rfl | h
  · exact haT37
  rcases List.mem_cons.mp h with rfl | h
  · exact haT38
  rcases List.mem_cons.mp h with rfl | h
  · exact haT39
  rcases List.mem_cons.mp h with rfl | h
  · exact haT40
  rcases List.mem_cons.mp h with rfl | h
  · exact haT41
  rcases List.mem_cons.mp h with rfl | h
  · exact haT42
  rcases List.mem_cons.mp h with rfl | h
  · exact haT43
  rcases List.mem_cons.mp h with rfl | h
  · exact haT44
  rcases List.mem_cons.mp h with rfl | h
  · exact haT45
  rcases List.mem_cons.mp h with rfl | h
  · exact haT46
  rcases List.mem_cons.mp h with rfl | h
  · exact haT47
  rcases List.mem_cons.mp h with rfl | h
  · exact haT48
  rcases List.mem_cons.mp h with rfl | h
  · exact haT49
  rcases List.mem_cons.mp h with rfl | h
  · exact haT50
  rcases List.mem_cons.mp h with rfl | h
  · exact haT51
  rcases List.mem_cons.mp h with rfl | h
  · exact haT52
  rcases List.mem_cons.mp h with rfl | h
  · exact haT53
  rcases List.mem_cons.mp h with rfl | h
  · exact haT54
  rcases List.mem_cons.mp h with rfl | h
  · exact haT55
  rcases List.mem_cons.mp h with rfl | h
  · exact haT56
  rcases List.mem_cons.mp h with rfl | h
  · exact haT57
  rcases List.mem_cons.mp h with rfl | h
  · exact haT58
  rcases List.mem_cons.mp h with rfl | h
  · exact haT59
  rcases List.mem_cons.mp h with rfl | h
  · exact haT60
  rcases List.mem_cons.mp h with rfl | h
  · exact haT61
  rcases List.mem_cons.mp h with rfl | h
  · exact haT62
  rcases List.mem_cons.mp h with rfl | h
  · exact haT63
  rcases List.mem_cons.mp h with rfl | h
  · exact haT64
  rcases List.mem_cons.mp h with rfl | h
  · exact haT65
  rcases List.mem_cons.mp h with rfl | h
  · exact haT66
  rcases List.mem_cons.mp h with rfl | h
  · exact haT67
  rcases List.mem_cons.mp h with rfl | h
  · exact haT68
  rcases List.mem_cons.mp h with rfl | h
  · exact haT69
  rcases List.mem_cons.mp h with rfl | h
  · exact haT70
  rcases List.mem_cons.mp h with rfl | h
  · exact haT71
  rcases List.mem_cons.mp h with rfl | h
  · exact haT72
  rcases List.mem_cons.mp h with rfl | h
  · exact haT73
  rcases List.mem_cons.mp h with rfl | h
  · exact haT74
  rcases List.mem_cons.mp h with rfl | h
  · exact haT75
  rcases List.mem_cons.mp h with rfl | h
  · exact haT76
  rcases List.mem_cons.mp h with rfl | h
  · exact haT77
  rcases List.mem_cons.mp h with rfl | h
  · exact haT78
  rcases List.mem_cons.mp h with rfl | h
  · exact haT79
  rcases List.mem_cons.mp h with rfl | h
  · exact haT80
  rcases List.mem_cons.mp h with rfl | h
  · exact haT81
  rcases List.mem_cons.mp h with rfl | h
  · exact haT82
  rcases List.mem_cons.mp h with rfl | h
  · exact haT83
  rcases List.mem_cons.mp h with rfl | h
  · exact haT84
  rcases List.mem_cons.mp h with rfl | h
  · exact haT85
  rcases List.mem_cons.mp h with rfl | h
  · exact haT86
  rcases List.mem_cons.mp h with rfl | h
  · exact haT87
  rcases List.mem_cons.mp h with rfl | h
  · exact haT88
  rcases List.mem_cons.mp h with rfl | h
  · exact haT89
  rcases List.mem_cons.mp h with rfl | h
  · exact haT90
  rcases List.mem_cons.mp h with rfl | h
  · exact haT91
  rcases List.mem_cons.mp h with rfl | h
  · exact haT92
  rcases List.mem_cons.mp h with rfl | h
  · exact haT93
  rcases List.mem_cons.mp h with rfl | h
  · exact haT94
  rcases List.mem_cons.mp h with rfl | h
  · exact haT95
  rcases List.mem_cons.mp h with rfl | h
  · exact haT96
  rcases List.mem_cons.mp h with rfl | h
  · exact haT97
  rcases List.mem_cons.mp h with rfl | h
  · exact haT98
  rcases List.mem_cons.mp h with rfl | h
  · exact haT99
  rcases List.mem_cons.mp h with rfl | h
  · exact haT100
  rcases List.mem_cons.mp h with rfl | h
  · exact haT101
  rcases List.mem_cons.mp h with rfl | h
  · exact haT102
  rcases List.mem_cons.mp h with rfl | h
  · exact haT103
  rcases List.mem_cons.mp h with rfl | h
  · exact haT104
  rcases List.mem_cons.mp h with rfl | h
  · exact haT105
  rcases List.mem_cons.mp h with rfl | h
  · exact haT106
  rcases List.mem_cons.mp h with rfl | h
  · exact haT107
  rcases List.mem_cons.mp h with rfl | h
  · exact haT108
  rcases List.mem_cons.mp h with rfl | h
  · exact haT109
  rcases List.mem_cons.mp h with rfl | h
  · exact haT110
  rcases List.mem_cons.mp h with rfl | h
  · exact haT111
  rcases List.mem_cons.mp h with rfl | h
  · exact haT112
  rcases List.mem_cons.mp h with rfl | h
  · exact haT113
  rcases List.mem_cons.mp h with rfl | h
  · exact haT114
  rcases List.mem_cons.mp h with rfl | h
  · exact haT115
  rcases List.mem_cons.mp h with rfl | h
  · exact haT116
  rcases List.mem_cons.mp h with rfl | h
  · exact haT117
  rcases List.mem_cons.mp h with rfl | h
  · exact haT118
  rcases List.mem_cons.mp h with rfl | h
  · exact haT119
  rcases List.mem_cons.mp h with rfl | h
  · exact haT120
  rcases List.mem_cons.mp h with rfl | h
  · exact haT121
  rcases List.mem_cons.mp h with rfl | h
  · exact haT122
  rcases List.mem_cons.mp h with rfl | h
  · exact haT123
  rcases List.mem_cons.mp h with rfl | h
  · exact haT124
  rcases List.mem_cons.mp h with rfl | h
  · exact haT125
  rcases List.mem_cons.mp h with rfl | h
  · exact haT126
  rcases List.mem_cons.mp h with rfl | h
  · exact haT127
  rcases List.mem_cons.mp h with rfl | h
  · exact haT128
  rcases List.mem_cons.mp h with rfl | h
  · exact haT129
  rcases List.mem_cons.mp h with rfl | h
  · exact haT130
  rcases List.mem_cons.mp h with rfl | h
  · exact haT131
  rcases List.mem_cons.mp h with rfl | h
  · exact haT132
  rcases List.mem_cons.mp h with rfl | h
  · exact haT133
  rcases List.mem_cons.mp h with rfl | h
  · exact haT134
  rcases List.mem_cons.mp h with rfl | h
  · exact haT135
  rcases List.mem_cons.mp h with rfl | h
  · exact haT136
  rcases List.mem_cons.mp h with rfl | h
  · exact haT137
  rcases List.mem_cons.mp h with rfl | h
  · exact haT138
  rcases List.mem_cons.mp h with rfl | h
  · exact haT139
  rcases List.mem_cons.mp h with rfl | h
  · exact haT140
  rcases List.mem_cons.mp h with rfl | h
  · exact haT141
  rcases List.mem_cons.mp h with rfl | h
  · exact haT142
  rcases List.mem_cons.mp h with rfl | h
  · exact haT143
  rcases List.mem_cons.mp h with rfl | h
  · exact haT144
  rcases List.mem_cons.mp h with rfl | h
  · exact haT145
  rcases List.mem_cons.mp h with rfl | h
  · exact haT146
  rcases List.mem_cons.mp h with rfl | h
  · exact haT147
  rcases List.mem_cons.mp h with rfl | h
  · exact haT148
  rcases List.mem_cons.mp h with rfl | h
  · exact haT149
  rcases List.mem_cons.mp h with rfl | h
  · exact haT150
  rcases List.mem_cons.mp h with rfl | h
  · exact haT151
  rcases List.mem_cons.mp h with rfl | h
  · exact haT152
  rcases List.mem_cons.mp h with rfl | h
  · exact haT153
  rcases List.mem_cons.mp h with rfl | h
  · exact haT154
  rcases List.mem_cons.mp h with rfl | h
  · exact haT155
  rcases List.mem_cons.mp h with rfl | h
  · exact haT156
  rcases List.mem_cons.mp h with rfl | h
  · exact haT157
  rcases List.mem_cons.mp h with rfl | h
  · exact haT158
  rcases List.mem_cons.mp h with rfl | h
  · exact haT159
  rcases List.mem_cons.mp h with rfl | h
  · exact haT160
  rcases List.mem_cons.mp h with rfl | h
  · exact haT161
  rcases List.mem_cons.mp h with rfl | h
  · exact haT162
  rcases List.mem_cons.mp h with rfl | h
  · exact haT163
  rcases List.mem_cons.mp h with rfl | h
  · exact haT164
  rcases List.mem_cons.mp h with rfl | h
  · exact haT165
  rcases List.mem_cons.mp h with rfl | h
  · exact haT166
  rcases List.mem_cons.mp h with rfl | h
  · exact haT167
  rcases List.mem_cons.mp h with rfl | h
  · exact haT168
  rcases List.mem_cons.mp h with rfl | h
  · exact haT169
  rcases List.mem_cons.mp h with rfl | h
  · exact haT170
  rcases List.mem_cons.mp h with rfl | h
  · exact haT171
  rcases List.mem_cons.mp h with rfl | h
  · exact haT172
  rcases List.mem_cons.mp h with rfl | h
  · exact haT173
  rcases List.mem_cons.mp h with rfl | h
  · exact haT174
  rcases List.mem_cons.mp h with rfl | h
  · exact haT175
  rcases List.mem_cons.mp h with rfl | h
  · exact haT176
  rcases List.mem_cons.mp h with rfl | h
  · exact haT177
  rcases List.mem_cons.mp h with rfl | h
  · exact haT178
  cases h
theorem in6 {n:Nat} (h1 : 0 < n) (h2:n≤6):n∈([1,2,3,4,5,6]:List Nat):=by
  match n,h1,h2 with
  | 1,_,_ => decide
  | 2,_,_ => decide
  | 3,_,_ => decide
  | 4,_,_ => decide
  | 5,_,_ => decide
  | 6,_,_ => decide
def KdOk (one other:Nat) (k1 k2:Str) (x:Bool):Prop:=(x=true∧k1 = "one"∧k2 = "one"∧one + other≤11)∨(x=false∧(k1 = "one"∨k1 = "keep")∧(k2 = "one"∨k2 = "keep"))
theorem ha_of {one other:Nat} {k1 k2:Str} {x:Bool} (a1 : 0 < one) (a2:one≤6) (b1 : 0 < other) (b2:other≤6) (h:KdOk one other k1 k2 x):haB one other k1 k2 x=true:=by
  have get:∀ m,m∈(if one + other≤11 then [0,1,2,3,4] else [0,1,2,3]:List Nat)→haT (one,other,m)=true:=fun m hm => haTs_ok _ (List.mem_flatMap.mpr ⟨one,in6 a1 a2,List.mem_flatMap.mpr ⟨other,in6 b1 b2,List.mem_map.mpr ⟨m,hm,rfl⟩⟩⟩)
  have four:∀ m,m < 4→m∈(if one + other≤11 then [0,1,2,3,4] else [0,1,2,3]:List Nat):=fun m hm => by
    split
    · match m,hm with
      | 0,_ => decide
      | 1,_ => decide
      | 2,_ => decide
      | 3,_ => decide
    · match m,hm with
      | 0,_ => decide
      | 1,_ => decide
      | 2,_ => decide
      | 3,_ => decide
  rcases h with ⟨rfl,rfl,rfl,hs⟩ | ⟨rfl,h1,h2⟩
  · exact get 4 (by rw [if_pos hs]; decide)
  · rcases h1 with rfl | rfl <;> rcases h2 with rfl | rfl
    · exact get 1 (four 1 (by decide))
    · exact get 0 (four 0 (by decide))
    · exact get 3 (four 3 (by decide))
    · exact get 2 (four 2 (by decide))
section
variable {one other:Nat} {k1 k2:Str} {x:Bool}
theorem ha_facts (o1 : 0 < one) (o2 : 0 < other) (h:haB one other k1 k2 x=true):Good (haR one other k1 k2 x)∧(∀ a∈haA one other x,GoodA (haR one other k1 k2 x) a)∧first0 (haR one other k1 k2 x)=fPh one other x [0,0] ∧
    (∀ p,PlInX one other x p→kI (haR one other k1 k2 x) (fPh one other x p)=soK one other p∧memL (haR one other k1 k2 x) (fPh one other x p)=soM one other k1 k2 x p)∧Sim (wkE (haR one other k1 k2 x) (haA one other x)) (wkH one other x 30) (fPh one other x) (PlInX one other x):=by
  unfold haB at h
  rw [Bool.and_eq_true,Bool.and_eq_true,Bool.and_eq_true,decide_eq_true_eq] at h
  obtain ⟨⟨⟨h1,h2⟩,h3⟩,h4⟩:=h
  have h5:=fun p hp => List.all_eq_true.mp h4 p (plsX_mem hp)
  have h6:∀ p,PlInX one other x p→∀ e:Nat,e < 4→pairOf (clA (haR one other k1 k2 x) (haA one other x)) (tkL (haR one other k1 k2 x) (haA one other x) (fPh one other x p) (e:Int))=Option.none∧behindL (haR one other k1 k2 x) (haA one other x) (fPh one other x p) (tkL (haR one other k1 k2 x) (haA one other x) (fPh one other x p) (e:Int))=fPh one other x (gonP one other x p (e:Int)) ∧
      deedsL (haA one other x) (tkL (haR one other k1 k2 x) (haA one other x) (fPh one other x p) (e:Int))=gonD x p (e:Int):=fun p hp e he => by
    have z:=h5 p hp
    rw [Bool.and_eq_true] at z
    have y:=List.all_eq_true.mp z.2 e (by
      match e,he with
      | 0,_ => decide
      | 1,_ => decide
      | 2,_ => decide
      | 3,_ => decide)
    rw [Bool.and_eq_true,Bool.and_eq_true,decide_eq_true_eq,decide_eq_true_eq,decide_eq_true_eq] at y
    exact ⟨y.1.1,y.1.2,y.2⟩
  refine ⟨goodB_of h1,fun a ha => goodAB_of (List.all_eq_true.mp h3 a ha),h2,fun p hp => ?_,⟨fun a b ha hb e => fPh_inj ha hb e,fun a e ha _ _ => gon_in o1 o2 ha,fun a e ha he _ => (h6 a ha e he).2.1,fun a e ha he _ => (h6 a ha e he).2.2,fun a e ha he => (h6 a ha e he).1,rfl⟩⟩
  have z:=h5 p hp
  rw [Bool.and_eq_true,Bool.and_eq_true,decide_eq_true_eq,decide_eq_true_eq] at z
  exact z.1
theorem gfew_evs {W:Wk} {L:List (List Int)} (hp:∀ c e,W.pr c e=Option.none) (hL:L.length < W.m) {c w:List Int} (hc:∀ e:Nat,e < 4→W.nx c (e:Int)∈L):∀ (es:List Nat) (S:FS),(∀ e∈es,e < 4)→(∀ y∈S.cs,y∈L)→S.cs.Nodup →
    ∃ S',gevs W c w (es.map fun (e:Nat) => (e:Int)) S = .ok S'∧(∀ y∈S'.cs,y∈L)∧S'.cs.Nodup
  | [],S,_,h1,h2 => ⟨S,rfl,h1,h2⟩
  | e :: es,S,he,h1,h2 => by
    have hx:=hc e (he e List.mem_cons_self)
    have hst:gstep W c w S (e:Int)=gput W c w S (e:Int):=by unfold gstep; rw [hp]
    rw [List.map_cons]
    unfold gevs
    rw [hst]
    unfold gput
    by_cases hin:W.nx c (e:Int)∈S.cs
    · rw [if_pos hin]
      exact gfew_evs hp hL hc es _ (fun y hy => he y (List.mem_cons_of_mem _ hy)) h1 h2
    · have hlen:=nodup_le S.cs L h2 h1
      rw [if_neg hin,if_neg (by omega)]
      refine gfew_evs hp hL hc es _ (fun y hy => he y (List.mem_cons_of_mem _ hy)) (fun y hy => ?_) ?_
      · rcases List.mem_append.mp hy with z | z
        · exact h1 y z
        · rw [List.mem_singleton.mp z]; exact hx
      · refine List.nodup_append.mpr ⟨h2,List.nodup_cons.mpr ⟨by simp,List.nodup_nil⟩,fun a ha b hb e => ?_⟩
        rw [e,List.mem_singleton.mp hb] at ha
        exact hin ha
theorem gfew_fold {W:Wk} {L:List (List Int)} (hp:∀ c e,W.pr c e=Option.none) (hL:L.length < W.m) (hc:∀ c∈L,∀ e:Nat,e < 4→W.nx c (e:Int)∈L):∀ (f n:Nat) (S:FS),(∀ y∈S.cs,y∈L)→S.cs.Nodup→∃ S',gfold W f n S = .ok S'∧(∀ y∈S'.cs,y∈L)
  | 0,n,S,h1,h2 => ⟨S,rfl,h1⟩
  | f + 1,n,S,h1,h2 => by
    unfold gfold
    by_cases hlt:n < S.cs.length
    · rw [if_pos hlt]
      have hm:S.cs.getD n []∈L:=by
        rw [List.getD_eq_getElem?_getD,List.getElem?_eq_getElem hlt]
        exact h1 _ (List.getElem_mem hlt)
      obtain ⟨S1,g1,g2,g3⟩:=gfew_evs (w:=S.ws.getD n []) hp hL (hc _ hm) [0,1,2,3] ⟨S.cs,S.ws,S.rows,[]⟩ (by decide) h1 h2
      have g1':grow W n S = .ok S1:=g1
      rw [g1']
      exact gfew_fold hp hL hc f (n + 1) ⟨S1.cs,S1.ws,S1.rows ++ [S1.row],[]⟩ g2 g3
    · rw [if_neg hlt]
      exact ⟨S,rfl,h1⟩
theorem mem_plsX {p:List Int} (h:p∈plsX one other x):PlInX one other x p:=by
  rcases List.mem_append.mp h with z | z
  · split at z
    · rename_i hx
      exact .inl ⟨hx,List.mem_singleton.mp z⟩
    · cases z
  · obtain ⟨i,hi,z⟩:=List.mem_flatMap.mp z
    obtain ⟨j,hj,rfl⟩:=List.mem_map.mp z
    exact .inr ⟨i,j,rfl,List.mem_range.mp hi,List.mem_range.mp hj⟩
theorem flat_len (f:Nat→Nat→List Int) (m:Nat):∀ n,((List.range n).flatMap fun (i:Nat) => (List.range m).map fun (j:Nat) => f i j).length=n * m
  | 0 => by simp
  | n + 1 => by
    rw [List.range_succ,List.flatMap_append,List.length_append,flat_len f m n]
    simp [Nat.succ_mul]
theorem plsX_len (a2:one≤6) (b2:other≤6):(plsX one other x).length < 100:=by
  unfold plsX
  rw [List.length_append,flat_len]
  have h:one * other≤6 * 6:=Nat.mul_le_mul a2 b2
  split
  · show 1 + one * other < 100
    omega
  · show 0 + one * other < 100
    omega
theorem ha_walk (a1 : 0 < one) (a2:one≤6) (b1 : 0 < other) (b2:other≤6) (h:haB one other k1 k2 x=true):∃ S,gfold (wkH one other x 100) 101 0 pS0 = .ok S∧(∀ p∈S.cs,PlInX one other x p) ∧
    foldO (haR one other k1 k2 x) (haA one other x)=if S.cs.length≤30 then .ok (mapS (fPh one other x) S) else .error .many:=by
  obtain ⟨_,_,hf,_,hsim⟩:=ha_facts a1 b1 h
  have h00:PlInX one other x [0,0]:=.inr ⟨0,0,rfl,a1,b1⟩
  obtain ⟨S,g1,g2⟩:=gfew_fold (W:=wkH one other x 100) (L:=plsX one other x) (fun _ _ => rfl) (plsX_len a2 b2) (fun c hc e _ => plsX_mem (gon_in a1 b1 (mem_plsX hc))) 101 0 pS0 (fun y hy => by rw [List.mem_singleton.mp hy]; exact plsX_mem h00) (List.nodup_cons.mpr ⟨by simp,List.nodup_nil⟩)
  refine ⟨S,g1,fun p hp => mem_plsX (g2 p hp),?_⟩
  unfold foldO
  rw [ffold_g]
  have e:fS0 (haR one other k1 k2 x)=mapS (fPh one other x) pS0:=by
    unfold fS0 mapS pS0
    rw [hf]; rfl
  rw [e,sim_fold hsim 31 0 pS0 fun y hy => by rw [List.mem_singleton.mp hy]; exact h00]
  have e2:gfold (wkH one other x 30) 31 0 pS0=gfold (wkH one other x 30) 101 0 pS0:=(gfold_enough (f := 31) (by show (1:Nat)≤30; decide) (by show 30 < 31 + 0; decide) 70).symm
  have e3:gfold (wkH one other x 30) 101 0 pS0=cutX (gfold (wkH one other x 100) 101 0 pS0):=cut_fold (V:=wkH one other x 100) (fun _ _ => rfl) 101 0 pS0 (by show (1:Nat)≤30; decide)
  rw [e2,e3,g1]
  show mapX (fPh one other x) (if S.cs.length≤30 then .ok S else .error .many)=_
  split <;> rfl
end
end
end Toy
namespace Toy
open PySem L2
seal PySem.wpAny
section
variable {P:Program} {w:World} {K:PySem.W.Frag} {mg:Str→Option Value} {base:Heap}
def spLaw (K:PySem.W.Frag):Sp:=fun vs H Q _ => ∃ (a:Addr) (ns:List Int),vs=[.ref a]∧SqL K H a (ns.map V.int)∧ns.length≤63∧∀ H',Q (.bl true) H'
theorem scLaw:FnScope ["script", "one", "other", "extra", "kinds", "halls", "chart", "told", "due", "flat", "part", "k"] ["script"] (defScope sLaw):=⟨rfl,rfl,rfl,by decide +kernel,rfl,by decide +kernel,by decide +kernel⟩
theorem pick_kind {a b:Str} {n:Int}:∃ k:Str,atI [V.str a,V.str b] (n % 2)=some (.str k)∧(k=a∨k=b):=by
  rcases (by omega:n % 2=0∨n % 2=1) with e | e
  · rw [e]; exact ⟨a,rfl,.inl rfl⟩
  · rw [e]; exact ⟨b,rfl,.inr rfl⟩
theorem ok_law {f C CF fi fcell fh fw fg fso ffi fan fro fsa fen:Addr} {fd fdi fdcell fdh fdw fdg fdso fdfi fdan fdro fdsa fden:FuncData} (D:DefAt K mg "law" sLaw ["script"] f fd) (T:Txt K mg C) (TF:FlTxt K mg CF) (M:Mk K C fi) (bi:Binds K fdi ["self", "rooms", "arrows"] [])
    (Gi:FnOk P w K mg base CX0 6 fi fdi ["self", "rooms", "arrows"] (spInit C)) (Dc:DefAt K mg "_law_cell_at" sCell ["script", "k"] fcell fdcell) (Dh:DefAt K mg "_law_halls" sHalls ["one", "other", "kinds", "extra"] fh fdh) (Dw:DefAt K mg "_law_walk" sWalk ["one", "other", "extra"] fw fdw)
    (Dg:DefAt K mg "_law_gone_on" sGon ["place", "event", "one", "other", "extra"] fg fdg) (Dso:DefAt K mg "_law_state_of" sStateOf ["place", "one", "other", "kinds", "extra"] fso fdso) (Dfi:DefAt K mg "_law_found_in" sFoundIn ["chart"] ffi fdfi) (Gfi:FnOk P w K mg base CX0 24 ffi fdfi ["chart"] (spFoundIn C CF))
    (Dan:DefAt K mg "_law_any_refusal" sAnyR ["chart"] fan fdan) (Gan:FnOk P w K mg base CX0 24 fan fdan ["chart"] (spAnyR C)) (Dro:DefAt K mg "_law_row" sRow ["found", "due"] fro fdro) (Dsa:DefAt K mg "_law_same_state" sSame ["found", "due"] fsa fdsa) (Den:DefAt K mg "_law_entries" sEntries ["found", "due"] fen fden):FnOk P w K mg base CX0 25 f fd ["script"] (spLaw K):=by
  have Gc:FnOk P w K mg base CX0 1 fcell fdcell ["script", "k"] (spCell K):=ok_cell Dc T
  have Gh:FnOk P w K mg base CX0 1 fh fdh ["one", "other", "kinds", "extra"] spHalls:=ok_halls Dh T
  have Gw:FnOk P w K mg base CX0 2 fw fdw ["one", "other", "extra"] spWalk:=ok_walk Dw T Dg
  have Gso:FnOk P w K mg base CX0 1 fso fdso ["place", "one", "other", "kinds", "extra"] spStateOf:=ok_state_of Dso T
  have Gro:FnOk P w K mg base CX0 1 fro fdro ["found", "due"] spRow:=ok_row Dro T
  have Gsa:FnOk P w K mg base CX0 2 fsa fdsa ["found", "due"] spSame:=ok_same Dsa T Dro
  have Gen:FnOk P w K mg base CX0 2 fen fden ["found", "due"] spEntries:=ok_entries Den T Dro
  refine D.fn.ok scLaw (fun vs H Q E h => ?_) (fun cdv A outer s H vs Q E hr h => ?_)
  · obtain ⟨a,ns,rfl,_⟩:=h
    rfl
  obtain ⟨a,ns,rfl,hS,hn,q⟩:=h
  have hr1:Room 1 _:=hr.mono (by decide)
  have hr2:Room 2 _:=hr.mono (by decide)
  obtain ⟨t6,p6,r6⟩ : ∃ t,PSs (cxOf CX0 P w K mg base ["script", "one", "other", "extra", "kinds", "halls", "chart", "told", "due", "flat", "part", "k"] "law" (defScope sLaw) f cdv A outer s H E).nox ((defBody sLaw).drop 6) t ∧
      ∀ (one other:Nat) (k1 k2:Str) (x:Bool) (kl:Addr) (H0:Hp),0 < one→one≤6→0 < other→other≤6→KdOk one other k1 k2 x→H0 kl=some (.lst [.str k1,.str k2]) →
        t { nx:=fun _ H' => Q .non H',rt:=Q } [some (.ref a),some (.int one),some (.int other),some (.bl x),some (.ref kl),Option.none,Option.none,Option.none,Option.none,Option.none,Option.none,Option.none] H0:=by
    refine ⟨_,pss_cons (ps_set (i := 5) scLaw.nd rfl (Or.inl rfl) (pe_call Gh hr1 rfl Dh.mg Dh.fn.kp Dh.bd .nil pass0 (pa_cons (pv 1) (pa_cons (pv 2) (pa_cons (pv 4) (pa_cons (pv 3) pa_nil))))))
      (pss_cons (ps_set (i := 6) scLaw.nd rfl (Or.inl rfl) (pe_make M Gi (hr.mono (by decide)) rfl T.mgC bi .nil pass0 (pa_cons (pe_ix ix_tup (pv 5) pe_int (fun _ _ => rfl)) (pa_cons (pe_ix ix_tup (pv 5) pe_int (fun _ _ => rfl)) pa_nil))))
      (pss_cons (ps_set (i := 7) scLaw.nd rfl (Or.inl rfl) (pe_call Gfi hr rfl Dfi.mg Dfi.fn.kp Dfi.bd .nil pass0 (pa_cons (pv 6) pa_nil)))
      (pss_cons (ps_set (i := 8) scLaw.nd rfl (Or.inl rfl) (pe_call Gw hr2 rfl Dw.mg Dw.fn.kp Dw.bd .nil pass0 (pa_cons (pv 1) (pa_cons (pv 2) (pa_cons (pv 3) pa_nil)))))
      (pss_cons (ps_if (pt_cmpR op_gt (pe_callB call_len_seq (by rfl) T.len PySem.boot_len (pa_cons (pe_ix ix_tup (pv 8) pe_int (fun _ _ => rfl)) pa_nil)) pe_int (nomark _)) (pss_one (ps_ret (pe_and (pe_cmpR op_eq (pe_ix ix_tup (pv 7) pe_int (fun _ _ => rfl)) pe_int (nomark _)) (pe_one (pe_call Gan hr rfl Dan.mg Dan.fn.kp Dan.bd .nil pass0 (pa_cons (pv 6) pa_nil)))))) pss_nil)
      (pss_cons (ps_if (pt_cmpR op_ne (pe_ix ix_tup (pv 7) pe_int (fun _ _ => rfl)) pe_int (nomark _)) pss_never pss_nil)
      (pss_cons (ps_set (i := 9) scLaw.nd rfl (Or.inl rfl) (pe_ix ix_tup (pv 7) pe_int (fun _ _ => rfl)))
      (pss_cons (ps_for PassesOwn.never rfl (pi_list (pe_lst (pa_cons (pe_fld (pv 9) rfl) (pa_cons (pe_fld (pv 9) rfl) (pa_cons (pe_fld (pv 9) rfl) pa_nil))))) (pg_name (i := 10) scLaw.nd rfl (Or.inl rfl)) (pss_one (ps_if (PW.pt (pw_or (pt_not (pt_val (pe_callB call_isinst (by rfl) T.inst (by decide +kernel) (pa_cons (pv 10) (pa_cons (pe_bltn (by rfl) T.list (by decide +kernel) (v:=.ty "list") rfl) pa_nil))))) (pw_or1 (pt_cmpR op_ne (pe_callB call_len_seq (by rfl) T.len PySem.boot_len (pa_cons (pv 10) pa_nil)) (pe_callB call_len_seq (by rfl) T.len PySem.boot_len (pa_cons (pe_ix ix_tup (pv 8) pe_int (fun _ _ => rfl)) pa_nil)) (nomark _))))) pss_never pss_nil)))
      (pss_cons (ps_for PassesOwn.never rfl (pi_range1 rfl T.range (pa_cons (pe_callB call_len_seq (by rfl) T.len PySem.boot_len (pa_cons (pe_ix ix_tup (pv 8) pe_int (fun _ _ => rfl)) pa_nil)) pa_nil)) (pg_name (i := 11) scLaw.nd rfl (Or.inl rfl)) (pss_cons (ps_if (pt_not (pt_val (pe_call Gsa hr2 rfl Dsa.mg Dsa.fn.kp Dsa.bd .nil pass0 (pa_cons (pe_ix ix_list (pe_fld (pv 9) rfl) (pv 11) (fun _ _ => rfl)) (pa_cons (pe_call Gso hr1 rfl Dso.mg Dso.fn.kp Dso.bd .nil pass0 (pa_cons (pe_ix ix_list (pe_ix ix_tup (pv 8) pe_int (fun _ _ => rfl)) (pv 11) (fun _ _ => rfl)) (pa_cons (pv 1) (pa_cons (pv 2) (pa_cons (pv 4) (pa_cons (pv 3) pa_nil)))))) pa_nil))))) pss_never pss_nil)
      (pss_one (ps_if (PW.pt (pw_or (pt_not (pt_val (pe_call Gen hr2 rfl Den.mg Den.fn.kp Den.bd .nil pass0 (pa_cons (pe_ix ix_list (pe_fld (pv 9) rfl) (pv 11) (fun _ _ => rfl)) (pa_cons (pe_ix ix_list (pe_ix ix_tup (pv 8) pe_int (fun _ _ => rfl)) (pv 11) (fun _ _ => rfl)) pa_nil))))) (pw_or1 (pt_not (pt_val (pe_call Gro hr1 rfl Dro.mg Dro.fn.kp Dro.bd .nil pass0 (pa_cons (pe_ix ix_list (pe_fld (pv 9) rfl) (pv 11) (fun _ _ => rfl)) (pa_cons (pe_ix ix_list (pe_ix ix_tup (pv 8) pe_int (fun _ _ => rfl)) (pv 11) (fun _ _ => rfl)) pa_nil)))))))) pss_never pss_nil))))
      (pss_one (ps_ret pe_bl)))))))))),?_⟩
    intro one other k1 k2 x kl H0 a1 a2 b1 b2 hkd hkl
    have hB:=ha_of a1 a2 b1 b2 hkd
    obtain ⟨hG,hA,hf0,hso,_⟩:=ha_facts a1 b1 hB
    obtain ⟨S,hw,hpl,hfold⟩:=ha_walk a1 a2 b1 b2 hB
    have h20:(haA one other x).length≤20:=by
      unfold haA haA0
      rw [List.length_append,List.length_append,List.length_map,List.length_map,List.length_range,List.length_range]
      split
      · show one + other + 1≤20
        omega
      · show one + other + 0≤20
        omega
    refine ⟨_,rfl,_,rfl,_,rfl,_,rfl,one,other,kl,k1,k2,x,rfl,hkl,a1,a2,b1,b2,fun t r ar ps qs H1 s1 g1 g2 g3 g4 g5 => ?_⟩
    have hsm:∀ S',foldO (haR one other k1 k2 x) (haA one other x) = .ok S'→∀ r∈S'.rows,r.length≤100∧∀ e∈r,e.2.length≤100:=fun S' hS' r hr => by
      obtain ⟨x1,x2⟩:=ffold_sm 31 0 hS' (fun r hr => by cases hr) r hr
      exact ⟨by omega,fun e he => by have:=x2 e he; omega⟩
    generalize haR one other k1 k2 x=R at hG hA hf0 hso hfold g3 hsm
    generalize haA one other x=As at hA hfold h20 g5 hsm
    refine ⟨_,rfl,t,_,_,_,rfl,rfl,SqT.of g1,rfl,_,rfl,t,_,_,_,rfl,rfl,SqT.of g1,rfl,?_⟩
    intro c dx hcn hdx ncd
    have kc:∀ x o,H1 x=some o→(upd (upd H1 dx (.own c)) c (.ins C dx [])) x=some o:=fun x o e => by
      rw [upd_ne (ne_of_none e hcn),upd_ne (ne_of_none e hdx)]; exact e
    refine ⟨c,dx,r,ar,ps,qs,R,As,rfl,upd_same,kc _ _ g2,g3.same fun x o e => kc _ _ e,kc _ _ g4,g5.same fun x o e => kc _ _ e,hG,h20,hA,fun H2 k2' hCh => ⟨rfl,?_⟩⟩
    have hC2:=hCh H2 fun x o e _ _ => e
    have s12:Same H1 H2:=fun x o e => k2' _ _ (kc _ _ e) (ne_of_none e hcn)
    have s02:=s1.trans s12
    refine ⟨_,rfl,c,R,As,rfl,hC2,hG,hA,?_⟩
    rw [hfold]
    have hl100:∀ (vs:List V) (H':Hp),Z (PlAt H') vs S.cs→vs.length=S.cs.length:=fun vs H' z => z.1
    by_cases h30:S.cs.length≤30
    · rw [if_pos h30] at hfold ⊢
      have hsm':=hsm _ hfold
      intro tf fl sa ra ya ps1 rs1 qs1 H3 s3 f1 hF hFI hnr
      have s03:=s02.trans s3
      refine ⟨_,rfl,_,rfl,_,rfl,one,other,x,rfl,a1,b1,?_⟩
      rw [hw]
      intro td pl rl wl vs rs qs' H4 s4 d1 hPF d2 d3 hnr'
      have lv:=hl100 vs H4 hPF.pt
      have s04:=s03.trans s4
      have ftf:=s4 _ _ f1
      refine ⟨_,rfl,td,_,_,_,rfl,rfl,SqT.of d1,rfl,pl,_,rfl,.inl (SqL.of hPF.ep),_,_,rfl,rfl,_,rfl,?_⟩
      rw [lv,decide_eq_false (show ¬ ((S.cs.length:Nat):Int) > 30 by omega)]
      refine iteF ?_
      refine ⟨_,rfl,tf,_,_,_,rfl,rfl,SqT.of ftf,rfl,rfl,_,rfl,?_⟩
      refine iteNS rfl ?_
      refine ⟨_,rfl,tf,_,_,_,rfl,rfl,SqT.of ftf,rfl,?_⟩
      obtain ⟨fdx,ho⟩:=id hF.ob
      have ho4:=s4 _ _ ho
      have l1:(ps1.map V.ref).length=S.cs.length:=by rw [List.length_map,hF.st.1]; exact List.length_map _
      have l2:(rs1.map V.ref).length=S.cs.length:=by rw [List.length_map,hF.rt.1]; exact hnr.trans (List.length_map _)
      have l3:(qs1.map V.ref).length=S.cs.length:=by rw [List.length_map,hF.wt.1]; exact hFI.wl.trans (List.length_map _)
      refine ⟨_,rfl,fl,CF,fdx,_,_,rfl,ho4,TF.cl,TF.nS,fflds_states sa ra ya,_,rfl,fl,CF,fdx,_,_,rfl,ho4,TF.cl,TF.nR,fflds_rows sa ra ya,_,rfl,fl,CF,fdx,_,_,rfl,ho4,TF.cl,TF.nW,fflds_ways sa ra ya,(by show 3≤sizeLine; decide),fun tt htt => ?_⟩
      have s5:=same_new htt (.lst [.ref sa,.ref ra,.ref ya])
      have ett:(upd H4 tt (.lst [.ref sa,.ref ra,.ref ya])) tt=some (.lst [.ref sa,.ref ra,.ref ya]):=upd_same
      generalize upd H4 tt (.lst [.ref sa,.ref ra,.ref ya])=H5 at s5 ett ⊢
      have s35:=s4.trans s5
      have d15:=s5 _ _ d1
      have hPF5:=hPF.same s5
      refine ⟨tt,rfl,⟨_,SqL.of ett⟩,?_⟩
      refine for_list (K:=K) (xs:=[.ref sa,.ref ra,.ref ya]) (fun i σ H6 => ∃ v10,σ = [some (.ref a),some (.int one),some (.int other),some (.bl x),some (.ref kl),some (.ref t),some (.ref c),some (.ref tf),some (.ref td),some (.ref fl),v10,Option.none]∧H6=H5) ⟨_,rfl,rfl⟩ (fun i σ H6 _ ⟨_,_,e⟩ => by rw [e]; exact SqL.of ett) ?_ ?_
      · rintro i y σ H6 hx ⟨v10,rfl,rfl⟩
        obtain ⟨l,xs,rfl,hl,hxl⟩ : ∃ (l:Addr) (xs:List V),y = .ref l∧H6 l=some (.lst xs)∧xs.length=S.cs.length:=by
          match i,hx with
          | 0,hx => cases hx; exact ⟨sa,_,rfl,s35 _ _ hF.es,l1⟩
          | 1,hx => cases hx; exact ⟨ra,_,rfl,s35 _ _ hF.er,l2⟩
          | 2,hx => cases hx; exact ⟨ya,_,rfl,s35 _ _ hF.ew,l3⟩
          | n + 3,hx => cases hx
        refine ⟨_,rfl,_,_,_,_,rfl,.lst hl,T.ll,_,rfl,?_⟩
        refine iteF ?_
        refine ⟨_,rfl,l,_,rfl,.inl (SqL.of hl),_,rfl,td,_,_,_,rfl,rfl,SqT.of d15,rfl,pl,_,rfl,.inl (SqL.of hPF5.ep),rfl,_,rfl,?_⟩
        rw [hxl,lv]
        refine iteNS rfl ?_
        exact ⟨_,rfl,rfl⟩
      rintro σ H6 ⟨v10,rfl,rfl⟩
      refine ⟨_,rfl,td,_,_,_,rfl,rfl,SqT.of d15,rfl,pl,_,rfl,.inl (SqL.of hPF5.ep),_,rfl,by rw [lv]; omega,by rw [lv]; omega,?_⟩
      rw [lv]
      refine for_range (fun i σ H7 => ∃ v10 v11,σ = [some (.ref a),some (.int one),some (.int other),some (.bl x),some (.ref kl),some (.ref t),some (.ref c),some (.ref tf),some (.ref td),some (.ref fl),v10,v11]∧Same H6 H7) ⟨_,_,rfl,Same.refl H6⟩ ?_ ?_
      · rintro i σ H7 hi ⟨v10,v11,rfl,(s7:Same _ _)⟩
        have hi':i < S.cs.length:=by omega
        have ek:(0:Int) + (i:Int)=(i:Int):=by omega
        rw [ek]
        have hci:=List.getElem?_eq_getElem hi'
        obtain ⟨v,hv,hPv⟩:=hPF5.pt.at hci
        have hcf:(mapS (fPh one other x) S).cs[i]? = some (fPh one other x S.cs[i]):=by
          show (S.cs.map (fPh one other x))[i]? = _
          rw [List.getElem?_map,hci]; rfl
        obtain ⟨p1,y1,q1,m1,x1,x2,x3⟩:=hF.st.at hcf
        obtain ⟨hso1,hso2⟩:=hso _ (hpl _ (List.getElem_mem hi'))
        rw [hso1] at x2
        rw [hso2] at x3
        have s37:=s35.trans s7
        have s47:=s5.trans s7
        have ho7:=s37 _ _ ho
        have d17:=s47 _ _ d1
        have s07:=s03.trans s37
        refine ⟨_,rfl,fl,CF,fdx,_,_,rfl,ho7,TF.cl,TF.nS,fflds_states sa ra ya,_,rfl,sa,_,_,_,rfl,rfl,SqL.of (s37 _ _ hF.es),atI_nat (by rw [List.getElem?_map,y1]; rfl),_,rfl,td,_,_,_,rfl,rfl,SqT.of d17,rfl,_,rfl,pl,_,_,_,rfl,rfl,SqL.of (s7 _ _ hPF5.ep),atI_nat hv,_,rfl,_,rfl,_,rfl,_,rfl,v,S.cs[i],one,other,kl,k1,k2,x,rfl,hPv.ts (same_ts s7),s07 _ _ hkl,a2,b2,fun st kt mt H8 s8 e1 e2 e3 => ?_⟩
        have s38:=s37.trans s8
        refine ⟨p1,st,q1,m1,kt,mt,_,_,rfl,s38 _ _ x1,e1,s38 _ _ x2,e2,s38 _ _ x3,e3,?_,?_,_,rfl,?_⟩
        · unfold soK
          split
          · show (6:Nat)≤100
            decide
          · show (2:Nat)≤100
            decide
        · rw [← hso2]
          unfold memL
          rw [List.length_map,List.length_range]
          have:=hG.most
          omega
        refine iteF ?_
        have s48:=s47.trans s8
        have ho8:=s38 _ _ ho
        have d18:=s48 _ _ d1
        have hir:i < S.rows.length:=by rw [hnr']; exact hi'
        have hri:=List.getElem?_eq_getElem hir
        have hri':(mapS (fPh one other x) S).rows[i]? = some S.rows[i]:=hri
        obtain ⟨ra1,ya1,hra1⟩:=hF.rt.at hri'
        obtain ⟨ra2,ya2,hra2⟩:=d3.at hri
        have hiw:i < S.ws.length:=by rw [hPF.wl]; exact hi'
        have hwi:=List.getElem?_eq_getElem hiw
        have hwi':(mapS (fPh one other x) S).ws[i]? = some S.ws[i]:=hwi
        obtain ⟨wa1,yw1,hwa1⟩:=hF.wt.at hwi'
        obtain ⟨wa2,yw2,hwa2⟩:=hPF.wt.at hwi
        have hwl:=hFI.wb i _ hwi'
        obtain ⟨sm1,sm2⟩:=hsm' S.rows[i] (List.getElem_mem hir)
        refine ⟨_,rfl,fl,CF,fdx,_,_,rfl,ho8,TF.cl,TF.nR,fflds_rows sa ra ya,_,rfl,ra,_,_,_,rfl,rfl,SqL.of (s38 _ _ hF.er),atI_nat (by rw [List.getElem?_map,ya1]; rfl),_,rfl,td,_,_,_,rfl,rfl,SqT.of d18,rfl,_,rfl,rl,_,_,_,rfl,rfl,SqL.of (s48 _ _ d2),atI_nat (by rw [List.getElem?_map,ya2]; rfl),ra1,ra2,S.rows[i],rfl,hra1.same s38,hra2.same s48,sm1,sm2,_,rfl,?_⟩
        refine iteF ?_
        refine ⟨_,rfl,fl,CF,fdx,_,_,rfl,ho8,TF.cl,TF.nW,fflds_ways sa ra ya,_,rfl,ya,_,_,_,rfl,rfl,SqL.of (s38 _ _ hF.ew),atI_nat (by rw [List.getElem?_map,yw1]; rfl),_,rfl,td,_,_,_,rfl,rfl,SqT.of d18,rfl,_,rfl,wl,_,_,_,rfl,rfl,SqL.of (s48 _ _ hPF.ew),atI_nat (by rw [List.getElem?_map,yw2]; rfl),wa1,wa2,S.ws[i],rfl,s38 _ _ hwa1,s48 _ _ hwa2,by omega,_,rfl,?_⟩
        refine iteF ?_
        exact ⟨_,_,rfl,s7.trans s8⟩
      · rintro σ H7 ⟨v10,v11,rfl,(s7:Same _ _)⟩
        exact q _
    · rw [if_neg h30] at hfold ⊢
      intro tf H3 s3 f1
      have s03:=s02.trans s3
      refine ⟨_,rfl,_,rfl,_,rfl,one,other,x,rfl,a1,b1,?_⟩
      rw [hw]
      intro td pl rl wl vs rs qs' H4 s4 d1 hPF d2 d3 hnr'
      have lv:=hl100 vs H4 hPF.pt
      refine ⟨_,rfl,td,_,_,_,rfl,rfl,SqT.of d1,rfl,pl,_,rfl,.inl (SqL.of hPF.ep),_,_,rfl,rfl,_,rfl,?_⟩
      rw [lv,decide_eq_true (show ((S.cs.length:Nat):Int) > 30 by omega)]
      refine iteT ?_
      refine ⟨_,rfl,tf,_,_,_,rfl,rfl,SqT.of (s4 _ _ f1),rfl,rfl,_,rfl,?_⟩
      refine iteT ?_
      exact ⟨_,rfl,c,R,As,rfl,(hC2.same s3).same s4,hG,hA,hfold,fun H' => q H'⟩
  obtain ⟨t5,p5,r5⟩ : ∃ t,PSs (cxOf CX0 P w K mg base ["script", "one", "other", "extra", "kinds", "halls", "chart", "told", "due", "flat", "part", "k"] "law" (defScope sLaw) f cdv A outer s H E).nox ((defBody sLaw).drop 5) t ∧
      ∀ (one other:Nat) (x:Bool) (kl:Addr) (H0:Hp),Same H H0→0 < one→one≤6→0 < other→other≤6→(x=true→one + other≤11)→H0 kl=some (.lst [.str "one",.str "one"]) →
        t { nx:=fun _ H' => Q .non H',rt:=Q } [some (.ref a),some (.int one),some (.int other),some (.bl x),some (.ref kl),Option.none,Option.none,Option.none,Option.none,Option.none,Option.none,Option.none] H0:=by
    refine ⟨_,pss_cons (ps_if (pt_not (pt_val (pv 3))) (pss_one (ps_set (i := 4) scLaw.nd rfl (Or.inl rfl) (pe_lst (pa_cons (pe_ix ix_list (pe_lst (pa_cons pe_str (pa_cons pe_str pa_nil))) (pe_op op_mod (pe_call Gc hr1 rfl Dc.mg Dc.fn.kp Dc.bd .nil pass0 (pa_cons (pv 0) (pa_cons pe_int pa_nil))) pe_int) (fun _ _ => rfl)) (pa_cons (pe_ix ix_list (pe_lst (pa_cons pe_str (pa_cons pe_str pa_nil))) (pe_op op_mod (pe_call Gc hr1 rfl Dc.mg Dc.fn.kp Dc.bd .nil pass0 (pa_cons (pv 0) (pa_cons pe_int pa_nil))) pe_int) (fun _ _ => rfl)) pa_nil))))) pss_nil)
      p6,?_⟩
    intro one other x kl H0 s0 a1 a2 b1 b2 hx hkl
    refine ⟨_,rfl,_,rfl,?_⟩
    cases hxx:x with
    | true =>
      refine iteF ?_
      exact r6 one other "one" "one" true kl H0 a1 a2 b1 b2 (.inl ⟨rfl,rfl,rfl,hx hxx⟩) hkl
    | false =>
      refine iteT ?_
      obtain ⟨k1,e1,hk1⟩:=pick_kind (a := "one") (b := "keep") (n:=Rm.cell ns 4)
      obtain ⟨k2,e2,hk2⟩:=pick_kind (a := "keep") (b := "one") (n:=Rm.cell ns 5)
      refine ⟨(by show 2≤sizeLine; decide),fun l1 hl1 => ?_⟩
      have sA:=same_new hl1 (.lst [.str "one",.str "keep"])
      refine ⟨_,rfl,a,ns,4,rfl,(s0.trans sA).seq hS,_,_,rfl,rfl,(by show (0:Int) < _; decide),l1,_,_,_,rfl,rfl,SqL.of upd_same,e1,(by show 2≤sizeLine; decide),fun l2 hl2 => ?_⟩
      have sB:=same_new hl2 (.lst [.str "keep",.str "one"])
      refine ⟨_,rfl,a,ns,5,rfl,(s0.trans (sA.trans sB)).seq hS,_,_,rfl,rfl,(by show (0:Int) < _; decide),l2,_,_,_,rfl,rfl,SqL.of upd_same,e2,(by show 2≤sizeLine; decide),fun l3 hl3 => ?_⟩
      exact r6 one other k1 k2 false l3 _ a1 a2 b1 b2 (.inr ⟨rfl,hk1,hk2.symm⟩) upd_same
  obtain ⟨t3,p3,r3⟩ : ∃ t,PSs (cxOf CX0 P w K mg base ["script", "one", "other", "extra", "kinds", "halls", "chart", "told", "due", "flat", "part", "k"] "law" (defScope sLaw) f cdv A outer s H E).nox ((defBody sLaw).drop 3) t ∧
      ∀ (one other:Nat),0 < one→one≤6→0 < other→other≤6 →
        t { nx:=fun _ H' => Q .non H',rt:=Q } [some (.ref a),some (.int one),some (.int other),Option.none,Option.none,Option.none,Option.none,Option.none,Option.none,Option.none,Option.none,Option.none] H:=by
    refine ⟨_,pss_cons (ps_set (i := 3) scLaw.nd rfl (Or.inl rfl) (pe_and (pe_cmpR op_eq (pe_op op_mod (pe_call Gc hr1 rfl Dc.mg Dc.fn.kp Dc.bd .nil pass0 (pa_cons (pv 0) (pa_cons pe_int pa_nil))) pe_int) pe_int (nomark _)) (pe_one (pe_cmpR op_lt (pe_op op_add (pv 1) (pv 2)) pe_int (nomark _)))))
      (pss_cons (ps_set (i := 4) scLaw.nd rfl (Or.inl rfl) (pe_lst (pa_cons pe_str (pa_cons pe_str pa_nil))))
      p5),?_⟩
    intro one other a1 a2 b1 b2
    refine ⟨_,rfl,a,ns,3,rfl,hS,_,_,rfl,rfl,(by show (0:Int) < _; decide),rfl,_,rfl,?_⟩
    refine ite2 (fun z => ?_) (fun z => ?_)
    · refine ⟨_,rfl,_,rfl,_,_,rfl,rfl,_,_,rfl,rfl,?_⟩
      refine ⟨(by show 2≤sizeLine; decide),fun kl hkl => ?_⟩
      exact r5 one other (decide ((one:Int) + (other:Int) < 12)) kl _ (same_new hkl _) a1 a2 b1 b2 (fun y => by have:=of_decide_eq_true y; omega) upd_same
    · refine ⟨(by show 2≤sizeLine; decide),fun kl hkl => ?_⟩
      exact r5 one other false kl _ (same_new hkl _) a1 a2 b1 b2 (fun y => by cases y) upd_same
  refine ⟨_,pss_cons (ps_set (i := 1) scLaw.nd rfl (Or.inl rfl) (pe_op op_add pe_int (pe_op op_mod (pe_call Gc hr1 rfl Dc.mg Dc.fn.kp Dc.bd .nil pass0 (pa_cons (pv 0) (pa_cons pe_int pa_nil))) pe_int)))
      (pss_cons (ps_set (i := 2) scLaw.nd rfl (Or.inl rfl) (pe_op op_add pe_int (pe_op op_mod (pe_call Gc hr1 rfl Dc.mg Dc.fn.kp Dc.bd .nil pass0 (pa_cons (pv 0) (pa_cons pe_int pa_nil))) pe_int)))
      (pss_cons (ps_if (pt_cmpR op_eq (pe_op op_mod (pe_call Gc hr1 rfl Dc.mg Dc.fn.kp Dc.bd .nil pass0 (pa_cons (pv 0) (pa_cons pe_int pa_nil))) pe_int) pe_int (nomark _)) (pss_cons (ps_set (i := 1) scLaw.nd rfl (Or.inl rfl) (pe_op op_add pe_int (pe_op op_mod (pe_call Gc hr1 rfl Dc.mg Dc.fn.kp Dc.bd .nil pass0 (pa_cons (pv 0) (pa_cons pe_int pa_nil))) pe_int)))
      (pss_one (ps_set (i := 2) scLaw.nd rfl (Or.inl rfl) (pe_op op_sub pe_int (pe_op op_mod (pe_call Gc hr1 rfl Dc.mg Dc.fn.kp Dc.bd .nil pass0 (pa_cons (pv 0) (pa_cons pe_int pa_nil))) pe_int))))) pss_nil)
      p3)),?_⟩
  obtain ⟨o0,eo0,ho0⟩:=mod_nat (x:=Rm.cell ns 0) (n := 6) (by decide)
  obtain ⟨o1,eo1,ho1⟩:=mod_nat (x:=Rm.cell ns 1) (n := 6) (by decide)
  obtain ⟨o2,eo2,ho2⟩:=mod_nat (x:=Rm.cell ns 0) (n := 2) (by decide)
  obtain ⟨o3,eo3,ho3⟩:=mod_nat (x:=Rm.cell ns 1) (n := 2) (by decide)
  refine ⟨_,rfl,a,ns,0,rfl,hS,_,_,rfl,rfl,(by show (0:Int) < _; decide),_,_,rfl,rfl,?_⟩
  refine ⟨_,rfl,a,ns,1,rfl,hS,_,_,rfl,rfl,(by show (0:Int) < _; decide),_,_,rfl,rfl,?_⟩
  refine ⟨_,rfl,a,ns,2,rfl,hS,_,_,rfl,rfl,(by show (0:Int) < _; decide),rfl,_,rfl,?_⟩
  refine ite2 (fun z => ?_) (fun z => ?_)
  · refine ⟨_,rfl,a,ns,0,rfl,hS,_,_,rfl,rfl,(by show (0:Int) < _; decide),_,_,rfl,rfl,?_⟩
    refine ⟨_,rfl,a,ns,1,rfl,hS,_,_,rfl,rfl,(by show (0:Int) < _; decide),_,_,rfl,rfl,?_⟩
    have:=r3 (5 + o2) (6 - o3) (by omega) (by omega) (by omega) (by omega)
    have e1:(5:Int) + Rm.cell ns 0 % 2=((5 + o2:Nat):Int):=by
      have:Rm.cell ns 0 % 2=(o2:Int):=eo2
      omega
    have e2:(6:Int) - Rm.cell ns 1 % 2=((6 - o3:Nat):Int):=by
      have:Rm.cell ns 1 % 2=(o3:Int):=eo3
      omega
    rw [← e2,← e1] at this
    exact this
  · have:=r3 (1 + o0) (1 + o1) (by omega) (by omega) (by omega) (by omega)
    have e1:(1:Int) + Rm.cell ns 0 % 6=((1 + o0:Nat):Int):=by
      have:Rm.cell ns 0 % 6=(o0:Int):=eo0
      omega
    have e2:(1:Int) + Rm.cell ns 1 % 6=((1 + o1:Nat):Int):=by
      have:Rm.cell ns 1 % 6=(o1:Int):=eo1
      omega
    rw [← e2,← e1] at this
    exact this
end
end Toy
namespace Toy
open PySem L2
seal PySem.wpAny
theorem kitCls_ref {K:PySem.W.Frag} {C:Addr} {d:ClassData} {t:Value} {r:Bool} (a:PySem.W.clsIn K C=some d) (b:PySem.W.typeIn K (.ref C)=some (.type "type")) (c:PySem.W.subIn K t (.ref C)=some r):PySem.W.kitCls K t (.ref C)=some r:=by
  show (if ((PySem.W.clsIn K C).isSome && PySem.W.typeIn K (.ref C) == some (.type "type"))=true then PySem.W.subIn K t (.ref C) else none)=some r
  rw [a,b,if_pos (by rw [beq_self_eq_true]; rfl)]
  exact c
theorem kitCls_type {K:PySem.W.Frag} {T:String} {t:Value} {r:Bool} (m:PySem.W.kitMeta T=true) (c:PySem.W.subIn K t (.type T)=some r):PySem.W.kitCls K t (.type T)=some r:=by
  show (if PySem.W.kitMeta T=true then PySem.W.subIn K t (.type T) else none)=some r
  rw [if_pos m]
  exact c
theorem all_mk {l:PySem.W.OpenLaw} {w:World} {K:PySem.W.Frag} {h:Heap} {mg:Str→Option Value} {fa C CF CE CC CT CB:Addr} (X:K.In h) (G:h.Ns mainGlobals mg) (hfa:mg "law" = some (.ref fa))
    {cd_ChartError:ClassData}
    {cd_Clash:ClassData}
    {cd_TooMany:ClassData}
    {cd_BadChart:ClassData}
    {nmX qX:Str} {NX:Addr} {bsX:List Value} {snX:List Str} {subX:List Value} {abX:Bool} {colX:Option Bool} {ddX:Option Addr} {k0X k1X k2X k3X k5X:Option Value}
    {f1:Addr} {od1 an1:Option Addr} {sl1:Array (Option Value)} {oc1 kV1 dc1 pm1 cd1 ct1:Value}
    {f2:Addr} {od2 an2:Option Addr} {sl2:Array (Option Value)} {oc2 kV2 dc2 pm2 cd2 ct2:Value}
    {f3:Addr} {od3 an3:Option Addr} {sl3:Array (Option Value)} {oc3 kV3 dc3 pm3 cd3 ct3:Value}
    {f4:Addr} {od4 an4:Option Addr} {sl4:Array (Option Value)} {oc4 kV4 dc4 pm4 cd4 ct4:Value}
    {f5:Addr} {od5 an5:Option Addr} {sl5:Array (Option Value)} {oc5 kV5 dc5 pm5 cd5 ct5:Value}
    {f6:Addr} {od6 an6:Option Addr} {sl6:Array (Option Value)} {oc6 kV6 dc6 pm6 cd6 ct6:Value}
    {f7:Addr} {od7 an7:Option Addr} {sl7:Array (Option Value)} {oc7 kV7 dc7 pm7 cd7 ct7:Value}
    {f8:Addr} {od8 an8:Option Addr} {sl8:Array (Option Value)} {oc8 kV8 dc8 pm8 cd8 ct8:Value}
    {f9:Addr} {od9 an9:Option Addr} {sl9:Array (Option Value)} {oc9 kV9 dc9 pm9 cd9 ct9:Value}
    {f10:Addr} {od10 an10:Option Addr} {sl10:Array (Option Value)} {oc10 kV10 dc10 pm10 cd10 ct10:Value}
    {f11:Addr} {od11 an11:Option Addr} {sl11:Array (Option Value)} {oc11 kV11 dc11 pm11 cd11 ct11:Value}
    {f12:Addr} {od12 an12:Option Addr} {sl12:Array (Option Value)} {oc12 kV12 dc12 pm12 cd12 ct12:Value}
    {f13:Addr} {od13 an13:Option Addr} {sl13:Array (Option Value)} {oc13 kV13 dc13 pm13 cd13 ct13:Value}
    {f14:Addr} {od14 an14:Option Addr} {sl14:Array (Option Value)} {oc14 kV14 dc14 pm14 cd14 ct14:Value}
    {f15:Addr} {od15 an15:Option Addr} {sl15:Array (Option Value)} {oc15 kV15 dc15 pm15 cd15 ct15:Value}
    {f16:Addr} {od16 an16:Option Addr} {sl16:Array (Option Value)} {oc16 kV16 dc16 pm16 cd16 ct16:Value}
    {f17:Addr} {od17 an17:Option Addr} {sl17:Array (Option Value)} {oc17 kV17 dc17 pm17 cd17 ct17:Value}
    {f18:Addr} {od18 an18:Option Addr} {sl18:Array (Option Value)} {oc18 kV18 dc18 pm18 cd18 ct18:Value}
    {f19:Addr} {od19 an19:Option Addr} {sl19:Array (Option Value)} {oc19 kV19 dc19 pm19 cd19 ct19:Value}
    {f20:Addr} {od20 an20:Option Addr} {sl20:Array (Option Value)} {oc20 kV20 dc20 pm20 cd20 ct20:Value}
    {f21:Addr} {od21 an21:Option Addr} {sl21:Array (Option Value)} {oc21 kV21 dc21 pm21 cd21 ct21:Value}
    {f22:Addr} {od22 an22:Option Addr} {sl22:Array (Option Value)} {oc22 kV22 dc22 pm22 cd22 ct22:Value}
    {f23:Addr} {od23 an23:Option Addr} {sl23:Array (Option Value)} {oc23 kV23 dc23 pm23 cd23 ct23:Value}
    {f24:Addr} {od24 an24:Option Addr} {sl24:Array (Option Value)} {oc24 kV24 dc24 pm24 cd24 ct24:Value}
    {f25:Addr} {od25 an25:Option Addr} {sl25:Array (Option Value)} {oc25 kV25 dc25 pm25 cd25 ct25:Value}
    {f26:Addr} {od26 an26:Option Addr} {sl26:Array (Option Value)} {oc26 kV26 dc26 pm26 cd26 ct26:Value}
    {f27:Addr} {od27 an27:Option Addr} {sl27:Array (Option Value)} {oc27 kV27 dc27 pm27 cd27 ct27:Value}
    {f28:Addr} {od28 an28:Option Addr} {sl28:Array (Option Value)} {oc28 kV28 dc28 pm28 cd28 ct28:Value}
    {f29:Addr} {od29 an29:Option Addr} {sl29:Array (Option Value)} {oc29 kV29 dc29 pm29 cd29 ct29:Value}
    {f30:Addr} {od30 an30:Option Addr} {sl30:Array (Option Value)} {oc30 kV30 dc30 pm30 cd30 ct30:Value}
    {f31:Addr} {od31 an31:Option Addr} {sl31:Array (Option Value)} {oc31 kV31 dc31 pm31 cd31 ct31:Value}
    {f32:Addr} {od32 an32:Option Addr} {sl32:Array (Option Value)} {oc32 kV32 dc32 pm32 cd32 ct32:Value}
    {f33:Addr} {od33 an33:Option Addr} {sl33:Array (Option Value)} {oc33 kV33 dc33 pm33 cd33 ct33:Value}
    {f34:Addr} {od34 an34:Option Addr} {sl34:Array (Option Value)} {oc34 kV34 dc34 pm34 cd34 ct34:Value}
    {f35:Addr} {od35 an35:Option Addr} {sl35:Array (Option Value)} {oc35 kV35 dc35 pm35 cd35 ct35:Value}
    {f36:Addr} {od36 an36:Option Addr} {sl36:Array (Option Value)} {oc36 kV36 dc36 pm36 cd36 ct36:Value}
    {f37:Addr} {od37 an37:Option Addr} {sl37:Array (Option Value)} {oc37 kV37 dc37 pm37 cd37 ct37:Value}
    {f38:Addr} {od38 an38:Option Addr} {sl38:Array (Option Value)} {oc38 kV38 dc38 pm38 cd38 ct38:Value}
    {f39:Addr} {od39 an39:Option Addr} {sl39:Array (Option Value)} {oc39 kV39 dc39 pm39 cd39 ct39:Value}
    {f40:Addr} {od40 an40:Option Addr} {sl40:Array (Option Value)} {oc40 kV40 dc40 pm40 cd40 ct40:Value}
    {f41:Addr} {od41 an41:Option Addr} {sl41:Array (Option Value)} {oc41 kV41 dc41 pm41 cd41 ct41:Value}
    {f42:Addr} {od42 an42:Option Addr} {sl42:Array (Option Value)} {oc42 kV42 dc42 pm42 cd42 ct42:Value}
    {t_HOLDER:Tok}
    {t_KIND:Tok}
    {t_NONE:Tok}
    {t_SOURCE:Tok}
    {t_EVENT:Tok}
    {t_GUARD:Tok}
    {t_TARGET:Tok}
    {t_DEED:Tok}
    {t_LAST_EVENT:Tok}
    {t_LAST_DEED:Tok}
    {t_MOST_ROOMS:Tok}
    {t_MOST_ARROWS:Tok}
    {t_MOST_STATES:Tok}
    {a_CHOOSING:Addr} {d_CHOOSING:Option Addr} {n_CHOOSING:Nat} {s_CHOOSING:Array (Option Value)} {t_CHOOSING_0:Tok} {t_CHOOSING_1:Tok}
    {a_KINDS:Addr} {d_KINDS:Option Addr} {n_KINDS:Nat} {s_KINDS:Array (Option Value)} {t_KINDS_0:Tok} {t_KINDS_1:Tok} {t_KINDS_2:Tok} {t_KINDS_3:Tok}
    (aC:PySem.W.nsIn K mainGlobals "Chart" = some (some (.ref C))) (pg:PySem.W.plainGet K C Str.empty=true) (hd:PySem.W.hasDictIn K C=true) (po:PySem.W.plainOver K C=true) (sa:PySem.W.findIn K (.ref C) "__setattr__" = some (some (.builtin "object.__setattr__"))) (mk:PySem.W.makesIn K C=true) (kc:PySem.W.keepIn K (.ref C)=true)
    (nR:PySem.W.findIn K (.ref C) "rooms" = some none)
    (nA:PySem.W.findIn K (.ref C) "arrows" = some none)
    (aC_Flat:PySem.W.nsIn K mainGlobals "Flat" = some (some (.ref CF))) (pg_Flat:PySem.W.plainGet K CF Str.empty=true) (hd_Flat:PySem.W.hasDictIn K CF=true) (po_Flat:PySem.W.plainOver K CF=true) (sa_Flat:PySem.W.findIn K (.ref CF) "__setattr__" = some (some (.builtin "object.__setattr__"))) (mk_Flat:PySem.W.makesIn K CF=true) (kc_Flat:PySem.W.keepIn K (.ref CF)=true)
    (n_Flat_states:PySem.W.findIn K (.ref CF) "states" = some none)
    (n_Flat_rows:PySem.W.findIn K (.ref CF) "rows" = some none)
    (n_Flat_ways:PySem.W.findIn K (.ref CF) "ways" = some none)
    (aE_ChartError:PySem.W.nsIn K mainGlobals "ChartError" = some (some (.ref CE))) (cc_ChartError:PySem.W.clsIn K CE=some cd_ChartError) (ct_ChartError:PySem.W.typeIn K (.ref CE)=some (.type "type"))
    (aE_Clash:PySem.W.nsIn K mainGlobals "Clash" = some (some (.ref CC))) (cc_Clash:PySem.W.clsIn K CC=some cd_Clash) (ct_Clash:PySem.W.typeIn K (.ref CC)=some (.type "type"))
    (aE_TooMany:PySem.W.nsIn K mainGlobals "TooMany" = some (some (.ref CT))) (cc_TooMany:PySem.W.clsIn K CT=some cd_TooMany) (ct_TooMany:PySem.W.typeIn K (.ref CT)=some (.type "type"))
    (aE_BadChart:PySem.W.nsIn K mainGlobals "BadChart" = some (some (.ref CB))) (cc_BadChart:PySem.W.clsIn K CB=some cd_BadChart) (ct_BadChart:PySem.W.typeIn K (.ref CB)=some (.type "type"))
    (cs_Clash_Clash:PySem.W.subIn K (.ref CC) (.ref CC)=some true)
    (cs_TooMany_ChartError:PySem.W.subIn K (.ref CT) (.ref CE)=some true)
    (cs_TooMany_Clash:PySem.W.subIn K (.ref CT) (.ref CC)=some false)
    (cs_TooMany_BadChart:PySem.W.subIn K (.ref CT) (.ref CB)=some false)
    (cs_TooMany_TooMany:PySem.W.subIn K (.ref CT) (.ref CT)=some true)
    (st_ChartError_BaseException:PySem.W.subIn K (.ref CE) (.type "BaseException")=some true)
    (st_Clash_BaseException:PySem.W.subIn K (.ref CC) (.type "BaseException")=some true)
    (st_TooMany_BaseException:PySem.W.subIn K (.ref CT) (.type "BaseException")=some true)
    (st_BadChart_BaseException:PySem.W.subIn K (.ref CB) (.type "BaseException")=some true)
    (st_TooMany_ValueError:PySem.W.subIn K (.ref CT) (.type "ValueError")=some true)
    (ex_ChartError:PySem.W.excIn K CE bmV "ValueError.__new__" = true)
    (ex_TooMany:PySem.W.excIn K CT bmV "ValueError.__new__" = true)
    (lkX:K.lookup CC=some (excClassObj nmX qX CC NX bsX (.ref CE :: bmV) true snX subX abX colX ddX k0X k1X k2X k3X k5X "ValueError.__new__"))
    (kpX:PySem.W.keepIn K (.ref CC)=true)
    (saX:PySem.W.findIn K (.ref CC) "__setattr__" = some (some (.builtin "object.__setattr__")))
    (obX:PySem.W.mroIn K CC (.type "object")=some true)
    (bxX:PySem.W.mroIn K CC (.type "BaseException")=some true)
    (hdX:PySem.W.hasDictIn K CC=true)
    (gaX:PySem.W.findIn K (.ref CC) "__getattribute__" = some (some (.builtin "BaseException.__getattribute__")))
    (gtX:PySem.W.findIn K (.ref CC) "__getattr__" = some none)
    (rdX:PySem.W.readsIn K CE (.type "type")=true)
    (fcX:PySem.W.findCls K (.ref CE) (.type "type") "__init__" = some (.val (.builtin "ValueError.__init__")))
    (sgX:PySem.W.specialIn K (.ref CE) "__getattribute__" = some (some (.builtin "type.__getattribute__")))
    (evX:PySem.W.findIn K (.ref CC) "events" = some none)
    (fiX:PySem.W.findIn K (.ref CC) "first" = some none)
    (seX:PySem.W.findIn K (.ref CC) "second" = some none)
    (a1:PySem.W.findIn K (.ref C) "__init__" = some (some (.ref f1))) (i1:PySem.W.isFn K (.ref f1)=true)
    (l1:K.lookup f1=some ⟨oc1,od1,.func (PySem.W.fnOf "__init__" "Chart.__init__" (defArgs sInit) (defBody sInit) (defScope sInit) .none kV1 dc1 pm1 an1 cd1 ct1),sl1⟩) (c1:PySem.W.codeIn K cd1 "Chart.__init__" = true) (k1:PySem.W.keepIn K (.ref f1)=true)
    (a2:PySem.W.nsIn K mainGlobals "check_rooms" = some (some (.ref f2)))
    (l2:K.lookup f2=some ⟨oc2,od2,.func (PySem.W.fnOf "check_rooms" "check_rooms" (defArgs sCheckRooms) (defBody sCheckRooms) (defScope sCheckRooms) .none kV2 dc2 pm2 an2 cd2 ct2),sl2⟩) (c2:PySem.W.codeIn K cd2 "check_rooms" = true) (k2:PySem.W.keepIn K (.ref f2)=true)
    (a3:PySem.W.nsIn K mainGlobals "check_holder" = some (some (.ref f3)))
    (l3:K.lookup f3=some ⟨oc3,od3,.func (PySem.W.fnOf "check_holder" "check_holder" (defArgs sCheckHolder) (defBody sCheckHolder) (defScope sCheckHolder) .none kV3 dc3 pm3 an3 cd3 ct3),sl3⟩) (c3:PySem.W.codeIn K cd3 "check_holder" = true) (k3:PySem.W.keepIn K (.ref f3)=true)
    (a4:PySem.W.nsIn K mainGlobals "check_kind" = some (some (.ref f4)))
    (l4:K.lookup f4=some ⟨oc4,od4,.func (PySem.W.fnOf "check_kind" "check_kind" (defArgs sCheckKind) (defBody sCheckKind) (defScope sCheckKind) .none kV4 dc4 pm4 an4 cd4 ct4),sl4⟩) (c4:PySem.W.codeIn K cd4 "check_kind" = true) (k4:PySem.W.keepIn K (.ref f4)=true)
    (a5:PySem.W.nsIn K mainGlobals "check_arrows" = some (some (.ref f5)))
    (l5:K.lookup f5=some ⟨oc5,od5,.func (PySem.W.fnOf "check_arrows" "check_arrows" (defArgs sCheckArrows) (defBody sCheckArrows) (defScope sCheckArrows) .none kV5 dc5 pm5 an5 cd5 ct5),sl5⟩) (c5:PySem.W.codeIn K cd5 "check_arrows" = true) (k5:PySem.W.keepIn K (.ref f5)=true)
    (a6:PySem.W.nsIn K mainGlobals "check_arrow" = some (some (.ref f6)))
    (l6:K.lookup f6=some ⟨oc6,od6,.func (PySem.W.fnOf "check_arrow" "check_arrow" (defArgs sCheckArrow) (defBody sCheckArrow) (defScope sCheckArrow) .none kV6 dc6 pm6 an6 cd6 ct6),sl6⟩) (c6:PySem.W.codeIn K cd6 "check_arrow" = true) (k6:PySem.W.keepIn K (.ref f6)=true)
    (a7:PySem.W.nsIn K mainGlobals "check_part" = some (some (.ref f7)))
    (l7:K.lookup f7=some ⟨oc7,od7,.func (PySem.W.fnOf "check_part" "check_part" (defArgs sPart) (defBody sPart) (defScope sPart) .none kV7 dc7 pm7 an7 cd7 ct7),sl7⟩) (c7:PySem.W.codeIn K cd7 "check_part" = true) (k7:PySem.W.keepIn K (.ref f7)=true)
    (a8:PySem.W.nsIn K mainGlobals "children" = some (some (.ref f8)))
    (l8:K.lookup f8=some ⟨oc8,od8,.func (PySem.W.fnOf "children" "children" (defArgs sChildren) (defBody sChildren) (defScope sChildren) .none kV8 dc8 pm8 an8 cd8 ct8),sl8⟩) (c8:PySem.W.codeIn K cd8 "children" = true) (k8:PySem.W.keepIn K (.ref f8)=true)
    (a9:PySem.W.nsIn K mainGlobals "within" = some (some (.ref f9)))
    (l9:K.lookup f9=some ⟨oc9,od9,.func (PySem.W.fnOf "within" "within" (defArgs sWithin) (defBody sWithin) (defScope sWithin) .none kV9 dc9 pm9 an9 cd9 ct9),sl9⟩) (c9:PySem.W.codeIn K cd9 "within" = true) (k9:PySem.W.keepIn K (.ref f9)=true)
    (a10:PySem.W.nsIn K mainGlobals "lies_in" = some (some (.ref f10)))
    (l10:K.lookup f10=some ⟨oc10,od10,.func (PySem.W.fnOf "lies_in" "lies_in" (defArgs sLies) (defBody sLies) (defScope sLies) .none kV10 dc10 pm10 an10 cd10 ct10),sl10⟩) (c10:PySem.W.codeIn K cd10 "lies_in" = true) (k10:PySem.W.keepIn K (.ref f10)=true)
    (a11:PySem.W.nsIn K mainGlobals "scope" = some (some (.ref f11)))
    (l11:K.lookup f11=some ⟨oc11,od11,.func (PySem.W.fnOf "scope" "scope" (defArgs sScope) (defBody sScope) (defScope sScope) .none kV11 dc11 pm11 an11 cd11 ct11),sl11⟩) (c11:PySem.W.codeIn K cd11 "scope" = true) (k11:PySem.W.keepIn K (.ref f11)=true)
    (a12:PySem.W.nsIn K mainGlobals "started" = some (some (.ref f12)))
    (l12:K.lookup f12=some ⟨oc12,od12,.func (PySem.W.fnOf "started" "started" (defArgs sStarted) (defBody sStarted) (defScope sStarted) .none kV12 dc12 pm12 an12 cd12 ct12),sl12⟩) (c12:PySem.W.codeIn K cd12 "started" = true) (k12:PySem.W.keepIn K (.ref f12)=true)
    (a13:PySem.W.nsIn K mainGlobals "first_memory" = some (some (.ref f13)))
    (l13:K.lookup f13=some ⟨oc13,od13,.func (PySem.W.fnOf "first_memory" "first_memory" (defArgs sFirstMem) (defBody sFirstMem) (defScope sFirstMem) .none kV13 dc13 pm13 an13 cd13 ct13),sl13⟩) (c13:PySem.W.codeIn K cd13 "first_memory" = true) (k13:PySem.W.keepIn K (.ref f13)=true)
    (a14:PySem.W.nsIn K mainGlobals "rising" = some (some (.ref f14)))
    (l14:K.lookup f14=some ⟨oc14,od14,.func (PySem.W.fnOf "rising" "rising" (defArgs sRising) (defBody sRising) (defScope sRising) .none kV14 dc14 pm14 an14 cd14 ct14),sl14⟩) (c14:PySem.W.codeIn K cd14 "rising" = true) (k14:PySem.W.keepIn K (.ref f14)=true)
    (a15:PySem.W.nsIn K mainGlobals "entered" = some (some (.ref f15)))
    (l15:K.lookup f15=some ⟨oc15,od15,.func (PySem.W.fnOf "entered" "entered" (defArgs sEntered) (defBody sEntered) (defScope sEntered) .none kV15 dc15 pm15 an15 cd15 ct15),sl15⟩) (c15:PySem.W.codeIn K cd15 "entered" = true) (k15:PySem.W.keepIn K (.ref f15)=true)
    (a16:PySem.W.nsIn K mainGlobals "chosen" = some (some (.ref f16)))
    (l16:K.lookup f16=some ⟨oc16,od16,.func (PySem.W.fnOf "chosen" "chosen" (defArgs sChosen) (defBody sChosen) (defScope sChosen) .none kV16 dc16 pm16 an16 cd16 ct16),sl16⟩) (c16:PySem.W.codeIn K cd16 "chosen" = true) (k16:PySem.W.keepIn K (.ref f16)=true)
    (a17:PySem.W.nsIn K mainGlobals "takeable" = some (some (.ref f17)))
    (l17:K.lookup f17=some ⟨oc17,od17,.func (PySem.W.fnOf "takeable" "takeable" (defArgs sTakeable) (defBody sTakeable) (defScope sTakeable) .none kV17 dc17 pm17 an17 cd17 ct17),sl17⟩) (c17:PySem.W.codeIn K cd17 "takeable" = true) (k17:PySem.W.keepIn K (.ref f17)=true)
    (a18:PySem.W.nsIn K mainGlobals "open_arrows" = some (some (.ref f18)))
    (l18:K.lookup f18=some ⟨oc18,od18,.func (PySem.W.fnOf "open_arrows" "open_arrows" (defArgs sOpenArrows) (defBody sOpenArrows) (defScope sOpenArrows) .none kV18 dc18 pm18 an18 cd18 ct18),sl18⟩) (c18:PySem.W.codeIn K cd18 "open_arrows" = true) (k18:PySem.W.keepIn K (.ref f18)=true)
    (a19:PySem.W.nsIn K mainGlobals "is_open" = some (some (.ref f19)))
    (l19:K.lookup f19=some ⟨oc19,od19,.func (PySem.W.fnOf "is_open" "is_open" (defArgs sIsOpen) (defBody sIsOpen) (defScope sIsOpen) .none kV19 dc19 pm19 an19 cd19 ct19),sl19⟩) (c19:PySem.W.codeIn K cd19 "is_open" = true) (k19:PySem.W.keepIn K (.ref f19)=true)
    (a20:PySem.W.nsIn K mainGlobals "overruled" = some (some (.ref f20)))
    (l20:K.lookup f20=some ⟨oc20,od20,.func (PySem.W.fnOf "overruled" "overruled" (defArgs sOver) (defBody sOver) (defScope sOver) .none kV20 dc20 pm20 an20 cd20 ct20),sl20⟩) (c20:PySem.W.codeIn K cd20 "overruled" = true) (k20:PySem.W.keepIn K (.ref f20)=true)
    (a21:PySem.W.nsIn K mainGlobals "clash_of" = some (some (.ref f21)))
    (l21:K.lookup f21=some ⟨oc21,od21,.func (PySem.W.fnOf "clash_of" "clash_of" (defArgs sClashOf) (defBody sClashOf) (defScope sClashOf) .none kV21 dc21 pm21 an21 cd21 ct21),sl21⟩) (c21:PySem.W.codeIn K cd21 "clash_of" = true) (k21:PySem.W.keepIn K (.ref f21)=true)
    (a22:PySem.W.nsIn K mainGlobals "clashing" = some (some (.ref f22)))
    (l22:K.lookup f22=some ⟨oc22,od22,.func (PySem.W.fnOf "clashing" "clashing" (defArgs sClashing) (defBody sClashing) (defScope sClashing) .none kV22 dc22 pm22 an22 cd22 ct22),sl22⟩) (c22:PySem.W.codeIn K cd22 "clashing" = true) (k22:PySem.W.keepIn K (.ref f22)=true)
    (a23:PySem.W.nsIn K mainGlobals "arrow_scope" = some (some (.ref f23)))
    (l23:K.lookup f23=some ⟨oc23,od23,.func (PySem.W.fnOf "arrow_scope" "arrow_scope" (defArgs sAScope) (defBody sAScope) (defScope sAScope) .none kV23 dc23 pm23 an23 cd23 ct23),sl23⟩) (c23:PySem.W.codeIn K cd23 "arrow_scope" = true) (k23:PySem.W.keepIn K (.ref f23)=true)
    (a24:PySem.W.nsIn K mainGlobals "stepped" = some (some (.ref f24)))
    (l24:K.lookup f24=some ⟨oc24,od24,.func (PySem.W.fnOf "stepped" "stepped" (defArgs sStepped) (defBody sStepped) (defScope sStepped) .none kV24 dc24 pm24 an24 cd24 ct24),sl24⟩) (c24:PySem.W.codeIn K cd24 "stepped" = true) (k24:PySem.W.keepIn K (.ref f24)=true)
    (a25:PySem.W.nsIn K mainGlobals "moved" = some (some (.ref f25)))
    (l25:K.lookup f25=some ⟨oc25,od25,.func (PySem.W.fnOf "moved" "moved" (defArgs sMoved) (defBody sMoved) (defScope sMoved) .none kV25 dc25 pm25 an25 cd25 ct25),sl25⟩) (c25:PySem.W.codeIn K cd25 "moved" = true) (k25:PySem.W.keepIn K (.ref f25)=true)
    (a26:PySem.W.nsIn K mainGlobals "remembered" = some (some (.ref f26)))
    (l26:K.lookup f26=some ⟨oc26,od26,.func (PySem.W.fnOf "remembered" "remembered" (defArgs sRemembered) (defBody sRemembered) (defScope sRemembered) .none kV26 dc26 pm26 an26 cd26 ct26),sl26⟩) (c26:PySem.W.codeIn K cd26 "remembered" = true) (k26:PySem.W.keepIn K (.ref f26)=true)
    (a27:PySem.W.nsIn K mainGlobals "step_behind" = some (some (.ref f27)))
    (l27:K.lookup f27=some ⟨oc27,od27,.func (PySem.W.fnOf "step_behind" "step_behind" (defArgs sStepB) (defBody sStepB) (defScope sStepB) .none kV27 dc27 pm27 an27 cd27 ct27),sl27⟩) (c27:PySem.W.codeIn K cd27 "step_behind" = true) (k27:PySem.W.keepIn K (.ref f27)=true)
    (a28:PySem.W.nsIn K mainGlobals "_law_cell_at" = some (some (.ref f28)))
    (l28:K.lookup f28=some ⟨oc28,od28,.func (PySem.W.fnOf "_law_cell_at" "_law_cell_at" (defArgs sCell) (defBody sCell) (defScope sCell) .none kV28 dc28 pm28 an28 cd28 ct28),sl28⟩) (c28:PySem.W.codeIn K cd28 "_law_cell_at" = true) (k28:PySem.W.keepIn K (.ref f28)=true)
    (a29:PySem.W.nsIn K mainGlobals "_law_row" = some (some (.ref f29)))
    (l29:K.lookup f29=some ⟨oc29,od29,.func (PySem.W.fnOf "_law_row" "_law_row" (defArgs sRow) (defBody sRow) (defScope sRow) .none kV29 dc29 pm29 an29 cd29 ct29),sl29⟩) (c29:PySem.W.codeIn K cd29 "_law_row" = true) (k29:PySem.W.keepIn K (.ref f29)=true)
    (a30:PySem.W.nsIn K mainGlobals "_law_same_state" = some (some (.ref f30)))
    (l30:K.lookup f30=some ⟨oc30,od30,.func (PySem.W.fnOf "_law_same_state" "_law_same_state" (defArgs sSame) (defBody sSame) (defScope sSame) .none kV30 dc30 pm30 an30 cd30 ct30),sl30⟩) (c30:PySem.W.codeIn K cd30 "_law_same_state" = true) (k30:PySem.W.keepIn K (.ref f30)=true)
    (a31:PySem.W.nsIn K mainGlobals "law" = some (some (.ref f31)))
    (l31:K.lookup f31=some ⟨oc31,od31,.func (PySem.W.fnOf "law" "law" (defArgs sLaw) (defBody sLaw) (defScope sLaw) .none kV31 dc31 pm31 an31 cd31 ct31),sl31⟩) (c31:PySem.W.codeIn K cd31 "law" = true) (k31:PySem.W.keepIn K (.ref f31)=true)
    (a32:PySem.W.findIn K (.ref CC) "__init__" = some (some (.ref f32))) (i32:PySem.W.isFn K (.ref f32)=true)
    (l32:K.lookup f32=some ⟨oc32,od32,.func (PySem.W.fnOf "__init__" "Clash.__init__" (defArgs sClash) (defBody sClash) (defScope sClash) .none kV32 dc32 pm32 an32 cd32 ct32),sl32⟩) (c32:PySem.W.codeIn K cd32 "Clash.__init__" = true) (k32:PySem.W.keepIn K (.ref f32)=true)
    (a33:PySem.W.findIn K (.ref CF) "__init__" = some (some (.ref f33))) (i33:PySem.W.isFn K (.ref f33)=true)
    (l33:K.lookup f33=some ⟨oc33,od33,.func (PySem.W.fnOf "__init__" "Flat.__init__" (defArgs sFInit) (defBody sFInit) (defScope sFInit) .none kV33 dc33 pm33 an33 cd33 ct33),sl33⟩) (c33:PySem.W.codeIn K cd33 "Flat.__init__" = true) (k33:PySem.W.keepIn K (.ref f33)=true)
    (a34:PySem.W.nsIn K mainGlobals "folded" = some (some (.ref f34)))
    (l34:K.lookup f34=some ⟨oc34,od34,.func (PySem.W.fnOf "folded" "folded" (defArgs sFolded) (defBody sFolded) (defScope sFolded) .none kV34 dc34 pm34 an34 cd34 ct34),sl34⟩) (c34:PySem.W.codeIn K cd34 "folded" = true) (k34:PySem.W.keepIn K (.ref f34)=true)
    (a35:PySem.W.nsIn K mainGlobals "check_one_more" = some (some (.ref f35)))
    (l35:K.lookup f35=some ⟨oc35,od35,.func (PySem.W.fnOf "check_one_more" "check_one_more" (defArgs sMore) (defBody sMore) (defScope sMore) .none kV35 dc35 pm35 an35 cd35 ct35),sl35⟩) (c35:PySem.W.codeIn K cd35 "check_one_more" = true) (k35:PySem.W.keepIn K (.ref f35)=true)
    (a36:PySem.W.nsIn K mainGlobals "_law_entries" = some (some (.ref f36)))
    (l36:K.lookup f36=some ⟨oc36,od36,.func (PySem.W.fnOf "_law_entries" "_law_entries" (defArgs sEntries) (defBody sEntries) (defScope sEntries) .none kV36 dc36 pm36 an36 cd36 ct36),sl36⟩) (c36:PySem.W.codeIn K cd36 "_law_entries" = true) (k36:PySem.W.keepIn K (.ref f36)=true)
    (a37:PySem.W.nsIn K mainGlobals "_law_halls" = some (some (.ref f37)))
    (l37:K.lookup f37=some ⟨oc37,od37,.func (PySem.W.fnOf "_law_halls" "_law_halls" (defArgs sHalls) (defBody sHalls) (defScope sHalls) .none kV37 dc37 pm37 an37 cd37 ct37),sl37⟩) (c37:PySem.W.codeIn K cd37 "_law_halls" = true) (k37:PySem.W.keepIn K (.ref f37)=true)
    (a38:PySem.W.nsIn K mainGlobals "_law_gone_on" = some (some (.ref f38)))
    (l38:K.lookup f38=some ⟨oc38,od38,.func (PySem.W.fnOf "_law_gone_on" "_law_gone_on" (defArgs sGon) (defBody sGon) (defScope sGon) .none kV38 dc38 pm38 an38 cd38 ct38),sl38⟩) (c38:PySem.W.codeIn K cd38 "_law_gone_on" = true) (k38:PySem.W.keepIn K (.ref f38)=true)
    (a39:PySem.W.nsIn K mainGlobals "_law_walk" = some (some (.ref f39)))
    (l39:K.lookup f39=some ⟨oc39,od39,.func (PySem.W.fnOf "_law_walk" "_law_walk" (defArgs sWalk) (defBody sWalk) (defScope sWalk) .none kV39 dc39 pm39 an39 cd39 ct39),sl39⟩) (c39:PySem.W.codeIn K cd39 "_law_walk" = true) (k39:PySem.W.keepIn K (.ref f39)=true)
    (a40:PySem.W.nsIn K mainGlobals "_law_state_of" = some (some (.ref f40)))
    (l40:K.lookup f40=some ⟨oc40,od40,.func (PySem.W.fnOf "_law_state_of" "_law_state_of" (defArgs sStateOf) (defBody sStateOf) (defScope sStateOf) .none kV40 dc40 pm40 an40 cd40 ct40),sl40⟩) (c40:PySem.W.codeIn K cd40 "_law_state_of" = true) (k40:PySem.W.keepIn K (.ref f40)=true)
    (a41:PySem.W.nsIn K mainGlobals "_law_found_in" = some (some (.ref f41)))
    (l41:K.lookup f41=some ⟨oc41,od41,.func (PySem.W.fnOf "_law_found_in" "_law_found_in" (defArgs sFoundIn) (defBody sFoundIn) (defScope sFoundIn) .none kV41 dc41 pm41 an41 cd41 ct41),sl41⟩) (c41:PySem.W.codeIn K cd41 "_law_found_in" = true) (k41:PySem.W.keepIn K (.ref f41)=true)
    (a42:PySem.W.nsIn K mainGlobals "_law_any_refusal" = some (some (.ref f42)))
    (l42:K.lookup f42=some ⟨oc42,od42,.func (PySem.W.fnOf "_law_any_refusal" "_law_any_refusal" (defArgs sAnyR) (defBody sAnyR) (defScope sAnyR) .none kV42 dc42 pm42 an42 cd42 ct42),sl42⟩) (c42:PySem.W.codeIn K cd42 "_law_any_refusal" = true) (k42:PySem.W.keepIn K (.ref f42)=true)
    (z_len:PySem.W.nsIn K mainGlobals "len" = some none)
    (z_range:PySem.W.nsIn K mainGlobals "range" = some none)
    (z_list:PySem.W.nsIn K mainGlobals "list" = some none)
    (z_isinstance:PySem.W.nsIn K mainGlobals "isinstance" = some none)
    (z_bool:PySem.W.nsIn K mainGlobals "bool" = some none)
    (z_int:PySem.W.nsIn K mainGlobals "int" = some none)
    (z_tuple:PySem.W.nsIn K mainGlobals "tuple" = some none)
    (z_sorted:PySem.W.nsIn K mainGlobals "sorted" = some none)
    (z_enumerate:PySem.W.nsIn K mainGlobals "enumerate" = some none)
    (z_ValueError:PySem.W.nsIn K mainGlobals "ValueError" = some none)
    (g_HOLDER:PySem.W.nsIn K mainGlobals "HOLDER" = some (some (.int (0) t_HOLDER)))
    (g_KIND:PySem.W.nsIn K mainGlobals "KIND" = some (some (.int (1) t_KIND)))
    (g_NONE:PySem.W.nsIn K mainGlobals "NONE" = some (some (.int (-1) t_NONE)))
    (g_SOURCE:PySem.W.nsIn K mainGlobals "SOURCE" = some (some (.int (0) t_SOURCE)))
    (g_EVENT:PySem.W.nsIn K mainGlobals "EVENT" = some (some (.int (1) t_EVENT)))
    (g_GUARD:PySem.W.nsIn K mainGlobals "GUARD" = some (some (.int (2) t_GUARD)))
    (g_TARGET:PySem.W.nsIn K mainGlobals "TARGET" = some (some (.int (3) t_TARGET)))
    (g_DEED:PySem.W.nsIn K mainGlobals "DEED" = some (some (.int (4) t_DEED)))
    (g_LAST_EVENT:PySem.W.nsIn K mainGlobals "LAST_EVENT" = some (some (.int (3) t_LAST_EVENT)))
    (g_LAST_DEED:PySem.W.nsIn K mainGlobals "LAST_DEED" = some (some (.int (99) t_LAST_DEED)))
    (g_MOST_ROOMS:PySem.W.nsIn K mainGlobals "MOST_ROOMS" = some (some (.int (16) t_MOST_ROOMS)))
    (g_MOST_ARROWS:PySem.W.nsIn K mainGlobals "MOST_ARROWS" = some (some (.int (20) t_MOST_ARROWS)))
    (g_MOST_STATES:PySem.W.nsIn K mainGlobals "MOST_STATES" = some (some (.int (30) t_MOST_STATES)))
    (g_CHOOSING:PySem.W.nsIn K mainGlobals "CHOOSING" = some (some (.ref a_CHOOSING))) (o_CHOOSING:K.lookup a_CHOOSING=some ⟨.type "tuple",d_CHOOSING,.seq #[.str "one" t_CHOOSING_0,.str "keep" t_CHOOSING_1] n_CHOOSING,s_CHOOSING⟩)
    (g_KINDS:PySem.W.nsIn K mainGlobals "KINDS" = some (some (.ref a_KINDS))) (o_KINDS:K.lookup a_KINDS=some ⟨.type "tuple",d_KINDS,.seq #[.str "plain" t_KINDS_0,.str "one" t_KINDS_1,.str "all" t_KINDS_2,.str "keep" t_KINDS_3] n_KINDS,s_KINDS⟩)
    (kt_list_list:PySem.W.kitOne K (.type "list") (.type "list")=some true)
    (kt_bool_bool:PySem.W.kitOne K (.type "bool") (.type "bool")=some true)
    (kt_int_int:PySem.W.kitOne K (.type "int") (.type "int")=some true)
    (kt_int_bool:PySem.W.kitOne K (.type "int") (.type "bool")=some false)
    (kt_tuple_tuple:PySem.W.kitOne K (.type "tuple") (.type "tuple")=some true)
    : ∃ fd:FuncData,(∀ (s:Shared) (v:Value),BindsTo s fd ⟨[v],[]⟩ [("script",v)])∧∀ base:Heap,K.In base→base.Ns mainGlobals mg→FnOk l.prog w K mg base CX0 25 fa fd ["script"] (spLaw K):=by
  have e:=hfa.symm.trans (PySem.W.mg_of X G a31)
  cases e
  have F1:=fun_mk (st:=sInit) l1 c1 k1
  have b1:=F1.binds (ps:=["self", "rooms", "arrows"]) fun _ _ _ _ _ _ us hl => match us,hl with | [_,_,_],_ => rfl
  have F2:=fun_mk (st:=sCheckRooms) l2 c2 k2
  have b2:=F2.binds (ps:=["chart"]) fun _ _ _ _ _ _ us hl => match us,hl with | [_],_ => rfl
  have D2:DefAt K mg "check_rooms" sCheckRooms ["chart"] _ _:=⟨F2,b2,PySem.W.mg_of X G a2⟩
  have F3:=fun_mk (st:=sCheckHolder) l3 c3 k3
  have b3:=F3.binds (ps:=["chart", "room"]) fun _ _ _ _ _ _ us hl => match us,hl with | [_,_],_ => rfl
  have D3:DefAt K mg "check_holder" sCheckHolder ["chart", "room"] _ _:=⟨F3,b3,PySem.W.mg_of X G a3⟩
  have F4:=fun_mk (st:=sCheckKind) l4 c4 k4
  have b4:=F4.binds (ps:=["chart", "room"]) fun _ _ _ _ _ _ us hl => match us,hl with | [_,_],_ => rfl
  have D4:DefAt K mg "check_kind" sCheckKind ["chart", "room"] _ _:=⟨F4,b4,PySem.W.mg_of X G a4⟩
  have F5:=fun_mk (st:=sCheckArrows) l5 c5 k5
  have b5:=F5.binds (ps:=["chart"]) fun _ _ _ _ _ _ us hl => match us,hl with | [_],_ => rfl
  have D5:DefAt K mg "check_arrows" sCheckArrows ["chart"] _ _:=⟨F5,b5,PySem.W.mg_of X G a5⟩
  have F6:=fun_mk (st:=sCheckArrow) l6 c6 k6
  have b6:=F6.binds (ps:=["chart", "number"]) fun _ _ _ _ _ _ us hl => match us,hl with | [_,_],_ => rfl
  have D6:DefAt K mg "check_arrow" sCheckArrow ["chart", "number"] _ _:=⟨F6,b6,PySem.W.mg_of X G a6⟩
  have F7:=fun_mk (st:=sPart) l7 c7 k7
  have b7:=F7.binds (ps:=["number", "name", "part", "least", "most"]) fun _ _ _ _ _ _ us hl => match us,hl with | [_,_,_,_,_],_ => rfl
  have D7:DefAt K mg "check_part" sPart ["number", "name", "part", "least", "most"] _ _:=⟨F7,b7,PySem.W.mg_of X G a7⟩
  have F8:=fun_mk (st:=sChildren) l8 c8 k8
  have b8:=F8.binds (ps:=["chart", "room"]) fun _ _ _ _ _ _ us hl => match us,hl with | [_,_],_ => rfl
  have D8:DefAt K mg "children" sChildren ["chart", "room"] _ _:=⟨F8,b8,PySem.W.mg_of X G a8⟩
  have F9:=fun_mk (st:=sWithin) l9 c9 k9
  have b9:=F9.binds (ps:=["chart", "room", "other"]) fun _ _ _ _ _ _ us hl => match us,hl with | [_,_,_],_ => rfl
  have D9:DefAt K mg "within" sWithin ["chart", "room", "other"] _ _:=⟨F9,b9,PySem.W.mg_of X G a9⟩
  have F10:=fun_mk (st:=sLies) l10 c10 k10
  have b10:=F10.binds (ps:=["chart", "room", "other"]) fun _ _ _ _ _ _ us hl => match us,hl with | [_,_,_],_ => rfl
  have D10:DefAt K mg "lies_in" sLies ["chart", "room", "other"] _ _:=⟨F10,b10,PySem.W.mg_of X G a10⟩
  have F11:=fun_mk (st:=sScope) l11 c11 k11
  have b11:=F11.binds (ps:=["chart", "source", "target"]) fun _ _ _ _ _ _ us hl => match us,hl with | [_,_,_],_ => rfl
  have D11:DefAt K mg "scope" sScope ["chart", "source", "target"] _ _:=⟨F11,b11,PySem.W.mg_of X G a11⟩
  have F12:=fun_mk (st:=sStarted) l12 c12 k12
  have b12:=F12.binds (ps:=["chart"]) fun _ _ _ _ _ _ us hl => match us,hl with | [_],_ => rfl
  have D12:DefAt K mg "started" sStarted ["chart"] _ _:=⟨F12,b12,PySem.W.mg_of X G a12⟩
  have F13:=fun_mk (st:=sFirstMem) l13 c13 k13
  have b13:=F13.binds (ps:=["chart"]) fun _ _ _ _ _ _ us hl => match us,hl with | [_],_ => rfl
  have D13:DefAt K mg "first_memory" sFirstMem ["chart"] _ _:=⟨F13,b13,PySem.W.mg_of X G a13⟩
  have F14:=fun_mk (st:=sRising) l14 c14 k14
  have b14:=F14.binds (ps:=["rooms"]) fun _ _ _ _ _ _ us hl => match us,hl with | [_],_ => rfl
  have D14:DefAt K mg "rising" sRising ["rooms"] _ _:=⟨F14,b14,PySem.W.mg_of X G a14⟩
  have F15:=fun_mk (st:=sEntered) l15 c15 k15
  have b15:=F15.binds (ps:=["chart", "room", "goal", "memory"]) fun _ _ _ _ _ _ us hl => match us,hl with | [_,_,_,_],_ => rfl
  have D15:DefAt K mg "entered" sEntered ["chart", "room", "goal", "memory"] _ _:=⟨F15,b15,PySem.W.mg_of X G a15⟩
  have F16:=fun_mk (st:=sChosen) l16 c16 k16
  have b16:=F16.binds (ps:=["chart", "room", "goal", "memory"]) fun _ _ _ _ _ _ us hl => match us,hl with | [_,_,_,_],_ => rfl
  have D16:DefAt K mg "chosen" sChosen ["chart", "room", "goal", "memory"] _ _:=⟨F16,b16,PySem.W.mg_of X G a16⟩
  have F17:=fun_mk (st:=sTakeable) l17 c17 k17
  have b17:=F17.binds (ps:=["chart", "kept", "event"]) fun _ _ _ _ _ _ us hl => match us,hl with | [_,_,_],_ => rfl
  have D17:DefAt K mg "takeable" sTakeable ["chart", "kept", "event"] _ _:=⟨F17,b17,PySem.W.mg_of X G a17⟩
  have F18:=fun_mk (st:=sOpenArrows) l18 c18 k18
  have b18:=F18.binds (ps:=["chart", "kept", "event"]) fun _ _ _ _ _ _ us hl => match us,hl with | [_,_,_],_ => rfl
  have D18:DefAt K mg "open_arrows" sOpenArrows ["chart", "kept", "event"] _ _:=⟨F18,b18,PySem.W.mg_of X G a18⟩
  have F19:=fun_mk (st:=sIsOpen) l19 c19 k19
  have b19:=F19.binds (ps:=["arrow", "kept", "event"]) fun _ _ _ _ _ _ us hl => match us,hl with | [_,_,_],_ => rfl
  have D19:DefAt K mg "is_open" sIsOpen ["arrow", "kept", "event"] _ _:=⟨F19,b19,PySem.W.mg_of X G a19⟩
  have F20:=fun_mk (st:=sOver) l20 c20 k20
  have b20:=F20.binds (ps:=["chart", "number", "ready"]) fun _ _ _ _ _ _ us hl => match us,hl with | [_,_,_],_ => rfl
  have D20:DefAt K mg "overruled" sOver ["chart", "number", "ready"] _ _:=⟨F20,b20,PySem.W.mg_of X G a20⟩
  have F21:=fun_mk (st:=sClashOf) l21 c21 k21
  have b21:=F21.binds (ps:=["chart", "numbers"]) fun _ _ _ _ _ _ us hl => match us,hl with | [_,_],_ => rfl
  have D21:DefAt K mg "clash_of" sClashOf ["chart", "numbers"] _ _:=⟨F21,b21,PySem.W.mg_of X G a21⟩
  have F22:=fun_mk (st:=sClashing) l22 c22 k22
  have b22:=F22.binds (ps:=["chart", "first", "second"]) fun _ _ _ _ _ _ us hl => match us,hl with | [_,_,_],_ => rfl
  have D22:DefAt K mg "clashing" sClashing ["chart", "first", "second"] _ _:=⟨F22,b22,PySem.W.mg_of X G a22⟩
  have F23:=fun_mk (st:=sAScope) l23 c23 k23
  have b23:=F23.binds (ps:=["chart", "number"]) fun _ _ _ _ _ _ us hl => match us,hl with | [_,_],_ => rfl
  have D23:DefAt K mg "arrow_scope" sAScope ["chart", "number"] _ _:=⟨F23,b23,PySem.W.mg_of X G a23⟩
  have F24:=fun_mk (st:=sStepped) l24 c24 k24
  have b24:=F24.binds (ps:=["chart", "state", "event"]) fun _ _ _ _ _ _ us hl => match us,hl with | [_,_,_],_ => rfl
  have D24:DefAt K mg "stepped" sStepped ["chart", "state", "event"] _ _:=⟨F24,b24,PySem.W.mg_of X G a24⟩
  have F25:=fun_mk (st:=sMoved) l25 c25 k25
  have b25:=F25.binds (ps:=["chart", "kept", "memory", "number"]) fun _ _ _ _ _ _ us hl => match us,hl with | [_,_,_,_],_ => rfl
  have D25:DefAt K mg "moved" sMoved ["chart", "kept", "memory", "number"] _ _:=⟨F25,b25,PySem.W.mg_of X G a25⟩
  have F26:=fun_mk (st:=sRemembered) l26 c26 k26
  have b26:=F26.binds (ps:=["chart", "kept", "memory"]) fun _ _ _ _ _ _ us hl => match us,hl with | [_,_,_],_ => rfl
  have D26:DefAt K mg "remembered" sRemembered ["chart", "kept", "memory"] _ _:=⟨F26,b26,PySem.W.mg_of X G a26⟩
  have F27:=fun_mk (st:=sStepB) l27 c27 k27
  have b27:=F27.binds (ps:=["chart", "ahead", "state", "event"]) fun _ _ _ _ _ _ us hl => match us,hl with | [_,_,_,_],_ => rfl
  have D27:DefAt K mg "step_behind" sStepB ["chart", "ahead", "state", "event"] _ _:=⟨F27,b27,PySem.W.mg_of X G a27⟩
  have F28:=fun_mk (st:=sCell) l28 c28 k28
  have b28:=F28.binds (ps:=["script", "k"]) fun _ _ _ _ _ _ us hl => match us,hl with | [_,_],_ => rfl
  have D28:DefAt K mg "_law_cell_at" sCell ["script", "k"] _ _:=⟨F28,b28,PySem.W.mg_of X G a28⟩
  have F29:=fun_mk (st:=sRow) l29 c29 k29
  have b29:=F29.binds (ps:=["found", "due"]) fun _ _ _ _ _ _ us hl => match us,hl with | [_,_],_ => rfl
  have D29:DefAt K mg "_law_row" sRow ["found", "due"] _ _:=⟨F29,b29,PySem.W.mg_of X G a29⟩
  have F30:=fun_mk (st:=sSame) l30 c30 k30
  have b30:=F30.binds (ps:=["found", "due"]) fun _ _ _ _ _ _ us hl => match us,hl with | [_,_],_ => rfl
  have D30:DefAt K mg "_law_same_state" sSame ["found", "due"] _ _:=⟨F30,b30,PySem.W.mg_of X G a30⟩
  have F31:=fun_mk (st:=sLaw) l31 c31 k31
  have b31:=F31.binds (ps:=["script"]) fun _ _ _ _ _ _ us hl => match us,hl with | [_],_ => rfl
  have D31:DefAt K mg "law" sLaw ["script"] _ _:=⟨F31,b31,PySem.W.mg_of X G a31⟩
  have F32:=fun_mk (st:=sClash) l32 c32 k32
  have b32:=F32.binds (ps:=["self", "events", "first", "second"]) fun _ _ _ _ _ _ us hl => match us,hl with | [_,_,_,_],_ => rfl
  have F33:=fun_mk (st:=sFInit) l33 c33 k33
  have b33:=F33.binds (ps:=["self", "states", "rows", "ways"]) fun _ _ _ _ _ _ us hl => match us,hl with | [_,_,_,_],_ => rfl
  have F34:=fun_mk (st:=sFolded) l34 c34 k34
  have b34:=F34.binds (ps:=["chart"]) fun _ _ _ _ _ _ us hl => match us,hl with | [_],_ => rfl
  have D34:DefAt K mg "folded" sFolded ["chart"] _ _:=⟨F34,b34,PySem.W.mg_of X G a34⟩
  have F35:=fun_mk (st:=sMore) l35 c35 k35
  have b35:=F35.binds (ps:=["states"]) fun _ _ _ _ _ _ us hl => match us,hl with | [_],_ => rfl
  have D35:DefAt K mg "check_one_more" sMore ["states"] _ _:=⟨F35,b35,PySem.W.mg_of X G a35⟩
  have F36:=fun_mk (st:=sEntries) l36 c36 k36
  have b36:=F36.binds (ps:=["found", "due"]) fun _ _ _ _ _ _ us hl => match us,hl with | [_,_],_ => rfl
  have D36:DefAt K mg "_law_entries" sEntries ["found", "due"] _ _:=⟨F36,b36,PySem.W.mg_of X G a36⟩
  have F37:=fun_mk (st:=sHalls) l37 c37 k37
  have b37:=F37.binds (ps:=["one", "other", "kinds", "extra"]) fun _ _ _ _ _ _ us hl => match us,hl with | [_,_,_,_],_ => rfl
  have D37:DefAt K mg "_law_halls" sHalls ["one", "other", "kinds", "extra"] _ _:=⟨F37,b37,PySem.W.mg_of X G a37⟩
  have F38:=fun_mk (st:=sGon) l38 c38 k38
  have b38:=F38.binds (ps:=["place", "event", "one", "other", "extra"]) fun _ _ _ _ _ _ us hl => match us,hl with | [_,_,_,_,_],_ => rfl
  have D38:DefAt K mg "_law_gone_on" sGon ["place", "event", "one", "other", "extra"] _ _:=⟨F38,b38,PySem.W.mg_of X G a38⟩
  have F39:=fun_mk (st:=sWalk) l39 c39 k39
  have b39:=F39.binds (ps:=["one", "other", "extra"]) fun _ _ _ _ _ _ us hl => match us,hl with | [_,_,_],_ => rfl
  have D39:DefAt K mg "_law_walk" sWalk ["one", "other", "extra"] _ _:=⟨F39,b39,PySem.W.mg_of X G a39⟩
  have F40:=fun_mk (st:=sStateOf) l40 c40 k40
  have b40:=F40.binds (ps:=["place", "one", "other", "kinds", "extra"]) fun _ _ _ _ _ _ us hl => match us,hl with | [_,_,_,_,_],_ => rfl
  have D40:DefAt K mg "_law_state_of" sStateOf ["place", "one", "other", "kinds", "extra"] _ _:=⟨F40,b40,PySem.W.mg_of X G a40⟩
  have F41:=fun_mk (st:=sFoundIn) l41 c41 k41
  have b41:=F41.binds (ps:=["chart"]) fun _ _ _ _ _ _ us hl => match us,hl with | [_],_ => rfl
  have D41:DefAt K mg "_law_found_in" sFoundIn ["chart"] _ _:=⟨F41,b41,PySem.W.mg_of X G a41⟩
  have F42:=fun_mk (st:=sAnyR) l42 c42 k42
  have b42:=F42.binds (ps:=["chart"]) fun _ _ _ _ _ _ us hl => match us,hl with | [_],_ => rfl
  have D42:DefAt K mg "_law_any_refusal" sAnyR ["chart"] _ _:=⟨F42,b42,PySem.W.mg_of X G a42⟩
  have T:Txt K mg C:=⟨⟨pg,hd,po,sa⟩,nR,nA,PySem.W.mg_of X G aC,PySem.W.mg_none_of X G z_len,PySem.W.mg_none_of X G z_range,PySem.W.mg_none_of X G z_list,PySem.W.mg_none_of X G z_isinstance,PySem.W.mg_none_of X G z_bool,PySem.W.mg_none_of X G z_int,PySem.W.mg_none_of X G z_tuple,PySem.W.mg_none_of X G z_sorted,PySem.W.mg_none_of X G z_enumerate,⟨_,PySem.W.mg_of X G g_HOLDER⟩,⟨_,PySem.W.mg_of X G g_KIND⟩,⟨_,PySem.W.mg_of X G g_NONE⟩,⟨_,PySem.W.mg_of X G g_SOURCE⟩,⟨_,PySem.W.mg_of X G g_EVENT⟩,⟨_,PySem.W.mg_of X G g_GUARD⟩,⟨_,PySem.W.mg_of X G g_TARGET⟩,⟨_,PySem.W.mg_of X G g_DEED⟩,⟨_,PySem.W.mg_of X G g_LAST_EVENT⟩,⟨_,PySem.W.mg_of X G g_LAST_DEED⟩,⟨_,PySem.W.mg_of X G g_MOST_ROOMS⟩,⟨_,PySem.W.mg_of X G g_MOST_ARROWS⟩,⟨_,PySem.W.mg_of X G g_CHOOSING,fun H => .inr ⟨_,_,_,o_CHOOSING,rfl,rfl,(by show 2≤sizeLine; decide),.cons ⟨_,rfl⟩ (.cons ⟨_,rfl⟩ .nil)⟩⟩,⟨_,PySem.W.mg_of X G g_KINDS,fun H => .inr ⟨_,_,_,o_KINDS,rfl,rfl,(by show 4≤sizeLine; decide),.cons ⟨_,rfl⟩ (.cons ⟨_,rfl⟩ (.cons ⟨_,rfl⟩ (.cons ⟨_,rfl⟩ .nil)))⟩⟩,kt_list_list,kt_bool_bool,kt_int_int,kt_int_bool,kt_tuple_tuple⟩
  refine ⟨PySem.W.fnOf "law" "law" (defArgs sLaw) (defBody sLaw) (defScope sLaw) .none kV31 dc31 pm31 an31 cd31 ct31,fun s v => .of_eq rfl,fun base _ _ => ?_⟩
  have X7:ClashTxt K mg CC CE _:=⟨⟨⟨_,_,_,_,_,_,_,_,_,_,_,_,_,_,lkX⟩,ex_ChartError,a32,i32,saX,obX,bxX,hdX,gaX,gtX⟩,⟨rdX,fcX,sgX⟩,evX,fiX,seX,PySem.W.mg_of X G aE_ChartError⟩
  have M:Mk K C _:=⟨mk,a1,i1,kc⟩
  have Gi:=ok_init (P:=l.prog) (w:=w) (base:=base) F1 T D2 D5 (ok_check_rooms D2 T D8 D3 D4) (ok_check_arrows D5 T D6 (ok_check_arrow D6 T D7 D11 D10 D9))
  have Gt:=ok_takeable (P:=l.prog) (w:=w) (base:=base) D17 T D18 (ok_open_arrows D18 T D19) D20 (ok_over D20 T D10 D9)
  have Gas:=ok_ascope (P:=l.prog) (w:=w) (base:=base) D23 T D11 D10 D9
  have Gco:=ok_clash_of (P:=l.prog) (w:=w) (base:=base) D21 T D22 (ok_clashing D22 T D23 Gas D9)
  have Ge:=ok_entered (P:=l.prog) (w:=w) (base:=base) D15 T D16 (ok_chosen D16 T D8 D9) 16
  have Gm:=ok_moved (fh:=f9) (fdh:=PySem.W.fnOf "law" "law" (defArgs sLaw) (defBody sLaw) (defScope sLaw) .none kV31 dc31 pm31 an31 cd31 ct31) (P:=l.prog) (w:=w) (base:=base) D25 T D23 Gas D9 D14 D15 Ge
  have Gs:=ok_stepped (P:=l.prog) (w:=w) (base:=base) D24 T X7 (PySem.W.mg_of X G aE_Clash) kpX b32 (ok_clash F32 X7) D17 Gt D21 Gco D25 Gm D26
  have kCC:=kitCls_ref cc_Clash ct_Clash cs_Clash_Clash
  have Gsb:=ok_stepB (P:=l.prog) (w:=w) (base:=base) D27 T X7 (PySem.W.mg_of X G aE_Clash) kpX b32 (ok_clashH F32 X7) st_Clash_BaseException kCC D24 Gs
  have Gst:=ok_started (P:=l.prog) (w:=w) (base:=base) D12 T D13 D14 D15 D16 D8 D9
  have TF:FlTxt K mg CF:=⟨⟨pg_Flat,hd_Flat,po_Flat,sa_Flat⟩,n_Flat_states,n_Flat_rows,n_Flat_ways,PySem.W.mg_of X G aC_Flat,PySem.W.mg_none_of X G z_list⟩
  have BT:ManyTxt K mg CT:=⟨PySem.W.mg_of X G aE_TooMany,ex_TooMany,⟨_,PySem.W.mg_of X G g_MOST_STATES⟩⟩
  have MF:Mk K CF _:=⟨mk_Flat,a33,i33,kc_Flat⟩
  have Gfi:=ok_finit (P:=l.prog) (w:=w) (base:=base) F33 TF
  have Gmo:=ok_more (P:=l.prog) (w:=w) (base:=base) D35 T BT
  have Gfo:=ok_folded (P:=l.prog) (w:=w) (base:=base) D34 T TF MF b33 Gfi D12 Gst D27 Gsb D35 Gmo
  have S4:AllTxt K mg CE CC CT CB:=⟨PySem.W.mg_of X G aE_ChartError,PySem.W.mg_of X G aE_Clash,PySem.W.mg_of X G aE_TooMany,PySem.W.mg_of X G aE_BadChart,PySem.W.mg_none_of X G z_ValueError,st_ChartError_BaseException,st_Clash_BaseException,st_TooMany_BaseException,st_BadChart_BaseException,kitCls_ref cc_ChartError ct_ChartError cs_TooMany_ChartError,kitCls_ref cc_Clash ct_Clash cs_TooMany_Clash,kitCls_ref cc_BadChart ct_BadChart cs_TooMany_BadChart,kitCls_ref cc_TooMany ct_TooMany cs_TooMany_TooMany,kitCls_type rfl st_TooMany_ValueError⟩
  have Gfn:=ok_found_in (P:=l.prog) (w:=w) (base:=base) D41 S4 D34 Gfo
  have Gan:=ok_any (P:=l.prog) (w:=w) (base:=base) D42 T S4 D34 Gfo
  exact ok_law D31 T TF M b1 Gi D28 D37 D39 D38 D40 D41 Gfn D42 Gan D29 D30 D36
theorem walk {l:PySem.W.OpenLaw} {q:Program} {loose:List Str} {XP:(Str→Option Value)→Heap→Prop} {YP:World→Heap→Prop} {d:DefRec} {K:Params→PySem.W.Frag} (hn:l.most=some 63) (hdf:d.params.defaults=[])
    (hY:∀ (w:World) (h:Heap),YP w h→(K w.params).In h)
    (F:∀ (w:World) (mg:Str→Option Value) (fa:Addr) (h:Heap),(K w.params).In h→h.Ns mainGlobals mg→mg d.name=some (.ref fa) →
      ∃ fd:FuncData,(∀ (s:Shared) (u:Value),BindsTo s fd ⟨[u],[]⟩ [("script",u)])∧∀ base:Heap,(K w.params).In base→base.Ns mainGlobals mg→FnOk l.prog w (K w.params) mg base CX0 25 fa fd ["script"] (spLaw (K w.params))) :
    PySem.W.WalkO q loose XP YP l.row.toRowW d [] (fun f vs => PySem.call f vs) :=
  L2.walk_of (n := 63) (k := 25) (x := "script") (CX:=fun _ => CX0) (sp:=fun w => spLaw (K w.params)) hn (by decide) hdf ⟨rfl,by decide,by decide⟩ hY F (fun _ _ a ns hl _ hS => ⟨a,ns,rfl,hS,hl,fun _ => rfl⟩) fun _ _ _ _ _ z => z
end Toy
def PySem.W.Fast.tw4749846719296502748 : Unit := ()
def PySem.W.Fast.tw2416181798759678911 : Unit := ()
def PySem.W.Fast.tw3619889341466090266 : Unit := ()
def PySem.W.Fast.tw4971647572784954062 : Unit := ()
def PySem.W.Fast.tw3169108202677052620 : Unit := ()
def PySem.W.Fast.tw2911600226177744892 : Unit := ()
def PySem.W.Fast.tw15091490095771990980 : Unit := ()
def PySem.W.Fast.tw1700055368653883404 : Unit := ()
def PySem.W.Fast.tw16289166353876791996 : Unit := ()
def PySem.W.Fast.tw7495520708796687556 : Unit := ()
def PySem.W.Fast.tw8571545503914254985 : Unit := ()
def PySem.W.Fast.tw2657232897909730687 : Unit := ()
def PySem.W.Fast.tw10660802278798280689 : Unit := ()
def PySem.W.Fast.tw5264302522827815787 : Unit := ()
def PySem.W.Fast.tw15194748241757745782 : Unit := ()
def PySem.W.Fast.tw8083797809310689868 : Unit := ()
def PySem.W.Fast.tw8326357210574507850 : Unit := ()
def PySem.W.Fast.tw12379048841711626042 : Unit := ()
def PySem.W.Fast.tw12709293830372068898 : Unit := ()
def PySem.W.Fast.tw6710731972206278670 : Unit := ()
def PySem.W.Fast.tw362647086841061892 : Unit := ()
def PySem.W.Fast.tw6699923068243442481 : Unit := ()
def PySem.W.Fast.tw6998337227068292940 : Unit := ()
def PySem.W.Fast.tw4139483695352735399 : Unit := ()
def PySem.W.Fast.tw877412282813238872 : Unit := ()
def PySem.W.Fast.tw1970485108007371904 : Unit := ()
def PySem.W.Fast.tw12524001128869533818 : Unit := ()
def PySem.W.Fast.tw6405380241698069911 : Unit := ()
def PySem.W.Fast.tw12183074449437104315 : Unit := ()
def PySem.W.Fast.tw10081129505288661814 : Unit := ()
def PySem.W.Fast.tw12225743443073911948 : Unit := ()
def PySem.W.Fast.tw5492598699188590118 : Unit := ()
def PySem.W.Fast.tw10033860300314142748 : Unit := ()
def PySem.W.Fast.tw11679218637008013394 : Unit := ()
def PySem.W.Fast.tw5561754758593964328 : Unit := ()
def PySem.W.Fast.tw12783984441984940952 : Unit := ()
def PySem.W.Fast.tw362649520809975163 : Unit := ()
def PySem.W.Fast.tw10919106994597692555 : Unit := ()
def PySem.W.Fast.tw7483822080530416939 : Unit := ()
def PySem.W.Fast.tw5730872657751413069 : Unit := ()
def PySem.W.Fast.tw2337393595690297730 : Unit := ()
def PySem.W.Fast.tw9599097707389954885 : Unit := ()
def PySem.W.Fast.tw17550501230749475416 : Unit := ()
def PySem.W.Fast.tw3574011049338685397 : Unit := ()
def PySem.W.Fast.tw7188767161016897476 : Unit := ()
def PySem.W.Fast.tw9138416037335149355 : Unit := ()
def PySem.W.Fast.tw12163482443120347763 : Unit := ()
def PySem.W.Fast.tw1015281172801708793 : Unit := ()
def PySem.W.Fast.tw15369782211845175155 : Unit := ()
def PySem.W.Fast.tw16990602608329099954 : Unit := ()
def PySem.W.Fast.tw12632476775338831063 : Unit := ()
def PySem.W.Fast.tw11559932182162024317 : Unit := ()
def PySem.W.Fast.tw4364857754996525618 : Unit := ()
def PySem.W.Fast.tw4812333524579485950 : Unit := ()
def PySem.W.Fast.tw15796672705797587022 : Unit := ()
def PySem.W.Fast.tw3944834469484994570 : Unit := ()
def PySem.W.Fast.tw5173114280706956636 : Unit := ()
def PySem.W.Fast.tw5640129264224771631 : Unit := ()
def PySem.W.Fast.tw12078262671787483305 : Unit := ()
def PySem.W.Fast.tw7116373320867753591 : Unit := ()
def PySem.W.Fast.tw969039998658183798 : Unit := ()
def PySem.W.Fast.tw9315735919255701975 : Unit := ()
def PySem.W.Fast.tw3387188547173361101 : Unit := ()
def PySem.W.Fast.tw10939260938653179532 : Unit := ()
def PySem.W.Fast.tw5687909166486036778 : Unit := ()
def PySem.W.Fast.tw837904751125317931 : Unit := ()
def PySem.W.Fast.tw4414138960227139754 : Unit := ()
def PySem.W.Fast.tw17214714005060378074 : Unit := ()
def PySem.W.Fast.tw11336955138397685364 : Unit := ()
def PySem.W.Fast.tw4319421093024447051 : Unit := ()
def PySem.W.Fast.tw11227357171575319243 : Unit := ()
def PySem.W.Fast.tw6770114890649382082 : Unit := ()
def PySem.W.Fast.tw192870588863617129 : Unit := ()
def PySem.W.Fast.tw393547984607707163 : Unit := ()
def PySem.W.Fast.tw4704438345145670501 : Unit := ()
def PySem.W.Fast.tw15567221650279891497 : Unit := ()
def PySem.W.Fast.tw15872755067760601736 : Unit := ()
def PySem.W.Fast.tw1859229639542128318 : Unit := ()
def PySem.W.Fast.tw7547705860194297065 : Unit := ()
def PySem.W.Fast.tw495219054871312292 : Unit := ()
def PySem.W.Fast.tw9879741553817144650 : Unit := ()
def PySem.W.Fast.tw12266076078169913278 : Unit := ()
def PySem.W.Fast.tw7268344459784053868 : Unit := ()
def PySem.W.Fast.tw14584768398010062915 : Unit := ()
def PySem.W.Fast.tw113537603680478424 : Unit := ()
def PySem.W.Fast.tw12829690950867317666 : Unit := ()
def PySem.W.Fast.tw16308067511429023786 : Unit := ()
def PySem.W.Fast.tw7481287694387102562 : Unit := ()
def PySem.W.Fast.tw14560586375296817636 : Unit := ()
def PySem.W.Fast.tw7976149315668343224 : Unit := ()
def PySem.W.Fast.tw7519257742787369871 : Unit := ()
def PySem.W.Fast.tw11762543258899888729 : Unit := ()
def PySem.W.Fast.tw4179478423460995217 : Unit := ()
def PySem.W.Fast.tw13592854323182640201 : Unit := ()
def PySem.W.Fast.tw14140363662636503540 : Unit := ()
def PySem.W.Fast.tw11156485318854822244 : Unit := ()
def PySem.W.Fast.tw9203913580251069219 : Unit := ()
def PySem.W.Fast.tw15365430867730660652 : Unit := ()
def PySem.W.Fast.tw8772084665313696995 : Unit := ()
def PySem.W.Fast.tw1903785798181794952 : Unit := ()
def PySem.W.Fast.tw8097353845258934268 : Unit := ()
def PySem.W.Fast.tw14303596361787067923 : Unit := ()
def PySem.W.Fast.tw9821652131576221535 : Unit := ()
def PySem.W.Fast.tw16474050450024816958 : Unit := ()
def PySem.W.Fast.tw4049649647604188640 : Unit := ()
def PySem.W.Fast.tw12508191936213023245 : Unit := ()
def PySem.W.Fast.tw7266613119413892647 : Unit := ()
def PySem.W.Fast.tw15445961837283593498 : Unit := ()
def PySem.W.Fast.tw1013216020189232162 : Unit := ()
def PySem.W.Fast.tw18382693863456984399 : Unit := ()
def PySem.W.Fast.tw14043957739835455168 : Unit := ()
def PySem.W.Fast.tw5443569231799233199 : Unit := ()
def PySem.W.Fast.tw14117406269161147507 : Unit := ()
def PySem.W.Fast.tw60680182838917577 : Unit := ()
open PySem PySem.W PyProof.Rows
set_option maxRecDepth 100000 in
set_option maxHeartbeats 0 in
theorem PySem.Challenge.cw_chartfold_k14_many_states_holds : PySem.Challenge.rw_chartfold_k14_many_states.Holds := by
  w_on; o_law; k_head; (case hw => w_witness2)
  k_fill
  refine Toy.walk (l := PySem.Challenge.rw_chartfold_k14_many_states) rfl rfl (fun w h Y => PySem.W.kIn_of Y) ?F
  case F =>
    intro w mg fa h KX G hmg
    refine' Toy.all_mk KX G hmg ?aC ?pg ?hd ?po ?sa ?mk ?kc ?nR ?nA ?aC_Flat ?pg_Flat ?hd_Flat ?po_Flat ?sa_Flat ?mk_Flat ?kc_Flat ?n_Flat_states ?n_Flat_rows ?n_Flat_ways ?aE_ChartError ?cc_ChartError ?ct_ChartError ?aE_Clash ?cc_Clash ?ct_Clash ?aE_TooMany ?cc_TooMany ?ct_TooMany ?aE_BadChart ?cc_BadChart ?ct_BadChart ?cs_Clash_Clash ?cs_TooMany_ChartError ?cs_TooMany_Clash ?cs_TooMany_BadChart ?cs_TooMany_TooMany ?st_ChartError_BaseException ?st_Clash_BaseException ?st_TooMany_BaseException ?st_BadChart_BaseException ?st_TooMany_ValueError ?ex_ChartError ?ex_TooMany ?lkX ?kpX ?saX ?obX ?bxX ?hdX ?gaX ?gtX ?rdX ?fcX ?sgX ?evX ?fiX ?seX ?a1 ?i1 ?l1 ?c1 ?k1 ?a2 ?l2 ?c2 ?k2 ?a3 ?l3 ?c3 ?k3 ?a4 ?l4 ?c4 ?k4 ?a5 ?l5 ?c5 ?k5 ?a6 ?l6 ?c6 ?k6 ?a7 ?l7 ?c7 ?k7 ?a8 ?l8 ?c8 ?k8 ?a9 ?l9 ?c9 ?k9 ?a10 ?l10 ?c10 ?k10 ?a11 ?l11 ?c11 ?k11 ?a12 ?l12 ?c12 ?k12 ?a13 ?l13 ?c13 ?k13 ?a14 ?l14 ?c14 ?k14 ?a15 ?l15 ?c15 ?k15 ?a16 ?l16 ?c16 ?k16 ?a17 ?l17 ?c17 ?k17 ?a18 ?l18 ?c18 ?k18 ?a19 ?l19 ?c19 ?k19 ?a20 ?l20 ?c20 ?k20 ?a21 ?l21 ?c21 ?k21 ?a22 ?l22 ?c22 ?k22 ?a23 ?l23 ?c23 ?k23 ?a24 ?l24 ?c24 ?k24 ?a25 ?l25 ?c25 ?k25 ?a26 ?l26 ?c26 ?k26 ?a27 ?l27 ?c27 ?k27 ?a28 ?l28 ?c28 ?k28 ?a29 ?l29 ?c29 ?k29 ?a30 ?l30 ?c30 ?k30 ?a31 ?l31 ?c31 ?k31 ?a32 ?i32 ?l32 ?c32 ?k32 ?a33 ?i33 ?l33 ?c33 ?k33 ?a34 ?l34 ?c34 ?k34 ?a35 ?l35 ?c35 ?k35 ?a36 ?l36 ?c36 ?k36 ?a37 ?l37 ?c37 ?k37 ?a38 ?l38 ?c38 ?k38 ?a39 ?l39 ?c39 ?k39 ?a40 ?l40 ?c40 ?k40 ?a41 ?l41 ?c41 ?k41 ?a42 ?l42 ?c42 ?k42 ?z_len ?z_range ?z_list ?z_isinstance ?z_bool ?z_int ?z_tuple ?z_sorted ?z_enumerate ?z_ValueError ?g_HOLDER ?g_KIND ?g_NONE ?g_SOURCE ?g_EVENT ?g_GUARD ?g_TARGET ?g_DEED ?g_LAST_EVENT ?g_LAST_DEED ?g_MOST_ROOMS ?g_MOST_ARROWS ?g_MOST_STATES ?g_CHOOSING ?o_CHOOSING ?g_KINDS ?o_KINDS ?kt_list_list ?kt_bool_bool ?kt_int_int ?kt_int_bool ?kt_tuple_tuple
    (case aC => k_is)
    (case pg => k_is)
    (case hd => k_is)
    (case po => k_is)
    (case sa => k_is)
    (case mk => k_is)
    (case kc => k_is)
    (case nR => k_is)
    (case nA => k_is)
    (case aC_Flat => k_is)
    (case pg_Flat => k_is)
    (case hd_Flat => k_is)
    (case po_Flat => k_is)
    (case sa_Flat => k_is)
    (case mk_Flat => k_is)
    (case kc_Flat => k_is)
    (case n_Flat_states => k_is)
    (case n_Flat_rows => k_is)
    (case n_Flat_ways => k_is)
    (case aE_ChartError => k_is)
    (case cc_ChartError => k_is)
    (case ct_ChartError => k_is)
    (case aE_Clash => k_is)
    (case cc_Clash => k_is)
    (case ct_Clash => k_is)
    (case aE_TooMany => k_is)
    (case cc_TooMany => k_is)
    (case ct_TooMany => k_is)
    (case aE_BadChart => k_is)
    (case cc_BadChart => k_is)
    (case ct_BadChart => k_is)
    (case cs_Clash_Clash => k_is)
    (case cs_TooMany_ChartError => k_is)
    (case cs_TooMany_Clash => k_is)
    (case cs_TooMany_BadChart => k_is)
    (case cs_TooMany_TooMany => k_is)
    (case st_ChartError_BaseException => k_is)
    (case st_Clash_BaseException => k_is)
    (case st_TooMany_BaseException => k_is)
    (case st_BadChart_BaseException => k_is)
    (case st_TooMany_ValueError => k_is)
    (case ex_ChartError => k_exc)
    (case ex_TooMany => k_exc)
    (case lkX => k_is)
    (case kpX => k_is)
    (case saX => k_is)
    (case obX => k_is)
    (case bxX => k_is)
    (case hdX => k_is)
    (case gaX => k_is)
    (case gtX => k_is)
    (case rdX => k_is)
    (case fcX => k_is)
    (case sgX => k_is)
    (case evX => k_is)
    (case fiX => k_is)
    (case seX => k_is)
    (case a1 => k_is)
    (case i1 => k_is)
    (case l1 => k_is)
    (case c1 => k_is)
    (case k1 => k_is)
    (case a2 => k_is)
    (case l2 => k_is)
    (case c2 => k_is)
    (case k2 => k_is)
    (case a3 => k_is)
    (case l3 => k_is)
    (case c3 => k_is)
    (case k3 => k_is)
    (case a4 => k_is)
    (case l4 => k_is)
    (case c4 => k_is)
    (case k4 => k_is)
    (case a5 => k_is)
    (case l5 => k_is)
    (case c5 => k_is)
    (case k5 => k_is)
    (case a6 => k_is)
    (case l6 => k_is)
    (case c6 => k_is)
    (case k6 => k_is)
    (case a7 => k_is)
    (case l7 => k_is)
    (case c7 => k_is)
    (case k7 => k_is)
    (case a8 => k_is)
    (case l8 => k_is)
    (case c8 => k_is)
    (case k8 => k_is)
    (case a9 => k_is)
    (case l9 => k_is)
    (case c9 => k_is)
    (case k9 => k_is)
    (case a10 => k_is)
    (case l10 => k_is)
    (case c10 => k_is)
    (case k10 => k_is)
    (case a11 => k_is)
    (case l11 => k_is)
    (case c11 => k_is)
    (case k11 => k_is)
    (case a12 => k_is)
    (case l12 => k_is)
    (case c12 => k_is)
    (case k12 => k_is)
    (case a13 => k_is)
    (case l13 => k_is)
    (case c13 => k_is)
    (case k13 => k_is)
    (case a14 => k_is)
    (case l14 => k_is)
    (case c14 => k_is)
    (case k14 => k_is)
    (case a15 => k_is)
    (case l15 => k_is)
    (case c15 => k_is)
    (case k15 => k_is)
    (case a16 => k_is)
    (case l16 => k_is)
    (case c16 => k_is)
    (case k16 => k_is)
    (case a17 => k_is)
    (case l17 => k_is)
    (case c17 => k_is)
    (case k17 => k_is)
    (case a18 => k_is)
    (case l18 => k_is)
    (case c18 => k_is)
    (case k18 => k_is)
    (case a19 => k_is)
    (case l19 => k_is)
    (case c19 => k_is)
    (case k19 => k_is)
    (case a20 => k_is)
    (case l20 => k_is)
    (case c20 => k_is)
    (case k20 => k_is)
    (case a21 => k_is)
    (case l21 => k_is)
    (case c21 => k_is)
    (case k21 => k_is)
    (case a22 => k_is)
    (case l22 => k_is)
    (case c22 => k_is)
    (case k22 => k_is)
    (case a23 => k_is)
    (case l23 => k_is)
    (case c23 => k_is)
    (case k23 => k_is)
    (case a24 => k_is)
    (case l24 => k_is)
    (case c24 => k_is)
    (case k24 => k_is)
    (case a25 => k_is)
    (case l25 => k_is)
    (case c25 => k_is)
    (case k25 => k_is)
    (case a26 => k_is)
    (case l26 => k_is)
    (case c26 => k_is)
    (case k26 => k_is)
    (case a27 => k_is)
    (case l27 => k_is)
    (case c27 => k_is)
    (case k27 => k_is)
    (case a28 => k_is)
    (case l28 => k_is)
    (case c28 => k_is)
    (case k28 => k_is)
    (case a29 => k_is)
    (case l29 => k_is)
    (case c29 => k_is)
    (case k29 => k_is)
    (case a30 => k_is)
    (case l30 => k_is)
    (case c30 => k_is)
    (case k30 => k_is)
    (case a31 => k_is)
    (case l31 => k_is)
    (case c31 => k_is)
    (case k31 => k_is)
    (case a32 => k_is)
    (case i32 => k_is)
    (case l32 => k_is)
    (case c32 => k_is)
    (case k32 => k_is)
    (case a33 => k_is)
    (case i33 => k_is)
    (case l33 => k_is)
    (case c33 => k_is)
    (case k33 => k_is)
    (case a34 => k_is)
    (case l34 => k_is)
    (case c34 => k_is)
    (case k34 => k_is)
    (case a35 => k_is)
    (case l35 => k_is)
    (case c35 => k_is)
    (case k35 => k_is)
    (case a36 => k_is)
    (case l36 => k_is)
    (case c36 => k_is)
    (case k36 => k_is)
    (case a37 => k_is)
    (case l37 => k_is)
    (case c37 => k_is)
    (case k37 => k_is)
    (case a38 => k_is)
    (case l38 => k_is)
    (case c38 => k_is)
    (case k38 => k_is)
    (case a39 => k_is)
    (case l39 => k_is)
    (case c39 => k_is)
    (case k39 => k_is)
    (case a40 => k_is)
    (case l40 => k_is)
    (case c40 => k_is)
    (case k40 => k_is)
    (case a41 => k_is)
    (case l41 => k_is)
    (case c41 => k_is)
    (case k41 => k_is)
    (case a42 => k_is)
    (case l42 => k_is)
    (case c42 => k_is)
    (case k42 => k_is)
    (case z_len => k_is)
    (case z_range => k_is)
    (case z_list => k_is)
    (case z_isinstance => k_is)
    (case z_bool => k_is)
    (case z_int => k_is)
    (case z_tuple => k_is)
    (case z_sorted => k_is)
    (case z_enumerate => k_is)
    (case z_ValueError => k_is)
    (case g_HOLDER => k_is)
    (case g_KIND => k_is)
    (case g_NONE => k_is)
    (case g_SOURCE => k_is)
    (case g_EVENT => k_is)
    (case g_GUARD => k_is)
    (case g_TARGET => k_is)
    (case g_DEED => k_is)
    (case g_LAST_EVENT => k_is)
    (case g_LAST_DEED => k_is)
    (case g_MOST_ROOMS => k_is)
    (case g_MOST_ARROWS => k_is)
    (case g_MOST_STATES => k_is)
    (case g_CHOOSING => k_is)
    (case o_CHOOSING => k_is)
    (case g_KINDS => k_is)
    (case o_KINDS => k_is)
    (case kt_list_list => kit_is)
    (case kt_bool_bool => kit_is)
    (case kt_int_int => kit_is)
    (case kt_int_bool => kit_is)
    (case kt_tuple_tuple => kit_is)
#print axioms PySem.Challenge.cw_chartfold_k14_many_states_holds
