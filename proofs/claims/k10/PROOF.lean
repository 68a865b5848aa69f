import PyProof.Rows.All
import Wide.All
import OpenK.AllK
import Wide.FinOn
import Lean
import PyProof.EqAt
import PyProof.EqKinds
import PyProof.TupleCall
import PySem.Challenge.RW_chartfold_k10_states_parted
set_option Elab.async false
set_option linter.all false
set_option maxRecDepth 100000
namespace L2
open PySem PySem.Spec PyProof.Rows
abbrev Key:=Sum Int Str
def keyIs:Key→Value→Bool
  | .inl k,v => Value.isInt k v
  | .inr x,v => Value.isStrOf x v
def keyH (w:World):Key→Int
  | .inl k => hashInt k
  | .inr x => hashStr w x
theorem keyIs_shape:∀ {k:Key} {v:Value},keyIs k v=true→(∃ i t,k=Sum.inl i∧v=Value.int i t)∨(∃ x t,k=Sum.inr x∧v=Value.str x t)
  | .inl i,v,h => by
    obtain ⟨t,e⟩:=Value.isInt_shape (k:=i) (v:=v) h
    exact .inl ⟨i,t,rfl,e⟩
  | .inr x,v,h => by
    obtain ⟨t,e⟩:=Value.isStrOf_shape (x:=x) (v:=v) h
    exact .inr ⟨x,t,rfl,e⟩
theorem key_ll (a b:Int):decide ((Sum.inl a:Key)=Sum.inl b)=(a == b):=by
  by_cases e:a=b
  · subst e; simp
  · have h:¬ (Sum.inl a:Key)=Sum.inl b:=fun q => e (Sum.inl.inj q)
    rw [decide_eq_false h]
    exact (beq_eq_false_iff_ne.mpr e).symm
theorem key_rr (a b:Str):decide ((Sum.inr a:Key)=Sum.inr b)=decide (a=b):=by
  by_cases e:a=b
  · subst e; simp
  · have h:¬ (Sum.inr a:Key)=Sum.inr b:=fun q => e (Sum.inr.inj q)
    rw [decide_eq_false h,decide_eq_false e]
theorem key_lr (a:Int) (b:Str):decide ((Sum.inl a:Key)=Sum.inr b)=false:=decide_eq_false (fun q => nomatch q)
theorem key_rl (a:Str) (b:Int):decide ((Sum.inr a:Key)=Sum.inl b)=false:=decide_eq_false (fun q => nomatch q)
def mixKind (prog:Program) (w:World):PySem.KeyKind prog w Key where
  is:=keyIs
  hash:=keyH w
  inj:=fun v a b ha hb => by
    rcases keyIs_shape ha with ⟨i,t,rfl,rfl⟩ | ⟨x,t,rfl,rfl⟩
    · rcases keyIs_shape hb with ⟨j,u,rfl,e⟩ | ⟨y,u,rfl,e⟩
      · injection e with e1 _; rw [e1]
      · exact nomatch e
    · rcases keyIs_shape hb with ⟨j,u,rfl,e⟩ | ⟨y,u,rfl,e⟩
      · exact nomatch e
      · injection e with e1 _; rw [e1]
  byValue:=fun k v h => by
    rcases keyIs_shape h with ⟨i,t,rfl,rfl⟩ | ⟨x,t,rfl,rfl⟩ <;> rfl
  pyHash:=fun hv h => by
    rcases keyIs_shape hv with ⟨i,t,rfl,rfl⟩ | ⟨x,t,rfl,rfl⟩
    · exact wpAny_pyHash_int h
    · exact wpAny_pyHash_str h
  eqBool:=fun hu hv h => by
    rcases keyIs_shape hu with ⟨i,t,rfl,rfl⟩ | ⟨x,t,rfl,rfl⟩
    · rcases keyIs_shape hv with ⟨j,u,rfl,rfl⟩ | ⟨y,u,rfl,rfl⟩
      · rw [key_ll] at h; exact wpAny_eqBool_int h
      · rw [key_lr] at h; exact SeqAt.EqAt.int_str i t y u _ _ _ _ h
    · rcases keyIs_shape hv with ⟨j,u,rfl,rfl⟩ | ⟨y,u,rfl,rfl⟩
      · rw [key_rl] at h; exact SeqAt.EqAt.str_int x t j u _ _ _ _ h
      · rw [key_rr] at h; exact wpAny_eqBool_str h
  «strs»:=fun k x t v h => by
    rcases keyIs_shape h with ⟨i,u,rfl,e⟩ | ⟨y,u,rfl,e⟩
    · exact nomatch e
    · injection e with e1 _
      subst e1
      cases v <;> rfl
end L2
namespace L2
open PySem PySem.Spec PyProof.Rows
inductive V where
  | non | bl (b:Bool) | int (i:Int) | str (x:Str) | byt (b:Array UInt8) | flt (b:UInt64) | ref (a:Addr) | ty (n:String)
  deriving DecidableEq
def RelV:V→Value→Prop
  | .non,u => u=Value.none
  | .bl b,u => u=Value.bool b
  | .int i,u => ∃ t,u=Value.int i t
  | .str x,u => ∃ t,u=Value.str x t
  | .byt b,u => ∃ t,u=Value.bytes b t
  | .flt b,u => ∃ t,u=Value.float b t
  | .ref a,u => u=Value.ref a
  | .ty n,u => u=Value.type n
abbrev Vals:List V→List Value→Prop:=Paired RelV
theorem Vals.length {xs:List V} {us:List Value} (r:Vals xs us):xs.length=us.length:=Paired.length r
theorem Vals.get:∀ {xs:List V} {us:List Value} {i:Nat} {x:V},Vals xs us→xs[i]? = some x→∃ u,us[i]? = some u∧RelV x u
  | _,_,_,_,.nil,e => by simp at e
  | _,_,0,_,.cons r _,e => by simp at e; subst e; exact ⟨_,rfl,r⟩
  | _,_,i + 1,x,.cons _ t,e => by
    obtain ⟨u,h1,h2⟩:=Vals.get (i:=i) (x:=x) t (by simpa using e)
    exact ⟨u,by simpa using h1,h2⟩
theorem Vals.set {x:V} {u:Value} (r:RelV x u):∀ {xs:List V} {us:List Value} (i:Nat),Vals xs us→Vals (xs.set i x) (us.set i u)
  | _,_,_,.nil => .nil
  | _,_,0,.cons _ t => .cons r t
  | _,_,i + 1,.cons q t => .cons q (Vals.set r i t)
theorem Vals.append:∀ {xs ys:List V} {us ws:List Value},Vals xs us→Vals ys ws→Vals (xs ++ ys) (us ++ ws)
  | _,_,_,_,.nil,s => s
  | _,_,_,_,.cons r t,s => .cons r (Vals.append t s)
def RelO:Option V→Option Value→Prop
  | some v,some u => RelV v u
  | none,none => True
  | _,_ => False
def KV {κ : Type}:List (κ×V)→List (κ×Value)→Prop:=Paired fun (p : κ×V) (q : κ×Value) => p.1=q.1∧RelV p.2 q.2
def kV:Key→V
  | .inl i => .int i
  | .inr x => .str x
inductive HO where
  | lst (xs:List V)
  | tup (xs:List V)
  | dK (kvs:List (Key×V)) | dT (kvs:List (List Key×V))
  | set (S:Int→Bool) (n:Nat)
  | ins (C dx:Addr) (fs:List (Str×V))
  | own (x:Addr)
  | xd (fs:List (Str×V))
  | met (f x:Addr)
  | rng (lo hi:Int)
  | frz (o:Obj) (u:HO)
  | tbl (ps:Array Value)
  | ext (φ : Heap→Prop)
abbrev Hp:=Addr→Option HO
def upd (H:Hp) (a:Addr) (o:HO):Hp:=fun b => if b=a then some o else H b
theorem upd_same {H:Hp} {a:Addr} {o:HO}:upd H a o a=some o:=by unfold upd; rw [if_pos rfl]
theorem upd_ne {H:Hp} {a b:Addr} {o:HO} (h:b≠a):upd H a o b=H b:=by unfold upd; rw [if_neg h]
theorem upd_upd {H:Hp} {a:Addr} {o u:HO}:upd (upd H a o) a u=upd H a u:=by
  funext b; unfold upd; split <;> rfl
theorem ne_of {H:Hp} {a b:Addr} {o u:HO} (h:H a=some o) (h':H b=some u) (d:o≠u):a≠b:=by
  intro e; subst e; rw [h] at h'; exact d (Option.some.inj h')
theorem ne_of_none {H:Hp} {a b:Addr} {o:HO} (h:H a=some o) (h':H b=none):a≠b:=by
  intro e; subst e; rw [h] at h'; cases h'
section
variable (P:Program) (w:World)
def ObjOk (H:Hp) (h:Heap) (a:Addr):HO→Prop
  | .lst xs => xs.length≤sizeLine∧∃ (its:List Value) (n:Nat),Vals xs its∧h.get? a=some { cls:=.type "list",data:=.seq its.toArray n }
  | .tup xs => xs.length≤sizeLine∧∃ its:List Value,Vals xs its∧IsTup h a its.toArray
  | .dK kvs => kvs.length≤sizeLine∧(a == sysModules)=false∧∃ vs,KV kvs vs∧h.DictOf (mixKind P w) a vs
  | .dT kvs => kvs.length≤sizeLine∧(a == sysModules)=false∧∃ xs:List (List Key×Addr×Value),
      Paired (fun (p:List Key×V) (q:List Key×Addr×Value) => p.1=q.1∧H q.2.1=some (.tup (p.1.map kV))∧RelV p.2 q.2.2) kvs xs ∧
      ∃ o es ep,h.get? a=some o∧o.ExactDict∧o.data = .dict es ep∧es.toList=xs.map (entryOfKey (tupleKind (mixKind P w)))∧(xs.map (·.1)).Nodup
  | .set S n => h.SetOf (intKind P w) a S n
  | .ins C dx fs => H dx=some (.own a)∧fs.length≤1000∧dx≠a∧h.get? a=some (PySem.W.instObj C dx) ∧
      ∃ mA,h.Ns1 dx mA∧(∀ f,RelO (fs.lookup f) (mA f))∧PySem.Within mA (fs.map (·.1))
  | .own _ => ∃ o,h.get? a=some o
  | .xd fs => ∃ mA,h.Ns1 a mA∧∀ f,RelO (fs.lookup f) (mA f)
  | .rng lo hi => ∃ t u v,h.get? a=some { cls:=.type "range",data:=.fields #[.int lo t,.int hi u,.int 1 v] }
  | .frz o u => h.get? a=some o∧ObjOk H h a u
  | .tbl ps => h.get? a=some { cls:=.none,data:=.fields ps }
  | .met f x => h.get? a=some (PySem.W.methodObj (.ref f) (.ref x))
  | .ext φ => φ h∧(∃ o,h.get? a=some o)∧∀ h1 h2:Heap,φ h1→(∀ o,h1.get? a=some o→h2.get? a=some o)→φ h2
def HOk (H:Hp) (h:Heap):Prop := ∀ a o,H a=some o→ObjOk P w H h a o
end
section
variable {P:Program} {w:World} {H H':Hp} {h h':Heap} {a:Addr} {o:HO}
theorem ObjOk.lt (x:ObjOk P w H h a o):a < h.objs.size:=by
  cases o with
  | lst xs => obtain ⟨_,_,_,_,e⟩:=x; exact Heap.lt_size e
  | tup xs => obtain ⟨_,_,_,p⟩:=x; exact p.lt
  | dK kvs => obtain ⟨_,_,_,_,o,_,_,e,_⟩:=x; exact Heap.lt_size e
  | dT kvs => obtain ⟨_,_,_,_,o,_,_,e,_⟩:=x; exact Heap.lt_size e
  | set S n => obtain ⟨o,_,_,_,e,_⟩:=x; exact Heap.lt_size e
  | ins C dx fs => obtain ⟨_,_,_,e,_⟩:=x; exact Heap.lt_size e
  | own y => obtain ⟨_,e⟩:=x; exact Heap.lt_size e
  | xd fs => obtain ⟨_,⟨_,_,_,e,_⟩,_⟩:=x; exact Heap.lt_size e
  | rng lo hi => obtain ⟨_,_,_,e⟩:=x; exact Heap.lt_size e
  | frz ob u => obtain ⟨e,_⟩:=x; exact Heap.lt_size e
  | tbl ps => exact Heap.lt_size (show h.get? a=some _ from x)
  | met f y => exact Heap.lt_size (show h.get? a=some _ from x)
  | ext φ => obtain ⟨_,⟨_,e⟩,_⟩:=x; exact Heap.lt_size e
theorem Paired.mapP {α β : Type} {F G : α→β→Prop}:∀ {l₁:List α} {l₂:List β},Paired F l₁ l₂→(∀ a b,F a b→G a b)→Paired G l₁ l₂
  | _,_,.nil,_ => .nil
  | _,_,.cons r t,f => .cons (f _ _ r) (Paired.mapP t f)
theorem ObjOk.stay (x:ObjOk P w H h a o) (k:∀ b u,(b=a∨H b=some (.own a))→h.get? b=some u→h'.get? b=some u)
    (ho:∀ b,H b=some (.own a)→H' b=some (.own a)) (ht:∀ b xs,H b=some (.tup xs)→H' b=some (.tup xs)):ObjOk P w H' h' a o:=by
  induction o with
  | lst xs => obtain ⟨z,its,n,r,e⟩:=x; exact ⟨z,its,n,r,k _ _ (.inl rfl) e⟩
  | tup xs => obtain ⟨z,its,r,ob,e,c⟩:=x; exact ⟨z,its,r,ob,k _ _ (.inl rfl) e,c⟩
  | dK kvs => obtain ⟨z,y,vs,r,ob,es,ep,e,c⟩:=x; exact ⟨z,y,vs,r,ob,es,ep,k _ _ (.inl rfl) e,c⟩
  | dT kvs =>
    obtain ⟨z,y,xs,r,ob,es,ep,e,c⟩:=x
    exact ⟨z,y,xs,Paired.mapP r fun p q z => ⟨z.1,ht _ _ z.2.1,z.2.2⟩,ob,es,ep,k _ _ (.inl rfl) e,c⟩
  | set S n => obtain ⟨ob,es,ep,t,e,c⟩:=x; exact ⟨ob,es,ep,t,k _ _ (.inl rfl) e,c⟩
  | ins C dx fs =>
    obtain ⟨d,z,ne,e,mA,⟨od,es,ep,e2,c⟩,r⟩:=x
    exact ⟨ho _ d,z,ne,k _ _ (.inl rfl) e,mA,⟨od,es,ep,k _ _ (.inr d) e2,c⟩,r⟩
  | own y => obtain ⟨ob,e⟩:=x; exact ⟨ob,k _ _ (.inl rfl) e⟩
  | xd fs => obtain ⟨mA,⟨od,es,ep,e,c⟩,r⟩:=x; exact ⟨mA,⟨od,es,ep,k _ _ (.inl rfl) e,c⟩,r⟩
  | rng lo hi => obtain ⟨t,u,v,e⟩:=x; exact ⟨t,u,v,k _ _ (.inl rfl) e⟩
  | frz ob u ih => obtain ⟨e,q⟩:=x; exact ⟨k _ _ (.inl rfl) e,ih q⟩
  | tbl ps =>
    have e:h.get? a=some { cls:=.none,data:=.fields ps }:=x
    show h'.get? a=some { cls:=.none,data:=.fields ps }
    exact k a _ (.inl rfl) e
  | met f y =>
    have e:h.get? a=some (PySem.W.methodObj (.ref f) (.ref y)):=x
    show h'.get? a=some (PySem.W.methodObj (.ref f) (.ref y))
    exact k a _ (.inl rfl) e
  | ext φ => obtain ⟨p,⟨o,e⟩,st⟩:=x; exact ⟨st _ _ p fun o q => k _ _ (.inl rfl) q,⟨o,k _ _ (.inl rfl) e⟩,st⟩
theorem HOk.lt (x:HOk P w H h) (e:H a=some o):a < h.objs.size:=(x a o e).lt
theorem HOk.fresh (x:HOk P w H h) (e:h.objs.size≤a):H a=none:=by
  cases q:H a with
  | none => rfl
  | some u => exact absurd (Nat.lt_of_lt_of_le (x.lt q) e) (Nat.lt_irrefl _)
theorem HOk.kept (x:HOk P w H h) (k:∀ b u,h.get? b=some u→h'.get? b=some u):HOk P w H h':=fun a o e =>
  (x a o e).stay (fun b u _ q => k b u q) (fun _ q => q) fun _ _ q => q
theorem HOk.laid (x:HOk P w H h) (k:∀ b u,h.get? b=some u→h'.get? b=some u) (hp:h.objs.size≤a) (new:ObjOk P w (upd H a o) h' a o):HOk P w (upd H a o) h':=fun b u e => by
  have hn:=x.fresh hp
  by_cases hb:b=a
  · subst hb; rw [upd_same] at e; cases e; exact new
  · rw [upd_ne hb] at e
    exact (x b u e).stay (fun c v _ q => k c v q) (fun c q => by rw [upd_ne (ne_of_none q hn)]; exact q) fun c xs q => by rw [upd_ne (ne_of_none q hn)]; exact q
end
def Rd (H:Hp) (a:Addr) (u:HO):Prop:=H a=some u∨∃ o,H a=some (.frz o u)
theorem Rd.ok {P:Program} {w:World} {H:Hp} {h:Heap} {a:Addr} {u:HO} (r:Rd H a u) (x:HOk P w H h):ObjOk P w H h a u:=by
  rcases r with r | ⟨o,r⟩
  · exact x a u r
  · obtain ⟨_,q⟩:=x a _ r
    exact q
def Mut:Option HO→Prop
  | some (.lst _) => True
  | some (.dK _) => True
  | some (.dT _) => True
  | some (.set _ _) => True
  | some (.ins _ _ _) => True
  | some (.ext _) => True
  | _ => False
section
variable {P:Program} {w:World} {H:Hp} {h h':Heap} {x e:Addr} {o':HO}
theorem HOk.write (ok:HOk P w H h) (mu:Mut (H x)) (he:e=x∨H e=some (.own x)) (k:∀ b u,b≠e→h.get? b=some u→h'.get? b=some u) (heo:∃ u,h'.get? e=some u)
    (new:ObjOk P w (upd H x o') h' x o'):HOk P w (upd H x o') h':=fun b u q => by
  have nown:∀ c y,H c=some (.own y)→c≠x:=fun c y r z => by subst z; rw [r] at mu; exact mu
  have ntup:∀ c xs,H c=some (.tup xs)→c≠x:=fun c xs r z => by subst z; rw [r] at mu; exact mu
  by_cases hb:b=x
  · subst hb; rw [upd_same] at q; cases q; exact new
  · rw [upd_ne hb] at q
    by_cases hbe:b=e
    · have q':H b=some (.own x):=by
        rcases he with z | z
        · exact absurd (hbe.trans z) hb
        · rw [hbe]; exact z
      rw [q] at q'; cases q'
      obtain ⟨v,hv⟩:=heo
      exact ⟨v,by rw [hbe]; exact hv⟩
    · refine (ok b u q).stay (fun c v hc r => k c v ?_ r) (fun c r => by rw [upd_ne (nown c b r)]; exact r) fun c xs r => by rw [upd_ne (ntup c xs r)]; exact r
      rcases hc with rfl | hc
      · exact hbe
      · rintro rfl
        rcases he with z | z
        · exact nown c b hc z
        · rw [hc] at z; cases z; exact hb rfl
end
structure Un (fs ex:List Addr) (H H':Hp) (h h':Heap):Prop where
  keep:∀ b o,h.get? b=some o→H b=none→b ∉ fs→b ∉ ex→h'.get? b=some o
  slot:∀ b o,h.get? b=some o→H b=none→b∈fs→b ∉ ex→∃ sl,h'.get? b=some { o with slots:=sl }
  free:∀ b o,h.get? b=some o→H b=none→b ∉ ex→H' b=none
  there:∀ b o,h.get? b=some o→b ∉ ex→∃ o',h'.get? b=some o'
  tups:∀ b xs,H b=some (.tup xs)→H' b=some (.tup xs)
  frzs:∀ b o u,H b=some (.frz o u)→H' b=some (.frz o u)
  tbls:∀ b ps,H b=some (.tbl ps)→∃ more,H' b=some (.tbl (ps ++ more))
section
variable {fs fs' ex ex':List Addr} {H H1 H2:Hp} {h h1 h2 h':Heap} {a x e:Addr} {o:HO}
theorem Un.any (u:Un fs ex H H1 h h1) {b:Addr} {ob:Obj} (q:h.get? b=some ob) (n:H b=none) (hx:b ∉ ex):∃ sl,h1.get? b=some { ob with slots:=sl }:=by
  by_cases hb:b∈fs
  · exact u.slot b ob q n hb hx
  · exact ⟨ob.slots,u.keep b ob q n hb hx⟩
theorem Un.kept (k:∀ b u,h.get? b=some u→h'.get? b=some u):Un fs ex H H h h' :=
  ⟨fun b ob q _ _ _ => k b ob q,fun b ob q _ _ _ => ⟨ob.slots,k b ob q⟩,fun _ _ _ n _ => n,fun b ob q _ => ⟨ob,k b ob q⟩,fun _ _ q => q,fun _ _ _ q => q,fun _ ps q => ⟨#[],by rw [q]; simp⟩⟩
theorem Un.refl:Un fs ex H H h h:=Un.kept fun _ _ q => q
theorem Un.laid (k:∀ b u,h.get? b=some u→h'.get? b=some u) (hp:h.objs.size≤a) (hn:H a=none):Un fs ex H (upd H a o) h h' where
  keep:=fun b u q _ _ _ => k b u q
  slot:=fun b u q _ _ _ => ⟨u.slots,k b u q⟩
  free:=fun b u q n _ => by rw [upd_ne (Nat.ne_of_lt (Nat.lt_of_lt_of_le (Heap.lt_size q) hp))]; exact n
  there:=fun b u q _ => ⟨u,k b u q⟩
  tups:=fun b xs q => by rw [upd_ne (ne_of_none q hn)]; exact q
  frzs:=fun b u xs q => by rw [upd_ne (ne_of_none q hn)]; exact q
  tbls:=fun b ps q => ⟨#[],by rw [upd_ne (ne_of_none q hn),q]; simp⟩
theorem Un.write (mu:Mut (H x)) (he:e=x∨H e=some (.own x)) (k:∀ b u,b≠e→h.get? b=some u→h'.get? b=some u) (heo:∃ u,h'.get? e=some u):Un fs ex H (upd H x o) h h':=by
  have hx:∀ b,H b=none→b≠x:=fun b n z => by subst z; rw [n] at mu; exact mu
  have hb:∀ b,H b=none→b≠e:=fun b n z => by
    subst z
    rcases he with r | r
    · exact hx b n r
    · rw [n] at r; cases r
  have hm:∀ b u,H b=some u→¬ Mut (some u)→b≠x:=fun b u q nm z => by subst z; rw [q] at mu; exact nm mu
  refine ⟨fun b u q n _ _ => k b u (hb b n) q,fun b u q n _ _ => ⟨u.slots,k b u (hb b n) q⟩,fun b u q n _ => by rw [upd_ne (hx b n)]; exact n,fun b u q _ => ?_,
    fun b xs q => by rw [upd_ne (hm b _ q fun z => z)]; exact q,fun b u xs q => by rw [upd_ne (hm b _ q fun z => z)]; exact q,fun b ps q => ⟨#[],by rw [upd_ne (hm b _ q fun z => z),q]; simp⟩⟩
  by_cases hbe:b=e
  · subst hbe; exact heo
  · exact ⟨u,k b u hbe q⟩
end
def trk (h:Heap) (H:Hp):List Addr:=(List.range h.objs.size).filter fun a => (H a).isSome
def hidT (h:Heap) (H:Hp):Heap:=PySem.W.hideAll h (trk h H)
theorem hidT_size (h:Heap) (H:Hp):(hidT h H).objs.size=h.objs.size:=PySem.W.hideAll_size _ _
theorem hidT_get {h:Heap} {H:Hp} {b:Addr} {o:Obj} (e:h.get? b=some o) (n:H b=none):(hidT h H).get? b=some o :=
  PySem.W.hideAll_get _ e fun hm => by
    have q:(H b).isSome=true:=(List.mem_filter.mp hm).2
    rw [n] at q; simp at q
theorem of_hidT {h:Heap} {H:Hp} {b:Addr} {o:Obj} (e:(hidT h H).get? b=some o):h.get? b=some o∧H b=none:=by
  have e':h.get? b=some o:=PySem.W.of_hideAll (trk h H) e
  refine ⟨e',?_⟩
  cases q:H b with
  | none => rfl
  | some x =>
    have hm:b∈trk h H:=List.mem_filter.mpr ⟨List.mem_range.mpr (Heap.lt_size e'),by simp [q]⟩
    have z:(hidT h H).get? b=none:=PySem.W.hideAll_none (trk h H) hm
    rw [z] at e; cases e
def allNews (g h:Heap) (L:Addr):List (Addr×Obj):=(List.range h.objs.size).filterMap fun a => if a=L∨(g.get? a).isSome=true then none else (h.get? a).map fun o => (a,o)
def rest (g h:Heap) (L d:Addr):List (Addr×Obj):=(allNews g h L).filter fun p => decide (p.1≠d)
end L2
namespace L2
open PySem PySem.Spec PyProof.Rows
structure Mod (K:PySem.W.Frag) (mg:Str→Option Value) (base:Heap):Prop where
  kin:K.In base
  glob:base.Ns mainGlobals mg
  blt:∃ mb,base.Ns builtinsNs mb∧∀ x:Str,x≠"__name__"→mb x=bootBuiltins x
  nolimit:base.NoLimit
structure Cx where
  prog:Program
  w:World
  K:PySem.W.Frag
  mg:Str→Option Value
  base:Heap
  A:Around
  N:List Str
  s₀:Shared
  H₀:Hp
  env:Env
  outer:List Env
  stack:List Env
  ex:List Addr
  fn:Str→Bool
  calm:Bool
  pn:List (Addr×Obj)
  xe:Value→Shared→Prop
def frs (l:List Env):List Addr:=l.filterMap (·.frame)
abbrev Cx.fs (X:Cx):List Addr:=frs X.outer
def Vis (sc:Scope) (x:Str):Prop:=sc.names.lookup x=some .local∨sc.names.lookup x=some .cell∨sc.names.lookup x=some .free
def Loc (sc:Scope) (x:Str):Prop:=sc.names.lookup x=some .local∨sc.names.lookup x=some .cell
def Look (env:Env) (h:Heap) (m:Str→Option Value) (x:Str) (u:Value):Prop :=
  (env.kindOf x=some .local∧m x=some u)∨((env.kindOf x=some .cell∨env.kindOf x=some .free)∧∃ c,env.cells.lookup x=some c∧h.IsCell c (some u))
structure Cx.Ok (X:Cx):Prop where
  mod:Mod X.K X.mg X.base
  kind:X.env.scope.kind = .function
  glob:X.env.globals=mainGlobals
  blt:X.env.builtins=builtinsNs
  above:X.s₀.heap.objs.size≤X.env.locals
  inj:∀ x y c,X.env.cells.lookup x=some c→X.env.cells.lookup y=some c→x=y
  has:∀ x,(X.env.kindOf x=some .cell∨X.env.kindOf x=some .free)→∃ c,X.env.cells.lookup x=some c
  cab:∀ x c,X.fn x=true→X.env.cells.lookup x=some c→X.s₀.heap.objs.size≤c
  hd:X.calm=true→X.A.handled=none
  frames:X.A.frames=some X.stack
  stk:X.stack=X.outer∨(X.stack=X.env :: X.outer∧X.env.frame=some X.env.locals)
  exf:∀ b∈X.ex,b≠X.env.locals∧∀ x c,X.env.cells.lookup x=some c→c≠b
  bs:∀ b o,X.base.get? b=some o→X.s₀.heap.get? b=some o∧X.H₀ b=none
  bsz:X.base.objs.size≤X.s₀.heap.objs.size
  noex:∀ b o,X.base.get? b=some o→b ∉ X.ex
  exfs:∀ b∈X.ex,b ∉ X.fs
  funs:X.s₀.heap.FunFrames X.base X.outer
  frf:∀ b∈X.fs,X.H₀ b=none
structure Inv (X:Cx) (pins:List (Addr×Obj)) (σ : List (Option V)) (H:Hp) (s:Shared):Prop where
  ok:X.Ok
  os:s.os=X.s₀.os
  bare:AllBare s.gens
  base:Un X.fs X.ex X.H₀ H X.s₀.heap s.heap
  loc:∃ m,s.heap.Ns X.env.locals m∧∀ (i:Nat) (x:Str) (v:V),X.N[i]? = some x→σ[i]? = some (some v)→Vis X.env.scope x→∃ u,RelV v u∧Look X.env s.heap m x u
  cell:∀ x c,X.env.cells.lookup x=some c→∃ v,s.heap.IsCell c v
  free:H X.env.locals=none
  freeC:∀ x c,X.env.cells.lookup x=some c→H c=none
  pin:∀ p∈X.pn ++ pins,s.heap.get? p.1=some p.2∧H p.1=none∧p.1≠X.env.locals∧p.1 ∉ X.fs∧∀ v,p.2.data≠.cell v
  hok:HOk X.prog X.w H s.heap
  len : σ.length=X.N.length
section
variable {X:Cx} {pins:List (Addr×Obj)} {σ : List (Option V)} {H H':Hp} {s:Shared} {h':Heap}
theorem Cx.Ok.nofr (ok:X.Ok) {b:Addr} {o:Obj} (e:X.base.get? b=some o):b ∉ X.fs:=fun hb => by
  have:=(ok.funs.mem hb).1
  rw [e] at this; cases this
theorem Inv.bs (I:Inv X pins σ H s):∀ b o,X.base.get? b=some o→s.heap.get? b=some o∧H b=none:=fun b o e =>
  ⟨I.base.keep b o (I.ok.bs b o e).1 (I.ok.bs b o e).2 (I.ok.nofr e) (I.ok.noex b o e),I.base.free b o (I.ok.bs b o e).1 (I.ok.bs b o e).2 (I.ok.noex b o e)⟩
theorem Inv.bk (I:Inv X pins σ H s):∀ b o,X.base.get? b=some o→s.heap.get? b=some o:=fun b o e => (I.bs b o e).1
theorem Inv.mod (I:Inv X pins σ H s):Mod X.K X.mg X.base:=I.ok.mod
theorem Inv.kIn (I:Inv X pins σ H s):X.K.In s.heap:=I.ok.mod.kin.keeps I.bk
theorem Inv.lt (I:Inv X pins σ H s):X.env.locals < s.heap.objs.size:=let ⟨_,hn,_⟩:=I.loc; hn.lt
theorem Inv.sz (I:Inv X pins σ H s):X.s₀.heap.objs.size≤s.heap.objs.size:=Nat.le_trans I.ok.above (Nat.le_of_lt I.lt)
theorem Inv.nofs (I:Inv X pins σ H s) {a:Addr} (h:s.heap.objs.size≤a):a ∉ X.fs:=fun hb => by
  obtain ⟨_,o,ho,_⟩:=I.ok.funs.mem hb
  exact absurd (Nat.lt_of_lt_of_le (Heap.lt_size ho) (Nat.le_trans I.sz h)) (Nat.lt_irrefl _)
theorem Inv.cne (I:Inv X pins σ H s):∀ x c,X.env.cells.lookup x=some c→c≠X.env.locals:=fun x c e z => by
  obtain ⟨v,o,ho,hd⟩:=I.cell x c e
  obtain ⟨m,⟨o',es,ep,ho',hd',_⟩,_⟩:=I.loc
  rw [z,ho'] at ho; cases ho; rw [hd'] at hd; cases hd
theorem Inv.funs (I:Inv X pins σ H s):s.heap.FunFrames X.base X.outer:=by
  have all:∀ (l:List Env),(∀ b∈frs l,b∈X.fs)→X.s₀.heap.FunFrames X.base l→s.heap.FunFrames X.base l:=by
    intro l
    induction l with
    | nil => intro _ _; trivial
    | cons env r ih =>
      intro hs hl
      obtain ⟨hk,⟨L,o,hf,hn,ho,hd⟩,hr⟩:=hl
      have hL:L∈X.fs:=hs L (by unfold frs; rw [List.filterMap_cons,hf]; exact List.mem_cons_self)
      obtain ⟨sl,e⟩:=I.base.slot L o ho (I.ok.frf L hL) hL fun z => I.ok.exfs L z hL
      exact ⟨hk,⟨L,_,hf,hn,e,hd⟩,ih (fun b hb => hs b (by unfold frs; rw [List.filterMap_cons,hf]; exact List.mem_cons_of_mem _ hb)) hr⟩
  exact all X.outer (fun _ hb => hb) I.ok.funs
theorem Inv.stack (I:Inv X pins σ H s):s.heap.FunFrames X.base X.stack:=by
  rcases I.ok.stk with e | ⟨e,hf⟩
  · rw [e]; exact I.funs
  · rw [e]
    obtain ⟨m,hn,_⟩:=I.loc
    refine .cons (by rw [I.ok.kind]; decide) hf hn ?_ I.funs
    exact Heap.get?_none_of_le (Nat.le_trans I.ok.bsz I.ok.above)
theorem Inv.stkSub (I:Inv X pins σ H s):∀ b∈frs X.stack,b∈X.env.locals :: X.fs:=fun b hb => by
  rcases I.ok.stk with e | ⟨e,hf⟩
  · rw [e] at hb; exact List.mem_cons_of_mem _ hb
  · rw [e] at hb
    unfold frs at hb
    rw [List.filterMap_cons,hf] at hb
    exact hb
theorem Inv.stkFree (I:Inv X pins σ H s):∀ b∈frs X.stack,H b=none:=fun b hb => by
  rcases List.mem_cons.mp (I.stkSub b hb) with e | hb
  · rw [e]; exact I.free
  · obtain ⟨_,o,ho,_⟩:=I.ok.funs.mem hb
    exact I.base.free b o ho (I.ok.frf b hb) fun z => I.ok.exfs b z hb
theorem Inv.step {g':Array GenState} {t':Nat} {d':Drawn} {ch:List Addr} (I:Inv X pins σ H s)
    (hch:∀ b∈ch,(b∈X.ex∨X.s₀.heap.objs.size≤b)∧b≠X.env.locals∧(∀ x c,X.env.cells.lookup x=some c→c≠b)∧∀ p∈X.pn ++ pins,p.1≠b)
    (keep:∀ b o,b≠X.env.locals→b ∉ X.fs→b ∉ ch→s.heap.get? b=some o→H b=none→h'.get? b=some o)
    (slot:∀ b o,b≠X.env.locals→b∈X.fs→b ∉ ch→s.heap.get? b=some o→H b=none→∃ sl,h'.get? b=some { o with slots:=sl }) (free:∀ b o,b ∉ ch→s.heap.get? b=some o→H b=none→H' b=none)
    (there:∀ b o,b ∉ ch→s.heap.get? b=some o→∃ o',h'.get? b=some o')
    (tups:∀ b xs,H b=some (.tup xs)→H' b=some (.tup xs)) (frzs:∀ b o u,H b=some (.frz o u)→H' b=some (.frz o u)) (tbls:∀ b ps,H b=some (.tbl ps)→∃ more,H' b=some (.tbl (ps ++ more)))
    (ns:∀ m,s.heap.Ns X.env.locals m→h'.Ns X.env.locals m) (hok:HOk X.prog X.w H' h') (hg:AllBare g') :
    Inv X pins σ H' { s with heap:=h',gens:=g',drawn:=d',toks:=t' }:=by
  have neL:∀ b o,X.s₀.heap.get? b=some o→b≠X.env.locals:=fun b o e => Nat.ne_of_lt (Nat.lt_of_lt_of_le (Heap.lt_size e) I.ok.above)
  have neC:∀ b o,X.s₀.heap.get? b=some o→b ∉ X.ex→b ∉ ch:=fun b o e hx hb => by
    rcases (hch b hb).1 with z | z
    · exact hx z
    · exact absurd (Nat.lt_of_lt_of_le (Heap.lt_size e) z) (Nat.lt_irrefl _)
  have cellK:∀ x c,X.env.cells.lookup x=some c→∀ v,s.heap.IsCell c v→h'.IsCell c v:=fun x c e v ⟨o,ho,hd⟩ => by
    have nch:c ∉ ch:=fun z => (hch c z).2.2.1 x c e rfl
    by_cases hc:c∈X.fs
    · obtain ⟨sl,q⟩:=slot c o (I.cne x c e) hc nch ho (I.freeC x c e)
      exact ⟨_,q,hd⟩
    · exact ⟨o,keep c o (I.cne x c e) hc nch ho (I.freeC x c e),hd⟩
  refine ⟨I.ok,I.os,hg,⟨fun b o e n hb hx => ?_,fun b o e n hb hx => ?_,fun b o e n hx => ?_,fun b o e hx => ?_,fun b xs e => tups b xs (I.base.tups b xs e),fun b o xs e => frzs b o xs (I.base.frzs b o xs e),fun b ps e => ?_⟩,?_,fun x c e => ?_,?_,fun x c e => ?_,fun p hp => ?_,hok,I.len⟩
  · exact keep b o (neL b o e) hb (neC b o e hx) (I.base.keep b o e n hb hx) (I.base.free b o e n hx)
  · obtain ⟨sl,e1⟩:=I.base.slot b o e n hb hx
    obtain ⟨sl',e2⟩:=slot b _ (neL b o e) hb (neC b o e hx) e1 (I.base.free b o e n hx)
    exact ⟨sl',e2⟩
  · obtain ⟨o',e1⟩:=I.base.there b o e hx
    exact free b o' (neC b o e hx) e1 (I.base.free b o e n hx)
  · obtain ⟨o',e1⟩:=I.base.there b o e hx
    exact there b o' (neC b o e hx) e1
  · obtain ⟨m1,e1⟩:=I.base.tbls b ps e
    obtain ⟨m2,e2⟩:=tbls b _ e1
    exact ⟨m1 ++ m2,by rw [e2,Array.append_assoc]⟩
  · obtain ⟨m,hn,hl⟩:=I.loc
    refine ⟨m,ns m hn,fun i x v e1 e2 e3 => ?_⟩
    obtain ⟨u,r,l⟩:=hl i x v e1 e2 e3
    refine ⟨u,r,?_⟩
    rcases l with l | ⟨k,c,e,z⟩
    · exact .inl l
    · exact .inr ⟨k,c,e,cellK x c e _ z⟩
  · obtain ⟨v,z⟩:=I.cell x c e
    exact ⟨v,cellK x c e v z⟩
  · obtain ⟨m,⟨o,_,_,ho,_⟩,_⟩:=I.loc
    exact free _ o (fun z => (hch _ z).2.1 rfl) ho I.free
  · obtain ⟨v,o,ho,hd⟩:=I.cell x c e
    exact free c o (fun z => (hch c z).2.2.1 x c e rfl) ho (I.freeC x c e)
  · obtain ⟨e,n,ne,nf,d⟩:=I.pin p hp
    have nch:p.1 ∉ ch:=fun z => (hch p.1 z).2.2.2 p hp rfl
    exact ⟨keep p.1 p.2 ne nf nch e n,free p.1 p.2 nch e n,ne,nf,d⟩
theorem Inv.un {t':Nat} (I:Inv X pins σ H s) (u:Un X.fs [] H H' s.heap h') (hok:HOk X.prog X.w H' h'):Inv X pins σ H' { s with heap:=h',toks:=t' }:=by
  obtain ⟨m,⟨o,es,ep,ho,r⟩,_⟩:=id I.loc
  obtain ⟨sl,hL⟩:=u.any ho I.free (by simp)
  exact I.step (g':=s.gens) (d':=s.drawn) (ch:=[]) (fun _ z => nomatch z) (fun b o _ hb _ e n => u.keep b o e n hb (by simp)) (fun b o _ hb _ e n => u.slot b o e n hb (by simp)) (fun b o _ e n => u.free b o e n (by simp)) (fun b o _ e => u.there b o e (by simp)) u.tups u.frzs u.tbls (fun m' hm => by
    obtain ⟨o',es',ep',ho',r'⟩:=hm
    rw [ho] at ho'; cases ho'
    exact ⟨_,es',ep',hL,r'⟩) hok I.bare
theorem Inv.call {g':Array GenState} {t':Nat} {d':Drawn} {ch:List Addr} (I:Inv X pins σ H s) (u:Un (frs X.stack) ch H H' s.heap h') (hok:HOk X.prog X.w H' h') (hg:AllBare g')
    (hch:∀ b∈ch,(b∈X.ex∨X.s₀.heap.objs.size≤b)∧b≠X.env.locals∧(∀ x c,X.env.cells.lookup x=some c→c≠b)∧∀ p∈X.pn ++ pins,p.1≠b) :
    Inv X pins σ H' { s with heap:=h',gens:=g',drawn:=d',toks:=t' }:=by
  obtain ⟨m,⟨o,es,ep,ho,r⟩,_⟩:=id I.loc
  obtain ⟨sl,hL⟩:=u.any ho I.free fun z => (hch _ z).2.1 rfl
  exact I.step (ch:=ch) hch (fun b o hL hb hc e n => u.keep b o e n (fun z => (List.mem_cons.mp (I.stkSub b z)).elim hL hb) hc) (fun b o _ _ hc e n => u.any e n hc) (fun b o hc e n => u.free b o e n hc) (fun b o hc e => u.there b o e hc) u.tups u.frzs u.tbls (fun m' hm => by
    obtain ⟨o',es',ep',ho',r'⟩:=hm
    rw [ho] at ho'; cases ho'
    exact ⟨_,es',ep',hL,r'⟩) hok hg
theorem Inv.turned {t':Nat} {it:Addr} (I:Inv X pins σ H s) (k:∀ b o,b≠it→s.heap.get? b=some o→h'.get? b=some o) (hn:H it=none) (hL:it≠X.env.locals)
    (h1:it∈X.ex∨X.s₀.heap.objs.size≤it) (h2:∀ x c,X.env.cells.lookup x=some c→c≠it) (h3:∀ p∈X.pn ++ pins,p.1≠it):Inv X pins σ H { s with heap:=h',toks:=t' }:=by
  have nit:∀ b u,H b=some u→b≠it:=fun b u e z => by rw [z,hn] at e; cases e
  refine I.step (g':=s.gens) (d':=s.drawn) (ch:=[it]) (fun b hb => ?_) (fun b o _ _ hc e _ => k b o (fun z => hc (by simp [z])) e) (fun b o _ _ hc e _ => ⟨o.slots,k b o (fun z => hc (by simp [z])) e⟩) (fun _ _ _ _ n => n)
    (fun b o hc e => ⟨o,k b o (fun z => hc (by simp [z])) e⟩) (fun _ _ e => e) (fun _ _ _ e => e) (fun b ps e => ⟨#[],by rw [e]; simp⟩) (fun m hm => ?_) (fun b u e => ?_) I.bare
  · have e:b=it:=by simpa using hb
    subst e
    exact ⟨h1,hL,h2,h3⟩
  · obtain ⟨o,es,ep,ho,r⟩:=hm
    exact ⟨o,es,ep,k _ o (Ne.symm hL) ho,r⟩
  · refine (I.hok b u e).stay (fun c v hc q => k c v ?_ q) (fun _ q => q) fun _ _ q => q
    rcases hc with z | z
    · rw [z]; exact nit b u e
    · exact nit c _ z
theorem Inv.tok (I:Inv X pins σ H s) (t:Nat):Inv X pins σ H { s with toks:=t }:=I.un (h':=s.heap) (t':=t) Un.refl I.hok
theorem Inv.kept {t':Nat} (I:Inv X pins σ H s) (k:∀ b u,s.heap.get? b=some u→h'.get? b=some u):Inv X pins σ H { s with heap:=h',toks:=t' }:=I.un (Un.kept k) (I.hok.kept k)
theorem Inv.laid {a:Addr} {o:HO} {t':Nat} (I:Inv X pins σ H s) (k:∀ b u,s.heap.get? b=some u→h'.get? b=some u) (hp:s.heap.objs.size≤a) (new:ObjOk X.prog X.w (upd H a o) h' a o) :
    Inv X pins σ (upd H a o) { s with heap:=h',toks:=t' }:=I.un (Un.laid k hp (I.hok.fresh hp)) (I.hok.laid k hp new)
theorem Inv.write {x e:Addr} {o:HO} {t':Nat} (I:Inv X pins σ H s) (mu:Mut (H x)) (he:e=x∨H e=some (.own x)) (k:∀ b u,b≠e→s.heap.get? b=some u→h'.get? b=some u) (heo:∃ u,h'.get? e=some u)
    (new:ObjOk X.prog X.w (upd H x o) h' x o):Inv X pins σ (upd H x o) { s with heap:=h',toks:=t' }:=I.un (Un.write mu he k heo) (I.hok.write mu he k heo new)
theorem Inv.pins_of {pins':List (Addr×Obj)} (I:Inv X pins σ H s) (h:∀ p∈pins',s.heap.get? p.1=some p.2∧H p.1=none∧p.1≠X.env.locals∧p.1 ∉ X.fs∧∀ v,p.2.data≠.cell v):Inv X pins' σ H s :=
  ⟨I.ok,I.os,I.bare,I.base,I.loc,I.cell,I.free,I.freeC,fun p hp => (List.mem_append.mp hp).elim (fun z => I.pin p (List.mem_append_left _ z)) (h p),I.hok,I.len⟩
theorem nodup_ix {N:List Str} (hN:N.Nodup) {i j:Nat} {x:Str} (a:N[i]? = some x) (b:N[j]? = some x):i=j:=by
  obtain ⟨h1,e1⟩:=List.getElem?_eq_some_iff.mp a
  obtain ⟨h2,e2⟩:=List.getElem?_eq_some_iff.mp b
  exact (List.getElem_inj hN).mp (e1.trans e2.symm)
theorem store_ok2 {M:Model} {A:Around} {E:Value→Shared→Prop} {i:Nat} {x:Str} {v:V} {u:Value} {Q:Unit→Shared→Prop} (I:Inv X pins σ H s) (hN:X.N.Nodup) (hi:X.N[i]? = some x) (hx:Loc X.env.scope x) (r:RelV v u)
    (h:∀ s',Inv X pins (σ.set i (some v)) H s'→(∃ a,Heap.SameBut a s.heap s'.heap∧(a=X.env.locals∨X.env.cells.lookup x=some a))→Q () s') (hf:X.fn x=true∨X.env.scope.names.lookup x=some .local:=by first | exact .inl rfl | exact .inr rfl | assumption):wpAny M A (storeName X.env x u) Q E s:=by
  obtain ⟨m,hn,hl⟩:=id I.loc
  have hcls:(X.env.scope.kind == .class || (X.env.scope.kind == .module && X.env.locals != X.env.globals))=false:=by rw [I.ok.kind]; rfl
  have hiσ : i < σ.length:=by rw [I.len]; exact (List.getElem?_eq_some_iff.mp hi).1
  have cne:=I.cne
  have tracked:∀ {a:Addr} {h':Heap},(∃ o,s.heap.get? a=some o∧H a=none)→Heap.SameBut a s.heap h'→HOk X.prog X.w H h':=fun {a h'} ha hs b ob e => by
    obtain ⟨_,_,hfree⟩:=ha
    refine (I.hok b ob e).stay (fun c w' hc q => (hs.2 c ?_).trans q) (fun _ q => q) fun _ _ q => q
    rintro rfl
    rcases hc with rfl | hc
    · rw [hfree] at e; cases e
    · rw [hfree] at hc; cases hc
  rcases hx with hk | hk
  · refine wpAny_storeName_local hk hn (fun h' hn' hs => ?_) hcls
    obtain ⟨oL,_,_,hoL,_⟩:=id hn
    refine h _ ⟨I.ok,I.os,I.bare,⟨fun b o e n hb hx => ?_,fun b o e n hb hx => ?_,I.base.free,fun b o e hx => ?_,I.base.tups,I.base.frzs,I.base.tbls⟩,⟨_,hn',fun j y v' e1 e2 e3 => ?_⟩,fun y c e => ?_,I.free,I.freeC,fun p hp => ?_,tracked ⟨oL,hoL,I.free⟩ hs,by simpa using I.len⟩ ⟨_,hs,.inl rfl⟩
    · exact (hs.2 b (Nat.ne_of_lt (Nat.lt_of_lt_of_le (Heap.lt_size e) I.ok.above))).trans (I.base.keep b o e n hb hx)
    · obtain ⟨sl,e1⟩:=I.base.slot b o e n hb hx
      exact ⟨sl,(hs.2 b (Nat.ne_of_lt (Nat.lt_of_lt_of_le (Heap.lt_size e) I.ok.above))).trans e1⟩
    · obtain ⟨o',e1⟩:=I.base.there b o e hx
      exact ⟨o',(hs.2 b (Nat.ne_of_lt (Nat.lt_of_lt_of_le (Heap.lt_size e) I.ok.above))).trans e1⟩
    · by_cases hj:j=i
      · subst hj
        rw [hi] at e1; cases e1
        rw [List.getElem?_set_self hiσ] at e2
        cases e2
        exact ⟨u,r,.inl ⟨hk,by simp⟩⟩
      · rw [List.getElem?_set_ne (Ne.symm hj)] at e2
        obtain ⟨u',r',q⟩:=hl j y v' e1 e2 e3
        refine ⟨u',r',?_⟩
        rcases q with ⟨k,e⟩ | ⟨k,c,e,z⟩
        · refine .inl ⟨k,?_⟩
          have:y≠x:=fun e => hj (nodup_ix hN e1 (e ▸ hi))
          simp [this,e]
        · exact .inr ⟨k,c,e,z.sameBut hs (cne y c e)⟩
    · obtain ⟨w',z⟩:=I.cell y c e
      exact ⟨w',z.sameBut hs (cne y c e)⟩
    · obtain ⟨e,n,ne,nf,d⟩:=I.pin p hp
      exact ⟨(hs.2 p.1 ne).trans e,n,ne,nf,d⟩
  · have hfn:X.fn x=true:=by
      rcases hf with z | z
      · exact z
      · rw [z] at hk; cases hk
    obtain ⟨c,hc⟩:=I.ok.has x (.inl hk)
    obtain ⟨w',z⟩:=I.cell x c hc
    refine wpAny_storeName_cell I.ok.kind hk hc z (fun h' hc' hs => ?_)
    obtain ⟨oc,hoc,hocd⟩:=id z
    refine h { s with heap:=h' } ⟨I.ok,I.os,I.bare,⟨fun b o e n hb hx => ?_,fun b o e n hb hx => ?_,I.base.free,fun b o e hx => ?_,I.base.tups,I.base.frzs,I.base.tbls⟩,⟨m,hn.sameBut hs (Ne.symm (cne x c hc)),fun j y v' e1 e2 e3 => ?_⟩,fun y c' e => ?_,I.free,I.freeC,fun p hp => ?_,tracked ⟨oc,hoc,I.freeC x c hc⟩ hs,by simpa using I.len⟩ ⟨c,hs,.inr hc⟩
    · exact (hs.2 b (Nat.ne_of_lt (Nat.lt_of_lt_of_le (Heap.lt_size e) (I.ok.cab x c hfn hc)))).trans (I.base.keep b o e n hb hx)
    · obtain ⟨sl,e1⟩:=I.base.slot b o e n hb hx
      exact ⟨sl,(hs.2 b (Nat.ne_of_lt (Nat.lt_of_lt_of_le (Heap.lt_size e) (I.ok.cab x c hfn hc)))).trans e1⟩
    · obtain ⟨o',e1⟩:=I.base.there b o e hx
      exact ⟨o',(hs.2 b (Nat.ne_of_lt (Nat.lt_of_lt_of_le (Heap.lt_size e) (I.ok.cab x c hfn hc)))).trans e1⟩
    · by_cases hj:j=i
      · subst hj
        rw [hi] at e1; cases e1
        rw [List.getElem?_set_self hiσ] at e2
        cases e2
        exact ⟨u,r,.inr ⟨.inl hk,c,hc,hc'⟩⟩
      · rw [List.getElem?_set_ne (Ne.symm hj)] at e2
        obtain ⟨u',r',q⟩:=hl j y v' e1 e2 e3
        refine ⟨u',r',?_⟩
        rcases q with q | ⟨k,c',e,z'⟩
        · exact .inl q
        · refine .inr ⟨k,c',e,z'.sameBut hs ?_⟩
          rintro rfl
          exact hj (nodup_ix hN e1 (I.ok.inj _ _ _ e hc ▸ hi))
    · by_cases hcc:c'=c
      · subst hcc; exact ⟨_,hc'⟩
      · obtain ⟨w2,z2⟩:=I.cell y c' e
        exact ⟨w2,z2.sameBut hs hcc⟩
    · obtain ⟨e,n,ne,nf,d⟩:=I.pin p hp
      refine ⟨(hs.2 p.1 ?_).trans e,n,ne,nf,d⟩
      intro q
      rw [q,hoc] at e
      have q':oc=p.2:=Option.some.inj e
      exact d w' (by rw [← q']; exact hocd)
theorem store_ok {M:Model} {A:Around} {E:Value→Shared→Prop} {i:Nat} {x:Str} {v:V} {u:Value} {Q:Unit→Shared→Prop} (I:Inv X pins σ H s) (hN:X.N.Nodup) (hi:X.N[i]? = some x) (hx:Loc X.env.scope x) (r:RelV v u)
    (h:∀ s',Inv X pins (σ.set i (some v)) H s'→Q () s') (hf:X.fn x=true∨X.env.scope.names.lookup x=some .local:=by first | exact .inl rfl | exact .inr rfl | assumption):wpAny M A (storeName X.env x u) Q E s :=
  store_ok2 I hN hi hx r (fun s' I' _ => h s' I') hf
theorem Inv.call' {s':Shared} {ch:List Addr} (I:Inv X pins σ H s) (ho:s'.os=s.os) (u:Un (frs X.stack) ch H H' s.heap s'.heap) (hok:HOk X.prog X.w H' s'.heap) (hg:AllBare s'.gens)
    (hch:∀ b∈ch,(b∈X.ex∨X.s₀.heap.objs.size≤b)∧b≠X.env.locals∧(∀ x c,X.env.cells.lookup x=some c→c≠b)∧∀ p∈X.pn ++ pins,p.1≠b):Inv X pins σ H' s':=by
  obtain ⟨h',g',d',t',o'⟩:=s'
  have e:o'=s.os:=ho
  subst e
  exact I.call (g':=g') (t':=t') (d':=d') u hok hg hch
end
abbrev XK:=Value→Option Addr→Hp→Prop
abbrev St:=List (Option V)
abbrev VK:=V→Hp→Prop
abbrev TE:=St→Hp→VK→Prop
abbrev TT:=St→Hp→(Bool→Hp→Prop)→Prop
abbrev TA:=St→Hp→(List V→Hp→Prop)→Prop
structure Ends where
  nx:St→Hp→Prop
  rt:VK
  bk:St→Hp→Prop:=fun _ _ => False
  ct:St→Hp→Prop:=fun _ _ => False
abbrev TS:=Ends→St→Hp→Prop
def EP (X:Cx) (pins:List (Addr×Obj)) (σ : St) (Q:VK) (u:Value) (s':Shared):Prop := ∃ v H',Inv X pins σ H' s'∧RelV v u∧Q v H'
def TP (X:Cx) (pins:List (Addr×Obj)) (σ : St) (Q:Bool→Hp→Prop) (b:Bool) (s':Shared):Prop := ∃ H',Inv X pins σ H' s'∧Q b H'
def AP (X:Cx) (pins:List (Addr×Obj)) (σ : St) (Q:List V→Hp→Prop) (us:List Value) (s':Shared):Prop := ∃ vs H',Inv X pins σ H' s'∧Vals vs us∧Q vs H'
def SP (X:Cx) (pins:List (Addr×Obj)) (D:Ends) (f:Flow) (s':Shared):Prop :=
  match f with
  | .next => ∃ σ' H',Inv X pins σ' H' s'∧D.nx σ' H'
  | .brk => ∃ σ' H',Inv X pins σ' H' s'∧D.bk σ' H'
  | .cont => ∃ σ' H',Inv X pins σ' H' s'∧D.ct σ' H'
  | .ret u => ∃ v σ' H',Inv X pins σ' H' s'∧RelV v u∧D.rt v H'
def PE (X:Cx) (e:Expr) (t:TE):Prop :=
  ∀ (pins:List (Addr×Obj)) (s:Shared) (σ : St) (H:Hp) (Q:VK),Inv X pins σ H s→t σ H Q→wpAny (model X.prog X.w) X.A (eval e X.env) (EP X pins σ Q) X.xe s
def PT (X:Cx) (e:Expr) (t:TT):Prop :=
  ∀ (pins:List (Addr×Obj)) (s:Shared) (σ : St) (H:Hp) (Q:Bool→Hp→Prop),Inv X pins σ H s→t σ H Q→wpAny (model X.prog X.w) X.A (isTrue e X.env (eval e X.env)) (TP X pins σ Q) X.xe s
def PW (X:Cx) (e:Expr) (t:TT):Prop :=
  ∀ (whole:Sem Value) (pins:List (Addr×Obj)) (s:Shared) (σ : St) (H:Hp) (Q:Bool→Hp→Prop),Inv X pins σ H s→t σ H Q→wpAny (model X.prog X.w) X.A (isTrue e X.env whole) (TP X pins σ Q) X.xe s
theorem PW.pt {X:Cx} {e:Expr} {t:TT} (h:PW X e t):PT X e t:=h _
def PA (X:Cx) (es:List Expr) (t:TA):Prop :=
  ∀ (pos:Pos) (pins:List (Addr×Obj)) (s:Shared) (σ : St) (H:Hp) (Q:List V→Hp→Prop),Inv X pins σ H s→t σ H Q→wpAny (model X.prog X.w) X.A (spliced (backTo pos (starEach es X.env))) (AP X pins σ Q) X.xe s
def PS (X:Cx) (st:Stmt) (t:TS):Prop :=
  ∀ (pins:List (Addr×Obj)) (s:Shared) (σ : St) (H:Hp) (D:Ends),Inv X pins σ H s→t D σ H→wpAny (model X.prog X.w) X.A (exec st X.env) (SP X pins D) X.xe s
def PSs (X:Cx) (st:List Stmt) (t:TS):Prop :=
  ∀ (pins:List (Addr×Obj)) (s:Shared) (σ : St) (H:Hp) (D:Ends),Inv X pins σ H s→t D σ H→wpAny (model X.prog X.w) X.A (execs st X.env) (SP X pins D) X.xe s
theorem thn {α : Type} {t:Sem α} {Q Q' : α→Shared→Prop} {M:Model} {A:Around} {E:Value→Shared→Prop} {s:Shared} (h:wpAny M A t Q E s) (hQ:∀ a s,Q a s→Q' a s):wpAny M A t Q' E s:=wpAny_mono h hQ fun _ _ x => x
end L2
namespace L2
open PySem PySem.Spec PyProof.Rows
section
variable {X:Cx}
def tVar (i:Nat):TE:=fun σ H Q => ∃ v,σ[i]? = some (some v)∧Q v H
def tC (v:V):TE:=fun _ H Q => Q v H
theorem pe_var {i:Nat} {x:Str} {pos:Pos} (hN:X.N[i]? = some x) (hv:Vis X.env.scope x) (hd:(x == ("__debug__" : Str))=false:=by decide) (hcd:(x == ("__classdict__" : Str))=false:=by decide):PE X (.Name x pos) (tVar i):=by
  intro pins s σ H Q I h
  obtain ⟨v,e,h⟩:=h
  obtain ⟨m,hn,hl⟩:=I.loc
  obtain ⟨u,r,l⟩:=hl i x v hN e hv
  have fin:EP X pins σ Q u s:=⟨v,H,I,r,h⟩
  rcases l with ⟨hk,hm⟩ | ⟨hk,c,hc,hcell⟩
  · exact wpAny_Name (wpAny_loadName_local I.ok.kind hk hn hm fin) hd
  · rcases hk with hk | hk
    · exact wpAny_Name (wpAny_loadName_cell I.ok.kind hk hc hcell fin) hd
    · exact wpAny_Name (wpAny_loadName_free I.ok.kind hk hc hcell fin hcd) hd
theorem pe_int {i j pos}:PE X (.Constant (.int i) j pos) (tC (.int i)):=fun _ _ _ H _ I h => wpAny_Constant_int ⟨.int i,H,I.tok _,⟨_,rfl⟩,h⟩
theorem pe_bl {b j pos}:PE X (.Constant (.bool b) j pos) (tC (.bl b)):=fun _ _ _ H _ I h => Constant_bool ⟨.bl b,H,I,rfl,h⟩
theorem pe_non {j pos}:PE X (.Constant .none j pos) (tC .non):=fun _ _ _ H _ I h => Constant_none ⟨.non,H,I,rfl,h⟩
def Gl (X:Cx) (x:Str):Prop:=X.env.kindOf x=some .globalImplicit
theorem ld_glob {E:Value→Shared→Prop} {pins:List (Addr×Obj)} {s:Shared} {σ : St} {H:Hp} {x:Str} {u:Value} {pos:Pos} {Q:Value→Shared→Prop} (I:Inv X pins σ H s) (hg:Gl X x) (hm:X.mg x=some u) (h:Q u s)
    (hd:(x == ("__debug__" : Str))=false:=by decide):wpAny (model X.prog X.w) X.A (eval (.Name x pos) X.env) Q E s :=
  Calls.Name_function_global I.ok.kind hg (Calls.loadGlobal_global (by rw [I.ok.glob]; exact I.mod.glob.keeps I.bk) hm h) hd
theorem ld_blt {E:Value→Shared→Prop} {pins:List (Addr×Obj)} {s:Shared} {σ : St} {H:Hp} {x:Str} {u:Value} {pos:Pos} {Q:Value→Shared→Prop} (I:Inv X pins σ H s) (hg:Gl X x) (hm:X.mg x=none) (hv:bootBuiltins x=some u) (h:Q u s)
    (hn:x≠"__name__" := by decide) (hd:(x == ("__debug__" : Str))=false:=by decide):wpAny (model X.prog X.w) X.A (eval (.Name x pos) X.env) Q E s:=by
  obtain ⟨mb,h1,h2⟩:=I.mod.blt
  exact Calls.Name_function_global I.ok.kind hg (Calls.loadGlobal_builtin (by rw [I.ok.glob]; exact I.mod.glob.keeps I.bk) hm (by rw [I.ok.blt]; exact h1.keeps I.bk) ((h2 x hn).trans hv) h) hd
theorem pe_glob {x:Str} {v:V} {u:Value} {pos:Pos} (hg:Gl X x) (hm:X.mg x=some u) (r:RelV v u) (hd:(x == ("__debug__" : Str))=false:=by decide):PE X (.Name x pos) (tC v) :=
  fun _ _ _ H _ I h => ld_glob I hg hm ⟨v,H,I,r,h⟩ hd
theorem pe_bltn {x:Str} {v:V} {u:Value} {pos:Pos} (hg:Gl X x) (hm:X.mg x=none) (hv:bootBuiltins x=some u) (r:RelV v u) (hn:x≠"__name__" := by decide) (hd:(x == ("__debug__" : Str))=false:=by decide):PE X (.Name x pos) (tC v) :=
  fun _ _ _ H _ I h => ld_blt I hg hm hv ⟨v,H,I,r,h⟩ hn hd
variable {a b:Expr} {ta tb:TE} {pos:Pos}
def PC (X:Cx) (op:CmpOp) (a b:Expr) (t:TE):Prop :=
  ∀ (pins:List (Addr×Obj)) (s:Shared) (σ : St) (H:Hp) (Q:VK),Inv X pins σ H s→t σ H Q →
    wpAny (model X.prog X.w) X.A (eval a X.env) (fun v s₁ => wpAny (model X.prog X.w) X.A (eval b X.env) (fun u s₂ => wpAny (model X.prog X.w) X.A (compareOp op v u) (EP X pins σ Q) X.xe s₂) X.xe s₁) X.xe s
theorem nobehind (b:Expr) {op:CmpOp} (h:op≠.In) (h2:op≠.NotIn):behindInMarks op b=false:=by
  have e1:(op == CmpOp.In)=false:=by cases op <;> first | rfl | exact absurd rfl h
  have e2:(op == CmpOp.NotIn)=false:=by cases op <;> first | rfl | exact absurd rfl h2
  cases b <;> simp [behindInMarks,e1,e2]
def tNotN (ta:TE):TE:=fun σ H Q => ta σ H fun x H1 => Q (.bl (!decide (x = .non))) H1
theorem RelV.none_iff {x:V} {v:Value} (r:RelV x v):(v == Value.none)=decide (x = .non):=by
  cases x with
  | non => cases r; rfl
  | bl _ => cases r; rfl
  | int _ => obtain ⟨t,rfl⟩:=r; rfl
  | str _ => obtain ⟨t,rfl⟩:=r; rfl
  | byt _ => obtain ⟨t,rfl⟩:=r; rfl
  | flt _ => obtain ⟨t,rfl⟩:=r; rfl
  | ref _ => cases r; rfl
  | ty _ => cases r; rfl
theorem pc_notN {j pos'} (ha:PE X a ta):PC X .IsNot a (.Constant .none j pos') (tNotN ta):=by
  intro pins s σ H Q I h
  refine thn (ha pins s σ H _ I h) fun v s1 ⟨x,H1,I1,r1,q1⟩ => ?_
  exact Constant_none (isnot_none_gen ⟨.bl _,H1,I1,by rw [r1.none_iff]; rfl,q1⟩)
def tB (t:TE):TT:=fun σ H Q => t σ H fun x H1 => ∃ c,x = .bl c∧Q c H1
theorem pt_cmp {op:CmpOp} {t:TE} (h:PC X op a b t) (h1:behindInMarks op b=false:=by first | exact nobehind _ (by decide) (by decide) | rfl):PT X (.Compare a [op] [b] pos) (tB t):=by
  intro pins s σ H Q I hw
  refine wpAny_isTrue_Compare1 (thn (h pins s σ H _ I hw) fun v s1 h1 => thn h1 fun u s2 h2 => thn h2 fun c s3 ⟨x,H1,I1,r1,q1⟩ => ?_) h1
  obtain ⟨d,rfl,q⟩:=q1
  cases r1
  exact wpAny_truthy_bool ⟨H1,I1,q⟩
theorem pt_val {e:Expr} {t:TE} (h:PE X e t) (he:∀ whole,isTrue e X.env whole=(do let v ← whole; standAt e.pos; holding [v] (truthy v)):=by intro _; rfl):PT X e (tB t):=by
  intro pins s σ H Q I hw
  refine isTrue_plain (thn (h pins s σ H _ I hw) fun v s1 ⟨x,H1,I1,r1,q1⟩ => ?_) (he _)
  obtain ⟨d,rfl,q⟩:=q1
  cases r1
  exact wpAny_truthy_bool ⟨H1,I1,q⟩
variable {tA tB':TT} {rest:List Expr}
def tAnd (t u:TT):TT:=fun σ H Q => t σ H fun c H1 => if c=true then u σ H1 Q else Q false H1
def tOr (t u:TT):TT:=fun σ H Q => t σ H fun c H1 => if c=true then Q true H1 else u σ H1 Q
def tNot (t:TT):TT:=fun σ H Q => t σ H fun c H1 => Q (!c) H1
theorem pw_and1 (ha:PT X a tA):PW X (.BoolOp .And [a] pos) tA:=by
  intro wh pins s σ H Q I h
  refine isTrue_and (thn (ha pins s σ H Q I h) fun c s1 e => ?_)
  cases c with
  | true => exact isTrue_and_nil e
  | false => exact e
theorem pw_or1 (ha:PT X a tA):PW X (.BoolOp .Or [a] pos) tA:=by
  intro wh pins s σ H Q I h
  refine isTrue_or (thn (ha pins s σ H Q I h) fun c s1 e => ?_)
  cases c with
  | false => exact isTrue_or_nil e
  | true => exact e
theorem pw_and (ha:PT X a tA) (hb:PW X (.BoolOp .And (b :: rest) pos) tB'):PW X (.BoolOp .And (a :: b :: rest) pos) (tAnd tA tB'):=by
  intro wh pins s σ H Q I h
  refine isTrue_and (thn (ha pins s σ H _ I h) fun c s1 ⟨H1,I1,q1⟩ => ?_)
  cases c with
  | true => exact hb wh pins s1 σ H1 Q I1 q1
  | false => exact ⟨H1,I1,q1⟩
theorem pw_or (ha:PT X a tA) (hb:PW X (.BoolOp .Or (b :: rest) pos) tB'):PW X (.BoolOp .Or (a :: b :: rest) pos) (tOr tA tB'):=by
  intro wh pins s σ H Q I h
  refine isTrue_or (thn (ha pins s σ H _ I h) fun c s1 ⟨H1,I1,q1⟩ => ?_)
  cases c with
  | true => exact ⟨H1,I1,q1⟩
  | false => exact hb wh pins s1 σ H1 Q I1 q1
theorem pt_not (ha:PT X a tA):PT X (.UnaryOp .Not a pos) (tNot tA):=by
  intro pins s σ H Q I h
  exact isTrue_not (ha pins s σ H (fun c H1 => Q (!c) H1) I h)
end
end L2
namespace L2
open PySem PySem.Spec PyProof.Rows
def SqL (K:PySem.W.Frag) (H:Hp) (a:Addr) (xs:List V):Prop :=
  Rd H a (.lst xs) ∨
    ∃ (o:Obj) (its:Array Value) (n:Nat),K.lookup a=some o∧o.cls = .type "list"∧o.dict=none∧o.data = .seq its n∧its.size≤sizeLine∧Vals xs its.toList
def SqT (K:PySem.W.Frag) (H:Hp) (a:Addr) (xs:List V):Prop :=
  Rd H a (.tup xs) ∨
    ∃ (o:Obj) (its:Array Value) (n:Nat),K.lookup a=some o∧o.cls = .type "tuple"∧o.data = .seq its n∧its.size≤sizeLine∧Vals xs its.toList
def absV:Value→Option V
  | .none => some .non
  | .bool b => some (.bl b)
  | .int i _ => some (.int i)
  | .str x _ => some (.str x)
  | .bytes b _ => some (.byt b)
  | .float b _ => some (.flt b)
  | .ref a => some (.ref a)
  | .type n => some (.ty n)
  | _ => none
theorem RelV.abs {x:V} {u:Value} (r:RelV x u):absV u=some x:=by
  cases x with
  | non => cases r; rfl
  | bl _ => cases r; rfl
  | int _ => obtain ⟨t,rfl⟩:=r; rfl
  | str _ => obtain ⟨t,rfl⟩:=r; rfl
  | byt _ => obtain ⟨t,rfl⟩:=r; rfl
  | flt _ => obtain ⟨t,rfl⟩:=r; rfl
  | ref _ => cases r; rfl
  | ty _ => cases r; rfl
theorem RelV.inj {x y:V} {u:Value} (r:RelV x u) (q:RelV y u):x=y:=Option.some.inj (r.abs.symm.trans q.abs)
theorem Vals.inj:∀ {xs ys:List V} {us:List Value},Vals xs us→Vals ys us→xs=ys
  | _,_,_,.nil,.nil => rfl
  | _,_,_,.cons r t,.cons r' t' => by rw [r.inj r',Vals.inj t t']
section
variable {X:Cx} {pins:List (Addr×Obj)} {σ : St} {H:Hp} {s:Shared} {a:Addr} {xs ys:List V}
theorem SqL.of {K:PySem.W.Frag} (h:H a=some (.lst xs)):SqL K H a xs:=.inl (.inl h)
theorem SqT.of {K:PySem.W.Frag} (h:H a=some (.tup xs)):SqT K H a xs:=.inl (.inl h)
theorem Inv.list (I:Inv X pins σ H s) (h:SqL X.K H a xs):∃ its:List Value,Vals xs its∧PlainL s.heap a its.toArray∧xs.length≤sizeLine:=by
  rcases h with h | ⟨o,its,n,hk,hc,hd,hs,hz,r⟩
  · obtain ⟨z,its,n,r,e⟩:=h.ok I.hok
    exact ⟨its,r,⟨_,n,e,rfl,rfl,rfl⟩,z⟩
  · refine ⟨its.toList,r,⟨o,n,I.kIn a o hk,hc,hd,by simpa using hs⟩,?_⟩
    have e:=r.length
    simp only [Array.length_toList] at e
    omega
theorem Inv.tuple (I:Inv X pins σ H s) (h:SqT X.K H a xs):∃ its:List Value,Vals xs its∧IsTup s.heap a its.toArray∧xs.length≤sizeLine:=by
  rcases h with h | ⟨o,its,n,hk,hc,hs,hz,r⟩
  · obtain ⟨z,its,r,p⟩:=h.ok I.hok
    exact ⟨its,r,p,z⟩
  · refine ⟨its.toList,r,⟨o,I.kIn a o hk,hc,n,by simpa using hs⟩,?_⟩
    have e:=r.length
    simp only [Array.length_toList] at e
    omega
theorem Inv.list_inj (I:Inv X pins σ H s) (h:SqL X.K H a xs) (h':SqL X.K H a ys):xs=ys:=by
  obtain ⟨its,r,⟨o,n,e,_,_,d⟩,_⟩:=I.list h
  obtain ⟨its',r',⟨o',n',e',_,_,d'⟩,_⟩:=I.list h'
  rw [e] at e'; cases e'
  rw [d] at d'
  injection d' with d1 _
  have:its=its':=by simpa using congrArg Array.toList d1
  subst this
  exact r.inj r'
end
abbrev Cx.wish (X:Cx) (E:Value→Shared→Prop):Cx:={ X with xe:=E }
abbrev Cx.nox (X:Cx):Cx:=X.wish fun _ _ => False
theorem Cx.Ok.wish {X:Cx} (ok:X.Ok) (E:Value→Shared→Prop):(X.wish E).Ok :=
  ⟨ok.mod,ok.kind,ok.glob,ok.blt,ok.above,ok.inj,ok.has,ok.cab,ok.hd,ok.frames,ok.stk,ok.exf,ok.bs,ok.bsz,ok.noex,ok.exfs,ok.funs,ok.frf⟩
theorem Cx.Ok.unwish {X:Cx} {E:Value→Shared→Prop} (ok:(X.wish E).Ok):X.Ok :=
  ⟨ok.mod,ok.kind,ok.glob,ok.blt,ok.above,ok.inj,ok.has,ok.cab,ok.hd,ok.frames,ok.stk,ok.exf,ok.bs,ok.bsz,ok.noex,ok.exfs,ok.funs,ok.frf⟩
section
variable {X:Cx} {pins:List (Addr×Obj)} {σ : St} {H:Hp} {s:Shared} {E:Value→Shared→Prop}
theorem Inv.wish (I:Inv X pins σ H s) (E:Value→Shared→Prop):Inv (X.wish E) pins σ H s:=⟨I.ok.wish E,I.os,I.bare,I.base,I.loc,I.cell,I.free,I.freeC,I.pin,I.hok,I.len⟩
theorem Inv.unwish (I:Inv (X.wish E) pins σ H s):Inv X pins σ H s:=⟨I.ok.unwish,I.os,I.bare,I.base,I.loc,I.cell,I.free,I.freeC,I.pin,I.hok,I.len⟩
theorem SP.unwish {D:Ends} {f:Flow} {s':Shared} (h:SP (X.wish E) pins D f s'):SP X pins D f s':=by
  cases f with
  | next => obtain ⟨σ',H',I,q⟩:=h; exact ⟨σ',H',I.unwish,q⟩
  | brk => obtain ⟨σ',H',I,q⟩:=h; exact ⟨σ',H',I.unwish,q⟩
  | cont => obtain ⟨σ',H',I,q⟩:=h; exact ⟨σ',H',I.unwish,q⟩
  | ret u => obtain ⟨v,σ',H',I,r,q⟩:=h; exact ⟨v,σ',H',I.unwish,r,q⟩
theorem PSs.nox {st:List Stmt} {t:TS} (h:PSs X.nox st t):PSs X st t:=fun pins s σ H D I hw =>
  wpAny_mono (h pins s σ H D (I.wish _) hw) (fun _ _ q => q.unwish) fun _ _ z => False.elim z
end
section
variable {X:Cx} {st:Stmt} {rest:List Stmt} {t u:TS} {e:Expr} {te:TE} {pos:Pos}
def tNext:TS:=fun D σ H => D.nx σ H
def tSeq (t u:TS):TS:=fun D σ H => t { D with nx:=u D } σ H
theorem pss_nil:PSs X [] tNext:=fun _ _ σ H _ I h => wpAny_execs_nil ⟨σ,H,I,h⟩
theorem pss_cons (h1:PS X st t) (h2:PSs X rest u):PSs X (st :: rest) (tSeq t u):=by
  intro pins s σ H D I h
  refine wpAny_execs_cons (thn (h1 pins s σ H { D with nx:=u D } I h) fun f s1 q => ?_)
  cases f with
  | next =>
    obtain ⟨σ',H',I',q⟩:=q
    exact h2 pins s1 σ' H' D I' q
  | ret v => exact q
  | brk => exact q
  | cont => exact q
theorem pss_one (h1:PS X st t):PSs X [st] t:=by
  intro pins s σ H D I h
  refine wpAny_execs_cons (thn (h1 pins s σ H D I h) fun f s1 q => ?_)
  cases f with
  | next => exact wpAny_execs_nil q
  | ret v => exact q
  | brk => exact q
  | cont => exact q
def tBreak:TS:=fun D σ H => D.bk σ H
theorem ps_break:PS X (.Break pos) tBreak:=fun _ _ σ H _ I h => wpAny_Break ⟨σ,H,I,h⟩
theorem Inv.quiet {pins:List (Addr×Obj)} {σ : St} {H:Hp} {s:Shared} (I:Inv X pins σ H s):interactive X.env=false:=by simp [interactive,I.ok.kind]
def tDrop (te:TE):TS:=fun D σ H => te σ H fun _ H1 => D.nx σ H1
theorem ps_expr (he:PE X e te) (hs:swapsWith e none pos.line X.env=pure false:=by rfl):PS X (.Expr e pos) (tDrop te):=by
  intro pins s σ H D I h
  exact wpAny_Expr_any (thn (he pins s σ H _ I h) fun v s1 ⟨x,H1,I1,r1,q1⟩ => ⟨σ,H1,I1,q1⟩) I.quiet hs
def tRet (te:TE):TS:=fun D σ H => te σ H D.rt
theorem ps_ret (he:PE X e te):PS X (.Return (some e) pos) (tRet te):=by
  intro pins s σ H D I h
  exact wpAny_Return_some (thn (he pins s σ H _ I h) fun v s1 ⟨x,H1,I1,r1,q1⟩ => ⟨x,σ,H1,I1,r1,q1⟩)
def tIfS (c:TT) (t u:TS):TS:=fun D σ H => c σ H fun b H1 => if b=true then t D σ H1 else u D σ H1
theorem ps_if {c:Expr} {a b:List Stmt} {tc:TT} (hc:PT X c tc) (ha:PSs X a t) (hb:PSs X b u):PS X (.If c a b pos) (tIfS tc t u):=by
  intro pins s σ H D I h
  refine wpAny_If (thn (hc pins s σ H _ I h) fun d s1 ⟨H1,I1,q1⟩ => ?_)
  cases d with
  | true => exact ha pins s1 σ H1 D I1 q1
  | false => exact hb pins s1 σ H1 D I1 q1
def tNever:TS:=fun _ _ _ => False
theorem pss_never {sts:List Stmt}:PSs X sts tNever:=fun _ _ _ _ _ _ h => h.elim
end
abbrev TG:=V→St→Hp→(St→Hp→Prop)→Prop
abbrev TGs:=List V→St→Hp→(St→Hp→Prop)→Prop
def PG (X:Cx) (target:Expr) (t:TG):Prop :=
  ∀ (pins:List (Addr×Obj)) (s:Shared) (σ : St) (H:Hp) (v:V) (u:Value) (Q:St→Hp→Prop),Inv X pins σ H s→RelV v u→t v σ H Q →
    wpAny (model X.prog X.w) X.A (assign target X.env u) (fun _ s' => ∃ σ' H',Inv X pins σ' H' s'∧Q σ' H') X.xe s
def PGs (X:Cx) (ts:List Expr) (t:TGs):Prop :=
  ∀ (pins:List (Addr×Obj)) (s:Shared) (σ : St) (H:Hp) (vs:List V) (us:List Value) (Q:St→Hp→Prop),Inv X pins σ H s→Vals vs us→t vs σ H Q →
    wpAny (model X.prog X.w) X.A (assignInOrder ((assignEach ts X.env).map (·.2)) us) (fun _ s' => ∃ σ' H',Inv X pins σ' H' s'∧Q σ' H') X.xe s
abbrev TSet:=V→V→V→Hp→(Hp→Prop)→Prop
def PSet (X:Cx) (t:TSet):Prop :=
  ∀ (pins:List (Addr×Obj)) (s:Shared) (σ : St) (H:Hp) (o i v:V) (ov iv u:Value) (Q:Hp→Prop),Inv X pins σ H s→RelV o ov→RelV i iv→RelV v u→t o i v H Q →
    wpAny (model X.prog X.w) X.A (setItem ov iv u) (fun _ s' => ∃ H',Inv X pins σ H' s'∧Q H') X.xe s
section
variable {X:Cx} {pos:Pos}
def gName (i:Nat):TG:=fun v σ H Q => Q (σ.set i (some v)) H
theorem pg_name {i:Nat} {x:Str} (hN:X.N.Nodup) (hi:X.N[i]? = some x) (hx:Loc X.env.scope x) (hf:X.fn x=true∨X.env.scope.names.lookup x=some .local:=by first | exact .inl rfl | exact .inr rfl | assumption):PG X (.Name x pos) (gName i):=by
  intro pins s σ H v u Q I r h
  exact wpAny_assign_Name (store_ok I hN hi hx r (fun s' I' => ⟨_,H,I',h⟩) hf)
def gNil:TGs:=fun vs σ H Q => vs=[]∧Q σ H
def gCons (t:TG) (u:TGs):TGs:=fun vs σ H Q => ∃ v r,vs=v :: r∧t v σ H fun σ' H' => u r σ' H' Q
theorem pgs_nil:PGs X [] gNil:=by
  intro pins s σ H vs us Q I r h
  obtain ⟨e,h⟩:=h
  subst e
  cases r
  exact assignInOrder_nil ⟨σ,H,I,h⟩
theorem pgs_cons {e:Expr} {es:List Expr} {t:TG} {u:TGs} (h1:PG X e t) (h2:PGs X es u)
    (hs:(assignEach (e :: es) X.env).map (·.2)=assign e X.env :: (assignEach es X.env).map (·.2):=by rfl):PGs X (e :: es) (gCons t u):=by
  intro pins s σ H vs us Q I r h
  obtain ⟨v,vr,e1,h⟩:=h
  subst e1
  cases r with
  | cons r rr =>
    rw [hs]
    refine assignInOrder_cons (thn (h1 pins s σ H _ _ _ I r h) fun _ s1 ⟨σ1,H1,I1,q1⟩ => ?_)
    exact h2 pins s1 σ1 H1 _ _ Q I1 rr q1
def gTup (K:PySem.W.Frag) (n:Nat) (t:TGs):TG:=fun v σ H Q => ∃ a xs,v = .ref a∧SqT K H a xs∧xs.length=n∧t xs σ H Q
theorem pg_tup {es:List Expr} {k:Nat} {t:TGs} {n:Nat} (hc:X.calm=true) (h:PGs X es t)
    (hn:(assignEach es X.env).length=n:=by rfl) (hst:(assignEach es X.env).findIdx? (·.1)=none:=by rfl):PG X (.Tuple es k pos) (gTup X.K n t):=by
  intro pins s σ H v u Q I r hw
  obtain ⟨a,xs,e1,hq,hl,hw⟩:=hw
  subst e1
  cases r
  obtain ⟨its,rv,ht,hz⟩:=I.tuple hq
  refine assign_Tuple_tuple (I.ok.hd hc) ht (by simp [hn,← hl,rv.length]) hst fun h' hx => ?_
  have I1:Inv X pins σ H { s with heap:=h' }:=I.kept (t':=s.toks) fun b o e => hx b o (Nat.ne_of_lt (Heap.lt_size e)) e
  exact h pins _ σ H xs _ Q I1 (by simpa using rv) hw
def gSub (to ti:TE) (t:TSet):TG:=fun v σ H Q => to σ H fun o H1 => ti σ H1 fun i H2 => t o i v H2 fun H3 => Q σ H3
theorem pg_sub {o i:Expr} {to ti:TE} {t:TSet} (ho:PE X o to) (hi:PE X i ti) (hs:PSet X t)
    (ha:∀ v,assign (.Subscript o i pos) X.env v=(do
      let ov ← holding [v] (eval o X.env)
      let iv ← holding [v,ov] (eval i X.env)
      standAt pos
      holding [v,ov,iv] (setItem ov iv v)
      release [v,ov,iv] []):=by intro _; rfl):PG X (.Subscript o i pos) (gSub to ti t):=by
  intro pins s σ H v u Q I r h
  rw [ha]
  refine wpAny_bind (wpAny_holding (thn (ho pins s σ H _ I h) fun ov s1 ⟨x,H1,I1,r1,q1⟩ => ?_))
  refine wpAny_bind (wpAny_holding (thn (hi pins s1 σ H1 _ I1 q1) fun iv s2 ⟨y,H2,I2,r2,q2⟩ => ?_))
  refine wpAny_bind (wpAny_standAt (wpAny_bind (wpAny_holding (thn (hs pins s2 σ H2 x y v ov iv u _ I2 r1 r2 r q2) fun _ s3 ⟨H3,I3,q3⟩ => ?_))))
  exact wpAny_release ⟨σ,H3,I3,q3⟩
def tAsg (te:TE) (g:TG):TS:=fun D σ H => te σ H fun x H1 => g x σ H1 D.nx
theorem ps_asg {tg e:Expr} {te:TE} {g:TG} (he:PE X e te) (hg:PG X tg g) (hs:swapsWithSole [tg] e pos.line X.env=pure false:=by rfl) (hw:swappedStores [tg] e X.env=pure none:=by rfl)
    (h1:(assignEach [tg] X.env).map (·.2)=[assign tg X.env]:=by rfl):PS X (.Assign [tg] e pos) (tAsg te g):=by
  intro pins s σ H D I h
  refine wpAny_Assign_stores (thn (he pins s σ H _ I h) fun v s1 ⟨x,H1,I1,r1,q1⟩ => ?_) hs hw
  rw [h1]
  exact thn (hg pins s1 σ H1 x v _ I1 r1 q1) fun _ s2 q => q
theorem ps_set {i:Nat} {x:Str} {e:Expr} {te:TE} {pos':Pos} (hN:X.N.Nodup) (hi:X.N[i]? = some x) (hx:Loc X.env.scope x) (he:PE X e te) (hs:swapsWith e (some (.Name x pos')) pos.line X.env=pure false:=by rfl) (hf:X.fn x=true∨X.env.scope.names.lookup x=some .local:=by first | exact .inl rfl | exact .inr rfl | assumption) :
    PS X (.Assign [.Name x pos'] e pos) (tAsg te (gName i)):=by
  intro pins s σ H D I h
  refine wpAny_Assign_Name (thn (he pins s σ H _ I h) fun v s1 ⟨y,H1,I1,r1,q1⟩ => ?_) hs
  exact store_ok I1 hN hi hx r1 (fun s2 I2 => ⟨_,H1,I2,q1⟩) hf
end
section
variable {X:Cx} {pos:Pos}
def tWhile (c:TT) (tb:TS):TS:=fun D σ H => ∃ W:Nat→St→Hp→Prop,(∃ m,W m σ H)∧∀ m σ H,W m σ H →
  c σ H fun b H1 => if b=true then ∃ N:St→Hp→Prop,(∀ σ' H',N σ' H'→∃ m',m' < m∧W m' σ' H')∧tb { D with nx:=N,ct:=N,bk:=D.nx } σ H1 else D.nx σ H1
theorem ps_while {c:Expr} {body:List Stmt} {tc:TT} {tb:TS} (hp:PassesOwn (model X.prog X.w) X.A X.env X.xe) (hc:PT X c tc) (hb:PSs X body tb):PS X (.While c body [] pos) (tWhile tc tb):=by
  intro pins s σ H D I h
  obtain ⟨W,⟨m0,w0⟩,turn⟩:=h
  refine wpAny_While (codeAny_whileLoop (fun n s' => ∃ σ' H',Inv X pins σ' H' s'∧W n σ' H') ?_ m0 ⟨σ,H,I,w0⟩)
  rintro n s1 ⟨σ1,H1,I1,w1⟩
  refine wpAny_passesOwn hp (thn (hc pins s1 σ1 H1 _ I1 (turn n σ1 H1 w1)) fun b s2 ⟨H2,I2,q2⟩ => ?_)
  cases b with
  | true =>
    obtain ⟨N,hN,q2⟩:=q2
    rw [if_pos rfl]
    refine wpAny_passesOwn hp (thn (hb pins s2 σ1 H2 _ I2 q2) fun f s3 q3 => ?_)
    cases f with
    | next =>
      obtain ⟨σ3,H3,I3,n3⟩:=q3
      obtain ⟨m',hm,w3⟩:=hN σ3 H3 n3
      exact ⟨m',hm,σ3,H3,I3,w3⟩
    | cont =>
      obtain ⟨σ3,H3,I3,n3⟩:=q3
      obtain ⟨m',hm,w3⟩:=hN σ3 H3 n3
      exact ⟨m',hm,σ3,H3,I3,w3⟩
    | brk => exact q3
    | ret v => exact q3
  | false =>
    rw [if_neg Bool.false_ne_true]
    exact wpAny_execs_nil ⟨σ1,H2,I2,q2⟩
end
structure It where
  go:Nat→Hp→Prop
  yld:Nat→Hp→V→Hp→Prop
  stop:Nat→Hp→Prop
def FpOk (X:Cx) (pins:List (Addr×Obj)) (H:Hp) (b:Addr):Prop :=
  H b=none∧b≠X.env.locals∧b ∉ X.fs∧(b∈X.ex∨X.s₀.heap.objs.size≤b)∧(∀ x c,X.env.cells.lookup x=some c→c≠b)∧∀ p∈X.pn ++ pins,p.1≠b
theorem Inv.fpOk {X:Cx} {pins:List (Addr×Obj)} {σ : St} {H H':Hp} {s:Shared} {b:Addr} (I:Inv X pins σ H s) (hb:s.heap.objs.size≤b) (hn:H' b=none):FpOk X pins H' b:=by
  refine ⟨hn,Nat.ne_of_gt (Nat.lt_of_lt_of_le I.lt hb),I.nofs hb,.inr (Nat.le_trans I.sz hb),fun x c e z => ?_,fun p hp z => ?_⟩
  · obtain ⟨v,q⟩:=I.cell x c e
    exact absurd (Nat.lt_of_lt_of_le q.lt (by rw [z]; exact hb)) (Nat.lt_irrefl _)
  · exact absurd (Nat.lt_of_lt_of_le (Heap.lt_size (I.pin p hp).1) (by rw [z]; exact hb)) (Nat.lt_irrefl _)
structure Turn (P:Program) (w:World) (K:PySem.W.Frag) (tg:Expr) (J:It) (fp:List Addr) (it:Addr) (tn:Nat→Heap→Prop):Prop where
  mem:it∈fp
  obj:∀ i h,tn i h→∀ b∈fp,∃ o,h.get? b=some o∧∀ v,o.data≠.cell v
  keep:∀ i h h',tn i h→(∀ b∈fp,∀ o,h.get? b=some o→h'.get? b=some o)→tn i h'
  item:∀ (X:Cx),X.prog=P→X.w=w→X.K=K→X.calm=true→∀ (i:Nat) (pins:List (Addr×Obj)) (s:Shared) (σ : St) (H:Hp) (E:Value→Shared→Prop),Inv X pins σ H s→(∀ b∈fp,FpOk X pins H b)→tn i s.heap→J.go i H →
    wpAny (model P w) X.A (pyNext (.ref it)) (fun r s1 => ∃ u,r=some u ∧
      wpAny (model P w) X.A (letOwnedTupleGo tg (.ref it) u) (fun _ s2 => ∃ x H',Inv X pins σ H' s2∧RelV x u∧J.yld i H x H'∧tn (i + 1) s2.heap∧∀ b∈fp,H' b=none) E s1) E s
  done:∀ (X:Cx),X.prog=P→X.w=w→X.K=K→X.calm=true→∀ (i:Nat) (pins:List (Addr×Obj)) (s:Shared) (σ : St) (H:Hp) (E:Value→Shared→Prop),Inv X pins σ H s→(∀ b∈fp,FpOk X pins H b)→tn i s.heap→J.stop i H →
    wpAny (model P w) X.A (pyNext (.ref it)) (fun r s1 => r=none∧Inv X pins σ H s1) E s
  self:∀ (A:Around) (i:Nat) (s:Shared) (Q:Value→Shared→Prop) (E:Value→Shared→Prop),tn i s.heap→Q (.ref it) s→wpAny (model P w) A (pyIter (.ref it)) Q E s
abbrev TI:=St→Hp→(It→Hp→Prop)→Prop
def PIE (X:Cx) (pins:List (Addr×Obj)) (σ : St) (tg:Expr) (R:It→Hp→Prop) (itv:Value) (s2:Shared):Prop :=
  ∃ (it:Addr) (fp:List Addr) (tn:Nat→Heap→Prop) (J:It) (H':Hp),itv = .ref it∧Inv X pins σ H' s2∧Turn X.prog X.w X.K tg J fp it tn∧tn 0 s2.heap∧(∀ b∈fp,FpOk X pins H' b)∧R J H'
def PI (X:Cx) (tg iter:Expr) (wi:TI):Prop :=
  ∀ (pins:List (Addr×Obj)) (s:Shared) (σ : St) (H:Hp) (R:It→Hp→Prop),Inv X pins σ H s→wi σ H R →
    wpAny (model X.prog X.w) X.A (eval iter X.env) (fun v s1 => wpAny (model X.prog X.w) X.A (pyIter v) (PIE X pins σ tg R) X.xe s1) X.xe s
theorem go_of {M:Model} {A:Around} {E:Value→Shared→Prop} {s:Shared} {tg:Expr} {it:Addr} {u:Value} {o:Obj} {n:String} {vs:Array Value} {Q:Unit→Shared→Prop} (ho:s.heap.get? it=some o) (hc:o.cls = .type n) (hd:o.data = .fields vs)
    (hn:["enumerate", "zip", "dict_itemiterator", "dict_reverseitemiterator", "odict_iterator", "itertools.zip_longest", "itertools.pairwise"].contains n=false) (hQ:Q () s):wpAny M A (letOwnedTupleGo tg (.ref it) u) Q E s:=by
  unfold letOwnedTupleGo
  cases tg <;> first
    | exact wpAny_pure hQ
    | (cases u <;> first
        | exact wpAny_pure hQ
        | (refine wpAny_bind (wpAny_load ho ?_)
           rw [hc,hd]
           show wpAny M A (if (["enumerate", "zip", "dict_itemiterator", "dict_reverseitemiterator", "odict_iterator", "itertools.zip_longest", "itertools.pairwise"].contains n && vs[0]? == some (rawInt _))=true then _ else _) Q E s
           rw [if_neg (by intro h; rw [hn,Bool.false_and] at h; cases h)]
           exact wpAny_pure hQ))
def Itl (K:PySem.W.Frag) (a:Addr):It :=
  ⟨fun i H => ∃ xs x,SqL K H a xs∧xs[i]? = some x,fun i H x H' => H'=H∧∀ xs,SqL K H a xs→xs[i]? = some x,fun i H => ∃ xs,SqL K H a xs∧xs.length≤i⟩
def Itr (lo:Int) (n:Nat):It:=⟨fun i _ => i < n,fun i H x H' => H'=H∧x = .int (lo + i),fun i _ => n≤i⟩
theorem turn_list {P:Program} {w:World} {K:PySem.W.Frag} {tg:Expr} (a it:Addr):Turn P w K tg (Itl K a) [it] it (fun i h => h.IsListIter it a i) where
  mem:=by simp
  obj:=fun i h st b hb => by
    have e:b=it:=by simpa using hb
    subst e
    obtain ⟨o,e,c,d⟩:=st
    exact ⟨o,e,fun v z => by rw [d] at z; cases z⟩
  keep:=fun i h h' st k => st.at fun o e => k it (by simp) o e
  item:=by
    intro X hP hw hK hc i pins s σ H E I hf st hg
    subst hP hw hK
    obtain ⟨xs,x,hq,hx⟩:=hg
    obtain ⟨its,rv,p,hz⟩:=I.list hq
    obtain ⟨u,hu,ru⟩:=rv.get hx
    obtain ⟨f0,f1,f2,f3,f4,f5⟩:=hf it (by simp)
    refine wpAny_pyNext_list_item st p.isList (x:=u) (by simpa using hu) fun h' st' sb => ?_
    have I1:Inv X pins σ H { s with heap:=h' }:=I.turned (t':=s.toks) (fun b o hb e => (sb.2 b hb).trans e) f0 f1 f3 f4 f5
    obtain ⟨o,e,c,d⟩:=id st'
    exact ⟨u,rfl,go_of (s:={ s with heap:=h' }) e c d (by decide) ⟨x,H,I1,ru,⟨rfl,fun ys hy => by rw [I.list_inj hy hq]; exact hx⟩,st',fun b hb => (hf b hb).1⟩⟩
  done:=by
    intro X hP hw hK hc i pins s σ H E I hf st hg
    subst hP hw hK
    obtain ⟨xs,hq,hx⟩:=hg
    obtain ⟨its,rv,p,hz⟩:=I.list hq
    obtain ⟨f0,f1,f2,f3,f4,f5⟩:=hf it (by simp)
    have hl:=rv.length
    exact wpAny_pyNext_list_end (I.ok.hd hc) st p.isList (by simp; omega) fun h' eb => ⟨rfl,I.turned (t':=s.toks) (fun b o hb e => eb b o hb e) f0 f1 f3 f4 f5⟩
  self:=fun _ _ _ _ _ st h => wpAny_pyIter_listiter st h
theorem turn_range {P:Program} {w:World} {K:PySem.W.Frag} {tg:Expr} (it:Addr) (lo:Int) (n:Nat):Turn P w K tg (Itr lo n) [it] it (fun i h => IsRangeIter h it (lo + (i:Nat) * 1) ((n:Int) - (i:Nat)) 1) where
  mem:=by simp
  obj:=fun i h st b hb => by
    have e:b=it:=by simpa using hb
    subst e
    exact ⟨_,st,fun v z => by
      have z':Data.fields _=Data.cell v:=z
      cases z'⟩
  keep:=fun i h h' st k => k it (by simp) _ st
  item:=by
    intro X hP hw hK hc i pins s σ H E I hf st hg
    subst hP hw hK
    obtain ⟨f0,f1,f2,f3,f4,f5⟩:=hf it (by simp)
    have W:=Walks.range (prog:=X.prog) (w:=X.w) (I.ok.hd hc) it lo 1 n
    refine W.item i s _ _ hg st fun v h' tk hv st' kk => ?_
    obtain ⟨t,rfl⟩:=hv
    have I1:Inv X pins σ H { s with heap:=h',toks:=tk }:=I.turned (fun b o hb e => kk b o (by simpa using hb) e) f0 f1 f3 f4 f5
    refine ⟨_,rfl,go_of (s:={ s with heap:=h',toks:=tk }) (n := "range_iterator") st' rfl rfl (by decide) ⟨.int (lo + i),H,I1,⟨t,?_⟩,⟨rfl,rfl⟩,st',fun b hb => (hf b hb).1⟩⟩
    rw [Int.mul_one]
  done:=by
    intro X hP hw hK hc i pins s σ H E I hf st hg
    subst hP hw hK
    obtain ⟨f0,f1,f2,f3,f4,f5⟩:=hf it (by simp)
    exact wpAny_pyNext_range_end (I.ok.hd hc) st (by have:n≤i:=hg; omega) fun h' eb => ⟨rfl,I.turned (t':=s.toks) (fun b o hb e => eb b o hb e) f0 f1 f3 f4 f5⟩
  self:=fun _ _ _ _ _ st h => wpAny_pyIter_rangeiter st h
end L2
namespace L2
open PySem PySem.Spec PyProof.Rows
section
variable {X:Cx} {tg:Expr}
def iList (K:PySem.W.Frag) (tl:TE):TI:=fun σ H R => tl σ H fun x H1 => ∃ a,x = .ref a∧(∃ xs,SqL K H1 a xs)∧R (Itl K a) H1
theorem pi_list {l:Expr} {tl:TE} (hl:PE X l tl):PI X tg l (iList X.K tl):=by
  intro pins s σ H R I h
  refine thn (hl pins s σ H _ I h) fun v s1 ⟨x,H1,I1,r1,q1⟩ => ?_
  obtain ⟨a,e,⟨xs,hq⟩,q⟩:=q1
  subst e
  cases r1
  obtain ⟨its,rv,p,hz⟩:=I1.list hq
  refine wpAny_pyIter_list p.isList ?_
  refine ⟨s1.heap.objs.size,[s1.heap.objs.size],_,_,H1,rfl,I1.kept (t':=s1.toks) fun b o e => Heap.get?_push_of_some _ e,turn_list a _,⟨_,Heap.get?_push_size _ rfl,rfl,rfl⟩,fun b hb => ?_,q⟩
  have e:b=s1.heap.objs.size:=by simpa using hb
  subst e
  exact I1.fpOk (Nat.le_refl _) (I1.hok.fresh (Nat.le_refl _))
theorem range_it {pins:List (Addr×Obj)} {σ : St} {H:Hp} {s:Shared} {R:It→Hp→Prop} {E:Value→Shared→Prop} {lo hi:Int} {t u v:Tok} {tk:Nat} (I:Inv X pins σ H s) (h1 : -(2 ^ 62)≤lo) (h2:lo < 2 ^ 62) (h3 : -(2 ^ 62)≤hi) (h4:hi < 2 ^ 62)
    (q:R (Itr lo (hi - lo).toNat) H):wpAny (model X.prog X.w) X.A (pyIter (.ref s.heap.objs.size)) (PIE X pins σ tg R) E { s with heap:=s.heap.push { cls:=.type "range",data:=.fields #[.int lo t,.int hi u,.int 1 v] },toks:=tk }:=by
  refine wpAny_pyIter_range (IsRange.new ..) (small_one h1 h2 h3 h4) ?_
  have I1:Inv X pins σ H { s with heap:=s.heap.push { cls:=.type "range",data:=.fields #[.int lo t,.int hi u,.int 1 v] },toks:=tk }:=I.kept fun b o e => Heap.get?_push_of_some _ e
  refine ⟨(s.heap.push { cls:=.type "range",data:=.fields #[.int lo t,.int hi u,.int 1 v] }).objs.size,[(s.heap.push { cls:=.type "range",data:=.fields #[.int lo t,.int hi u,.int 1 v] }).objs.size],_,_,H,rfl,
    I1.kept (t':=tk) fun b o e => Heap.get?_push_of_some _ e,turn_range _ lo (hi - lo).toNat,?_,fun b hb => ?_,q⟩
  · have e1:lo + ((0:Nat):Int) * 1=lo:=by simp
    have e2:(((hi - lo).toNat:Nat):Int) - ((0:Nat):Int)=Builtin.Range.rangeSize lo hi 1:=by rw [rangeSize_one]; split <;> omega
    show IsRangeIter _ _ (lo + ((0:Nat):Int) * 1) ((((hi - lo).toNat:Nat):Int) - ((0:Nat):Int)) 1
    rw [e1,e2]
    exact Heap.get?_push_size _ rfl
  · have e:b=(s.heap.push { cls:=.type "range",data:=.fields #[.int lo t,.int hi u,.int 1 v] }).objs.size:=by simpa using hb
    subst e
    exact I1.fpOk (Nat.le_refl _) (I1.hok.fresh (Nat.le_refl _))
def iRng1 (ta:TA):TI:=fun σ H R => ta σ H fun vs H1 => ∃ j:Int,vs=[.int j]∧-(2 ^ 62)≤j∧j < 2 ^ 62∧R (Itr 0 j.toNat) H1
def iRng2 (ta:TA):TI:=fun σ H R => ta σ H fun vs H1 => ∃ i j:Int,vs=[.int i,.int j]∧(-(2 ^ 62)≤i∧i < 2 ^ 62∧-(2 ^ 62)≤j∧j < 2 ^ 62)∧R (Itr i (j - i).toNat) H1
theorem pi_range1 {a:Expr} {ta:TA} {p pos:Pos} (hg:Gl X "range") (hm:X.mg "range" = none) (ha:PA X [a] ta) (hs:starEach [a] X.env=[(false,eval a X.env)]:=by rfl):PI X tg (.Call (.Name "range" p) [a] [] pos) (iRng1 ta):=by
  intro pins s σ H R I h
  refine Call_ (ld_blt I hg hm boot_range (PyProof.Rows.callWith_type1 (thn (ha pos pins s σ H _ I h) fun us s1 ⟨vs,H1,I1,r1,q1⟩ => ?_) hs rfl))
  obtain ⟨j,e,q1,q2,q⟩:=q1
  subst e
  cases r1 with
  | cons r rr =>
    cases rr
    obtain ⟨t,rfl⟩:=r
    exact call_range_1 (range_it I1 (by omega) (by omega) q1 q2 (by simpa using q))
theorem pi_range2 {a b:Expr} {ta:TA} {p pos:Pos} (hg:Gl X "range") (hm:X.mg "range" = none) (ha:PA X [a,b] ta) (hs:starEach [a,b] X.env=[(false,eval a X.env),(false,eval b X.env)]:=by rfl) (hs2:starEach [b] X.env=[(false,eval b X.env)]:=by rfl) :
    PI X tg (.Call (.Name "range" p) [a,b] [] pos) (iRng2 ta):=by
  intro pins s σ H R I h
  refine Call_ (ld_blt I hg hm boot_range (PyProof.Rows.callWith_type1 (thn (ha pos pins s σ H _ I h) fun us s1 ⟨vs,H1,I1,r1,q1⟩ => ?_) (by rw [hs,hs2]) (by rw [hs2]; rfl)))
  obtain ⟨i,j,e,⟨q1,q2,q3,q4⟩,q⟩:=q1
  subst e
  cases r1 with
  | cons r rr =>
    cases rr with
    | cons r' rr =>
      cases rr
      obtain ⟨t,rfl⟩:=r
      obtain ⟨t',rfl⟩:=r'
      exact call_range_2 (range_it I1 q1 q2 q3 q4 q)
def tFor (wi:TI) (g:TG) (tb:TS):TS:=fun D σ H => wi σ H fun J H1 => ∃ W:Nat→Nat→St→Hp→Prop,(∃ m,W 0 m σ H1)∧∀ i m σ H,W i m σ H →
  (J.stop i H∧D.nx σ H)∨(J.go i H∧∃ N:St→Hp→Prop,(∀ σ' H',N σ' H'→∃ m',m' < m∧W (i + 1) m' σ' H')∧∀ x H',J.yld i H x H'→g x σ H' fun σ2 H2 => tb { D with nx:=N,ct:=N,bk:=D.nx } σ2 H2)
def pinsAt (fp:List Addr) (h:Heap):List (Addr×Obj):=fp.filterMap fun b => (h.get? b).map fun o => (b,o)
theorem mem_pinsAt {fp:List Addr} {h:Heap} {b:Addr} {o:Obj} (hb:b∈fp) (e:h.get? b=some o):(b,o)∈pinsAt fp h:=List.mem_filterMap.mpr ⟨b,hb,by rw [e]; rfl⟩
theorem of_pinsAt {fp:List Addr} {h:Heap} {p:Addr×Obj} (hp:p∈pinsAt fp h):p.1∈fp∧h.get? p.1=some p.2:=by
  obtain ⟨b,hb,e⟩:=List.mem_filterMap.mp hp
  cases q:h.get? b with
  | none => rw [q] at e; cases e
  | some o =>
    rw [q] at e
    have e':(b,o)=p:=Option.some.inj e
    subst e'
    exact ⟨hb,q⟩
theorem Inv.pinned {pins:List (Addr×Obj)} {σ : St} {H:Hp} {s:Shared} {fp:List Addr} (I:Inv X pins σ H s) (hf:∀ b∈fp,FpOk X pins H b) (ho:∀ b∈fp,∃ o,s.heap.get? b=some o∧∀ v,o.data≠.cell v):Inv X (pins ++ pinsAt fp s.heap) σ H s :=
  I.pins_of fun p hp => (List.mem_append.mp hp).elim (fun z => I.pin p (List.mem_append_right _ z)) fun z => by
    obtain ⟨hb,e⟩:=of_pinsAt z
    obtain ⟨f0,f1,f2,_⟩:=hf p.1 hb
    obtain ⟨o,e',d⟩:=ho p.1 hb
    rw [e] at e'; cases e'
    exact ⟨e,f0,f1,f2,d⟩
theorem Inv.unpinned {pins pl:List (Addr×Obj)} {σ : St} {H:Hp} {s:Shared} (I:Inv X (pins ++ pl) σ H s):Inv X pins σ H s:=I.pins_of fun p hp => I.pin p (List.mem_append_right _ (List.mem_append_left _ hp))
theorem ps_for {iter:Expr} {body:List Stmt} {wi:TI} {g:TG} {tb:TS} {pos:Pos} (hp:PassesOwn (model X.prog X.w) X.A X.env X.xe) (hc:X.calm=true) (hi:PI X tg iter wi) (hg:PG X tg g) (hb:PSs X body tb)
    (hs:∀ x,foldedSetIterable iter X.env x=pure x:=by intro _; rfl):PS X (.For tg iter body [] pos) (tFor wi g tb):=by
  intro pins s σ H D I h
  refine wpAny_For (thn (hi pins s σ H _ I h) fun v s1 h1 => thn h1 fun itv s2 h2 => ?_) hs
  obtain ⟨it,fp,tn,J,H2,e,I2,T,st2,f2,W,⟨m0,w0⟩,turn⟩:=h2
  subst e
  have stat:∀ {H':Hp},(∀ b∈fp,H' b=none)→∀ b∈fp,FpOk X pins H' b:=fun hn b hb => ⟨hn b hb,(f2 b hb).2⟩
  refine codeAny_forLoop_any (fun n s' => ∃ i σ' H',Inv X pins σ' H' s'∧tn i s'.heap∧(∀ b∈fp,H' b=none)∧W i n σ' H') ?_ m0 ⟨0,σ,H2,I2,st2,fun b hb => (f2 b hb).1,w0⟩
  rintro n s3 ⟨i,σ3,H3,I3,st3,fr3,w3⟩
  rcases turn i n σ3 H3 w3 with ⟨stop,qn⟩ | ⟨go,N,hN,step⟩
  · refine wpAny_passesOwn hp (thn (T.done X rfl rfl rfl hc i pins s3 σ3 H3 X.xe I3 (stat fr3) st3 stop) fun r s4 ⟨hr,I4⟩ => ?_)
    subst hr
    exact wpAny_execs_nil ⟨σ3,H3,I4,qn⟩
  · refine wpAny_passesOwn hp (thn (T.item X rfl rfl rfl hc i pins s3 σ3 H3 X.xe I3 (stat fr3) st3 go) fun r s4 ⟨u,hr,h4⟩ => ?_)
    subst hr
    refine wpAny_passesOwn hp (thn h4 fun _ s5 ⟨x,H5,I5,r5,y5,st5,fr5⟩ => ?_)
    have I5':=I5.pinned (stat fr5) (T.obj _ _ st5)
    refine wpAny_passesOwn hp (thn (hg _ s5 σ3 H5 x u _ I5' r5 (step x H5 y5)) fun _ s6 ⟨σ6,H6,I6,q6⟩ => ?_)
    refine wpAny_passesOwn hp (thn (hb _ s6 σ6 H6 _ I6 q6) fun f s7 q7 => ?_)
    have again:∀ {σ7:St} {H7:Hp},Inv X (pins ++ pinsAt fp s5.heap) σ7 H7 s7→N σ7 H7→∃ m,m < n∧∃ i σ' H',Inv X pins σ' H' s7∧tn i s7.heap∧(∀ b∈fp,H' b=none)∧W i m σ' H':=fun {σ7 H7} I7 n7 => by
      obtain ⟨m',hm,w7⟩:=hN σ7 H7 n7
      refine ⟨m',hm,i + 1,σ7,H7,I7.unpinned,T.keep _ _ _ st5 fun b hb o e => (I7.pin (b,o) (List.mem_append_right _ (List.mem_append_right _ (mem_pinsAt hb e)))).1,fun b hb => ?_,w7⟩
      obtain ⟨o,e,d⟩:=T.obj _ _ st5 b hb
      exact (I7.pin (b,o) (List.mem_append_right _ (List.mem_append_right _ (mem_pinsAt hb e)))).2.1
    cases f with
    | next => obtain ⟨σ7,H7,I7,n7⟩:=q7; exact again I7 n7
    | cont => obtain ⟨σ7,H7,I7,n7⟩:=q7; exact again I7 n7
    | brk => obtain ⟨σ7,H7,I7,q7⟩:=q7; exact ⟨σ7,H7,I7.unpinned,q7⟩
    | ret v => obtain ⟨x7,σ7,H7,I7,r7,q7⟩:=q7; exact ⟨x7,σ7,H7,I7.unpinned,r7,q7⟩
end
theorem for_range {lo:Int} {n:Nat} {g:TG} {tb:TS} {D:Ends} {σ : St} {H:Hp} (Pv:Nat→St→Hp→Prop) (h0:Pv 0 σ H)
    (hs:∀ i σ H,i < n→Pv i σ H→g (.int (lo + i)) σ H fun σ2 H2 => tb { D with nx:=Pv (i + 1),ct:=Pv (i + 1),bk:=D.nx } σ2 H2) (hd:∀ σ H,Pv n σ H→D.nx σ H) :
    ∃ W:Nat→Nat→St→Hp→Prop,(∃ m,W 0 m σ H)∧∀ i m σ H,W i m σ H →
      ((Itr lo n).stop i H∧D.nx σ H)∨((Itr lo n).go i H∧∃ N:St→Hp→Prop,(∀ σ' H',N σ' H'→∃ m',m' < m∧W (i + 1) m' σ' H')∧∀ x H',(Itr lo n).yld i H x H'→g x σ H' fun σ2 H2 => tb { D with nx:=N,ct:=N,bk:=D.nx } σ2 H2):=by
  refine ⟨fun i m σ H => m=n - i∧i≤n∧Pv i σ H,⟨n,by simp,Nat.zero_le _,h0⟩,?_⟩
  rintro i m σ H ⟨rfl,hi,p⟩
  by_cases hlt:i < n
  · refine .inr ⟨hlt,Pv (i + 1),fun σ' H' p' => ⟨n - (i + 1),by omega,rfl,hlt,p'⟩,fun x H' y => ?_⟩
    obtain ⟨e,y⟩:=y
    subst e y
    exact hs i σ _ hlt p
  · have e:i=n:=by omega
    subst e
    exact .inl ⟨Nat.le_refl _,hd σ H p⟩
end L2
namespace L2
open PySem PySem.Spec PyProof.Rows
abbrev R2:=V→V→Hp→VK→Prop
def OpR (X:Cx) (f:Value→Value→Sem Value) (r:R2):Prop :=
  ∀ (pins:List (Addr×Obj)) (s:Shared) (σ : St) (H:Hp) (x y:V) (v u:Value) (Q:VK),Inv X pins σ H s→RelV x v→RelV y u→r x y H Q →
    wpAny (model X.prog X.w) X.A (f v u) (EP X pins σ Q) X.xe s
def CallR (X:Cx) (f:Value) (r:List V→Hp→VK→Prop):Prop :=
  ∀ (pins:List (Addr×Obj)) (s:Shared) (σ : St) (H:Hp) (xs:List V) (us:List Value) (Q:VK),Inv X pins σ H s→Vals xs us→r xs H Q →
    wpAny (model X.prog X.w) X.A (call f us) (EP X pins σ Q) X.xe s
def tOp (r:R2) (ta tb:TE):TE:=fun σ H Q => ta σ H fun x H1 => tb σ H1 fun y H2 => r x y H2 Q
def rI (C:Int→Int→Prop) (g:Int→Int→V):R2:=fun x y H Q => ∃ i j,x = .int i∧y = .int j∧C i j∧Q (g i j) H
def rI0 (g:Int→Int→V):R2:=fun x y H Q => ∃ i j,x = .int i∧y = .int j∧Q (g i j) H
section
variable {X:Cx} {a b c:Expr} {ta tb tc:TE} {pos:Pos}
theorem binT (ha:PE X a ta) (hb:PE X b tb) {pins:List (Addr×Obj)} {s:Shared} {σ : St} {H:Hp} {R:V→V→Hp→Prop} (I:Inv X pins σ H s)
    (h:ta σ H fun x H1 => tb σ H1 fun y H2 => R x y H2) {Q:Value→Shared→Prop} {f:Value→Value→Sem Value}
    (hf:∀ v u s2 x y H2,Inv X pins σ H2 s2→RelV x v→RelV y u→R x y H2→wpAny (model X.prog X.w) X.A (f v u) Q X.xe s2) :
    wpAny (model X.prog X.w) X.A (eval a X.env) (fun v s₁ => wpAny (model X.prog X.w) X.A (eval b X.env) (fun u s₂ => wpAny (model X.prog X.w) X.A (f v u) Q X.xe s₂) X.xe s₁) X.xe s:=by
  refine thn (ha pins s σ H _ I h) fun v s1 ⟨x,H1,I1,r1,q1⟩ => ?_
  refine thn (hb pins s1 σ H1 _ I1 q1) fun u s2 ⟨y,H2,I2,r2,q2⟩ => ?_
  exact hf v u s2 x y H2 I2 r1 r2 q2
theorem pe_op {op:Operator} {r:R2} (ho:OpR X (binaryOp op) r) (ha:PE X a ta) (hb:PE X b tb):PE X (.BinOp a op b pos) (tOp r ta tb):=by
  intro pins s σ H Q I h
  exact wpAny_BinOp (binT ha hb I h fun v u s2 x y H2 I2 rx ry q => ho pins s2 σ H2 x y v u Q I2 rx ry q)
theorem opI {f:Value→Value→Sem Value} {C:Int→Int→Prop} {g:Int→Int→Int}
    (rule:∀ (i j:Int) (t u:Tok) (s:Shared) (Q:Value→Shared→Prop) (E:Value→Shared→Prop),C i j→Q (.int (g i j) s.toks) { s with toks:=s.toks + 1 }→wpAny (model X.prog X.w) X.A (f (.int i t) (.int j u)) Q E s) :
    OpR X f (rI C fun i j => .int (g i j)):=by
  intro pins s σ H x y v u Q I rx ry h
  obtain ⟨i,j,rfl,rfl,hc,q⟩:=h
  obtain ⟨t,rfl⟩:=rx
  obtain ⟨t',rfl⟩:=ry
  exact rule i j t t' s _ _ hc ⟨.int (g i j),H,I.tok _,⟨_,rfl⟩,q⟩
theorem opI0 {f:Value→Value→Sem Value} {g:Int→Int→Int}
    (rule:∀ (i j:Int) (t u:Tok) (s:Shared) (Q:Value→Shared→Prop) (E:Value→Shared→Prop),Q (.int (g i j) s.toks) { s with toks:=s.toks + 1 }→wpAny (model X.prog X.w) X.A (f (.int i t) (.int j u)) Q E s) :
    OpR X f (rI0 fun i j => .int (g i j)):=by
  intro pins s σ H x y v u Q I rx ry h
  obtain ⟨i,j,rfl,rfl,q⟩:=h
  obtain ⟨t,rfl⟩:=rx
  obtain ⟨t',rfl⟩:=ry
  exact rule i j t t' s _ _ ⟨.int (g i j),H,I.tok _,⟨_,rfl⟩,q⟩
theorem opB0 {f:Value→Value→Sem Value} {g:Int→Int→Bool}
    (rule:∀ (i j:Int) (t u:Tok) (s:Shared) (Q:Value→Shared→Prop) (E:Value→Shared→Prop),Q (.bool (g i j)) s→wpAny (model X.prog X.w) X.A (f (.int i t) (.int j u)) Q E s) :
    OpR X f (rI0 fun i j => .bl (g i j)):=by
  intro pins s σ H x y v u Q I rx ry h
  obtain ⟨i,j,rfl,rfl,q⟩:=h
  obtain ⟨t,rfl⟩:=rx
  obtain ⟨t',rfl⟩:=ry
  exact rule i j t t' s _ _ ⟨.bl (g i j),H,I,rfl,q⟩
def CDiv (i j:Int):Prop := 0 < j∧j < 1073741824
def CMul (i j:Int):Prop:=(-(2 ^ 64) < i∧i < 2 ^ 64)∨(-(2 ^ 64) < j∧j < 2 ^ 64)
theorem CMul.ok {i j:Int} (h:CMul i j):IntMulOk i j:=by
  rcases h with ⟨h1,h2⟩ | ⟨h1,h2⟩
  · exact .of_left (intBits_le_64 h1 h2)
  · exact .of_right (intBits_le_64 h1 h2)
theorem op_add:OpR X (binaryOp .Add) (rI0 fun i j => .int (i + j)):=opI0 fun _ _ _ _ _ _ _ q => add_int q
theorem op_sub:OpR X (binaryOp .Sub) (rI0 fun i j => .int (i - j)):=opI0 fun _ _ _ _ _ _ _ q => sub_int q
theorem op_mul:OpR X (binaryOp .Mult) (rI CMul fun i j => .int (i * j)):=opI fun _ _ _ _ _ _ _ hc q => mul_int q hc.ok
theorem op_fdiv:OpR X (binaryOp .FloorDiv) (rI CDiv fun i j => .int (i / j)):=opI fun i j _ _ _ _ _ hc q => by
  have h1:(0:Int) < j:=hc.1
  have h2:j < 1073741824:=hc.2
  exact floordiv_int (by omega) (by rw [Int.fdiv_eq_ediv_of_nonneg i (by omega)]; exact q) (.inl (PyProof.noPylong_small (by omega)))
theorem op_mod:OpR X (binaryOp .Mod) (rI (fun _ j => 0 < j) fun i j => .int (i % j)):=opI fun i j _ _ _ _ _ hc q => by
  have h1:(0:Int) < j:=hc
  exact mod_int' (by omega) (by rw [Int.fmod_eq_emod_of_nonneg i (by omega)]; exact q)
end
def scal:V→V→Bool
  | .non,.non => true | .non,.int _ => true | .int _,.non => true | .non,.bl _ => true | .bl _,.non => true | .non,.str _ => true | .str _,.non => true
  | .int _,.int _ => true | .bl _,.bl _ => true | .str _,.str _ => true | .byt _,.byt _ => true
  | .int _,.str _ => true | .str _,.int _ => true | .bl _,.str _ => true | .str _,.bl _ => true
  | _,_ => false
def rEq:R2:=fun x y H Q => scal x y=true∧Q (.bl (decide (x=y))) H
def rNe:R2:=fun x y H Q => scal x y=true∧Q (.bl (!decide (x=y))) H
theorem dec_int {i j:Int}:decide (V.int i=V.int j)=(i == j):=by
  rw [Bool.eq_iff_iff]
  simp
theorem dec_bl {i j:Bool}:decide (V.bl i=V.bl j)=(i == j):=by
  rw [Bool.eq_iff_iff]
  simp
theorem dec_str {i j:Str}:decide (V.str i=V.str j)=(i == j):=by
  rw [Bool.eq_iff_iff]
  simp
theorem dec_byt {i j:Array UInt8}:decide (V.byt i=V.byt j)=(i.toList == j.toList):=by
  rw [Bool.eq_iff_iff]
  cases i
  cases j
  simp
section
variable {X:Cx} {a b c:Expr} {ta tb tc:TE} {pos:Pos}
theorem fin_bl {pins:List (Addr×Obj)} {σ : St} {H:Hp} {s:Shared} {Q:VK} {k k':Bool} (I:Inv X pins σ H s) (q:Q (.bl k) H) (e:k=k'):EP X pins σ Q (.bool k') s:=by
  subst e
  exact ⟨.bl k,H,I,rfl,q⟩
theorem op_eq:OpR X (compareOp .Eq) rEq:=by
  intro pins s σ H x y v u Q I rx ry h
  obtain ⟨hs,q⟩:=h
  cases x with
  | non =>
    cases rx
    cases y with
    | non => cases ry; exact PySem.EqNone.eq_none_none (fin_bl I q (by simp))
    | bl j => cases ry; exact PySem.EqNone.eq_none_bool (fin_bl I q (by simp))
    | int j => obtain ⟨t',rfl⟩:=ry; exact PySem.EqNone.eq_none_int (fin_bl I q (by simp))
    | str j => obtain ⟨t',rfl⟩:=ry; exact PySem.EqNone.eq_none_str (fin_bl I q (by simp))
    | _ => exact absurd (show false=true from hs) Bool.false_ne_true
  | bl i =>
    cases rx
    cases y with
    | non => cases ry; exact PySem.EqNone.eq_bool_none (fin_bl I q (by simp))
    | bl j => cases ry; exact eq_bool (fin_bl I q dec_bl)
    | str j => obtain ⟨t',rfl⟩:=ry; exact PySem.EqMixed.eq_bool_str (fin_bl I q (by simp))
    | _ => exact absurd (show false=true from hs) Bool.false_ne_true
  | int i =>
    obtain ⟨t,rfl⟩:=rx
    cases y with
    | non => cases ry; exact PySem.EqNone.eq_int_none (fin_bl I q (by simp))
    | int j => obtain ⟨t',rfl⟩:=ry; exact eq_int (fin_bl I q dec_int)
    | str j => obtain ⟨t',rfl⟩:=ry; exact PySem.EqMixed.eq_int_str (fin_bl I q (by simp))
    | _ => exact absurd (show false=true from hs) Bool.false_ne_true
  | str i =>
    obtain ⟨t,rfl⟩:=rx
    cases y with
    | non => cases ry; exact PySem.EqNone.eq_str_none (fin_bl I q (by simp))
    | bl j => cases ry; exact PySem.EqMixed.eq_str_bool (fin_bl I q (by simp))
    | int j => obtain ⟨t',rfl⟩:=ry; exact PySem.EqMixed.eq_str_int (fin_bl I q (by simp))
    | str j => obtain ⟨t',rfl⟩:=ry; exact eq_str (fin_bl I q dec_str)
    | _ => exact absurd (show false=true from hs) Bool.false_ne_true
  | byt i =>
    obtain ⟨t,rfl⟩:=rx
    cases y with
    | byt j => obtain ⟨t',rfl⟩:=ry; exact PySem.W.eq_bytes (fin_bl I q dec_byt)
    | _ => exact absurd (show false=true from hs) Bool.false_ne_true
  | _ => cases y <;> exact absurd (show false=true from hs) Bool.false_ne_true
theorem op_ne:OpR X (compareOp .NotEq) rNe:=by
  intro pins s σ H x y v u Q I rx ry h
  obtain ⟨hs,q⟩:=h
  cases x with
  | non =>
    cases rx
    cases y with
    | non => cases ry; exact PySem.EqNone.ne_none_none (fin_bl I q (by simp))
    | bl j => cases ry; exact PySem.EqNone.ne_none_bool (fin_bl I q (by simp))
    | int j => obtain ⟨t',rfl⟩:=ry; exact PySem.EqNone.ne_none_int (fin_bl I q (by simp))
    | str j => obtain ⟨t',rfl⟩:=ry; exact PySem.EqNone.ne_none_str (fin_bl I q (by simp))
    | _ => exact absurd (show false=true from hs) Bool.false_ne_true
  | bl i =>
    cases rx
    cases y with
    | non => cases ry; exact PySem.EqNone.ne_bool_none (fin_bl I q (by simp))
    | bl j => cases ry; exact ne_bool (fin_bl I q (congrArg not dec_bl))
    | str j => obtain ⟨t',rfl⟩:=ry; exact PySem.EqMixed.ne_bool_str (fin_bl I q (by simp))
    | _ => exact absurd (show false=true from hs) Bool.false_ne_true
  | int i =>
    obtain ⟨t,rfl⟩:=rx
    cases y with
    | non => cases ry; exact PySem.EqNone.ne_int_none (fin_bl I q (by simp))
    | int j => obtain ⟨t',rfl⟩:=ry; exact ne_int (fin_bl I q (congrArg not dec_int))
    | str j => obtain ⟨t',rfl⟩:=ry; exact PySem.EqMixed.ne_int_str (fin_bl I q (by simp))
    | _ => exact absurd (show false=true from hs) Bool.false_ne_true
  | str i =>
    obtain ⟨t,rfl⟩:=rx
    cases y with
    | non => cases ry; exact PySem.EqNone.ne_str_none (fin_bl I q (by simp))
    | bl j => cases ry; exact PySem.EqMixed.ne_str_bool (fin_bl I q (by simp))
    | int j => obtain ⟨t',rfl⟩:=ry; exact PySem.EqMixed.ne_str_int (fin_bl I q (by simp))
    | str j => obtain ⟨t',rfl⟩:=ry; exact ne_str (fin_bl I q (congrArg not dec_str))
    | _ => exact absurd (show false=true from hs) Bool.false_ne_true
  | byt i =>
    obtain ⟨t,rfl⟩:=rx
    cases y with
    | byt j => obtain ⟨t',rfl⟩:=ry; exact PySem.W.ne_bytes (fin_bl I q (congrArg not dec_byt))
    | _ => exact absurd (show false=true from hs) Bool.false_ne_true
  | _ => cases y <;> exact absurd (show false=true from hs) Bool.false_ne_true
theorem op_lt:OpR X (compareOp .Lt) (rI0 fun i j => .bl (decide (i < j))):=opB0 fun _ _ _ _ _ _ _ q => lt_int q
theorem op_le:OpR X (compareOp .LtE) (rI0 fun i j => .bl (decide (i≤j))):=opB0 fun _ _ _ _ _ _ _ q => le_int q
theorem op_gt:OpR X (compareOp .Gt) (rI0 fun i j => .bl (decide (j < i))):=opB0 fun _ _ _ _ _ _ _ q => gt_int q
theorem op_ge:OpR X (compareOp .GtE) (rI0 fun i j => .bl (decide (j≤i))):=opB0 fun _ _ _ _ _ _ _ q => ge_int q
theorem op_isN:OpR X (compareOp .Is) (fun x y H Q => y = .non∧Q (.bl (decide (x = .non))) H):=by
  intro pins s σ H x y v u Q I rx ry h
  obtain ⟨rfl,q⟩:=h
  cases ry
  refine is_none_gen (fin_bl I q ?_)
  cases x <;> first
    | (cases rx; rfl)
    | (obtain ⟨t,rfl⟩:=rx; rfl)
theorem nomark (b:Expr) {op:CmpOp} (h:op≠.In:=by decide) (h2:op≠.NotIn:=by decide):behindInMarks op b=false:=by
  have e1:(op == CmpOp.In)=false:=by cases op <;> first | rfl | exact absurd rfl h
  have e2:(op == CmpOp.NotIn)=false:=by cases op <;> first | rfl | exact absurd rfl h2
  cases b <;> simp [behindInMarks,e1,e2]
theorem pe_cmpR {op:CmpOp} {r:R2} (ho:OpR X (compareOp op) r) (ha:PE X a ta) (hb:PE X b tb) (hm:behindInMarks op b=false):PE X (.Compare a [op] [b] pos) (tOp r ta tb):=by
  intro pins s σ H Q I h
  exact wpAny_Compare1 (binT ha hb I h fun v u s2 x y H2 I2 rx ry q => ho pins s2 σ H2 x y v u Q I2 rx ry q) hm
def tTest (t:TE):TT:=fun σ H Q => t σ H fun x H' => ∃ k,x = .bl k∧Q k H'
theorem pt_cmpR {op:CmpOp} {r:R2} (ho:OpR X (compareOp op) r) (ha:PE X a ta) (hb:PE X b tb) (hm:behindInMarks op b=false):PT X (.Compare a [op] [b] pos) (tTest (tOp r ta tb)):=by
  intro pins s σ H Q I h
  refine wpAny_isTrue_Compare1 (thn (ha pins s σ H _ I h) fun v s1 ⟨x,H1,I1,r1,q1⟩ => thn (hb pins s1 σ H1 _ I1 q1) fun u s2 ⟨y,H2,I2,r2,q2⟩ =>
    thn (ho pins s2 σ H2 x y v u _ I2 r1 r2 q2) fun c s3 ⟨z,H3,I3,r3,k,e,q3⟩ => ?_) hm
  subst e
  cases r3
  exact wpAny_truthy_bool ⟨H3,I3,q3⟩
theorem line63:(sizeLine:Nat) < 2 ^ 63:=by rw [sizeLine_eq]; decide
theorem vals1 {x:V} {us:List Value} (r:Vals [x] us):∃ u,us=[u]∧RelV x u:=by
  cases r with
  | cons r1 r2 => cases r2; exact ⟨_,rfl,r1⟩
theorem call_str_int:CallR X (.type "str") (fun xs H Q => ∃ i,xs=[.int i]∧i.natAbs.log2 < 1920∧Q (.str (toString i)) H):=by
  intro pins s σ H xs us Q I r h
  obtain ⟨i,rfl,hz,q⟩:=h
  obtain ⟨u,rfl,t,rfl⟩:=vals1 r
  exact PySem.P.str_of_int hz ⟨.str _,H,I.tok _,⟨_,rfl⟩,q⟩
end
end L2
namespace L2
open PySem PySem.Spec PyProof.Rows
structure ObjM (h:Heap) (x dx C:Addr) (mA:Str→Option Value):Prop where
  obj:h.get? x=some (PySem.W.instObj C dx)
  ns:h.Ns1 dx mA
  ne:dx≠x
theorem lookIn_ns {h:Heap} {dx:Addr} {mA:Str→Option Value} (n:h.Ns1 dx mA):∃ od,h.get? dx=some od∧∀ name,PySem.W.lookIn name od=some (mA name):=by
  obtain ⟨o,es,ep,ho,hd,hk,_,hm⟩:=n
  refine ⟨o,ho,fun name => ?_⟩
  have e:=hm name
  unfold nsFind findBy at e
  rw [← Array.find?_toList] at e
  unfold PySem.W.lookIn
  rw [hd]
  dsimp only
  split
  · rename_i y q
    rw [q] at e
    exact congrArg some e
  · rename_i q
    rw [q] at e
    have a:es.toList.any (·.refKey)=false:=by
      rw [List.any_eq_false]
      intro y hy
      obtain ⟨z,t,hkey⟩:=hk y (Array.mem_toList_iff.mp hy)
      simp [DictEntry.refKey,hkey]
    have a':¬ es.toList.any (·.refKey)=true:=by rw [a]; exact Bool.false_ne_true
    rw [if_neg a']
    exact congrArg some e
theorem ObjM.look {h:Heap} {x dx C:Addr} {mA:Str→Option Value} (I:ObjM h x dx C mA):∃ od,PySem.W.InstAt h x (PySem.W.instObj C dx) C (some od)∧∀ name,PySem.W.lookIn name od=some (mA name) :=
  let ⟨od,ho,hl⟩:=lookIn_ns I.ns
  ⟨od,⟨I.obj,rfl,rfl,ho⟩,hl⟩
section
variable {prog:Program} {w:World} {A:Around} {E:Value→Shared→Prop} {s:Shared} {K:PySem.W.Frag} {x dx C f:Addr} {mA:Str→Option Value} {name:Str} {v:Value}
theorem get_map {expr:Bool} {Q:Value→Shared→Prop} (X:K.In s.heap) (I:ObjM s.heap x dx C mA) (hg:PySem.W.plainGet K C name=true) (hh:PySem.W.hasDictIn K C=true)
    (ha:PySem.W.findIn K (.ref C) name=some none) (hv:mA name=some v) (hv':PySem.W.handedIn v=true) (h:Q v { s with toks:=s.toks + 1 }) :
    wpAny (model prog w) A (getAttr (.ref x) name expr) Q E s:=by
  obtain ⟨od,J,hl⟩:=I.look
  exact PySem.W.get_value X J (PySem.W.plainGet_of hg).1 (PySem.W.findObj_own hh ha rfl (by rw [hl,hv])) hv' h
theorem set_map {ns:List Str} {Q:Unit→Shared→Prop} (X:K.In s.heap) (I:ObjM s.heap x dx C mA)
    (hs:PySem.W.findIn K (.ref C) "__setattr__" = some (some (.builtin "object.__setattr__"))) (hp:PySem.W.plainOver K C=true) (ht:PySem.W.takerIn K C name=some none) (hh:PySem.W.hasDictIn K C=true)
    (hw:PySem.Within mA ns) (hsz:ns.length≤sizeLine)
    (h:∀ h',ObjM h' x dx C (fun y => if y=name then some v else mA y)→Heap.SameBut dx s.heap h'→Q () { s with heap:=h',toks:=s.toks + 2 }) :
    wpAny (model prog w) A (setAttr (.ref x) name v) Q E s:=by
  obtain ⟨od,J,hl⟩:=I.look
  refine PySem.W.set_plain X J hs (PySem.W.osa_open (s:={ s with toks:=s.toks + 1 }) (r:=none) X J hp ht fun b => ?_)
  obtain ⟨cd,hc,hd'⟩:=PySem.W.any_some hh
  have hx:s.heap.get? x=some ⟨.ref C,some dx,.plain,#[]⟩:=I.obj
  refine wpAny_bind (wpAny_pure (wpAny_bind (wpAny_bind (wpAny_loadPart hx (wpAny_bind (PySem.W.Looks.here (s:={ s with toks:=s.toks + 1 }) (PySem.W.looks_clsIn X hc) ?_))))))
  rw [hd']
  refine wpAny_pure (a:=some dx) (wpAny_bind (wpAny_pure (wpAny_bind ?_)))
  refine wpAny_nsSet1 (s:={ s with toks:=s.toks + 1 }) I.ns fun h' hn2 hs2 => ?_
  obtain ⟨oD,esD,epD,hoD,hdD,hcD⟩:=hn2.count (PySem.Within.cons name v hw)
  refine wpAny_bind (wpAny_lookBehind hoD (by rw [hdD]; exact pastItsLine_dict (Nat.le_trans hcD (by rw [List.length_cons]; omega))) ?_)
  exact wpAny_pure (h _ ⟨(hs2.2 _ (Ne.symm I.ne)).trans I.obj,hn2,I.ne⟩ hs2)
theorem make_map {R:Result→Shared→Prop} {vs:List Value} {kw:List (Str×Value)} (X:K.In s.heap) (hm:PySem.W.makesIn K C=true)
    (hi:PySem.W.findIn K (.ref C) "__init__" = some (some (.ref f))) (hf:PySem.W.typeIn K (.ref f)=some (.type "function"))
    (h:codeAny (model prog w) (A.under (.builtin "type.__call__" ⟨.ref C :: vs,kw⟩)) (.call (.ref f) ⟨.ref (s.heap.objs.size + 1) :: vs,kw⟩) (PySem.W.InitBack (s.heap.objs.size + 1) R)
      { s with heap:=(s.heap.push PySem.W.emptyDict).push (PySem.W.instObj C s.heap.objs.size) }) :
    codeAny (model prog w) A (.call (.ref C) ⟨vs,kw⟩) R s:=by
  obtain ⟨hh,g,d,t,os⟩:=s
  exact PySem.W.make_core (PySem.W.makes_of X hm) (PySem.W.looks_findIn X hi) (fun self => PySem.W.bind_fn X self hf) (.inl rfl) h
end
def putF (f:Str) (v:V):List (Str×V)→List (Str×V)
  | [] => [(f,v)]
  | (g,x) :: r => if g=f then (g,v) :: r else (g,x) :: putF f v r
theorem lookup_putF (f g:Str) (v:V):∀ fs:List (Str×V),(putF f v fs).lookup g=if g=f then some v else fs.lookup g
  | [] => by
    show List.lookup g [(f,v)] = _
    by_cases h:g=f
    · have hb:(g == f)=true:=beq_iff_eq.mpr h
      simp only [List.lookup,hb,if_pos h]
    · have hb:(g == f)=false:=beq_eq_false_iff_ne.mpr h
      simp only [List.lookup,hb,if_neg h]
  | (k,x) :: r => by
    have ih:=lookup_putF f g v r
    rw [show putF f v ((k,x) :: r)=(if k=f then (k,v) :: r else (k,x) :: putF f v r) from rfl]
    by_cases hk:k=f
    · rw [if_pos hk]
      by_cases h:g=k
      · have hb:(g == k)=true:=beq_iff_eq.mpr h
        simp only [List.lookup,hb,if_pos (h.trans hk)]
      · have hb:(g == k)=false:=beq_eq_false_iff_ne.mpr h
        simp only [List.lookup,hb,if_neg (fun e:g=f => h (e.trans hk.symm))]
    · rw [if_neg hk]
      by_cases h:g=k
      · have hb:(g == k)=true:=beq_iff_eq.mpr h
        simp only [List.lookup,hb,if_neg (fun e:g=f => hk (h.symm.trans e))]
      · have hb:(g == k)=false:=beq_eq_false_iff_ne.mpr h
        simp only [List.lookup,hb]
        exact ih
theorem keys_putF (f:Str) (v:V):∀ fs:List (Str×V),f∈(putF f v fs).map (·.1)∧∀ g,g∈fs.map (·.1)→g∈(putF f v fs).map (·.1)
  | [] => ⟨by simp [putF],fun g h => by simp at h⟩
  | (k,x) :: r => by
    obtain ⟨i1,i2⟩:=keys_putF f v r
    rw [show putF f v ((k,x) :: r)=(if k=f then (k,v) :: r else (k,x) :: putF f v r) from rfl]
    by_cases hk:k=f
    · rw [if_pos hk]
      subst hk
      exact ⟨by simp,fun g h => by simpa using h⟩
    · rw [if_neg hk]
      refine ⟨?_,fun g h => ?_⟩
      · rw [List.map_cons]
        exact List.mem_cons_of_mem _ i1
      · rw [List.map_cons] at h ⊢
        rcases List.mem_cons.mp h with e | e
        · exact List.mem_cons.mpr (.inl e)
        · exact List.mem_cons_of_mem _ (i2 g e)
theorem length_putF (f:Str) (v:V):∀ fs:List (Str×V),(putF f v fs).length≤fs.length + 1
  | [] => by simp [putF]
  | (k,x) :: r => by
    have ih:=length_putF f v r
    rw [show putF f v ((k,x) :: r)=(if k=f then (k,v) :: r else (k,x) :: putF f v r) from rfl]
    by_cases hk:k=f
    · rw [if_pos hk,List.length_cons,List.length_cons]; omega
    · rw [if_neg hk,List.length_cons,List.length_cons]; omega
theorem RelO.some_of {v:V} {o:Option Value} (r:RelO (some v) o):∃ u,o=some u∧RelV v u:=by
  cases o with
  | none => exact (show False from r).elim
  | some u => exact ⟨u,rfl,r⟩
theorem handed_of {v:V} {u:Value} (r:RelV v u):PySem.W.handedIn u=true:=by
  cases v with
  | non => cases (show u=Value.none from r); rfl
  | bl b => cases (show u=Value.bool b from r); rfl
  | int i => obtain ⟨t,e⟩:=(show ∃ t,u=Value.int i t from r); cases e; rfl
  | str x => obtain ⟨t,e⟩:=(show ∃ t,u=Value.str x t from r); cases e; rfl
  | byt b => obtain ⟨t,e⟩:=(show ∃ t,u=Value.bytes b t from r); cases e; rfl
  | flt b => obtain ⟨t,e⟩:=(show ∃ t,u=Value.float b t from r); cases e; rfl
  | ref a => cases (show u=Value.ref a from r); rfl
  | ty n => cases (show u=Value.type n from r); rfl
section
variable {P:Program} {w:World} {H H':Hp} {h h':Heap} {a C dx:Addr} {fs fs':List (Str×V)}
theorem ins_get (hok:HOk P w H h) (e:H a=some (.ins C dx fs)):∃ mA,ObjM h a dx C mA∧(∀ f,RelO (fs.lookup f) (mA f))∧PySem.Within mA (fs.map (·.1))∧fs.length≤1000∧H dx=some (.own a):=by
  obtain ⟨d,z,ne,ob,mA,n,r,q⟩:=(show ObjOk P w H h a (.ins C dx fs) from hok a _ e)
  exact ⟨mA,⟨ob,n,ne⟩,r,q,z,d⟩
end
structure Cls (K:PySem.W.Frag) (C:Addr):Prop where
  pg:PySem.W.plainGet K C Str.empty=true
  hd:PySem.W.hasDictIn K C=true
  po:PySem.W.plainOver K C=true
  sa:PySem.W.findIn K (.ref C) "__setattr__" = some (some (.builtin "object.__setattr__"))
theorem Cls.get {K:PySem.W.Frag} {C:Addr} (c:Cls K C) (f:Str):PySem.W.plainGet K C f=true:=c.pg
def NoAttr (K:PySem.W.Frag) (C:Addr) (f:Str):Prop:=PySem.W.findIn K (.ref C) f=some none
theorem NoAttr.taker {K:PySem.W.Frag} {C:Addr} {f:Str} (n:NoAttr K C f):PySem.W.takerIn K C f=some none:=by
  unfold PySem.W.takerIn
  rw [show PySem.W.findIn K (.ref C) f=some none from n]
  rfl
section
variable {X:Cx} {pins:List (Addr×Obj)} {σ : St} {H:Hp} {s:Shared} {a C dx:Addr} {fs:List (Str×V)} {f:Str} {v:V} {A:Around} {E:Value→Shared→Prop}
theorem getattr_ok {b:Bool} {Q:Value→Shared→Prop} (I:Inv X pins σ H s) (e:H a=some (.ins C dx fs)) (c:Cls X.K C) (n:NoAttr X.K C f) (l:fs.lookup f=some v)
    (h:∀ u s',Inv X pins σ H s'→RelV v u→Q u s'):wpAny (model X.prog X.w) A (getAttr (.ref a) f b) Q E s:=by
  obtain ⟨mA,O,r,_,_,_⟩:=ins_get I.hok e
  obtain ⟨u,hu,ru⟩:=RelO.some_of (v:=v) (o:=mA f) (by rw [← l]; exact r f)
  exact get_map I.kIn O (c.get f) c.hd n hu (handed_of ru) (h u _ (I.tok _) ru)
theorem setattr_ok {y:V} {u:Value} {Q:Unit→Shared→Prop} (I:Inv X pins σ H s) (e:H a=some (.ins C dx fs)) (c:Cls X.K C) (n:NoAttr X.K C f) (hl:fs.length < 1000) (ry:RelV y u)
    (h:∀ s',Inv X pins σ (upd H a (.ins C dx (putF f y fs))) s'→Q () s'):wpAny (model X.prog X.w) A (setAttr (.ref a) f u) Q E s:=by
  obtain ⟨mA,O,r,wi,_,ho⟩:=ins_get I.hok e
  have hz:(fs.map (·.1)).length≤sizeLine:=by rw [List.length_map,sizeLine_eq]; omega
  refine set_map I.kIn O c.sa c.po n.taker c.hd wi hz fun h' O' sb => h _ ?_
  have hd:∃ o,h'.get? dx=some o:=let ⟨o,_,_,e',_⟩:=O'.ns; ⟨o,e'⟩
  refine I.write (x:=a) (e:=dx) (by rw [e]; exact True.intro) (.inr ho) (fun b q hb z => (sb.2 b hb).trans z) hd ?_
  refine ⟨by rw [upd_ne O.ne]; exact ho,?_,O.ne,O'.obj,_,O'.ns,fun g => ?_,fun g hg => ?_⟩
  · have:=length_putF f y fs; omega
  · show RelO ((putF f y fs).lookup g) (if g=f then some u else mA g)
    rw [lookup_putF]
    by_cases q:g=f
    · rw [if_pos q,if_pos q]; exact ry
    · rw [if_neg q,if_neg q]; exact r g
  · by_cases q:g=f
    · rw [q]; exact (keys_putF f y fs).1
    · refine (keys_putF f y fs).2 g (wi g fun z => hg ?_)
      show (if g=f then some u else mA g)=none
      rw [if_neg q]; exact z
theorem Inv.made (I:Inv X pins σ H s):Inv X pins σ (upd (upd H s.heap.objs.size (.own (s.heap.objs.size + 1))) (s.heap.objs.size + 1) (.ins C s.heap.objs.size []))
    { s with heap:=(s.heap.push PySem.W.emptyDict).push (PySem.W.instObj C s.heap.objs.size) }:=by
  have e1:(s.heap.push PySem.W.emptyDict).get? s.heap.objs.size=some PySem.W.emptyDict:=Heap.get?_push_size s.heap rfl
  have e2:((s.heap.push PySem.W.emptyDict).push (PySem.W.instObj C s.heap.objs.size)).get? (s.heap.objs.size + 1)=some (PySem.W.instObj C s.heap.objs.size):=by
    have:=Heap.get?_push_size (s.heap.push PySem.W.emptyDict) (o:=PySem.W.instObj C s.heap.objs.size) rfl
    rwa [Heap.size_push] at this
  have e3:(s.heap.push PySem.W.emptyDict).Ns s.heap.objs.size (fun _ => none):=⟨PySem.W.emptyDict,#[],_,e1,rfl,(fun e he => absurd he (by simp)),fun _ => rfl⟩
  have I1:=I.laid (a:=s.heap.objs.size) (o:=.own (s.heap.objs.size + 1)) (h':=s.heap.push PySem.W.emptyDict) (t':=s.toks) (fun b u q => Heap.get?_push_of_some _ q) (Nat.le_refl _) ⟨_,e1⟩
  refine I1.laid (a:=s.heap.objs.size + 1) (o:=.ins C s.heap.objs.size []) (t':=s.toks) (fun b u q => Heap.get?_push_of_some _ q) (Nat.le_of_eq (Heap.size_push _ _)) ?_
  have ne:s.heap.objs.size≠s.heap.objs.size + 1:=Nat.ne_of_lt (Nat.lt_succ_self _)
  refine ⟨by rw [upd_ne ne,upd_same],Nat.zero_le _,ne,e2,fun _ => none,(Heap.Ns1.of_empty e3).at fun o q => Heap.get?_push_of_some _ q,fun _ => True.intro,fun y hy => absurd rfl hy⟩
theorem attr_of {prog:Program} {w:World} {env:Env} {e:Expr} {f:Str} {pos:Pos} {s:Shared} {Q:Value→Shared→Prop} (hb:attributeBase e f env (eval e env)=eval e env)
    (h:wpAny (model prog w) A (eval e env) (fun o s₁ => wpAny (model prog w) A (getAttr o f true) Q E s₁) E s):wpAny (model prog w) A (eval (.Attribute e f pos) env) Q E s :=
  Attribute_any_ h (by rw [arm_eval_Attribute,hb])
end
def tFld (K:PySem.W.Frag) (ta:TE) (f:Str):TE:=fun σ H Q => ta σ H fun x H1 => ∃ a C dx fs v,x = .ref a∧H1 a=some (.ins C dx fs)∧Cls K C∧NoAttr K C f∧fs.lookup f=some v∧Q v H1
def sFld (K:PySem.W.Frag) (ta tv:TE) (f:Str):TS:=fun D σ H => tv σ H fun y H1 => ta σ H1 fun x H2 => ∃ a C dx fs,x = .ref a∧H2 a=some (.ins C dx fs)∧Cls K C∧NoAttr K C f∧fs.length < 1000 ∧
  D.nx σ (upd H2 a (.ins C dx (putF f y fs)))
section
variable {X:Cx} {o e value:Expr} {f:Str} {pos pos' tpos:Pos} {ta tv:TE}
theorem pe_fld (he:PE X e ta) (hb:attributeBase e f X.env (eval e X.env)=eval e X.env):PE X (.Attribute e f pos) (tFld X.K ta f):=by
  intro pins s σ H Q I h
  refine attr_of hb (thn (he pins s σ H _ I h) fun u s1 ⟨x,H1,I1,rx,a,C,dx,fs,v,ex,ea,c,n,l,q⟩ => ?_)
  subst ex
  obtain rfl:u=Value.ref a:=rx
  exact getattr_ok I1 ea c n l fun u' s2 I2 ru => ⟨v,H1,I2,ru,q⟩
theorem ps_fld (ha:PE X o ta) (hv:PE X value tv) (hs:swapsWith value (some (.Attribute o f pos')) pos.line X.env=pure false):PS X (.Assign [.Attribute o f pos'] value pos) (sFld X.K ta tv f):=by
  intro pins s σ H D I h
  refine plainObj_wpAny_Assign_Attribute (thn (hv pins s σ H _ I h) fun u s1 ⟨y,H1,I1,ry,q⟩ => thn (ha pins s1 σ H1 _ I1 q) fun ov s2 ⟨x,H2,I2,rx,a,C,dx,fs,ex,ea,c,n,l,q2⟩ => ?_) hs
  subst ex
  obtain rfl:ov=Value.ref a:=rx
  exact setattr_ok I2 ea c n l ry fun s3 I3 => ⟨σ,_,I3,q2⟩
end
section
variable {X:Cx} {pins:List (Addr×Obj)} {σ : St} {H:Hp} {s:Shared} {A:Around} {E:Value→Shared→Prop} {Q:Value→Shared→Prop} {c:Value} {b:Bool}
inductive TyOf (K:PySem.W.Frag) (H:Hp):V→Value→Prop where
  | non:TyOf K H .non (.type "NoneType")
  | bl (x:Bool):TyOf K H (.bl x) (.type "bool")
  | int (i:Int):TyOf K H (.int i) (.type "int")
  | str (x:Str):TyOf K H (.str x) (.type "str")
  | flt (x:UInt64):TyOf K H (.flt x) (.type "float")
  | lst {a:Addr} {xs:List V} (e:H a=some (.lst xs)):TyOf K H (.ref a) (.type "list")
  | frz {a:Addr} {o:Obj} {xs:List V} (e:H a=some (.frz o (.lst xs))):TyOf K H (.ref a) (.type "list")
  | tup {a:Addr} {xs:List V} (e:H a=some (.tup xs)):TyOf K H (.ref a) (.type "tuple")
  | dK {a:Addr} {kvs:List (Key×V)} (e:H a=some (.dK kvs)):TyOf K H (.ref a) (.type "dict")
  | dT {a:Addr} {kvs:List (List Key×V)} (e:H a=some (.dT kvs)):TyOf K H (.ref a) (.type "dict")
  | ins {a C dx:Addr} {fs:List (Str×V)} (e:H a=some (.ins C dx fs)) (cl:Cls K C) (ha:PySem.W.findIn K (.ref C) "__class__" = some (some (.builtin "object.__class__")))
      (hn:PySem.W.specialIn K (.builtin "object.__class__") "__get__" = some (some (.builtin "getset_descriptor.__get__"))) (htk:PySem.W.takesIn K (.builtin "object.__class__")=some true)
      (hm:PySem.W.mroIn K C (.type "object")=some true):TyOf K H (.ref a) (.ref C)
theorem isinst_ok {x:V} {u t:Value} (I:Inv X pins σ H s) (rx:RelV x u) (ty:TyOf X.K H x t) (e:PySem.W.kitOne X.K t c=some b) (h:∀ tk,Q (.bool b) { s with toks:=tk }) :
    wpAny (model X.prog X.w) A (call (.builtin "isinstance") [u,c]) Q E s:=by
  cases ty with
  | non => cases (show u=Value.none from rx); exact PySem.W.kia_one PySem.W.kitx_none I.kIn True.intro e (fun z => nomatch z) h
  | bl y => cases (show u=Value.bool y from rx); exact PySem.W.kia_one PySem.W.kitx_bool I.kIn True.intro e (fun z => nomatch z) h
  | int i => obtain ⟨t,q⟩:=(show ∃ t,u=Value.int i t from rx); cases q; exact PySem.W.kia_one PySem.W.kitx_int I.kIn True.intro e (fun z => nomatch z) h
  | str y => obtain ⟨t,q⟩:=(show ∃ t,u=Value.str y t from rx); cases q; exact PySem.W.kia_one PySem.W.kitx_str I.kIn True.intro e (fun z => nomatch z) h
  | flt y => obtain ⟨t,q⟩:=(show ∃ t,u=Value.float y t from rx); cases q; exact PySem.W.kia_one PySem.W.kitx_float I.kIn True.intro e (fun z => nomatch z) h
  | @lst a xs ea =>
    cases (show u=Value.ref a from rx)
    obtain ⟨_,_,n,_,h1⟩:=(show ObjOk X.prog X.w H s.heap a (.lst xs) from I.hok a _ ea)
    exact PySem.W.kia_one PySem.W.kitx_list I.kIn ⟨_,h1,rfl⟩ e (fun z => nomatch z) h
  | @frz a ob xs ea =>
    cases (show u=Value.ref a from rx)
    obtain ⟨_,_,_,n,_,h1⟩:=(show ObjOk X.prog X.w H s.heap a (.frz ob (.lst xs)) from I.hok a _ ea)
    exact PySem.W.kia_one PySem.W.kitx_list I.kIn ⟨_,h1,rfl⟩ e (fun z => nomatch z) h
  | @tup a xs ea =>
    cases (show u=Value.ref a from rx)
    obtain ⟨_,_,_,p⟩:=(show ObjOk X.prog X.w H s.heap a (.tup xs) from I.hok a _ ea)
    obtain ⟨o,h1,h2,_⟩:=p
    exact PySem.W.kia_one PySem.W.kitx_tuple I.kIn ⟨o,h1,h2⟩ e (fun z => nomatch z) h
  | @dK a kvs ea =>
    cases (show u=Value.ref a from rx)
    obtain ⟨_,_,vs,_,p⟩:=(show ObjOk X.prog X.w H s.heap a (.dK kvs) from I.hok a _ ea)
    obtain ⟨o,es,ep,h1,h2,_⟩:=p
    exact PySem.W.kia_one PySem.W.kitx_dict I.kIn ⟨o,h1,h2.1⟩ e (fun z => nomatch z) h
  | @dT a kvs ea =>
    cases (show u=Value.ref a from rx)
    obtain ⟨_,_,xs,_,o,es,ep,h1,h2,_⟩:=(show ObjOk X.prog X.w H s.heap a (.dT kvs) from I.hok a _ ea)
    exact PySem.W.kia_one PySem.W.kitx_dict I.kIn ⟨o,h1,h2.1⟩ e (fun z => nomatch z) h
  | @ins a C dx fs ea cl ha hn htk hm =>
    cases (show u=Value.ref a from rx)
    obtain ⟨mA,O,_⟩:=ins_get I.hok ea
    obtain ⟨od,J,_⟩:=O.look
    exact PySem.W.kia_one (PySem.W.kitx_own (cl.get _) cl.hd ha hn htk hm) I.kIn J e (fun z => nomatch z) h
end
end L2
namespace L2
open PySem PySem.Spec PyProof.Rows
structure Room (k:Nat) (A:Around):Prop where
  hd:A.handled=none
  dp:A.depth + 3 * k + 5 < recursionLimit
  un:A.units + 16 * k + 200 < cLine
theorem Room.mono {j k:Nat} {A:Around} (r:Room k A) (h:j≤k):Room j A:=⟨r.hd,by have:=r.dp; omega,by have:=r.un; omega⟩
theorem Room.deeper {k:Nat} {A:Around} (r:Room (k + 1) A) (env:Env):Room k (A.deeper env) :=
  ⟨r.hd,by have:=r.dp; show A.depth + 1 + 3 * k + 5 < _; omega,by have:=r.un; show A.units + 3 + 16 * k + 200 < _; omega⟩
theorem make_depth {A:Around} {C:Addr} {us:List Value} {kw:List (Str×Value)}:(A.under (.builtin "type.__call__" ⟨.ref C :: us,kw⟩)).depth=A.depth + 1:=by
  first | rfl | simp [Around.under,Code.weight,Code.isCreation,Code.isGuard,Code.isCaller,Code.frames,Code.isFrame,guardIds]
theorem make_units {A:Around} {C:Addr} {us:List Value} {kw:List (Str×Value)}:(A.under (.builtin "type.__call__" ⟨.ref C :: us,kw⟩)).units=A.units + 1:=by
  first | rfl | simp [Around.under,Code.cUnits,Code.frames,Code.isFrame]
theorem Room.make {k:Nat} {A:Around} (r:Room (k + 1) A) (C:Addr) (us:List Value) (kw:List (Str×Value)):Room k (A.under (.builtin "type.__call__" ⟨.ref C :: us,kw⟩)) :=
  ⟨r.hd,by have:=r.dp; rw [make_depth]; omega,by have:=r.un; rw [make_units]; omega⟩
theorem Room.depth {k:Nat} {A:Around} (r:Room k A):A.depth < recursionLimit:=by have:=r.dp; omega
theorem Room.units {k:Nat} {A:Around} (r:Room k A):A.units + 64 < cLine:=by have:=r.un; omega
def tNil:TA:=fun _ H Q => Q [] H
def tCons (ta:TE) (tr:TA):TA:=fun σ H Q => ta σ H fun x H1 => tr σ H1 fun xs H2 => Q (x :: xs) H2
section
variable {X:Cx} {e:Expr} {es:List Expr} {te:TE} {t:TA} {pos:Pos}
theorem pa_nil:PA X [] tNil:=fun _ _ _ _ H Q I h => Calls.spliced_nil ⟨[],H,I,.nil,h⟩
theorem pa_cons (ha:PE X e te) (hr:PA X es t) (hs:starEach (e :: es) X.env=(false,eval e X.env) :: starEach es X.env:=by rfl):PA X (e :: es) (tCons te t):=by
  intro pos pins s σ H Q I h
  rw [hs]
  show wpAny _ _ (spliced ((false,eval e X.env) :: backTo pos (starEach es X.env))) _ _ s
  refine Calls.spliced_cons (thn (ha pins s σ H _ I h) fun u s1 ⟨x,H1,I1,r1,q1⟩ => ?_)
  exact thn (hr pos pins s1 σ H1 _ I1 q1) fun us s2 ⟨xs,H2,I2,r2,q2⟩ => ⟨x :: xs,H2,I2,.cons r1 r2,q2⟩
def tTup (t:TA):TE:=fun σ H Q => t σ H fun xs H1 => xs.length≤sizeLine∧∀ p,H1 p=none→Q (.ref p) (upd H1 p (.tup xs))
def tLst (t:TA):TE:=fun σ H Q => t σ H fun xs H1 => xs.length≤sizeLine∧∀ p,H1 p=none→Q (.ref p) (upd H1 p (.lst xs))
theorem pe_tup {x1} (h:PA X es t):PE X (.Tuple es x1 pos) (tTup t):=by
  intro pins s σ H Q I hq
  refine wpAny_Tuple_spliced (thn (h pos pins s σ H _ I hq) fun us s1 ⟨xs,H1,I1,r,z,q⟩ => ⟨by rw [← r.length]; exact z,?_⟩)
  have hf:H1 s1.heap.objs.size=none:=I1.hok.fresh (Nat.le_refl _)
  refine ⟨.ref s1.heap.objs.size,upd H1 s1.heap.objs.size (.tup xs),I1.laid (t':=s1.toks) (fun b u e => Heap.get?_push_of_some _ e) (Nat.le_refl _) ?_,rfl,q _ hf⟩
  exact ⟨z,us,r,⟨_,Heap.get?_push_size _ rfl,rfl,_,rfl⟩⟩
theorem pe_lst (h:PA X es t):PE X (.List es pos) (tLst t):=by
  intro pins s σ H Q I hq
  refine wpAny_List_spliced (thn (h pos pins s σ H _ I hq) fun us s1 ⟨xs,H1,I1,r,z,q⟩ => ⟨by rw [← r.length]; exact z,?_⟩)
  have hf:H1 s1.heap.objs.size=none:=I1.hok.fresh (Nat.le_refl _)
  refine ⟨.ref s1.heap.objs.size,upd H1 s1.heap.objs.size (.lst xs),I1.laid (t':=s1.toks) (fun b u e => Heap.get?_push_of_some _ e) (Nat.le_refl _) ?_,rfl,q _ hf⟩
  exact ⟨z,us,0,r,Heap.get?_push_size _ rfl⟩
end
abbrev Sp:=List V→Hp→VK→XK→Prop
abbrev CXT:=List Env→Hp→Shared→XK→Value→Shared→Prop
structure Env0 (P:Program) (w:World) (K:PySem.W.Frag) (mg:Str→Option Value) (base:Heap) (A:Around) (outer:List Env) (s:Shared) (H:Hp):Prop where
  frames:A.frames=some outer
  mod:Mod K mg base
  bs:∀ b o,base.get? b=some o→s.heap.get? b=some o∧H b=none
  bsz:base.objs.size≤s.heap.objs.size
  funs:s.heap.FunFrames base outer
  frf:∀ b∈frs outer,H b=none
  hok:HOk P w H s.heap
  bare:AllBare s.gens
def CE (outer:List Env) (P:Program) (w:World) (H:Hp) (s:Shared) (Q:VK) (u:Value) (s':Shared):Prop :=
  ∃ v H',s'.os=s.os∧AllBare s'.gens∧Un (frs outer) [] H H' s.heap s'.heap∧HOk P w H' s'.heap∧RelV v u∧Q v H'
def CR (CX:CXT) (outer:List Env) (P:Program) (w:World) (H:Hp) (s:Shared) (Q:VK) (E:XK) (r:Result) (s':Shared):Prop :=
  match r with
  | .ok (.ret u) => CE outer P w H s Q u s'
  | .ok _ => False
  | .error e => CX outer H s E e s'
structure FnOk (P:Program) (w:World) (K:PySem.W.Frag) (mg:Str→Option Value) (base:Heap) (CX:CXT) (k:Nat) (f:Addr) (fd:FuncData) (ps:List Str) (sp:Sp):Prop where
  len:∀ vs H Q E,sp vs H Q E→vs.length=ps.length
  run:∀ (A:Around) (outer:List Env) (s:Shared) (H:Hp) (args:Args) (us:List Value) (vs:List V) (Q:VK) (E:XK),Room k A→Env0 P w K mg base A outer s H→BindsTo s fd args (ps.zip us)→Vals vs us→sp vs H Q E →
    codeAny (model P w) A (.call (.ref f) args) (CR CX outer P w H s Q E) s
theorem Env0.make {P:Program} {w:World} {K:PySem.W.Frag} {mg:Str→Option Value} {base:Heap} {A:Around} {outer:List Env} {s:Shared} {H:Hp} (e:Env0 P w K mg base A outer s H) (C:Addr) (us:List Value) (kw:List (Str×Value)) :
    Env0 P w K mg base (A.under (.builtin "type.__call__" ⟨.ref C :: us,kw⟩)) outer s H:=⟨by first | exact e.frames | (simpa [Around.under,Code.envs,Code.isFrame,pushEnvs] using e.frames),e.mod,e.bs,e.bsz,e.funs,e.frf,e.hok,e.bare⟩
section
variable {X:Cx} {pins:List (Addr×Obj)} {σ : St} {H:Hp} {s s':Shared}
theorem Inv.env0 (I:Inv X pins σ H s):Env0 X.prog X.w X.K X.mg X.base X.A X.stack s H :=
  ⟨I.ok.frames,I.ok.mod,I.bs,Nat.le_trans I.ok.bsz I.sz,I.stack,I.stkFree,I.hok,I.bare⟩
theorem Inv.after {Q:VK} {u:Value} (I:Inv X pins σ H s) (h:CE X.stack X.prog X.w H s Q u s'):EP X pins σ Q u s':=by
  obtain ⟨v,H',os,bare,un,hok,r,q⟩:=h
  obtain ⟨hh,g,d,t,os'⟩:=s'
  obtain rfl:os'=s.os:=os
  exact ⟨v,H',I.call (h':=hh) (g':=g) (d':=d) (t':=t) (ch:=[]) un hok bare (fun b z => absurd z (by simp)),r,q⟩
end
def tCall (sp:Sp) (dvs:List V) (E:XK) (t:TA):TE:=fun σ H Q => t σ H fun vs H1 => sp (vs ++ dvs) H1 Q E
def tMake (C:Addr) (sp:Sp) (dvs:List V) (E:XK) (t:TA):TE:=fun σ H Q => t σ H fun vs H1 => ∀ x dx,H1 x=none→H1 dx=none→dx≠x →
  sp (.ref x :: (vs ++ dvs)) (upd (upd H1 dx (.own x)) x (.ins C dx [])) (fun v H2 => v = .non∧Q (.ref x) H2) E
def Binds (K:PySem.W.Frag) (fd:FuncData) (ps:List Str) (ds:List Value):Prop :=
  ∀ (s:Shared) (us:List Value),K.In s.heap→(us ++ ds).length=ps.length→BindsTo s fd ⟨us,[]⟩ (ps.zip (us ++ ds))
theorem Binds.all {K:PySem.W.Frag} {fd:FuncData} {ps:List Str} (h:∀ us:List Value,us.length=ps.length→bindArgs fd ⟨us,[]⟩ = pure (ps.zip us)):Binds K fd ps []:=fun s us _ hl => by
  rw [List.append_nil] at hl ⊢
  exact .of_eq (h us hl)
def Passes (CX:CXT) (X:Cx) (E:XK):Prop := ∀ (pins:List (Addr×Obj)) (σ : St) (H:Hp) (s:Shared) (e:Value) (s':Shared),Inv X pins σ H s→CX X.stack H s E e s'→X.xe e s'
section
variable {X:Cx} {CX:CXT} {k:Nat} {f C:Addr} {fd:FuncData} {ps:List Str} {sp:Sp} {dvs:List V} {ds:List Value} {E:XK} {x m:Str} {p pos apos:Pos} {e o:Expr} {es:List Expr} {ta:TE} {t:TA}
theorem run_fn {pins:List (Addr×Obj)} {σ : St} {H:Hp} {s:Shared} {Q:VK} {us:List Value} {vs:List V} (F:FnOk X.prog X.w X.K X.mg X.base CX k f fd ps sp) (hr:Room k X.A) (hb:Binds X.K fd ps ds) (hd:Vals dvs ds) (hx:Passes CX X E)
    (I:Inv X pins σ H s) (r:Vals vs us) (h:sp (vs ++ dvs) H Q E):wpAny (model X.prog X.w) X.A (call (.ref f) us) (EP X pins σ Q) X.xe s:=by
  have r2:Vals (vs ++ dvs) (us ++ ds):=r.append hd
  have hl:(us ++ ds).length=ps.length:=by rw [← r2.length]; exact F.len _ _ _ _ h
  refine wpAny_call (codeAny_mono (F.run X.A X.stack s H ⟨us,[]⟩ (us ++ ds) (vs ++ dvs) Q E hr I.env0 (hb s us I.kIn hl) r2 h) fun r s' hq => ?_)
  cases r with
  | error e => exact hx pins σ H s e s' I hq
  | ok fl =>
    cases fl with
    | ret u => exact I.after hq
    | next => exact False.elim hq
    | brk => exact False.elim hq
    | cont => exact False.elim hq
theorem pe_call (F:FnOk X.prog X.w X.K X.mg X.base CX k f fd ps sp) (hr:Room k X.A) (hg:Gl X x) (hm:X.mg x=some (.ref f)) (hk:PySem.W.keepIn X.K (.ref f)=true) (hb:Binds X.K fd ps ds) (hd:Vals dvs ds) (hx:Passes CX X E)
    (ha:PA X (e :: es) t) (hdb:(x == ("__debug__" : Str))=false:=by decide) (he:starEach (e :: es) X.env=(false,eval e X.env) :: starEach es X.env:=by rfl) (hpl:(backTo pos (starEach es X.env)).any (·.1)=false:=by rfl) :
    PE X (.Call (.Name x p) (e :: es) [] pos) (tCall sp dvs E t):=by
  intro pins s σ H Q I h
  refine wpAny_Call_Name_kw (ld_glob I hg hm ?_ hdb)
  refine PySem.W.callWith_K (h₀:=X.base) I.ok.mod.kin hk (thn (ha pos pins s σ H _ I h) fun us s1 ⟨vs,H1,I1,r,q⟩ => ⟨I1.kIn,?_⟩) he hpl
  exact run_fn F hr hb hd hx I1 r q
structure Mk (K:PySem.W.Frag) (C f:Addr):Prop where
  makes:PySem.W.makesIn K C=true
  init:PySem.W.findIn K (.ref C) "__init__" = some (some (.ref f))
  fn:PySem.W.isFn K (.ref f)=true
  kp:PySem.W.keepIn K (.ref C)=true
theorem run_make {pins:List (Addr×Obj)} {σ : St} {H:Hp} {s:Shared} {Q:VK} {us:List Value} {vs:List V} (M:Mk X.K C f) (F:FnOk X.prog X.w X.K X.mg X.base CX k f fd ps sp) (hr:Room (k + 1) X.A) (hb:Binds X.K fd ps ds) (hd:Vals dvs ds)
    (hx:Passes CX X E) (I:Inv X pins σ H s) (r:Vals vs us)
    (h:∀ x dx,H x=none→H dx=none→dx≠x→sp (.ref x :: (vs ++ dvs)) (upd (upd H dx (.own x)) x (.ins C dx [])) (fun v H2 => v = .non∧Q (.ref x) H2) E) :
    wpAny (model X.prog X.w) X.A (call (.ref C) us) (EP X pins σ Q) X.xe s:=by
  have hq:=h (s.heap.objs.size + 1) s.heap.objs.size (I.hok.fresh (Nat.le_succ _)) (I.hok.fresh (Nat.le_refl _)) (Nat.ne_of_lt (Nat.lt_succ_self _))
  have I2:=Inv.made (C:=C) I
  have r2:Vals (V.ref (s.heap.objs.size + 1) :: (vs ++ dvs)) (Value.ref (s.heap.objs.size + 1) :: (us ++ ds)):=.cons rfl (r.append hd)
  have hl:(Value.ref (s.heap.objs.size + 1) :: us ++ ds).length=ps.length:=by
    have e:=r2.length
    rw [F.len _ _ _ _ hq] at e
    exact e.symm
  refine wpAny_call (make_map (f:=f) I.kIn M.makes M.init (beq_iff_eq.mp M.fn) (codeAny_mono (F.run _ X.stack _ _ ⟨Value.ref (s.heap.objs.size + 1) :: us,[]⟩ (Value.ref (s.heap.objs.size + 1) :: (us ++ ds)) _ _ E (hr.make C us [])
    (I2.env0.make C us []) (hb _ (Value.ref (s.heap.objs.size + 1) :: us) I2.kIn hl) r2 hq) fun r s' hq' => ?_))
  cases r with
  | error e => exact hx pins σ _ _ e s' I2 hq'
  | ok fl =>
    cases fl with
    | ret u =>
      obtain ⟨v,H',I3,rv,ev,q3⟩:=I2.after hq'
      subst ev
      exact ⟨rv,⟨V.ref (s.heap.objs.size + 1),H',I3,rfl,q3⟩⟩
    | next => exact False.elim hq'
    | brk => exact False.elim hq'
    | cont => exact False.elim hq'
theorem pe_make (M:Mk X.K C f) (F:FnOk X.prog X.w X.K X.mg X.base CX k f fd ps sp) (hr:Room (k + 1) X.A) (hg:Gl X x) (hm:X.mg x=some (.ref C)) (hb:Binds X.K fd ps ds) (hd:Vals dvs ds) (hx:Passes CX X E)
    (ha:PA X (e :: es) t) (hdb:(x == ("__debug__" : Str))=false:=by decide) (he:starEach (e :: es) X.env=(false,eval e X.env) :: starEach es X.env:=by rfl) (hpl:(backTo pos (starEach es X.env)).any (·.1)=false:=by rfl) :
    PE X (.Call (.Name x p) (e :: es) [] pos) (tMake C sp dvs E t):=by
  intro pins s σ H Q I h
  refine wpAny_Call_Name_kw (ld_glob I hg hm ?_ hdb)
  refine PySem.W.callWith_K (h₀:=X.base) I.ok.mod.kin M.kp (thn (ha pos pins s σ H _ I h) fun us s1 ⟨vs,H1,I1,r,q⟩ => ⟨I1.kIn,?_⟩) he hpl
  exact run_make M F hr hb hd hx I1 r q
end
section
variable {X:Cx} {CX:CXT} {k:Nat} {f C:Addr} {fd:FuncData} {ps ks:List Str} {sp:Sp} {E:XK} {x m:Str} {p pos apos kpos:Pos} {e o:Expr} {es:List Expr} {kws:List Keyword} {te ta:TE} {t tk:TA} {nm:Option Str}
variable {g:List Value→List Value→List Value} {gV:List V→List V→List V}
end
structure FnScope (N P:List Str) (sc:Scope):Prop where
  kind:sc.kind = .function
  co:sc.isCoroutine=false
  gen:sc.isGenerator=false
  nd:N.Nodup
  pre:N.take P.length=P
  par:∀ x∈P,sc.names.lookup x=some .local∨sc.names.lookup x=some .cell
  nofree:∀ y∈sc.names,y.2≠.free
theorem bindL_out {kindOf:Str→Option NameKind} {x:Str}:∀ {binds:List (Str×Value)} {m:Str→Option Value},(∀ v,(x,v) ∉ binds)→bindL kindOf binds m x=m x
  | [],_,_ => rfl
  | (n,v) :: r,m,h => by
    unfold bindL
    rw [bindL_out fun w hw => h w (List.mem_cons_of_mem _ hw)]
    split
    · have:x≠n:=by rintro rfl; exact h v List.mem_cons_self
      simp [this]
    · rfl
theorem bindC_out {kindOf:Str→Option NameKind} {x:Str}:∀ {binds:List (Str×Value)} {m:Str→Option Value},(∀ v,(x,v) ∉ binds)→bindC kindOf binds m x=m x
  | [],_,_ => rfl
  | (n,v) :: r,m,h => by
    unfold bindC
    rw [bindC_out fun w hw => h w (List.mem_cons_of_mem _ hw)]
    split
    · rfl
    · have:x≠n:=by rintro rfl; exact h v List.mem_cons_self
      simp [this]
theorem bindL_get {kindOf:Str→Option NameKind} {x:Str} {v:Value}:∀ {P:List Str} {vs:List Value} {i:Nat} {m:Str→Option Value},P.Nodup→P[i]? = some x→vs[i]? = some v→kindOf x=some .local →
    bindL kindOf (P.zip vs) m x=some v
  | [],_,_,_,_,h,_,_ => by simp at h
  | _ :: _,[],_,_,_,_,h,_ => by simp at h
  | p :: P,w :: vs,0,m,nd,h1,h2,hk => by
    simp at h1 h2; subst h1; subst h2
    show bindL kindOf ((p,w) :: P.zip vs) m p=_
    unfold bindL
    rw [bindL_out fun v hv => (List.nodup_cons.mp nd).1 (List.of_mem_zip hv).1,if_pos hk]
    simp
  | p :: P,w :: vs,i + 1,m,nd,h1,h2,hk => by
    show bindL kindOf ((p,w) :: P.zip vs) m x=_
    unfold bindL
    exact bindL_get (i:=i) (List.nodup_cons.mp nd).2 (by simpa using h1) (by simpa using h2) hk
theorem bindC_get {kindOf:Str→Option NameKind} {x:Str} {v:Value}:∀ {P:List Str} {vs:List Value} {i:Nat} {m:Str→Option Value},P.Nodup→P[i]? = some x→vs[i]? = some v→kindOf x≠some .local →
    bindC kindOf (P.zip vs) m x=some v
  | [],_,_,_,_,h,_,_ => by simp at h
  | _ :: _,[],_,_,_,_,h,_ => by simp at h
  | p :: P,w :: vs,0,m,nd,h1,h2,hk => by
    simp at h1 h2; subst h1; subst h2
    show bindC kindOf ((p,w) :: P.zip vs) m p=_
    unfold bindC
    rw [bindC_out fun v hv => (List.nodup_cons.mp nd).1 (List.of_mem_zip hv).1,if_neg hk]
    simp
  | p :: P,w :: vs,i + 1,m,nd,h1,h2,hk => by
    show bindC kindOf ((p,w) :: P.zip vs) m x=_
    unfold bindC
    exact bindC_get (i:=i) (List.nodup_cons.mp nd).2 (by simpa using h1) (by simpa using h2) hk
def start (N:List Str) (vs:List V):St:=vs.map some ++ List.replicate (N.length - vs.length) none
def cxOf (CX:CXT) (P:Program) (w:World) (K:PySem.W.Frag) (mg:Str→Option Value) (base:Heap) (N:List Str) (qual:Str) (scope:Scope) (f:Addr) (cd:Value) (A:Around) (outer:List Env) (s:Shared) (H:Hp) (E:XK):Cx where
  prog:=P
  w:=w
  K:=K
  mg:=mg
  base:=base
  A:=A.deeper (envOfC qual scope s.heap.objs.size f cd)
  N:=N
  s₀:=s
  H₀:=H
  env:=envOfC qual scope s.heap.objs.size f cd
  outer:=outer
  stack:=envOfC qual scope s.heap.objs.size f cd :: outer
  ex:=[]
  calm:=true
  fn:=fun _ => true
  pn:=[]
  xe:=fun e s' => wpAny (model P w) (A.deeper (envOfC qual scope s.heap.objs.size f cd)) (leaving (envOfC qual scope s.heap.objs.size f cd) e) (fun _ s'' => CX outer H s E e s'') (fun e' s'' => CX outer H s E e' s'') s'
theorem cell_has {sc:Scope} {n:Nat} {x:Str} (h:sc.names.lookup x=some .cell):∃ c,(cellsFrom n sc.names []).lookup x=some c:=by
  have q:=PySem.W.cellsFrom_some sc.names n [] (.inl h)
  exact Option.isSome_iff_exists.mp q
theorem inv_start {CX:CXT} {P:Program} {w:World} {K:PySem.W.Frag} {mg:Str→Option Value} {base:Heap} {N ps:List Str} {qual:Str} {scope:Scope} {f:Addr} {cd:Value} {A:Around} {outer:List Env} {s s1:Shared} {H:Hp} {E:XK} {us:List Value} {vs:List V}
    (S:FnScope N ps scope) (hd:A.handled=none) (e0:Env0 P w K mg base A outer s H) (hl:vs.length=ps.length) (r:Vals vs us)
    (x:InCallC s s.heap.objs.size (bindL (envOfC qual scope s.heap.objs.size f cd).kindOf (ps.zip us) fun _ => none) (cellsFrom (s.heap.objs.size + 1) scope.names []) (bindC (envOfC qual scope s.heap.objs.size f cd).kindOf (ps.zip us) fun _ => none) s1) :
    Inv (cxOf CX P w K mg base N qual scope f cd A outer s H E) [] (start N vs) H s1:=by
  have hpl:ps.length≤N.length:=by have:=congrArg List.length S.pre; rw [List.length_take] at this; omega
  obtain ⟨h1,tk,rfl,hk⟩:=x.done
  have noA:∀ b:Addr,b ∉ (cxOf CX P w K mg base N qual scope f cd A outer s H E).ex:=fun b z => absurd (show b∈([]:List Addr) from z) (by simp)
  refine ⟨⟨e0.mod,S.kind,rfl,rfl,Nat.le_refl _,fun y z c h1 h2 => ?_,fun y hy => ?_,fun y c _ h => ?_,fun _ => hd,Around.frames_deeper e0.frames,.inr ⟨rfl,rfl⟩,fun b z => absurd z (noA b),e0.bs,e0.bsz,fun b _ _ => noA b,fun b z => absurd z (noA b),e0.funs,e0.frf⟩,
    rfl,e0.bare,Un.kept hk,⟨_,x.toInCall.ns,fun i y v h1 h2 h3 => ?_⟩,fun y c h => ⟨_,x.cell y c h⟩,e0.hok.fresh (Nat.le_refl _),fun y c h => ?_,fun p hp => absurd (show p∈([]:List (Addr×Obj)) from hp) (by simp),e0.hok.kept hk,?_⟩
  · exact name_of_addr x.apart (PySem.mem_of_lookup h1) (PySem.mem_of_lookup h2)
  · have hy:scope.names.lookup y=some .cell∨scope.names.lookup y=some .free:=hy
    rcases hy with hy | hy
    · exact cell_has hy
    · exact absurd rfl (S.nofree _ (PySem.mem_of_lookup hy))
  · exact Nat.le_of_lt (x.above y c (PySem.mem_of_lookup h))
  · have hi:i < vs.length:=by
      unfold start at h2
      by_cases hi:i < vs.length
      · exact hi
      · rw [List.getElem?_append_right (by simpa using hi)] at h2
        rw [List.getElem?_replicate] at h2
        split at h2 <;> cases h2
    have ha:vs[i]? = some v:=by
      unfold start at h2
      rw [List.getElem?_append_left (by simpa using hi),List.getElem?_map] at h2
      cases e:vs[i]? with
      | none => rw [e] at h2; cases h2
      | some a => rw [e] at h2; cases h2; rfl
    obtain ⟨u,hu,rv⟩:=r.get ha
    have hp:ps[i]? = some y:=by
      rw [← S.pre,List.getElem?_take_of_lt (by omega)]; exact h1
    have ndP:ps.Nodup:=by rw [← S.pre]; exact S.nd.sublist (List.take_sublist _ _)
    refine ⟨u,rv,?_⟩
    rcases S.par y (List.mem_of_getElem? hp) with k | k
    · exact .inl ⟨k,bindL_get ndP hp hu k⟩
    · obtain ⟨c,e⟩:=cell_has (n:=s.heap.objs.size + 1) k
      refine .inr ⟨.inl k,c,e,?_⟩
      have q:=x.cell y c e
      rw [bindC_get ndP hp hu (by show scope.names.lookup y≠_; rw [k]; decide)] at q
      exact q
  · exact e0.hok.fresh (Nat.le_of_lt (x.above y c (PySem.mem_of_lookup h)))
  · unfold start
    show _=N.length
    rw [List.length_append,List.length_map,List.length_replicate]
    omega
theorem fn_of {CX:CXT} {P:Program} {w:World} {K:PySem.W.Frag} {mg:Str→Option Value} {base:Heap} {k:Nat} {f:Addr} {name qual:Str} {params:Arguments} {body:List Stmt} {scope:Scope} {dV kV doc pm cdv ct oc:Value} {an od:Option Addr}
    {osl:Array (Option Value)} {N ps:List Str} {sp:Sp} (lk:K.lookup f=some ⟨oc,od,.func (PySem.W.fnOf name qual params body scope dV kV doc pm an cdv ct),osl⟩) (hcd:PySem.W.codeIn K cdv qual=true) (S:FnScope N ps scope)
    (len:∀ vs H Q E,sp vs H Q E→vs.length=ps.length)
    (hbody:∀ (A:Around) (outer:List Env) (s:Shared) (H:Hp) (vs:List V) (Q:VK) (E:XK),Room k (A.deeper (envOfC qual scope s.heap.objs.size f cdv))→sp vs H Q E →
      ∃ t,PSs (cxOf CX P w K mg base N qual scope f cdv A outer s H E) body t∧t { nx:=fun _ H' => Q .non H',rt:=Q } (start N vs) H) :
    FnOk P w K mg base CX (k + 1) f (PySem.W.fnOf name qual params body scope dV kV doc pm an cdv ct) ps sp:=by
  refine ⟨len,fun A outer s H args us vs Q E hr e0 hb r hsp => ?_⟩
  have hl:=len _ _ _ _ hsp
  have KX:K.In s.heap:=e0.mod.kin.keeps fun b o e => (e0.bs b o e).1
  have lim:s.heap.NoLimit:=e0.mod.nolimit.keeps fun b o e => (e0.bs b o e).1
  have hkind:∀ y∈ps.zip us,scope.names.lookup y.1=some .local∨(scope.names.lookup y.1=some .cell∧((cellsFrom (s.heap.objs.size + 1) scope.names []).lookup y.1).isSome=true):=fun ⟨n,v⟩ hy => by
    rcases S.par n (List.of_mem_zip hy).1 with q | q
    · exact .inl q
    · exact .inr ⟨q,PySem.W.cellsFrom_some _ _ _ (.inl q)⟩
  refine codeAny_call_function hr.depth (KX _ _ lk) rfl S.co S.gen rfl (PySem.W.codeRec_of KX hcd) (hb _ _ _ _ ?_)
  refine wpAny_newFunctionEnv_cells S.kind hkind fun env he s1 x => ?_
  subst he
  refine ⟨lim.keeps x.toInCall.keep,codeAny_func ?_⟩
  obtain ⟨t,ht,hq⟩:=hbody A outer s H vs Q E (hr.deeper _) hsp
  have I:Inv (cxOf CX P w K mg base N qual scope f cdv A outer s H E) [] (start N vs) H s1:=inv_start S hr.hd e0 hl r x
  refine wpAny_mono (ht [] s1 (start N vs) H _ I hq) (fun fl s' hs => ?_) fun e s' hs => hs
  have fin:∀ {σ':St} {H':Hp} {v:V} {u:Value},Inv (cxOf CX P w K mg base N qual scope f cdv A outer s H E) [] σ' H' s'→RelV v u→Q v H'→CE outer P w H s Q u s' :=
    fun {σ' H' v u} J rv q => ⟨v,H',J.os,J.bare,J.base,J.hok,rv,q⟩
  cases fl with
  | ret u =>
    obtain ⟨v,σ',H',J,rv,q⟩:=hs
    exact fin J rv q
  | next =>
    obtain ⟨σ',H',J,q⟩:=hs
    exact fin (v:=V.non) (u:=Value.none) J rfl q
  | brk =>
    obtain ⟨_,_,_,q⟩:=hs
    exact False.elim q
  | cont =>
    obtain ⟨_,_,_,q⟩:=hs
    exact False.elim q
end L2
namespace L2
open PySem PySem.Spec PyProof.Rows
section
variable {X:Cx} {x:Str} {p pos:Pos} {e:Expr} {es:List Expr} {t:TA} {id T:String} {r:List V→Hp→VK→Prop}
def tCB (r:List V→Hp→VK→Prop) (t:TA):TE:=fun σ H Q => t σ H fun vs H1 => r vs H1 Q
theorem pe_callB (hc:CallR X (.builtin id) r) (hg:Gl X x) (hm:X.mg x=none) (hv:bootBuiltins x=some (.builtin id)) (ha:PA X (e :: es) t) (hn:x≠"__name__" := by decide) (hdb:(x == ("__debug__" : Str))=false:=by decide)
    (he:starEach (e :: es) X.env=(false,eval e X.env) :: starEach es X.env:=by rfl) (hpl:(backTo pos (starEach es X.env)).any (·.1)=false:=by rfl):PE X (.Call (.Name x p) (e :: es) [] pos) (tCB r t):=by
  intro pins s σ H Q I h
  refine wpAny_Call_Name_kw (ld_blt I hg hm hv ?_ hn hdb)
  exact PyProof.Rows.callWith_builtin1 (thn (ha pos pins s σ H _ I h) fun us s1 ⟨vs,H1,I1,r1,q1⟩ => hc pins s1 σ H1 vs us Q I1 r1 q1) he hpl
theorem pe_callTy (hc:CallR X (.type T) r) (hg:Gl X x) (hm:X.mg x=none) (hv:bootBuiltins x=some (.type T)) (ha:PA X (e :: es) t) (hn:x≠"__name__" := by decide) (hdb:(x == ("__debug__" : Str))=false:=by decide)
    (he:starEach (e :: es) X.env=(false,eval e X.env) :: starEach es X.env:=by rfl) (hpl:(backTo pos (starEach es X.env)).any (·.1)=false:=by rfl):PE X (.Call (.Name x p) (e :: es) [] pos) (tCB r t):=by
  intro pins s σ H Q I h
  refine wpAny_Call_Name_kw (ld_blt I hg hm hv ?_ hn hdb)
  exact PyProof.Rows.callWith_type1 (thn (ha pos pins s σ H _ I h) fun us s1 ⟨vs,H1,I1,r1,q1⟩ => hc pins s1 σ H1 vs us Q I1 r1 q1) he hpl
end
end L2
namespace HT
open PySem PyProof.Rows
section
open PySem.SeqAt
open PySem.AutoSeq1 (wpAny_loadPart')
open PySem.MeetsSeq PySem.MeetsSeq2 PySem.MeetsSeq3
end
section
variable {prog:Program} {w:World} {A:Around} {E:Value→Shared→Prop} {s:Shared}
theorem cat_tup {t b:Addr} {vs ws:List Value} {Q:Value→Shared→Prop} (ht:IsTup s.heap t vs.toArray) (hb:IsTup s.heap b ws.toArray) (hv:vs≠[])
    (h1:ws=[]→Q (.ref t) s) (h2:ws≠[]→Q (.ref s.heap.objs.size) { s with heap:=s.heap.push { cls:=.type "tuple",data:=.seq (vs ++ ws).toArray } })
    (hsz:vs.length + ws.length≤sizeLine):wpAny (model prog w) A (binaryOp .Add (.ref t) (.ref b)) Q E s:=by
  obtain ⟨⟨cls,dd,data,sl⟩,ho,hc,n,hd⟩:=id ht
  obtain ⟨⟨cls2,dd2,data2,sl2⟩,ho2,hc2,n2,hd2⟩:=id hb
  simp only at hc hd hc2 hd2
  subst hc hd hc2 hd2
  have e:vs.toArray ++ ws.toArray=(vs ++ ws).toArray:=by simp
  by_cases hw:ws=[]
  · exact concat_meets ⟨_,ho,rfl⟩ ⟨_,ho2,rfl⟩ noFill_tuple_add seq_tuple_add PySem.F.slot_tuple_add PySem.F.entry_tuple_add (PySem.F.args_tuple_add_2 _ _)
      (tuple_addW1 t b vs.toArray ws.toArray n n2 dd dd2 sl sl2 (by simpa using hv) (by simp [hw])) ⟨ho,ho2,h1 hw⟩
  · refine concat_meets ⟨_,ho,rfl⟩ ⟨_,ho2,rfl⟩ noFill_tuple_add seq_tuple_add PySem.F.slot_tuple_add PySem.F.entry_tuple_add (PySem.F.args_tuple_add_2 _ _)
      (tuple_addW2 t b vs.toArray ws.toArray n n2 dd dd2 sl sl2 (by simpa using hv) (by simpa using hw) (by rw [List.size_toArray,List.size_toArray]; exact hsz)) ⟨ho,ho2,?_⟩
    rw [e]
    exact h2 hw
end
end HT
namespace L2
open PySem PySem.Spec PyProof.Rows
abbrev TO:=St→Hp→(Option Int→Hp→Prop)→Prop
section
variable {X:Cx} {e:Expr} {te:TE} {lo hi:Option Expr} {tl th:TO} {pos p2:Pos}
def rCatT (K:PySem.W.Frag):R2:=fun x y H Q => ∃ a b xs ys,x = .ref a∧y = .ref b∧SqT K H a xs∧SqT K H b ys∧xs≠[]∧xs.length + ys.length≤sizeLine ∧
  (ys=[]→Q (.ref a) H)∧(ys≠[]→∀ p,H p=none→Q (.ref p) (upd H p (.tup (xs ++ ys))))
theorem Vals.nil_iff {xs:List V} {us:List Value} (r:Vals xs us):us=[] ↔ xs=[]:=by
  cases r with
  | nil => simp
  | cons _ _ => simp
theorem op_catT:OpR X (binaryOp .Add) (rCatT X.K):=by
  intro pins s σ H x y v u Q I rx ry h
  obtain ⟨a,b,xs,ys,rfl,rfl,ha,hb,hx,hz,q1,q2⟩:=h
  cases rx
  cases ry
  obtain ⟨its,r1,p1,_⟩:=I.tuple ha
  obtain ⟨its2,r2,p2,_⟩:=I.tuple hb
  refine HT.cat_tup p1 p2 (fun z => hx (r1.nil_iff.mp z)) (fun z => ⟨.ref a,H,I,rfl,q1 (r2.nil_iff.mp z)⟩) (fun z => ?_) (by rw [← r1.length,← r2.length]; exact hz)
  refine ⟨.ref s.heap.objs.size,_,I.laid (t':=s.toks) (o:=.tup (xs ++ ys)) (fun b ob q => Heap.get?_push_of_some _ q) (Nat.le_refl _) ?_,rfl,q2 (fun w => z (r2.nil_iff.mpr w)) _ (I.hok.fresh (Nat.le_refl _))⟩
  exact ⟨by rw [List.length_append]; exact hz,_,r1.append r2,IsTup.new _ _⟩
end
end L2
namespace L2
open PySem PySem.Spec PyProof.Rows
def ixN (n:Nat) (i:Int):Option Nat:=if 0≤i then (if i < n then some i.toNat else none) else if -(n:Int)≤i then some (i + n).toNat else none
def atI {α : Type} (xs:List α) (i:Int):Option α:=(ixN xs.length i).bind fun j => xs[j]?
theorem ixN_seq {n:Nat} {i:Int} {j:Nat} (h:ixN n i=some j):seqIndex? i n=some j∧j < n∧-(n:Int)≤i∧i < n:=by
  unfold ixN at h
  by_cases h0 : 0≤i
  · rw [if_pos h0] at h
    by_cases h1:i < n
    · rw [if_pos h1] at h
      have e:i.toNat=j:=Option.some.inj h
      exact ⟨by rw [seqIndex_of h0 h1,e],by omega,by omega,h1⟩
    · rw [if_neg h1] at h; cases h
  · rw [if_neg h0] at h
    by_cases h1 : -(n:Int)≤i
    · rw [if_pos h1] at h
      have e:(i + n).toNat=j:=Option.some.inj h
      exact ⟨by rw [seqIndex_neg (by omega) h1,e],by omega,h1,by omega⟩
    · rw [if_neg h1] at h; cases h
theorem atI_get {α : Type} {xs:List α} {i:Int} {v : α} (h:atI xs i=some v):∃ j,seqIndex? i xs.length=some j∧xs[j]? = some v∧j < xs.length∧-(xs.length:Int)≤i∧i < xs.length:=by
  unfold atI at h
  cases e:ixN xs.length i with
  | none => rw [e] at h; cases h
  | some j =>
    rw [e] at h
    obtain ⟨h1,h2,h3,h4⟩:=ixN_seq e
    exact ⟨j,h1,h,h2,h3,h4⟩
theorem atI_nat {α : Type} {xs:List α} {j:Nat} {v : α} (h:xs[j]? = some v):atI xs (j:Int)=some v:=by
  have hj:j < xs.length:=(List.getElem?_eq_some_iff.mp h).1
  have e:ixN xs.length (j:Int)=some j:=by
    unfold ixN
    rw [if_pos (by omega),if_pos (by omega)]; simp
  unfold atI; rw [e]; exact h
def PlainIx (b:Expr):Prop := ∀ o i,subscripted b false o i=operate [o,i] (getItem o i)
def IxR (X:Cx) (r:R2):Prop :=
  ∀ (value slice:Expr) (pins:List (Addr×Obj)) (s:Shared) (σ : St) (H:Hp) (x y:V) (v u:Value) (Q:VK),Inv X pins σ H s→RelV x v→RelV y u→r x y H Q →
    subscripted slice false v u=operate [v,u] (getItem v u)→wpAny (model X.prog X.w) X.A (subscriptTail value slice v u) (EP X pins σ Q) X.xe s
def MtR (X:Cx) (id:String) (r:V→List V→Hp→VK→Prop):Prop :=
  ∀ (pins:List (Addr×Obj)) (s:Shared) (σ : St) (H:Hp) (x:V) (xs:List V) (v:Value) (us:List Value) (Q:VK),Inv X pins σ H s→RelV x v→Vals xs us→r x xs H Q →
    wpAny (model X.prog X.w) X.A (call (.builtin id) (v :: us)) (EP X pins σ Q) X.xe s
section
variable {X:Cx} {a b:Expr} {ta tb:TE} {pos:Pos}
theorem pe_ix {r:R2} (hr:IxR X r) (ha:PE X a ta) (hb:PE X b tb) (hs:PlainIx b):PE X (.Subscript a b pos) (tOp r ta tb):=by
  intro pins s σ H Q I h
  exact Subscript_ (binT ha hb I h fun v u s2 x y H2 I2 rx ry q => hr a b pins s2 σ H2 x y v u Q I2 rx ry q (hs _ _))
def rIxL (K:PySem.W.Frag):R2:=fun x y H Q => ∃ p xs i v,x = .ref p∧y = .int i∧SqL K H p xs∧atI xs i=some v∧Q v H
def rIxT (K:PySem.W.Frag):R2:=fun x y H Q => ∃ p xs i v,x = .ref p∧y = .int i∧SqT K H p xs∧atI xs i=some v∧Q v H
theorem ix_list:IxR X (rIxL X.K):=by
  intro value slice pins s σ H x y v u Q I rx ry h hs
  obtain ⟨p,xs,i,z,rfl,rfl,hq,he,q⟩:=h
  cases rx
  obtain ⟨t,rfl⟩:=ry
  obtain ⟨its,r,pl,hz⟩:=I.list hq
  obtain ⟨j,h1,h2,h3,h4,h5⟩:=atI_get he
  obtain ⟨w,ew,rw'⟩:=r.get h2
  have hl:=r.length
  have hn:=line63
  have fin:EP X pins σ Q w s:=⟨z,H,I,rw',q⟩
  by_cases h0 : 0≤i
  · have hj:i.toNat=j:=by
      rw [seqIndex_of h0 h5] at h1
      exact Option.some.inj h1
    exact item_listR pl.isList h0 (by omega) (by rw [hj]; simpa using ew) fin hs
  · have hj:(i + (its.toArray.size:Int)).toNat=j:=by
      rw [seqIndex_neg (by omega) h4] at h1
      rw [List.size_toArray,← hl]
      exact Option.some.inj h1
    exact subscriptTail_builtinR (x:=w) pl.isList.typeIs slot_list_getitem.lookup
      (wpAny_getItem_list_neg (Q:=fun r s' => r=w∧EP X pins σ Q r s') pl.isList (by omega) (by rw [List.size_toArray] <;> omega) (by omega) (by rw [hj]; simpa using ew) ⟨rfl,fin⟩) hs
theorem ix_tup:IxR X (rIxT X.K):=by
  intro value slice pins s σ H x y v u Q I rx ry h hs
  obtain ⟨p,xs,i,z,rfl,rfl,hq,he,q⟩:=h
  cases rx
  obtain ⟨t,rfl⟩:=ry
  obtain ⟨its,r,pl,hz⟩:=I.tuple hq
  obtain ⟨j,h1,h2,h3,h4,h5⟩:=atI_get he
  obtain ⟨w,ew,rw'⟩:=r.get h2
  have hl:=r.length
  have hn:=line63
  have fin:EP X pins σ Q w s:=⟨z,H,I,rw',q⟩
  exact subscriptTail_builtinR (x:=w) pl.typeIs slot_tuple_getitem.lookup
    (getItem_tuple (j:=j) (Q:=fun r s' => r=w∧EP X pins σ Q r s') pl (by omega) (by omega) (by rw [List.size_toArray,← hl]; exact h1) (by simpa using ew) ⟨rfl,fin⟩) hs
theorem mapSeq_set (its:List Value) (n j:Nat) (u:Value):Obj.mapSeq (·.setIfInBounds j u) { cls:=.type "list",data:=.seq its.toArray n } = { cls:=.type "list",data:=.seq (its.set j u).toArray n }:=by
  simp [Obj.mapSeq]
theorem Inv.lst {pins:List (Addr×Obj)} {σ : St} {H:Hp} {s:Shared} {p:Addr} {xs:List V} (I:Inv X pins σ H s) (h:H p=some (.lst xs)) :
    ∃ (its:List Value) (n:Nat),Vals xs its∧s.heap.get? p=some { cls:=.type "list",data:=.seq its.toArray n }∧xs.length≤sizeLine:=by
  obtain ⟨z,its,n,r,e⟩:=I.hok p _ h
  exact ⟨its,n,r,e,z⟩
theorem Inv.lstUpd {pins:List (Addr×Obj)} {σ : St} {H:Hp} {s:Shared} {p:Addr} {xs ys:List V} {its its':List Value} {n n':Nat} {f:Obj→Obj} (I:Inv X pins σ H s) (h:H p=some (.lst xs))
    (ho:s.heap.get? p=some { cls:=.type "list",data:=.seq its.toArray n }) (hf:f { cls:=.type "list",data:=.seq its.toArray n } = { cls:=.type "list",data:=.seq its'.toArray n' }) (r:Vals ys its') (hz:ys.length≤sizeLine) (t:Nat) :
    Inv X pins σ (upd H p (.lst ys)) { s with heap:=s.heap.update p f,toks:=t }:=by
  have e:(s.heap.update p f).get? p=some { cls:=.type "list",data:=.seq its'.toArray n' }:=by
    rw [Heap.get?_update_self f ho (by rw [hf] <;> rfl),hf]
  refine I.write (x:=p) (e:=p) (by rw [h]; trivial) (.inl rfl) (fun b u hb q => (Heap.get?_update_other _ _ (Ne.symm hb)).trans q) ⟨_,e⟩ ?_
  exact ⟨hz,its',n',r,e⟩
def rSetL:V→V→V→Hp→(Hp→Prop)→Prop:=fun o i v H Q => ∃ p xs k j,o = .ref p∧i = .int k∧H p=some (.lst xs)∧ixN xs.length k=some j∧Q (upd H p (.lst (xs.set j v)))
theorem set_list:PSet X rSetL:=by
  intro pins s σ H o i v ov iv u Q I ro ri rv h
  obtain ⟨p,xs,k,j,rfl,rfl,hp,hj,q⟩:=h
  cases ro
  obtain ⟨t,rfl⟩:=ri
  obtain ⟨its,n,r,ho,hz⟩:=I.lst hp
  obtain ⟨h1,h2,h3,h4⟩:=ixN_seq hj
  have hl:=r.length
  have hn:=line63
  have I':Inv X pins σ (upd H p (.lst (xs.set j v))) { s with heap:=s.heap.update p (Obj.mapSeq (·.setIfInBounds j u)) } :=
    I.lstUpd hp ho (mapSeq_set its n j u) (r.set rv j) (by rw [List.length_set]; exact hz) s.toks
  by_cases h0 : 0≤k
  · have hk:k.toNat=j:=by
      rw [seqIndex_of h0 h4] at h1
      exact Option.some.inj h1
    exact PySem.W.ki_setAt ho h0 (by omega) (by rw [List.size_toArray,← hl]; exact h4) (by rw [hk]; exact ⟨_,I',q⟩)
  · have hk:(k + (its.toArray.size:Int)).toNat=j:=by
      rw [seqIndex_neg (by omega) h3] at h1
      rw [List.size_toArray,← hl]
      exact Option.some.inj h1
    exact PySem.W.ki_setBack ho (by omega) (by rw [List.size_toArray,← hl]; exact h3) (by omega) (by rw [hk]; exact ⟨_,I',q⟩)
theorem call_len_seq:CallR X (.builtin "len") (fun xs H Q => ∃ p ys,xs=[.ref p]∧(SqL X.K H p ys∨SqT X.K H p ys)∧Q (.int ys.length) H):=by
  intro pins s σ H xs us Q I r h
  obtain ⟨p,ys,rfl,hq,q⟩:=h
  obtain ⟨u,rfl,rx⟩:=vals1 r
  cases rx
  have hn:=line63
  rcases hq with hq | hq
  · obtain ⟨its,r',pl,hz⟩:=I.list hq
    have hlen:=r'.length
    exact Calls.call_len_list pl.isList (by simp only [List.size_toArray] <;> omega) ⟨.int ys.length,H,I.tok _,⟨s.toks + 1,by rw [List.size_toArray,hlen]⟩,q⟩
  · obtain ⟨its,r',pl,hz⟩:=I.tuple hq
    have hlen:=r'.length
    exact len_tuple pl (by simp only [List.size_toArray] <;> omega) ⟨.int ys.length,H,I.tok _,⟨s.toks + 1,by rw [List.size_toArray,hlen]⟩,q⟩
theorem call_list_of:CallR X (.type "list") (fun xs H Q => ∃ p ys,xs=[.ref p]∧(SqL X.K H p ys∨SqT X.K H p ys)∧∀ l,H l=none→Q (.ref l) (upd H l (.lst ys))):=by
  intro pins s σ H xs us Q I r h
  obtain ⟨p,ys,rfl,hq,q⟩:=h
  obtain ⟨u,rfl,rx⟩:=vals1 r
  cases rx
  have fin:∀ (its:List Value),Vals ys its→ys.length≤sizeLine→∀ (h':Heap) (c':Nat),(∀ b o',s.heap.get? b=some o'→h'.get? b=some o') →
      h'.get? s.heap.objs.size=some { cls:=.type "list",dict:=none,data:=.seq its.toArray c',slots := #[] }→EP X pins σ Q (.ref s.heap.objs.size) { s with heap:=h' }:=fun its r' hz h' c' kp e =>
    ⟨.ref s.heap.objs.size,_,I.laid (t':=s.toks) kp (Nat.le_refl _) (show ObjOk X.prog X.w _ h' _ (.lst ys) from ⟨hz,its,c',r',e⟩),rfl,q _ (I.hok.fresh (Nat.le_refl _))⟩
  rcases hq with hq | hq
  · obtain ⟨its,r',pl,hz⟩:=I.list hq
    have hlen:=r'.length
    obtain ⟨o,ho,hc,n,hd⟩:=pl.isList
    exact call_list_seq p (.inl rfl) ho hc hd (fun h' c' kp e => fin its r' hz h' c' kp e) (by simp only [List.size_toArray] <;> omega)
  · obtain ⟨its,r',pl,hz⟩:=I.tuple hq
    have hlen:=r'.length
    obtain ⟨o,ho,hc,n,hd⟩:=pl
    exact call_list_seq p (.inr rfl) ho hc hd (fun h' c' kp e => fin its r' hz h' c' kp e) (by simp only [List.size_toArray] <;> omega)
theorem call_tuple_of:CallR X (.type "tuple") (fun xs H Q => ∃ p ys,xs=[.ref p]∧((SqL X.K H p ys∧∀ l,H l=none→Q (.ref l) (upd H l (.tup ys)))∨(SqT X.K H p ys∧Q (.ref p) H))):=by
  intro pins s σ H xs us Q I r h
  obtain ⟨p,ys,rfl,h⟩:=h
  obtain ⟨u,rfl,rx⟩:=vals1 r
  cases rx
  rcases h with ⟨hq,q⟩ | ⟨hq,q⟩
  · obtain ⟨its,r',pl,hz⟩:=I.list hq
    have hlen:=r'.length
    refine call_tuple_list pl.isList (fun h' kp => ?_) (by simp only [List.size_toArray] <;> omega)
    have I1:Inv X pins σ H { s with heap:=h' }:=I.kept (t':=s.toks) kp
    have I2:Inv X pins σ (upd H h'.objs.size (.tup ys)) { s with heap:=h'.push { cls:=.type "tuple",data:=.seq its.toArray } } :=
      I1.laid (t':=s.toks) (fun b o e => Heap.get?_push_of_some _ e) (Nat.le_refl _) (show ObjOk X.prog X.w _ _ _ (.tup ys) from ⟨hz,its,r',IsTup.new _ _⟩)
    exact ⟨.ref h'.objs.size,_,I2,rfl,q _ (I1.hok.fresh (Nat.le_refl _))⟩
  · obtain ⟨its,r',pl,hz⟩:=I.tuple hq
    exact call_tuple_same pl ⟨.ref p,H,I,rfl,q⟩
def tyV (K:PySem.W.Frag) (T:String) (x:V) (H:Hp):Prop:=match x with
  | .str _ => T = "str"
  | .int _ => T = "int"
  | .ref p => (T = "list"∧∃ xs,SqL K H p xs)∨(T = "tuple"∧∃ o,K.lookup p=some o∧o.cls = .type "tuple"∧o.dict=none) ∨
      (T = "dict"∧((∃ kvs,H p=some (.dK kvs))∨∃ kvs,H p=some (.dT kvs)))∨(T = "set"∧∃ S n,H p=some (.set S n))
  | _ => False
theorem tyV_is {pins:List (Addr×Obj)} {σ : St} {H:Hp} {s:Shared} {T:String} {x:V} {v:Value} (I:Inv X pins σ H s) (r:RelV x v) (ty:tyV X.K T x H) :
    s.TypeIs v T∧∀ a,v = .ref a→∃ ob,s.heap.get? a=some ob∧ob.dict=none:=by
  cases x with
  | str z =>
    obtain ⟨t,rfl⟩:=r
    cases (show T = "str" from ty)
    exact ⟨typeIs_str s z t,fun _ e => nomatch e⟩
  | int i =>
    obtain ⟨t,rfl⟩:=r
    cases (show T = "int" from ty)
    exact ⟨typeIs_int s i t,fun _ e => nomatch e⟩
  | ref p =>
    cases r
    rcases ty with ⟨rfl,xs,hq⟩ | ⟨rfl,o,hk,hc,hd⟩ | ⟨rfl,hk⟩ | ⟨rfl,S,n,hk⟩
    · obtain ⟨its,_,pl,_⟩:=I.list hq
      refine ⟨pl.isList.typeIs,fun a e => ?_⟩
      cases e
      obtain ⟨o,n,e,c,hd,_⟩:=pl
      exact ⟨o,e,hd⟩
    · refine ⟨⟨o,I.kIn p o hk,hc⟩,fun a e => ?_⟩
      cases e
      exact ⟨o,I.kIn _ o hk,hd⟩
    · have z:∃ o,s.heap.get? p=some o∧o.ExactDict:=by
        rcases hk with ⟨kvs,hk⟩ | ⟨kvs,hk⟩
        · obtain ⟨_,_,_,_,o,_,_,e,ex,_⟩:=I.hok p _ hk
          exact ⟨o,e,ex⟩
        · obtain ⟨_,_,_,_,o,_,_,e,ex,_⟩:=I.hok p _ hk
          exact ⟨o,e,ex⟩
      obtain ⟨o,e,ex⟩:=z
      refine ⟨⟨o,e,ex.1⟩,fun a e2 => ?_⟩
      cases e2
      exact ⟨o,e,ex.2.1⟩
    · obtain ⟨o,_,_,_,e,ex,_⟩:=I.hok p _ hk
      refine ⟨⟨o,e,ex.1⟩,fun a e2 => ?_⟩
      cases e2
      exact ⟨o,e,ex.2.1⟩
  | _ => exact False.elim ty
def tBM (K:PySem.W.Frag) (T:String) (r:V→List V→Hp→VK→Prop) (to:TE) (t:TA):TE:=fun σ H Q => to σ H fun x H1 => tyV K T x H1∧t σ H1 fun xs H2 => r x xs H2 Q
variable {o e:Expr} {es:List Expr} {to:TE} {t:TA} {name:Str} {apos cpos:Pos} {T id:String} {r:V→List V→Hp→VK→Prop}
theorem pe_bm (pa:PlainAttrs T) (slot:Slot T name id) (hty:typeOf (.builtin id)=pure (.type "method_descriptor")) (hm:MtR X id r) (ho:PE X o to) (ha:PA X (e :: es) t)
    (hbase:attributeBase o name X.env (eval o X.env)=eval o X.env:=by rfl)
    (hfew:((backTo cpos (starEach (e :: es) X.env)).all (fun x => !x.1) && (backToKw cpos (keywordEach [] X.env)).all (fun x => x.1.isSome)
      && decide ((e :: es).length + ([]:List Keyword).length + (if ([]:List Keyword).isEmpty then 0 else 1) < 30))=true:=by rfl)
    (hline:(apos.endLine == cpos.line)=true:=by rfl) (hs:starEach (e :: es) X.env=(false,eval e X.env) :: starEach es X.env:=by rfl) (hplain:(backTo cpos (starEach es X.env)).any (·.1)=false:=by rfl) :
    PE X (.Call (.Attribute o name apos) (e :: es) [] cpos) (tBM X.K T r to t):=by
  intro pins s σ H Q I h
  refine wpAny_Call_method_late hbase hfew hline rfl (thn (ho pins s σ H _ I h) fun v s1 ⟨x,H1,I1,r1,ty,q1⟩ => ?_)
  obtain ⟨h1,h2⟩:=tyV_is I1 r1 ty
  refine ⟨T,id,pa,slot,hty,h1,h2,?_⟩
  have hA:=ha cpos pins s1 σ H1 _ I1 q1
  rw [hs] at hA ⊢
  refine Calls.callWith_builtin (by show (false || (backTo cpos (starEach es X.env)).any (·.1))=false; rw [hplain] <;> rfl) (Calls.evalArgs_plain ?_)
  exact thn hA fun us s2 ⟨vs,H2,I2,r2,q2⟩ => hm pins s2 σ H2 x vs v us Q I2 r1 r2 q2
end
end L2
namespace L2
open PySem PySem.Spec PyProof.Rows
def MtM (X:Cx) (id:String) (r:V→List V→Hp→VK→Prop):Prop :=
  ∀ (pins:List (Addr×Obj)) (s:Shared) (σ : St) (H:Hp) (x:V) (xs:List V) (v:Value) (us:List Value) (Q:VK),Inv X pins σ H s→RelV x v→Vals xs us→r x xs H Q →
    wpAny (model X.prog X.w) X.A (call (.builtin id) (v :: us)) (EP X pins σ Q) X.xe s
theorem Vals.one:∀ {x:V} {us:List Value},Vals [x] us→∃ u,us=[u]∧RelV x u
  | _,_,.cons r .nil => ⟨_,rfl,r⟩
theorem Vals.two:∀ {x y:V} {us:List Value},Vals [x,y] us→∃ u v,us=[u,v]∧RelV x u∧RelV y v
  | _,_,_,.cons r (.cons q .nil) => ⟨_,_,rfl,r,q⟩
theorem Vals.eraseIdx:∀ {xs:List V} {us:List Value} (i:Nat),Vals xs us→Vals (xs.eraseIdx i) (us.eraseIdx i)
  | _,_,_,.nil => .nil
  | _,_,0,.cons _ t => t
  | _,_,i + 1,.cons r t => .cons r (Vals.eraseIdx i t)
theorem len_erase {α : Type}:∀ (l:List α) (i:Nat),(l.eraseIdx i).length≤l.length
  | [],_ => Nat.le_refl _
  | _ :: _,0 => Nat.le_succ _
  | _ :: r,i + 1 => Nat.succ_le_succ (len_erase r i)
section
variable {X:Cx} {pins:List (Addr×Obj)} {σ : St} {H:Hp} {s:Shared} {l b:Addr} {xs ys zs:List V}
theorem Inv.lset {its its':List Value} {n:Nat} {f:Array Value→Array Value} {t':Nat} (I:Inv X pins σ H s) (hH:H l=some (.lst xs))
    (e:s.heap.get? l=some { cls:=.type "list",data:=.seq its.toArray n }) (hf:f its.toArray=its'.toArray) (hv:Vals ys its') (hz:ys.length≤sizeLine) :
    Inv X pins σ (upd H l (.lst ys)) { s with heap:=s.heap.update l (Obj.mapSeq f),toks:=t' }:=by
  have q:=PySem.IsL.update e f
  rw [hf] at q
  refine I.write (x:=l) (e:=l) (by rw [hH]; exact trivial) (.inl rfl) (fun b' u hb hu => (Heap.get?_update_other s.heap (Obj.mapSeq f) (Ne.symm hb)).trans hu) ⟨_,q⟩ ?_
  exact ⟨hz,its',_,hv,q⟩
theorem Inv.lnew {its:List Value} {t':Nat} (I:Inv X pins σ H s) (hv:Vals ys its) (hz:ys.length≤sizeLine) :
    Inv X pins σ (upd H s.heap.objs.size (.lst ys)) { s with heap:=s.heap.push { cls:=.type "list",data:=.seq its.toArray },toks:=t' } :=
  I.laid (fun _ _ q => Heap.get?_push_of_some _ q) (Nat.le_refl _) ⟨hz,its,0,hv,Heap.get?_push_size _ rfl⟩
theorem Inv.fresh (I:Inv X pins σ H s):H s.heap.objs.size=none:=I.hok.fresh (Nat.le_refl _)
theorem Inv.lstM (I:Inv X pins σ H s) (hH:H l=some (.lst xs)):xs.length≤sizeLine∧∃ (its:List Value) (n:Nat),Vals xs its∧xs.length=its.length∧s.heap.get? l=some { cls:=.type "list",data:=.seq its.toArray n }:=by
  obtain ⟨z,its,n,r,e⟩:=I.hok l _ hH
  exact ⟨z,its,n,r,r.length,e⟩
end
section
variable {X:Cx}
def rAppend:V→List V→Hp→VK→Prop:=fun x vs H Q => ∃ l xs y,x = .ref l∧vs=[y]∧H l=some (.lst xs)∧xs.length < sizeLine∧Q .non (upd H l (.lst (xs ++ [y])))
theorem mt_append:MtM X "list.append" rAppend:=by
  intro pins s σ H x vs v us Q I rx rv h
  obtain ⟨l,xs,y,rfl,rfl,hH,hz,q⟩:=h
  cases rx
  obtain ⟨u,rfl,ru⟩:=rv.one
  obtain ⟨z,its,n,r,hl,e⟩:=I.lstM hH
  refine call_meets F.slot_list_append ⟨_,e,rfl⟩ F.entry_list_append (F.args_list_append_2 _ _) (PySem.list_append l its.toArray n u (by rw [List.size_toArray]; omega)) ⟨e,?_⟩
  refine ⟨.non,_,I.lset (its':=its ++ [u]) hH e (by simp) (r.append (.cons ru .nil)) ?_,rfl,q⟩
  rw [List.length_append,List.length_singleton]
  omega
def rPopAt:V→List V→Hp→VK→Prop:=fun x vs H Q => ∃ l xs i k y,x = .ref l∧vs=[.int i]∧H l=some (.lst xs)∧-(2 ^ 63)≤i∧i < 2 ^ 63∧seqIndex? i xs.length=some k∧xs[k]? = some y∧Q y (upd H l (.lst (xs.eraseIdx k)))
theorem mt_popAt:MtM X "list.pop" rPopAt:=by
  intro pins s σ H x vs v us Q I rx rv h
  obtain ⟨l,xs,i,k,y,rfl,rfl,hH,h1,h2,hk,hy,q⟩:=h
  cases rx
  obtain ⟨u,rfl,ru⟩:=rv.one
  obtain ⟨t,rfl⟩:=ru
  obtain ⟨z,its,n,r,hl,e⟩:=I.lstM hH
  obtain ⟨w,hw,rw'⟩:=r.get hy
  refine call_meets F.slot_list_pop ⟨_,e,rfl⟩ F.entry_list_pop (F.args_list_pop_2 _ _)
    (MeetsSeq.list_pop_at l its.toArray n i t k w (fitsIndex_both h1 h2) (by rw [List.size_toArray,← hl]; exact hk) (by rw [← Array.getElem?_toList]; exact hw) (by rw [List.size_toArray]; omega)) ⟨e,?_⟩
  refine ⟨y,_,I.lset (its':=its.eraseIdx k) hH e ?_ (r.eraseIdx k) ?_,rw',q⟩
  · show its.toArray.eraseIdxIfInBounds k=(its.eraseIdx k).toArray
    rw [List.eraseIdxIfInBounds_toArray]
  · have:=len_erase xs k
    omega
end
section
variable {prog:Program} {w:World} {A:Around} {E:Value→Shared→Prop} {s:Shared}
end
section
variable {X:Cx}
end
end L2
namespace Att
open PySem PySem.W PySem.Calls PyProof.Rows
theorem ints_of_wellAll {P:Params} {h:Heap}:∀ (ns:List Int) (vs:List Value),WellAll P h vs (ns.map WData.int)→IntsAre vs ns:=by
  intro ns
  induction ns with
  | nil =>
    intro vs w
    rw [List.map_nil] at w
    cases w
    exact .nil
  | cons n ns ih =>
    intro vs w
    rw [List.map_cons] at w
    cases w with
    | cons a b =>
      cases a
      exact .cons _ _ (ih _ b)
theorem script_of {l:OpenLaw} {n:Nat} (hn:l.most=some n) {P:Params} {h:Heap} {args:List WData} {vals:List Value}
    (hpre:l.row.toRowW.claim.pre args=true) (hwl:WellAll P h vals args) :
    ∃ a vs ns,vals=[Value.ref a]∧args=[WData.list (ns.map WData.int)]∧h.get? a=some { cls:=.type "list",data:=.seq vs.toArray }∧IntsAre vs ns∧ns.length≤n:=by
  have hsh:WShape.hasAll [] args [.list .int] = true:=(pre_splitW hpre).1
  have hc:l.pre.holds [] { args:=args } = true:=(pre_splitW hpre).2
  obtain ⟨d,r,rfl,h1,h2⟩:=hasAllW_cons hsh
  obtain rfl:=hasAllW_nil h2
  obtain ⟨xs,rfl,h3⟩:=hasW_list h1
  obtain ⟨ns,rfl⟩:=items_int h3
  have hlen:ns.length≤n:=by
    unfold OpenLaw.pre at hc
    have h4:(WTm.not (.lt (.lit (.int (n:Int))) (.len (.arg 0)))).holds [] { args:=[.list (ns.map .int)] } = true:=by
      have h4:=(holds_andW hc).1
      rw [hn] at h4
      exact h4
    have h5:=condW_of h4 (w_not (w_lt w_lit (w_len_list (w_arg rfl))))
    rw [List.length_map] at h5
    refine Nat.le_of_not_lt fun q => ?_
    have q':(n:Int) < ((ns.length:Nat):Int):=by omega
    first
      | (rw [decide_eq_true q'] at h5; exact absurd h5 (by decide))
      | (simp at h5; omega)
  cases hwl with
  | cons w1 w2 =>
    cases w2
    cases w1 with
    | list ho hall => exact ⟨_,_,ns,rfl,rfl,ho,ints_of_wellAll ns _ hall,hlen⟩
theorem post_true (l:OpenLaw) (args:List WData):l.row.toRowW.claim.post args (.bool true) args=true :=
  postW_of (r:=l.row.toRowW) (X:=(true == true))
    (show WShape.has [] (.bool true) .bool=true by first | rfl | decide | simp [WShape.has,WShape.arms,WShape.armsAll])
    (show (WTm.eq .res (.lit (.bool true))).value [] { args:=args,res:=some (.bool true),after:=args } = some (.bool (true == true)) from w_eq_bool (w_res rfl) w_lit) rfl
theorem attach_call {l:OpenLaw} {n:Nat} {q:Program} {loose:List Str} {XP:(Str→Option Value)→Heap→Prop} {YP:World→Heap→Prop} {d:DefRec}
    (hn:l.most=some n) (hdf:d.params.defaults=[])
    (call:∀ (w:World) (s₀ s₁:Shared) (mg mb:Str→Option Value) (fa:Addr) (o:Obj) (pm cd doc:Value) (a:Addr) (vs:List Value) (ns:List Int),
      Ground q loose [] XP w s₀ mg mb s₁.heap→YP w s₁.heap →
      s₁.heap.get? fa=some o→o.data = .func (docDef d.name d.params d.body d.scope pm cd doc)→s₁.heap.CodeRec cd d.name→mg d.name=some (.ref fa) →
      s₁.heap.get? a=some { cls:=.type "list",data:=.seq vs.toArray }→IntsAre vs ns→ns.length≤n→s₁.gens = #[] →
      codeAny (model l.prog w) callerA (.call (.ref fa) ⟨[.ref a],[]⟩) (fun r s' => r = .ok (.ret (.bool true))∧OldK s₁.heap s'.heap∧s'.os=s₁.os∧AllBare s'.gens) s₁) :
    WalkO q loose XP YP l.row.toRowW d [] (fun f vs => PySem.call f vs):=by
  intro w s₀ s₁ mg mb G Y fa o pm cd doc dV kV ho hd hcd hD hmg hg args vals as hpre hlay hrd hwl hlo
  obtain rfl:dV = .none:=Dflts.none hD hdf
  obtain rfl:kV = .none:=Dflts.noKw hD
  obtain ⟨a,vs,ns,rfl,rfl,hobj,hints,hlen⟩:=script_of hn hpre hwl
  refine enter_call (codeAny_mono (call w s₀ s₁ mg mb fa o pm cd doc a vs ns G Y ho (fd_plain hd) hcd hmg hobj hints hlen hg) fun r s' hq => ?_)
  obtain ⟨rfl,h2,h3,h4⟩:=hq
  exact ⟨.inl ⟨.bool true,.bool true,[],rfl,fun _ => rfl,.bool true,post_true l _,fun _ => ⟨List.Pairwise.nil,fun _ hm => (nomatch hm)⟩⟩,h2,h3,h4⟩
section
variable {prog:Program} {w:World} {A:Around} {E:Value→Shared→Prop} {s:Shared} {K:Frag}
end
end Att
namespace L2
open PySem PySem.Spec PyProof.Rows
theorem vals_ints:∀ {vs:List Value} {ns:List Int},IntsAre vs ns→Vals (ns.map V.int) vs
  | _,_,.nil => .nil
  | _,_,.cons n t h => .cons ⟨t,rfl⟩ (vals_ints h)
def Only (H:Hp):Prop := ∀ b,H b=none∨∃ o xs,H b=some (.frz o (.lst xs))
theorem law_call {P:Program} {w:World} {K:PySem.W.Frag} {mg mb:Str→Option Value} {CX:CXT} {k:Nat} {fa a:Addr} {fd:FuncData} {x:Str} {sp:Sp} {s₁:Shared} {vs:List Value} {ns:List Int}
    (KX:K.In s₁.heap) (hns:s₁.heap.Ns mainGlobals mg) (hb:s₁.heap.Ns builtinsNs mb) (hbb:∀ x:Str,x≠"__name__"→mb x=bootBuiltins x) (hlim:s₁.heap.NoLimit) (hg:s₁.gens = #[])
    (ha:s₁.heap.get? a=some { cls:=.type "list",data:=.seq vs.toArray }) (hi:IntsAre vs ns) (hl:ns.length≤sizeLine) (hr:Room k callerA)
    (F:∀ base:Heap,K.In base→base.Ns mainGlobals mg→FnOk P w K mg base CX k fa fd [x] sp) (hbind:∀ (s:Shared) (u:Value),BindsTo s fd ⟨[u],[]⟩ [(x,u)])
    (hsp:∀ H:Hp,Only H→SqL K H a (ns.map V.int)→sp [.ref a] H (fun v _ => v = .bl true) fun _ _ _ => False)
    (hCX:∀ H e s',CX [] H s₁ (fun _ _ _ => False) e s'→False) :
    codeAny (model P w) callerA (.call (.ref fa) ⟨[.ref a],[]⟩) (fun r s' => r = .ok (.ret (.bool true))∧OldK s₁.heap s'.heap∧s'.os=s₁.os∧AllBare s'.gens) s₁:=by
  have rv:=vals_ints hi
  have lenV:=hi.length
  have core:∀ H:Hp,Only H→SqL K H a (ns.map V.int)→HOk P w H s₁.heap→(∀ b,H b≠none→b=a)→(H a≠none→K.lookup a=none) →
      codeAny (model P w) callerA (.call (.ref fa) ⟨[.ref a],[]⟩) (fun r s' => r = .ok (.ret (.bool true))∧OldK s₁.heap s'.heap∧s'.os=s₁.os∧AllBare s'.gens) s₁:=by
    intro H hO hS hok hA hK
    have base_of:∀ {b:Addr} {o:Obj},s₁.heap.get? b=some o→H b=none→(hidT s₁.heap H).get? b=some o:=fun e n => hidT_get e n
    have noA:∀ {b:Addr} {o:Obj} {es:Array DictEntry} {ep:Nat},s₁.heap.get? b=some o→o.data = .dict es ep→H b=none:=fun {b o es ep} e d => by
      cases q:H b with
      | none => rfl
      | some u =>
        have e':b=a:=hA b (by rw [q]; simp)
        subst e'
        rw [ha] at e; cases e
        have d':Data.seq vs.toArray _=Data.dict es ep:=d
        cases d'
    have nsK:∀ {b:Addr} {m:Str→Option Value},s₁.heap.Ns b m→(hidT s₁.heap H).Ns b m:=fun {b m} ⟨o,es,ep,e,d,r⟩ => ⟨o,es,ep,base_of e (noA e d),d,r⟩
    have hKb:K.In (hidT s₁.heap H):=fun b o e => base_of (KX b o e) (by
      cases q:H b with
      | none => rfl
      | some u =>
        have e':b=a:=hA b (by rw [q]; simp)
        subst e'
        rw [hK (by rw [q]; simp)] at e; cases e)
    have hM:Mod K mg (hidT s₁.heap H):=⟨hKb,nsK hns,⟨mb,nsK hb,hbb⟩,let ⟨mc,h1,h2⟩:=hlim; ⟨mc,nsK h1,h2⟩⟩
    have e0:Env0 P w K mg (hidT s₁.heap H) callerA [] s₁ H:=⟨rfl,hM,fun b o e => of_hidT e,Nat.le_of_eq (hidT_size _ _),trivial,fun b hb => absurd (show b∈([]:List Addr) from hb) (by simp),hok,.of_eq hg⟩
    refine codeAny_mono ((F _ hKb (nsK hns)).run callerA [] s₁ H ⟨[.ref a],[]⟩ [.ref a] [.ref a] _ _ hr e0 (hbind s₁ (.ref a)) (.cons rfl .nil) (hsp H hO hS)) fun r s' h => ?_
    cases r with
    | error e => exact (hCX H e s' h).elim
    | ok fl =>
      cases fl with
      | next => exact False.elim h
      | brk => exact False.elim h
      | cont => exact False.elim h
      | ret u =>
        obtain ⟨v,H',os,bare,un,hok',r',q⟩:=h
        have q':v = .bl true:=q
        subst q'
        obtain rfl:u=Value.bool true:=r'
        refine ⟨rfl,OldK.of_keep fun b o e => ?_,os,bare⟩
        cases q:H b with
        | none => exact un.keep b o e q (by intro z; exact absurd (show b∈([]:List Addr) from z) (by simp)) (by simp)
        | some u =>
          rcases hO b with z | ⟨ob,xs,z⟩
          · rw [q] at z; cases z
          · have z2:=un.frzs b ob _ z
            obtain ⟨e1,_⟩:=hok b _ z
            obtain ⟨e2,_⟩:=hok' b _ z2
            rw [e] at e1; cases e1
            exact e2
  cases hk:K.lookup a with
  | some o =>
    have e:=KX a o hk
    rw [ha] at e
    cases e
    refine core (fun _ => none) (fun _ => .inl rfl) (.inr ⟨_,vs.toArray,_,hk,rfl,rfl,rfl,by rw [List.size_toArray,lenV]; exact hl,by simpa using rv⟩) (fun b u z => by have z':(none:Option HO)=some u:=z; cases z') (fun b z => absurd rfl z) fun z => absurd rfl z
  | none =>
    refine core (fun b => if b=a then some (.frz { cls:=.type "list",data:=.seq vs.toArray } (.lst (ns.map V.int))) else none) (fun b => ?_) (.inl (.inr ⟨{ cls:=.type "list",data:=.seq vs.toArray },if_pos rfl⟩)) (fun b u z => ?_) (fun b z => ?_) fun _ => hk
    · by_cases hb:b=a
      · exact .inr ⟨_,_,if_pos hb⟩
      · exact .inl (if_neg hb)
    · by_cases hb:b=a
      · have z':=(if_pos hb).symm.trans z
        cases z'
        subst hb
        exact ⟨ha,by rw [List.length_map]; exact hl,vs,_,rv,ha⟩
      · have z':=(if_neg hb).symm.trans z
        cases z'
    · by_cases hb:b=a
      · exact hb
      · exact absurd (if_neg hb) z
end L2
namespace L2
open PySem PySem.Spec PyProof.Rows
theorem walk_of {l:PySem.W.OpenLaw} {n k:Nat} {q:Program} {loose:List Str} {XP:(Str→Option Value)→Heap→Prop} {YP:World→Heap→Prop} {d:DefRec} {K:Params→PySem.W.Frag} {CX:World→CXT} {sp:World→Sp} {x:Str}
    (hn:l.most=some n) (hn2:n≤sizeLine) (hdf:d.params.defaults=[]) (hr:Room k callerA)
    (hY:∀ (w:World) (h:Heap),YP w h→(K w.params).In h)
    (F:∀ (w:World) (mg:Str→Option Value) (fa:Addr) (h:Heap),(K w.params).In h→h.Ns mainGlobals mg→mg d.name=some (.ref fa) →
      ∃ fd:FuncData,(∀ (s:Shared) (u:Value),BindsTo s fd ⟨[u],[]⟩ [(x,u)]) ∧
        ∀ base:Heap,(K w.params).In base→base.Ns mainGlobals mg→FnOk l.prog w (K w.params) mg base (CX w) k fa fd [x] (sp w))
    (hsp:∀ (w:World) (H:Hp) (a:Addr) (ns:List Int),ns.length≤n→Only H→SqL (K w.params) H a (ns.map V.int)→sp w [.ref a] H (fun v _ => v = .bl true) fun _ _ _ => False)
    (hCX:∀ (w:World) (H:Hp) (s:Shared) (e:Value) (s':Shared),CX w [] H s (fun _ _ _ => False) e s'→False) :
    PySem.W.WalkO q loose XP YP l.row.toRowW d [] (fun f vs => PySem.call f vs):=by
  refine Att.attach_call hn hdf fun w s₀ s₁ mg mb fa o pm cd doc a vs ns G Y ho hd hcd hmg hobj hints hlen hg => ?_
  have KX:=hY w _ Y
  obtain ⟨fd,hb,hF⟩:=F w mg fa _ KX G.T.g hmg
  exact law_call KX G.T.g G.T.b G.T.builtins G.T.nolimit hg hobj hints (Nat.le_trans hlen hn2) hr hF hb (fun H hO hS => hsp w H a ns hlen hO hS) fun H e s' => hCX w H s₁ e s'
end L2
namespace L2
open PySem PySem.Spec PyProof.Rows
def inClass (s:Stmt) (j:Nat):Stmt:=match s with
  | .ClassDef _ _ _ body _ _ _ _ _ _ _ => body.getD j (.Pass ⟨0,0,0,0⟩)
  | _ => .Pass ⟨0,0,0,0⟩
def defArgs (s:Stmt):Arguments:=match s with
  | .FunctionDef _ a _ _ _ _ _ _ _ _ => a
  | _ => { posonlyargs:=[],args:=[],vararg:=none,kwonlyargs:=[],kw_defaults:=[],kwarg:=none,defaults:=[] }
def defBody (s:Stmt):List Stmt:=match s with
  | .FunctionDef _ _ b _ _ _ _ _ _ _ => b
  | _ => []
def defScope (s:Stmt):Scope:=match s with
  | .FunctionDef _ _ _ _ _ _ sc _ _ _ => sc
  | _ => { kind:=.function,names:=[],isGenerator:=false,isCoroutine:=false }
abbrev CX0:CXT:=fun _ _ _ _ _ _ => False
abbrev E0:XK:=fun _ _ _ => False
theorem pass0 {X:Cx}:Passes CX0 X E0:=fun _ _ _ _ _ _ _ h => h.elim
structure Fun (K:PySem.W.Frag) (x qual:Str) (st:Stmt) (f:Addr) (fd:FuncData):Prop where
  ex:∃ (oc:Value) (od:Option Addr) (kV doc pm:Value) (an:Option Addr) (cdv ct:Value) (osl:Array (Option Value)),
    fd=PySem.W.fnOf x qual (defArgs st) (defBody st) (defScope st) .none kV doc pm an cdv ct∧K.lookup f=some ⟨oc,od,.func fd,osl⟩∧PySem.W.codeIn K cdv qual=true
  kp:PySem.W.keepIn K (.ref f)=true
section
variable {P:Program} {w:World} {K:PySem.W.Frag} {mg:Str→Option Value} {base:Heap}
theorem Fun.ok {x qual:Str} {st:Stmt} {f:Addr} {fd:FuncData} {N ps:List Str} {k:Nat} {sp:Sp} (F:Fun K x qual st f fd) (S:FnScope N ps (defScope st)) (len:∀ vs H Q E,sp vs H Q E→vs.length=ps.length)
    (hbody:∀ (cdv:Value) (A:Around) (outer:List Env) (s:Shared) (H:Hp) (vs:List V) (Q:VK) (E:XK),Room k (A.deeper (envOfC qual (defScope st) s.heap.objs.size f cdv))→sp vs H Q E →
      ∃ t,PSs (cxOf CX0 P w K mg base N qual (defScope st) f cdv A outer s H E).nox (defBody st) t∧t { nx:=fun _ H' => Q .non H',rt:=Q } (start N vs) H):FnOk P w K mg base CX0 (k + 1) f fd ps sp:=by
  obtain ⟨oc,od,kV,doc,pm,an,cdv,ct,osl,rfl,lk,hcd⟩:=F.ex
  refine fn_of lk hcd S len fun A outer s H vs Q E hr hsp => ?_
  obtain ⟨t,h,q⟩:=hbody cdv A outer s H vs Q E hr hsp
  exact ⟨t,h.nox,q⟩
theorem Fun.binds {x qual:Str} {st:Stmt} {f:Addr} {fd:FuncData} {ps:List Str} (F:Fun K x qual st f fd)
    (h:∀ (kV doc pm:Value) (an:Option Addr) (cdv ct:Value) (us:List Value),us.length=ps.length→bindArgs (PySem.W.fnOf x qual (defArgs st) (defBody st) (defScope st) .none kV doc pm an cdv ct) ⟨us,[]⟩ = pure (ps.zip us)):Binds K fd ps []:=by
  obtain ⟨oc,od,kV,doc,pm,an,cdv,ct,osl,rfl,lk,hcd⟩:=F.ex
  exact .all (h kV doc pm an cdv ct)
theorem fun_mk {x qual:Str} {st:Stmt} {f:Addr} {oc:Value} {od an:Option Addr} {osl:Array (Option Value)} {kV doc pm cdv ct:Value} (l:K.lookup f=some ⟨oc,od,.func (PySem.W.fnOf x qual (defArgs st) (defBody st) (defScope st) .none kV doc pm an cdv ct),osl⟩)
    (c:PySem.W.codeIn K cdv qual=true) (k:PySem.W.keepIn K (.ref f)=true):Fun K x qual st f (PySem.W.fnOf x qual (defArgs st) (defBody st) (defScope st) .none kV doc pm an cdv ct):=⟨⟨oc,od,kV,doc,pm,an,cdv,ct,osl,rfl,l,c⟩,k⟩
end
theorem small1000 {n:Nat} (h:n≤1000):n < sizeLine:=Nat.lt_of_le_of_lt h (by decide)
section
variable {X:Cx}
theorem pv (i:Nat) {x:Str} {pos:Pos} (hN:X.N[i]? = some x:=by rfl) (hv:Vis X.env.scope x:=by first | exact Or.inl rfl | exact Or.inr (Or.inl rfl) | exact Or.inr (Or.inr rfl)) (hd:(x == ("__debug__" : Str))=false:=by decide)
    (hcd:(x == ("__classdict__" : Str))=false:=by decide):PE X (.Name x pos) (tVar i):=pe_var hN hv hd hcd
end
theorem iteF {A B:Prop} (h:B):if false=true then A else B:=by
  rw [if_neg Bool.false_ne_true]
  exact h
theorem iteT {A B:Prop} (h:A):if true=true then A else B:=by
  rw [if_pos rfl]
  exact h
theorem ite2 {c A B:Prop} [Decidable c] (h1:c→A) (h2:¬ c→B):if c then A else B:=by
  by_cases h:c
  · rw [if_pos h]
    exact h1 h
  · rw [if_neg h]
    exact h2 h
theorem iteNS {c A B:Prop} [Decidable c] (hc:c) (h:B):if (!decide c)=true then A else B:=by
  rw [decide_eq_true hc]
  exact iteF h
def Same (H H':Hp):Prop := ∀ b o,H b=some o→H' b=some o
theorem Same.trans {H H1 H2:Hp} (a:Same H H1) (b:Same H1 H2):Same H H2:=fun c o h => b c o (a c o h)
theorem Same.free {H H':Hp} (e:Same H H') {l:Addr} (h:H' l=Option.none):H l=Option.none:=by
  cases q:H l with
  | none => rfl
  | some o =>
    rw [e l o q] at h
    cases h
theorem Same.seq {K:PySem.W.Frag} {H H':Hp} {a:Addr} {xs:List V} (e:Same H H') (h:SqL K H a xs):SqL K H' a xs:=by
  rcases h with (h | ⟨o,h⟩) | h
  · exact .inl (.inl (e _ _ h))
  · exact .inl (.inr ⟨o,e _ _ h⟩)
  · exact .inr h
end L2
set_option linter.all false
namespace Rm
def cell (ns:List Int) (k:Nat):Int:=ns.getD k 0
end Rm
namespace Rm
end Rm
namespace Rm
end Rm
set_option linter.all false
namespace Fm
structure Mc where
  n:Nat
  nx:Nat→Nat→Nat
  dd:Nat→Nat→List Int
structure Mc.Ok (m:Mc):Prop where
  pos : 0 < m.n
  nx:∀ a e,a < m.n→e < 4→m.nx a e < m.n
variable {m:Mc}
def al (m:Mc):Nat→Nat→Nat→Bool
  | 0,_,_ => true
  | t + 1,a,b => (List.range 4).all fun e => decide (m.dd a e=m.dd b e) && al m t (m.nx a e) (m.nx b e)
theorem al_succ {t a b:Nat}:al m (t + 1) a b=true ↔ ∀ e,e < 4→m.dd a e=m.dd b e∧al m t (m.nx a e) (m.nx b e)=true:=by
  show ((List.range 4).all fun e => decide (m.dd a e=m.dd b e) && al m t (m.nx a e) (m.nx b e))=true ↔ _
  rw [List.all_eq_true]
  constructor
  · intro h e he
    have z:=h e (List.mem_range.mpr he)
    rw [Bool.and_eq_true,decide_eq_true_iff] at z
    exact z
  · intro h e he
    rw [Bool.and_eq_true,decide_eq_true_iff]
    exact h e (List.mem_range.mp he)
theorem al_refl:∀ (t a:Nat),al m t a a=true
  | 0,_ => rfl
  | t + 1,a => al_succ.mpr fun e _ => ⟨rfl,al_refl t _⟩
theorem al_symm:∀ {t a b:Nat},al m t a b=true→al m t b a=true
  | 0,_,_,_ => rfl
  | t + 1,a,b,h => al_succ.mpr fun e he => ⟨((al_succ.mp h) e he).1.symm,al_symm ((al_succ.mp h) e he).2⟩
theorem al_trans:∀ {t a b c:Nat},al m t a b=true→al m t b c=true→al m t a c=true
  | 0,_,_,_,_,_ => rfl
  | t + 1,a,b,c,h,g => al_succ.mpr fun e he => ⟨((al_succ.mp h) e he).1.trans ((al_succ.mp g) e he).1,al_trans ((al_succ.mp h) e he).2 ((al_succ.mp g) e he).2⟩
theorem al_down:∀ {t a b:Nat},al m (t + 1) a b=true→al m t a b=true
  | 0,_,_,_ => rfl
  | t + 1,a,b,h => al_succ.mpr fun e he => ⟨((al_succ.mp h) e he).1,al_down ((al_succ.mp h) e he).2⟩
theorem al_le {s t a b:Nat} (hst:s≤t) (h:al m t a b=true):al m s a b=true:=by
  induction t with
  | zero => have:s=0:=by omega
            subst this; exact h
  | succ t ih =>
    by_cases z:s=t + 1
    · rw [z]; exact h
    · exact ih (by omega) (al_down h)
def Stable (m:Mc) (t:Nat):Prop := ∀ a b,a < m.n→b < m.n→al m t a b=true→al m (t + 1) a b=true
theorem stable_next (ok:m.Ok) {t:Nat} (h:Stable m t):Stable m (t + 1):=fun a b ha hb z =>
  al_succ.mpr fun e he => ⟨((al_succ.mp z) e he).1,h _ _ (ok.nx a e ha he) (ok.nx b e hb he) ((al_succ.mp z) e he).2⟩
theorem stable_le (ok:m.Ok) {s t:Nat} (hst:s≤t) (h:Stable m s):Stable m t:=by
  induction t with
  | zero => have:s=0:=by omega
            subst this; exact h
  | succ t ih =>
    by_cases z:s=t + 1
    · rw [← z]; exact h
    · exact stable_next ok (ih (by omega))
theorem stable_al (ok:m.Ok) {s t:Nat} (hst:s≤t) (h:Stable m s) {a b:Nat} (ha:a < m.n) (hb:b < m.n):al m t a b=al m s a b:=by
  have up:al m s a b=true→al m t a b=true:=fun z => by
    induction t with
    | zero => have:s=0:=by omega
              subst this; exact z
    | succ t ih =>
      by_cases y:s=t + 1
      · rw [← y]; exact z
      · exact stable_le ok (show s≤t by omega) h a b ha hb (ih (by omega))
  cases z:al m s a b with
  | true => exact up z
  | false =>
    cases y:al m t a b with
    | false => rfl
    | true => rw [al_le hst y] at z; cases z
def rep (m:Mc) (t k:Nat):Bool:=(List.range k).all fun j => !al m t j k
theorem rep_iff {t k:Nat}:rep m t k=true ↔ ∀ j,j < k→al m t j k=false:=by
  unfold rep
  rw [List.all_eq_true]
  constructor
  · intro h j hj
    have z:=h j (List.mem_range.mpr hj)
    simpa using z
  · intro h j hj
    rw [h j (List.mem_range.mp hj)]; rfl
theorem rep_up {t k:Nat} (h:rep m t k=true):rep m (t + 1) k=true:=rep_iff.mpr fun j hj => by
  cases z:al m (t + 1) j k with
  | false => rfl
  | true => exact absurd (rep_iff.mp h j hj) (by rw [al_down z]; decide)
def mr (m:Mc) (t k:Nat):Nat:=((List.range (k + 1)).find? fun j => al m t j k).getD k
theorem mr_spec (t k:Nat):mr m t k≤k∧al m t (mr m t k) k=true∧∀ j,j < mr m t k→al m t j k=false:=by
  unfold mr
  cases h:(List.range (k + 1)).find? fun j => al m t j k with
  | none =>
    have z:=List.find?_eq_none.mp h k (List.mem_range.mpr (by omega))
    exact absurd (al_refl t k) z
  | some r =>
    have h1:=List.find?_some h
    have h2:=List.mem_range.mp (List.mem_of_find?_eq_some h)
    refine ⟨by show r≤k; omega,h1,fun j hj => ?_⟩
    have hj':j < r:=hj
    obtain ⟨_,i,hi,e,hlt⟩:=List.find?_eq_some_iff_getElem.mp h
    rw [List.getElem_range] at e
    subst e
    have z:=hlt j hj'
    rw [List.getElem_range] at z
    simpa using z
theorem mr_le (t k:Nat):mr m t k≤k:=(mr_spec t k).1
theorem mr_al (t k:Nat):al m t (mr m t k) k=true:=(mr_spec t k).2.1
theorem mr_min {t k j:Nat} (h:j < mr m t k):al m t j k=false:=(mr_spec t k).2.2 j h
theorem mr_of {t j k:Nat} (h:al m t j k=true):mr m t k≤j:=Nat.le_of_not_lt fun z => by rw [mr_min z] at h; cases h
theorem mr_eq {t j k:Nat} (h:al m t j k=true):mr m t j=mr m t k:=by
  have h1:=mr_of (al_trans (mr_al t j) h)
  have h2:=mr_of (al_trans (mr_al t k) (al_symm h))
  omega
theorem mr_iff {t j k:Nat}:mr m t j=mr m t k ↔ al m t j k=true:=⟨fun e => al_trans (al_symm (mr_al t j)) (by rw [e]; exact mr_al t k),mr_eq⟩
theorem mr_rep (t k:Nat):rep m t (mr m t k)=true:=rep_iff.mpr fun j hj => by
  cases z:al m t j (mr m t k) with
  | false => rfl
  | true => exact absurd (al_trans z (mr_al t k)) (by rw [mr_min hj]; decide)
def cnt (m:Mc) (t:Nat):Nat:=((List.range m.n).filter (rep m t)).length
theorem cnt_le (t:Nat):cnt m t≤m.n:=by
  have:=List.length_filter_le (rep m t) (List.range m.n)
  rw [List.length_range] at this
  exact this
theorem filter_grow {α : Type} {p q : α→Bool} (h:∀ x,p x=true→q x=true):∀ (l:List α),(l.filter p).length≤(l.filter q).length∧((l.filter p).length=(l.filter q).length→∀ x∈l,q x=true→p x=true)
  | [] => ⟨Nat.le_refl _,fun _ x hx => by simp at hx⟩
  | y :: l => by
    obtain ⟨i1,i2⟩:=filter_grow h l
    cases hp:p y with
    | true =>
      rw [List.filter_cons_of_pos hp,List.filter_cons_of_pos (h y hp)]
      refine ⟨by simp; exact i1,fun e x hx hq => ?_⟩
      rcases List.mem_cons.mp hx with z | z
      · rw [z]; exact hp
      · exact i2 (by simpa using e) x z hq
    | false =>
      rw [List.filter_cons_of_neg (by rw [hp]; decide)]
      cases hq:q y with
      | true =>
        rw [List.filter_cons_of_pos hq]
        refine ⟨by simp; omega,fun e => ?_⟩
        simp at e
        omega
      | false =>
        rw [List.filter_cons_of_neg (by rw [hq]; decide)]
        refine ⟨i1,fun e x hx hqx => ?_⟩
        rcases List.mem_cons.mp hx with z | z
        · rw [z,hq] at hqx; cases hqx
        · exact i2 e x z hqx
theorem cnt_grow (t:Nat):cnt m t≤cnt m (t + 1):=(filter_grow (fun x h => rep_up h) _).1
theorem cnt_stable {t:Nat} (h:cnt m t=cnt m (t + 1)):Stable m t:=fun a b ha hb z => by
  have g:=(filter_grow (p:=rep m t) (q:=rep m (t + 1)) (fun x h => rep_up h) (List.range m.n)).2 h
  have ra:=g _ (List.mem_range.mpr (Nat.lt_of_le_of_lt (mr_le (t + 1) a) ha)) (mr_rep (t + 1) a)
  have rb:=g _ (List.mem_range.mpr (Nat.lt_of_le_of_lt (mr_le (t + 1) b) hb)) (mr_rep (t + 1) b)
  have hab:al m t (mr m (t + 1) a) (mr m (t + 1) b)=true:=al_trans (al_down (mr_al (t + 1) a)) (al_trans z (al_symm (al_down (mr_al (t + 1) b))))
  have e:mr m (t + 1) a=mr m (t + 1) b:=by
    rcases Nat.lt_trichotomy (mr m (t + 1) a) (mr m (t + 1) b) with y | y | y
    · rw [rep_iff.mp rb _ y] at hab; cases hab
    · exact y
    · have:=al_symm hab
      rw [rep_iff.mp ra _ y] at this; cases this
  exact mr_iff.mp e
theorem cnt_pos (ok:m.Ok) (t:Nat) : 1≤cnt m t:=by
  have h0 : 0∈(List.range m.n).filter (rep m t):=List.mem_filter.mpr ⟨List.mem_range.mpr ok.pos,rep_iff.mpr fun j hj => absurd hj (by omega)⟩
  exact List.length_pos_of_mem h0
theorem some_stable (ok:m.Ok):∀ t,(∃ s,s < t∧Stable m s)∨t + 1≤cnt m t
  | 0 => .inr (cnt_pos ok 0)
  | t + 1 => by
    rcases some_stable ok t with ⟨s,hs,z⟩ | z
    · exact .inl ⟨s,by omega,z⟩
    · by_cases e:cnt m t=cnt m (t + 1)
      · exact .inl ⟨t,by omega,cnt_stable e⟩
      · have:=cnt_grow (m:=m) t
        exact .inr (by omega)
theorem stable_n (ok:m.Ok):Stable m m.n:=by
  rcases some_stable ok m.n with ⟨s,hs,z⟩ | z
  · exact stable_le ok (by omega) z
  · have:=cnt_le (m:=m) m.n
    omega
def far (m:Mc):Nat→Nat→Nat→Nat
  | 0,_,_ => 0
  | t + 1,a,b => if far m t a b≠0 then far m t a b else if (if t=0 then (List.range 4).any fun e => decide (m.dd a e≠m.dd b e) else (List.range 4).any fun e => decide (far m t (m.nx a e) (m.nx b e)=t))=true then t + 1 else 0
theorem al_or {t a b:Nat} (h:al m (t + 1) a b=false):∃ e,e < 4∧(m.dd a e≠m.dd b e∨al m t (m.nx a e) (m.nx b e)=false):=by
  refine Classical.byContradiction fun z => ?_
  have:al m (t + 1) a b=true:=al_succ.mpr fun e he => by
    refine ⟨Classical.byContradiction fun y => z ⟨e,he,.inl y⟩,?_⟩
    cases y:al m t (m.nx a e) (m.nx b e) with
    | true => rfl
    | false => exact absurd ⟨e,he,.inr y⟩ z
  rw [this] at h; cases h
theorem far_spec:∀ (t a b:Nat),(far m t a b=0 ↔ al m t a b=true)∧(far m t a b≠0→far m t a b≤t∧al m (far m t a b) a b=false∧al m (far m t a b - 1) a b=true)
  | 0,a,b => ⟨⟨fun _ => rfl,fun _ => rfl⟩,fun h => absurd rfl h⟩
  | t + 1,a,b => by
    obtain ⟨i1,i2⟩:=far_spec t a b
    by_cases h:far m t a b≠0
    · have e:far m (t + 1) a b=far m t a b:=by rw [far,if_pos h]
      rw [e]
      obtain ⟨j1,j2,j3⟩:=i2 h
      refine ⟨⟨fun z => absurd z h,fun z => ?_⟩,fun _ => ⟨by omega,j2,j3⟩⟩
      rw [i1.mpr (al_down z)] at h; exact absurd rfl h
    · have h0:far m t a b=0:=by omega
      have ha:=i1.mp h0
      have e:far m (t + 1) a b=if (if t=0 then (List.range 4).any fun e => decide (m.dd a e≠m.dd b e) else (List.range 4).any fun e => decide (far m t (m.nx a e) (m.nx b e)=t))=true then t + 1 else 0:=by rw [far,if_neg h]
      have key:(if t=0 then (List.range 4).any fun e => decide (m.dd a e≠m.dd b e) else (List.range 4).any fun e => decide (far m t (m.nx a e) (m.nx b e)=t))=true ↔ al m (t + 1) a b=false:=by
        constructor
        · intro z
          cases y:al m (t + 1) a b with
          | false => rfl
          | true =>
            by_cases t0:t=0
            · rw [if_pos t0,List.any_eq_true] at z
              obtain ⟨x,hx,hd⟩:=z
              exact absurd ((al_succ.mp y) x (List.mem_range.mp hx)).1 (of_decide_eq_true hd)
            · rw [if_neg t0,List.any_eq_true] at z
              obtain ⟨x,hx,hd⟩:=z
              have hd':=of_decide_eq_true hd
              have g:=((al_succ.mp y) x (List.mem_range.mp hx)).2
              rw [(far_spec t _ _).1.mpr g] at hd'
              omega
        · intro z
          obtain ⟨x,hx,hd⟩:=al_or z
          by_cases t0:t=0
          · rw [if_pos t0,List.any_eq_true]
            subst t0
            refine ⟨x,List.mem_range.mpr hx,decide_eq_true ?_⟩
            rcases hd with y | y
            · exact y
            · cases y
          · rw [if_neg t0,List.any_eq_true]
            refine ⟨x,List.mem_range.mpr hx,decide_eq_true ?_⟩
            obtain ⟨t',rfl⟩ : ∃ t',t=t' + 1:=⟨t - 1,by omega⟩
            have g:=(al_succ.mp ha) x hx
            rcases hd with y | y
            · exact absurd g.1 y
            · obtain ⟨k1,k2⟩:=far_spec (t' + 1) (m.nx a x) (m.nx b x)
              have kn:far m (t' + 1) (m.nx a x) (m.nx b x)≠0:=fun q => by rw [k1.mp q] at y; cases y
              obtain ⟨l1,l2,l3⟩:=k2 kn
              by_cases lt:far m (t' + 1) (m.nx a x) (m.nx b x)≤t'
              · rw [al_le lt g.2] at l2; cases l2
              · omega
      rw [e]
      by_cases z:al m (t + 1) a b=true
      · rw [if_neg (by rw [key,z]; decide)]
        exact ⟨⟨fun _ => z,fun _ => rfl⟩,fun y => absurd rfl y⟩
      · have z':al m (t + 1) a b=false:=by cases y:al m (t + 1) a b with | true => exact absurd y z | false => rfl
        rw [if_pos (key.mpr z')]
        refine ⟨⟨fun y => by omega,fun y => absurd y z⟩,fun _ => ⟨Nat.le_refl _,z',ha⟩⟩
theorem far_zero (t a b:Nat):far m t a b=0 ↔ al m t a b=true:=(far_spec t a b).1
theorem far_stop (ok:m.Ok) {t:Nat} (h:∀ a b,a < m.n→b < m.n→far m t a b=far m (t + 1) a b):Stable m t:=fun a b ha hb z => (far_zero (t + 1) a b).mp (by rw [← h a b ha hb]; exact (far_zero t a b).mpr z)
end Fm
set_option Elab.async false
set_option linter.all false
set_option maxRecDepth 100000
set_option maxHeartbeats 4000000
namespace L2
open PySem PySem.Spec PyProof.Rows
mutual
inductive RdV (K:PySem.W.Frag) (H:Hp):V→PyData→Prop
  | non:RdV K H .non .none
  | bl (b:Bool):RdV K H (.bl b) (.bool b)
  | int (i:Int):RdV K H (.int i) (.int i)
  | str (x:Str):RdV K H (.str x) (.str x)
  | lst {a:Addr} {xs:List V} {ds:List PyData}:SqL K H a xs→RdVs K H xs ds→RdV K H (.ref a) (.list ds)
  | tup {a:Addr} {xs:List V} {ds:List PyData}:SqT K H a xs→RdVs K H xs ds→RdV K H (.ref a) (.tuple ds)
inductive RdVs (K:PySem.W.Frag) (H:Hp):List V→List PyData→Prop
  | nil:RdVs K H [] []
  | cons {x:V} {d:PyData} {xs:List V} {ds:List PyData}:RdV K H x d→RdVs K H xs ds→RdVs K H (x :: xs) (d :: ds)
end
section
variable {X:Cx} {pins:List (Addr×Obj)} {σ : St} {H:Hp} {s:Shared}
mutual
theorem RdV.reads (I:Inv X pins σ H s):∀ {v:V} {d:PyData} {u:Value},RdV X.K H v d→RelV v u→∃ as,Reads s.heap u d as
  | _,_,u,.non,r => by
    cases (show u=Value.none from r)
    exact ⟨_,.none⟩
  | _,_,u,.bl b,r => by
    cases (show u=Value.bool b from r)
    exact ⟨_,.bool b⟩
  | _,_,u,.int i,r => by
    obtain ⟨t,q⟩:=(show ∃ t,u=Value.int i t from r)
    cases q
    exact ⟨_,.int i t⟩
  | _,_,u,.str x,r => by
    obtain ⟨t,q⟩:=(show ∃ t,u=Value.str x t from r)
    cases q
    exact ⟨_,.str x t⟩
  | _,_,u,.lst (a:=a) h hs,r => by
    cases (show u=Value.ref a from r)
    obtain ⟨its,rv,p,_⟩:=I.list h
    obtain ⟨o,ho,hc,n,hd⟩:=p.isList
    obtain ⟨as,q⟩:=RdVs.reads I hs rv
    exact ⟨_,.list ho hc hd (by simpa using q)⟩
  | _,_,u,.tup (a:=a) h hs,r => by
    cases (show u=Value.ref a from r)
    obtain ⟨its,rv,p,_⟩:=I.tuple h
    obtain ⟨o,ho,hc,n,hd⟩:=p
    obtain ⟨as,q⟩:=RdVs.reads I hs rv
    exact ⟨_,.tuple ho hc hd (by simpa using q)⟩
theorem RdVs.reads (I:Inv X pins σ H s):∀ {vs:List V} {ds:List PyData} {us:List Value},RdVs X.K H vs ds→Vals vs us→∃ as,ReadsAll s.heap us ds as
  | _,_,_,.nil,.nil => ⟨_,.nil⟩
  | _,_,_,.cons h hs,.cons r rs => by
    obtain ⟨as,q⟩:=RdV.reads I h r
    obtain ⟨bs,q'⟩:=RdVs.reads I hs rs
    exact ⟨_,.cons q q'⟩
end
def rEqD (K:PySem.W.Frag) (neg:Bool):R2:=fun x y H Q => ∃ da db,RdV K H x da∧RdV K H y db∧SeqAt.shaped da=true∧SeqAt.shaped db=true∧Q (.bl (if neg then !PyData.eqv da db else PyData.eqv da db)) H
theorem op_eqD (hu:X.A.units + 64 < cLine):OpR X (compareOp .Eq) (rEqD X.K false):=by
  intro pins s σ H x y v u Q I rx ry h
  obtain ⟨da,db,ra,rb,ha,hb,q⟩:=h
  obtain ⟨as,r1⟩:=ra.reads I rx
  obtain ⟨bs,r2⟩:=rb.reads I ry
  exact eq_dataH r1 r2 ha hb hu ⟨.bl _,H,I,rfl,q⟩
theorem op_neD (hu:X.A.units + 64 < cLine):OpR X (compareOp .NotEq) (rEqD X.K true):=by
  intro pins s σ H x y v u Q I rx ry h
  obtain ⟨da,db,ra,rb,ha,hb,q⟩:=h
  obtain ⟨as,r1⟩:=ra.reads I rx
  obtain ⟨bs,r2⟩:=rb.reads I ry
  exact ne_dataH r1 r2 ha hb hu ⟨.bl _,H,I,rfl,q⟩
theorem call_isinst:CallR X (.builtin "isinstance") (fun xs H Q => ∃ x n t b,xs=[x,.ty n]∧TyOf X.K H x t∧PySem.W.kitOne X.K t (.type n)=some b∧Q (.bl b) H):=by
  intro pins s σ H xs us Q I r h
  obtain ⟨x,n,t,b,rfl,ty,e,q⟩:=h
  obtain ⟨u,u',rfl,rx,ry⟩:=Vals.two r
  cases (show u'=Value.type n from ry)
  exact isinst_ok I rx ty e fun tk => ⟨.bl b,H,I.tok tk,rfl,q⟩
end
structure Bk where
  cl:List (Str×Addr)
  C:Addr
  s:Shared
  H:Hp
  fp:List Addr
  pn:List (Addr×Obj)
def Cx.blk (X:Cx) (N':List Str) (sc:Scope) (b:Bk):Cx where
  prog:=X.prog
  w:=X.w
  K:=X.K
  mg:=X.mg
  base:=X.base
  A:=X.A
  N:=N'
  s₀:=b.s
  H₀:=b.H
  env:=compEnvC sc b.cl b.C X.env
  outer:=X.stack
  stack:=X.stack
  ex:=b.fp
  fn:=fun _ => false
  calm:=X.calm
  pn:=b.pn
  xe:=fun _ _ => False
def bst (ix:List (Option Nat)) (σ : St):St:=ix.map fun o => match o with
  | none => none
  | some j => (σ[j]?).getD none
def fromB (N:List Str) (names:List (Str×NameKind)):List Str→List (Option Nat)→Bool
  | x :: r,some j :: t => decide (N[j]? = some x) && decide (names.lookup x=some .free) && fromB N names r t
  | _ :: r,none :: t => fromB N names r t
  | [],[] => true
  | _,_ => false
theorem fromB_ok {N:List Str} {names:List (Str×NameKind)}:∀ {N':List Str} {ix:List (Option Nat)},fromB N names N' ix=true →
    ix.length=N'.length∧∀ (i j:Nat) (x:Str),N'[i]? = some x→ix[i]? = some (some j)→N[j]? = some x∧names.lookup x=some .free
  | [],[],_ => ⟨rfl,fun i j x e _ => by simp at e⟩
  | x :: r,some j :: t,h => by
    simp only [fromB,Bool.and_eq_true,decide_eq_true_eq] at h
    obtain ⟨hl,hf⟩:=fromB_ok (N':=r) (ix:=t) h.2
    refine ⟨by simp [hl],fun i k y e1 e2 => ?_⟩
    cases i with
    | zero =>
      simp at e1 e2
      subst e1 e2
      exact h.1
    | succ i => exact hf i k y (by simpa using e1) (by simpa using e2)
  | x :: r,none :: t,h => by
    simp only [fromB] at h
    obtain ⟨hl,hf⟩:=fromB_ok (N':=r) (ix:=t) h
    refine ⟨by simp [hl],fun i k y e1 e2 => ?_⟩
    cases i with
    | zero => simp at e2
    | succ i => exact hf i k y (by simpa using e1) (by simpa using e2)
  | [],some _ :: _,h => by simp [fromB] at h
  | [],none :: _,h => by simp [fromB] at h
  | _ :: _,[],h => by simp [fromB] at h
theorem forIn_pure {α β : Type} {f : α→β→Sem (ForInStep β)} (Pv:List α→β→Prop) (hs:∀ x l b,Pv (x :: l) b→∃ b',f x b=pure (.yield b')∧Pv l b') :
    ∀ (l:List α) (b : β),Pv l b→∃ b',forIn l b f=pure b'∧Pv [] b'
  | [],b,h => ⟨b,rfl,h⟩
  | x :: l,b,h => by
    obtain ⟨b1,e1,h1⟩:=hs x l b h
    obtain ⟨b2,e2,h2⟩:=forIn_pure Pv hs l b1 h1
    refine ⟨b2,?_,h2⟩
    rw [List.forIn_cons,e1,pure_bind]
    exact e2
def cstep (env:Env) (x:Str×NameKind) (r:List (Str×Addr)):Sem (ForInStep (List (Str×Addr))) :=
  if x.2 == .free then (do let c ← cellOf env x.1; pure (.yield ((x.1,c) :: r))) else pure (.yield r)
theorem closure_step (sc:Scope) (env:Env):closureFor sc env=(forIn sc.names [] (cstep env) >>= fun cs => pure cs):=by rfl
theorem closure_of {sc:Scope} {env:Env} (h:∀ p∈sc.names,p.2 = .free→∃ c,env.cells.lookup p.1=some c) :
    ∃ cl,closureFor sc env=pure cl∧(∀ x c,cl.lookup x=some c→env.cells.lookup x=some c)∧∀ p∈sc.names,p.2 = .free→∃ c,cl.lookup p.1=some c:=by
  obtain ⟨cl,e,_,h1,h2⟩:=forIn_pure (f:=cstep env)
    (fun l (b:List (Str×Addr)) => (∀ p∈l,p∈sc.names)∧(∀ x c,b.lookup x=some c→env.cells.lookup x=some c)∧∀ p∈sc.names,p.2 = .free→p∈l∨∃ c,b.lookup p.1=some c)
    (fun p l b ⟨g0,g1,g2⟩ => by
      unfold cstep
      by_cases hk:p.2 = .free
      · obtain ⟨c,hc⟩:=h p (g0 p List.mem_cons_self) hk
        have ec:cellOf env p.1=pure c:=by unfold cellOf; rw [hc]
        rw [hk,if_pos (by decide),ec,pure_bind]
        refine ⟨_,rfl,fun q hq => g0 q (List.mem_cons_of_mem _ hq),fun x d e => ?_,fun q hq hf => ?_⟩
        · rw [List.lookup_cons] at e
          cases hx:x == p.1 with
          | true =>
            rw [hx] at e
            cases e
            rw [eq_of_beq hx]; exact hc
          | false =>
            rw [hx] at e
            exact g1 x d e
        · rcases g2 q hq hf with z | ⟨d,hd⟩
          · rcases List.mem_cons.mp z with z | z
            · subst z
              exact .inr ⟨c,by rw [List.lookup_cons,beq_self_eq_true]⟩
            · exact .inl z
          · refine .inr ?_
            rw [List.lookup_cons]
            cases hx:q.1 == p.1 with
            | true => exact ⟨c,rfl⟩
            | false => exact ⟨d,hd⟩
      · rw [if_neg (by simpa using hk)]
        refine ⟨_,rfl,fun q hq => g0 q (List.mem_cons_of_mem _ hq),g1,fun q hq hf => ?_⟩
        rcases g2 q hq hf with z | z
        · rcases List.mem_cons.mp z with z | z
          · subst z; exact absurd hf hk
          · exact .inl z
        · exact .inr z)
    sc.names [] ⟨fun _ z => z,fun x c e => by simp at e,fun p hp _ => .inl hp⟩
  refine ⟨cl,?_,h1,fun p hp hf => (h2 p hp hf).elim (fun z => by simp at z) id⟩
  rw [closure_step,e,pure_bind]
theorem lookup_mem {names:List (Str×NameKind)} {x:Str} {k:NameKind}:names.lookup x=some k→(x,k)∈names:=by
  induction names with
  | nil => intro e; simp at e
  | cons p r ih =>
    intro e
    rw [List.lookup_cons] at e
    cases hx:x == p.1 with
    | true =>
      rw [hx] at e
      cases e
      rw [eq_of_beq hx]; exact List.mem_cons_self
    | false =>
      rw [hx] at e
      exact List.mem_cons_of_mem _ (ih e)
theorem relabel_eq (sc:Scope) (env:Env):(relabel sc env).names=sc.names.map fun p => (p.1,if (p.2 == .free && env.scope.kind == .function && env.kindOf p.1 == some .cell)=true then NameKind.cell else p.2):=by
  show (sc.names.map _)=_
  refine List.map_congr_left fun p _ => ?_
  obtain ⟨n,k⟩:=p
  dsimp only
  split <;> rfl
theorem relabel_in {sc:Scope} {env:Env} {x:Str} {k:NameKind} (hc:∀ y∈sc.names,y.2≠.cell) (h:(relabel sc env).names.lookup x=some k) (hk:k = .cell∨k = .free):(x,NameKind.free)∈sc.names:=by
  have hm:=lookup_mem h
  rw [relabel_eq] at hm
  obtain ⟨p,hp,e⟩:=List.mem_map.mp hm
  obtain ⟨n,k'⟩:=p
  injection e with e1 e2
  dsimp only at e1 e2
  subst e1
  have hk':k' = .free:=by
    by_cases z:(k' == NameKind.free && env.scope.kind == .function && env.kindOf n == some .cell)=true
    · have z':=(Bool.and_eq_true_iff.mp (Bool.and_eq_true_iff.mp z).1).1
      exact eq_of_beq z'
    · rw [if_neg z] at e2
      rcases hk with w | w
      · exact absurd (e2.trans w) (hc _ hp)
      · exact e2.trans w
  subst hk'
  exact hp
theorem relabel_notlocal {sc:Scope} {env:Env} {x:Str} (hf:sc.names.lookup x=some .free):(relabel sc env).names.lookup x≠some .local:=by
  have key:∀ (g:Str→NameKind→NameKind) (l:List (Str×NameKind)),(l.map fun p => (p.1,g p.1 p.2)).lookup x=(l.lookup x).map (g x):=by
    intro g l
    induction l with
    | nil => rfl
    | cons p r ih =>
      rw [List.map_cons,List.lookup_cons,List.lookup_cons]
      cases hx:x == p.1 with
      | true => rw [eq_of_beq hx]; rfl
      | false => exact ih
  rw [relabel_eq,key fun n k => if (k == .free && env.scope.kind == .function && env.kindOf n == some .cell)=true then NameKind.cell else k,hf]
  intro z
  simp only [Option.map_some] at z
  split at z <;> cases z
def PTs (X:Cx) (ifs:List Expr) (t:TT):Prop :=
  ∀ (pins:List (Addr×Obj)) (s:Shared) (σ : St) (H:Hp) (Q:Bool→Hp→Prop),Inv X pins σ H s→t σ H Q →
    wpAny (model X.prog X.w) X.A (forIn ifs true fun c r => if r=true then do let ok ← isTrue c X.env (eval c X.env); pure (ForInStep.yield ok) else pure (ForInStep.yield r)) (TP X pins σ Q) X.xe s
def tYes:TT:=fun _ H Q => Q true H
theorem pts_nil {X:Cx}:PTs X [] tYes:=fun _ _ _ H _ I h => wpAny_tests_nil ⟨H,I,h⟩
def tLoop (J:It) (g:TG) (tt:TT) (te:TE) (D:Addr) (Q:VK) (σ : St) (H:Hp):Prop :=
  ∃ W:Nat→Nat→St→Hp→Prop,(∃ m,W 0 m σ H)∧∀ i m σ H,W i m σ H→(J.stop i H∧Q (.ref D) H)∨(J.go i H∧∃ (N1:V→St→Hp→Prop) (N2:St→Hp→Prop),
    (∀ y σ' H',N1 y σ' H'→∃ ys,H' D=some (.lst ys)∧ys.length < sizeLine∧∃ m',m' < m∧W (i + 1) m' σ' (upd H' D (.lst (ys ++ [y]))))∧(∀ σ' H',N2 σ' H'→∃ m',m' < m∧W (i + 1) m' σ' H') ∧
    ∀ x H',J.yld i H x H'→g x σ H' fun σ2 H2 => tt σ2 H2 fun b H3 => if b=true then te σ2 H3 (fun y H4 => N1 y σ2 H4) else N2 σ2 H3)
def tComp (wi:TI) (ix:List (Option Nat)) (g:Bk→TG) (tt:Bk→TT) (te:Bk→TE):TE:=fun σ H Q => wi σ H fun J H1 => ∀ (b:Bk) D,H1 D=none→tLoop J (g b) (tt b) (te b) D Q (bst ix σ) (upd H1 D (.lst []))
section
variable {X:Cx}
theorem blk_run {tg elt iter:Expr} {ifs:List Expr} {sc:Scope} {pos:Pos} {N':List Str} {ix:List (Option Nat)} {g:Bk→TG} {tt:Bk→TT} {te:Bk→TE} {Q:VK} {pins:List (Addr×Obj)} {σ : St} {H:Hp} {s:Shared} {it:Addr} {fp:List Addr} {tn:Nat→Heap→Prop} {J:It} {cl:List (Str×Addr)}
    {RR:Value→Addr→Result→Shared→Prop} {E:Value→Shared→Prop}
    (hc:X.calm=true) (hkind:sc.kind = .function) (hcell:∀ y∈sc.names,y.2≠.cell) (hfree:∀ p∈sc.names,p.2 = .free→X.env.kindOf p.1=some .cell) (hfrom:fromB X.N sc.names N' ix=true)
    (hg:∀ b:Bk,PG (X.blk N' sc b) tg (g b)) (ht:∀ b:Bk,PTs (X.blk N' sc b) ifs (tt b)) (he:∀ b:Bk,PE (X.blk N' sc b) elt (te b))
    (hcl:∀ x c,cl.lookup x=some c→X.env.cells.lookup x=some c) (hcl2:∀ p∈sc.names,p.2 = .free→∃ c,cl.lookup p.1=some c)
    (I:Inv X pins σ H s) (T:Turn X.prog X.w X.K tg J fp it tn) (st:tn 0 s.heap) (f2:∀ b∈fp,FpOk X pins H b) (q:∀ (b:Bk) D,H D=none→tLoop J (g b) (tt b) (te b) D Q (bst ix σ) (upd H D (.lst [])))
    (hRR:∀ D C (s':Shared) H',Inv X pins σ H' s'→Q (.ref D) H'→(∃ m,s'.heap.Ns C m)→H' C=none→C≠X.env.locals→X.s₀.heap.objs.size≤C→(∀ x c,X.env.cells.lookup x=some c→c≠C)→(∀ p∈X.pn ++ pins,p.1≠C)→RR (.ref D) C (.ok .next) s') :
    wpAny (model X.prog X.w) X.A (newList []) (fun acc s3 => wpAny (model X.prog X.w) X.A (newFunctionEnv sc X.env.globals cl [] X.env.qual none .none (some X.env)) (fun cenv s4 =>
      codeAny (model X.prog X.w) X.A (.compStart (.ListComp elt [⟨tg,iter,ifs,0⟩] sc pos) 0 (.ref it) acc { cenv with scope:=relabel sc X.env }) (RR acc cenv.locals) s4) E s3) E s:=by
  refine wpAny_newObj_type (wpAny_newFunctionEnv hcell (by intro y hy; simp at hy) (fun h1 hns hsb => ?_) hkind)
  dsimp only at hns hsb ⊢
  have I3:Inv X pins σ (upd H s.heap.objs.size (.lst [])) { s with heap:=s.heap.push { cls:=.type "list",dict:=none,data:=.seq ([]:List Value).toArray } } :=
    I.lnew (t':=s.toks) (ys:=[]) (its:=[]) .nil (by show 0≤sizeLine; decide)
  have hD:H s.heap.objs.size=none:=I.fresh
  generalize hDn:s.heap.objs.size=D at hns hsb I3 hD ⊢
  generalize hh:s.heap.push { cls:=.type "list",dict:=none,data:=.seq ([]:List Value).toArray } = hp at hns hsb I3 ⊢
  generalize hH3:upd H D (.lst [])=H3 at I3 ⊢
  generalize hCn:hp.objs.size=C at hns hsb ⊢
  have hDC:D < C:=by rw [← hCn,← hh,Heap.size_push,hDn]; exact Nat.lt_succ_self _
  have old:∀ b o,hp.get? b=some o→h1.get? b=some o:=fun b o e => hsb.extBut b o (by rw [← hCn]; exact Nat.ne_of_lt (Heap.lt_size e)) (Heap.get?_push_of_some _ e)
  have old0:∀ b o,s.heap.get? b=some o→hp.get? b=some o:=fun b o e => by rw [← hh]; exact Heap.get?_push_of_some _ e
  have fpLt:∀ b∈fp,b < D:=fun b hb => by
    obtain ⟨o,e,_⟩:=T.obj _ _ st b hb
    rw [← hDn]; exact Heap.lt_size e
  have I3s:Inv X pins σ H3 { s with heap:=hp }:=I3
  let B:Bk:=⟨cl,C,{ s with heap:=hp },H3,fp,X.pn ++ pins⟩
  have cellX:∀ x c,cl.lookup x=some c→c≠C∧∀ b∈fp,c≠b:=fun x c e => by
    obtain ⟨v,z⟩:=I3s.cell x c (hcl x c e)
    exact ⟨by rw [← hCn]; exact Nat.ne_of_lt z.lt,fun b hb => (f2 b hb).2.2.2.2.1 x c (hcl x c e)⟩
  have okY:(X.blk N' sc B).Ok:=by
    refine ⟨I.ok.mod,hkind,I.ok.glob,I.ok.blt,?_,fun x y c a b => I.ok.inj x y c (hcl x c a) (hcl y c b),fun x hx => ?_,(fun x c (a:false=true) => (nomatch a)),I.ok.hd,I.ok.frames,.inl rfl,fun b hb => ?_,fun b o e => ?_,?_,fun b o e hb => ?_,fun b hb z => ?_,I3s.stack,I3s.stkFree⟩
    · show hp.objs.size≤C
      rw [hCn]; exact Nat.le_refl _
    · have hx':(relabel sc X.env).names.lookup x=some .cell∨(relabel sc X.env).names.lookup x=some .free:=hx
      rcases hx' with z | z
      · exact hcl2 _ (relabel_in hcell z (.inl rfl)) rfl
      · exact hcl2 _ (relabel_in hcell z (.inr rfl)) rfl
    · exact ⟨Nat.ne_of_lt (Nat.lt_trans (fpLt b hb) hDC),fun x c e => (cellX x c e).2 b hb⟩
    · obtain ⟨z1,z2⟩:=I3s.bs b o e
      exact ⟨z1,z2⟩
    · exact Nat.le_trans I.ok.bsz I3s.sz
    · rcases (f2 b hb).2.2.2.1 with z | z
      · exact I.ok.noex b o e z
      · exact absurd (Nat.lt_of_lt_of_le (Heap.lt_size (h:=X.base) e) (Nat.le_trans I.ok.bsz z)) (Nat.lt_irrefl _)
    · rcases List.mem_cons.mp (I.stkSub b z) with w | w
      · exact (f2 b hb).2.1 w
      · exact (f2 b hb).2.2.1 w
  have frC:∀ b∈frs X.stack,b≠C:=fun b hb => by
    obtain ⟨_,o,ho,_⟩:=I3s.stack.mem hb
    rw [← hCn]; exact Nat.ne_of_lt (Heap.lt_size (h:=hp) ho)
  obtain ⟨hlen,hix⟩:=fromB_ok hfrom
  have IY:Inv (X.blk N' sc B) [] (bst ix σ) H3 { s with heap:=h1,toks:=s.toks + ([]:List (Str×Value)).length }:=by
    refine ⟨okY,rfl,I.bare,Un.kept old,⟨_,hns,fun i x v e1 e2 e3 => ?_⟩,fun x c e => ?_,I3s.hok.fresh (by show hp.objs.size≤C; rw [hCn]; exact Nat.le_refl _),fun x c e => I3s.freeC x c (hcl x c e),fun p hp' => ?_,I3s.hok.kept old,by show (bst ix σ).length=N'.length; rw [← hlen]; simp [bst]⟩
    · have e1':N'[i]? = some x:=e1
      unfold bst at e2
      rw [List.getElem?_map] at e2
      cases hi:ix[i]? with
      | none => rw [hi] at e2; cases e2
      | some o =>
        rw [hi] at e2
        cases o with
        | none => cases e2
        | some j =>
          obtain ⟨hj,hfr⟩:=hix i j x e1' hi
          have e2':(σ[j]?).getD none=some v:=Option.some.inj e2
          have e4 : σ[j]? = some (some v):=by
            cases z : σ[j]? with
            | none => rw [z] at e2'; cases e2'
            | some w => rw [z] at e2'; exact congrArg some e2'
          have hkX:=hfree _ (lookup_mem hfr) rfl
          obtain ⟨m,hn,hl⟩:=I3s.loc
          obtain ⟨u,r,l⟩:=hl j x v hj e4 (.inr (.inl hkX))
          refine ⟨u,r,.inr ⟨?_,?_⟩⟩
          · have e3':(relabel sc X.env).names.lookup x=some .local∨(relabel sc X.env).names.lookup x=some .cell∨(relabel sc X.env).names.lookup x=some .free:=e3
            rcases e3' with z | z
            · exact absurd z (relabel_notlocal hfr)
            · exact z
          · obtain ⟨c,hc'⟩:=hcl2 _ (lookup_mem hfr) rfl
            refine ⟨c,hc',?_⟩
            rcases l with ⟨z,_⟩ | ⟨_,d,hd,hcell'⟩
            · rw [hkX] at z; cases z
            · rw [hcl x c hc'] at hd
              cases hd
              obtain ⟨o,ho,hod⟩:=hcell'
              exact ⟨o,old _ o ho,hod⟩
    · obtain ⟨v,o,ho,hod⟩:=I3s.cell x c (hcl x c e)
      exact ⟨v,o,old _ o ho,hod⟩
    · have hp'':p∈X.pn ++ pins:=by simpa [Cx.blk,B] using hp'
      obtain ⟨z1,z2,z3,z4,z5⟩:=I3s.pin p hp''
      refine ⟨old _ _ z1,z2,by show p.1≠C; rw [← hCn]; exact Nat.ne_of_lt (Heap.lt_size (h:=hp) z1),fun z => ?_,z5⟩
      rcases List.mem_cons.mp (I.stkSub p.1 z) with w | w
      · exact z3 w
      · exact z4 w
  have st1:tn 0 h1:=T.keep _ _ _ st fun b _ o e => old b o (old0 b o e)
  have fpY:∀ {H':Hp},(∀ b∈fp,H' b=none)→∀ b∈fp,FpOk (X.blk N' sc B) [] H' b:=fun hn b hb => by
    refine ⟨hn b hb,Nat.ne_of_lt (Nat.lt_trans (fpLt b hb) hDC),okY.exfs b hb,.inl hb,fun x c e => (cellX x c e).2 b hb,fun p hp' => ?_⟩
    have hp'':p∈X.pn ++ pins:=by simpa [Cx.blk,B] using hp'
    exact (f2 b hb).2.2.2.2.2 p hp''
  have qD:=q B D hD
  rw [hH3] at qD
  obtain ⟨W,⟨m0,w0⟩,turn⟩:=qD
  have fin:∀ {i:Nat} {σ':St} {H':Hp} {s':Shared},Inv (X.blk N' sc B) [] σ' H' s'→Q (.ref D) H'→RR (.ref D) C (.ok .next) s':=fun {i σ' H' s'} I' q' => by
    have IX:Inv X pins σ H' s':=I3s.call' (ch:=fp) I'.os I'.base I'.hok I'.bare fun b hb => by
      obtain ⟨_,a2,_,a4,a5,a6⟩:=f2 b hb
      exact ⟨a4,a2,a5,a6⟩
    have hCs:X.s₀.heap.objs.size≤C:=Nat.le_trans I3s.sz (by show hp.objs.size≤C; rw [hCn]; exact Nat.le_refl _)
    refine hRR D C s' H' IX q' (let ⟨m,hn,_⟩:=I'.loc; ⟨m,hn⟩) I'.free ?_ hCs (fun x c e => ?_) fun p hp' => ?_
    · rw [← hCn]; exact Nat.ne_of_gt I3s.lt
    · obtain ⟨v,z⟩:=I3s.cell x c e
      rw [← hCn]; exact Nat.ne_of_lt z.lt
    · rw [← hCn]; exact Nat.ne_of_lt (Heap.lt_size (h:=hp) (I3s.pin p hp').1)
  have loop:codeAny (model X.prog X.w) X.A (.compLoop (.ListComp elt [⟨tg,iter,ifs,0⟩] sc pos) 0 (.ref it) (.ref D) (compEnvC sc cl C X.env)) (RR (.ref D) C) { s with heap:=h1,toks:=s.toks + ([]:List (Str×Value)).length }:=by
    refine codeAny_loop rfl (fun n s' => ∃ i σ' H',Inv (X.blk N' sc B) [] σ' H' s'∧tn i s'.heap∧(∀ b∈fp,H' b=none)∧W i n σ' H') (fun n s5 hI => ?_) m0 ⟨0,_,_,IY,st1,fun b hb => ?_,w0⟩
    · obtain ⟨i,σ5,H5,I5,st5,fr5,w5⟩:=hI
      show wpAny _ _ ((compTurn (.ListComp elt [⟨tg,iter,ifs,0⟩] sc pos) 0 (.ref it) (.ref D) (compEnvC sc cl C X.env)).onRaise (fun x => do noteFrame x (compEnvC sc cl C X.env); theTreesLotGoes x)) _ _ s5
      refine wpAny_noted ?_
      rw [compTurn_list]
      refine wpAny_bind (wpAny_standAt ?_)
      rcases turn i n σ5 H5 w5 with ⟨stop,qn⟩ | ⟨go,N1,N2,hN1,hN2,step⟩
      · refine wpAny_bind (wpAny_mono (T.done (X.blk N' sc B) rfl rfl rfl hc i [] s5 σ5 H5 (fun _ _ => False) I5 (fpY fr5) st5 stop) (fun r s6 h6 => ?_) fun _ _ f => f.elim)
        obtain ⟨hr,I6⟩:=h6
        subst hr
        exact wpAny_pure (fin (i:=i) I6 qn)
      · refine wpAny_bind (wpAny_mono (T.item (X.blk N' sc B) rfl rfl rfl hc i [] s5 σ5 H5 (fun _ _ => False) I5 (fpY fr5) st5 go) (fun r s6 h6 => ?_) fun _ _ f => f.elim)
        obtain ⟨u,hr,h6⟩:=h6
        subst hr
        refine wpAny_bind (wpAny_mono h6 (fun _ s7 h7 => ?_) fun _ _ f => f.elim)
        obtain ⟨x,H7,I7,r7,y7,st7,fr7⟩:=h7
        have I7':=I7.pinned (fpY fr7) (T.obj _ _ st7)
        refine wpAny_bind (wpAny_mono (hg B _ s7 σ5 H7 x u _ I7' r7 (step x H7 y7)) (fun _ s8 h8 => ?_) fun _ _ f => f.elim)
        obtain ⟨σ8,H8,I8,q8⟩:=h8
        refine wpAny_bind (wpAny_mono (ht B _ s8 σ8 H8 _ I8 q8) (fun ok s9 h9 => ?_) fun _ _ f => f.elim)
        obtain ⟨H9,I9,q9⟩:=h9
        have again:∀ {s':Shared} {H':Hp},Inv (X.blk N' sc B) ([] ++ pinsAt fp s7.heap) σ8 H' s'→(∃ m',m' < n∧W (i + 1) m' σ8 H') →
            ∃ m,m < n∧∃ i σ' H',Inv (X.blk N' sc B) [] σ' H' s'∧tn i s'.heap∧(∀ b∈fp,H' b=none)∧W i m σ' H':=fun {s' H'} I' w' => by
          obtain ⟨m',hm,w'⟩:=w'
          have pn:∀ b∈fp,∀ o,s7.heap.get? b=some o→s'.heap.get? b=some o∧H' b=none:=fun b hb o e => by
            have z:=I'.pin (b,o) (List.mem_append_right _ (List.mem_append_right _ (mem_pinsAt hb e)))
            exact ⟨z.1,z.2.1⟩
          refine ⟨m',hm,i + 1,σ8,H',I'.unpinned,T.keep _ _ _ st7 fun b hb o e => (pn b hb o e).1,fun b hb => ?_,w'⟩
          obtain ⟨o,e,_⟩:=T.obj _ _ st7 b hb
          exact (pn b hb o e).2
        cases ok with
        | false =>
          have q9':N2 σ8 H9:=by simpa using q9
          exact wpAny_pure ⟨rfl,again I9 (hN2 _ _ q9')⟩
        | true =>
          have q9':te B σ8 H9 fun y H4 => N1 y σ8 H4:=by simpa using q9
          refine wpAny_bind (wpAny_bind (wpAny_mono (he B _ s9 σ8 H9 _ I9 q9') (fun y sA hA => ?_) fun _ _ f => f.elim))
          obtain ⟨yv,HA,IA,rA,nA⟩:=hA
          obtain ⟨ys,eA,zA,w'⟩:=hN1 _ _ _ nA
          refine wpAny_bind (wpAny_mono (mt_append (X:=X.blk N' sc B) _ sA σ8 HA (.ref D) [yv] (.ref D) [y] (fun _ H' => H'=upd HA D (.lst (ys ++ [yv]))) IA rfl (.cons rA .nil) ⟨D,ys,yv,rfl,rfl,eA,zA,rfl⟩) (fun _ sB hB => ?_) fun _ _ f => f.elim)
          obtain ⟨_,HB,IB,_,eB⟩:=hB
          subst eB
          exact wpAny_pure (wpAny_pure ⟨rfl,again IB w'⟩)
    · rw [← hH3,upd_ne (Nat.ne_of_lt (fpLt b hb))]
      exact (f2 b hb).1
  exact codeAny_compStart_list loop (T.self _ 0 _ _ _ st1 loop)
theorem pe_comp {tg elt iter:Expr} {ifs:List Expr} {sc:Scope} {pos:Pos} {wi:TI} {g:Bk→TG} {tt:Bk→TT} {te:Bk→TE} (N':List Str) (ix:List (Option Nat)) (hc:X.calm=true)
    (hi:PI X tg iter wi) (hg:∀ b:Bk,PG (X.blk N' sc b) tg (g b)) (ht:∀ b:Bk,PTs (X.blk N' sc b) ifs (tt b)) (he:∀ b:Bk,PE (X.blk N' sc b) elt (te b)) {N:List Str} {ks:List (Str×NameKind)}
    (hN:X.N=N) (hks:X.env.scope.names=ks) (hfree:∀ p∈sc.names,p.2 = .free→ks.lookup p.1=some .cell) (hfrom:fromB N sc.names N' ix=true)
    (hcell:∀ y∈sc.names,y.2≠.cell) (hnames:∀ y∈sc.names,y.2 = .local→sc.names.lookup y.1=some .local) (hkind:sc.kind = .function:=by rfl)
    (hs:∀ x,foldedSetIterable iter X.env x=pure x:=by intro _; rfl):PE X (.ListComp elt [⟨tg,iter,ifs,0⟩] sc pos) (tComp wi ix g tt te):=by
  intro pins s σ H Q I h
  have hfree':∀ p∈sc.names,p.2 = .free→X.env.kindOf p.1=some .cell:=fun p hp hf => by
    show X.env.scope.names.lookup p.1=_
    rw [hks]; exact hfree p hp hf
  obtain ⟨cl,hclos,hcl,hcl2⟩:=closure_of (sc:=sc) (env:=X.env) fun p hp hf => I.ok.has p.1 (.inl (hfree' p hp hf))
  rw [eval_ListComp]
  refine wpAny_comprehension_free (use:=none) rfl hs hclos hkind hnames (thn (hi pins s σ H _ I h) fun v s1 h1 => thn h1 fun itv s2 h2 => ?_)
  obtain ⟨it,fp,tn,J,H2,e,I2,T,st2,f2,q⟩:=h2
  subst e
  refine blk_run (RR:=fun acc C => compPost (model X.prog X.w) X.A X.xe none (EP X pins σ Q) acc C) hc hkind hcell hfree' (by rw [hN]; exact hfrom) hg ht he hcl hcl2 I2 T st2 f2 q ?_
  intro D C s' H' I' q' hns hC hL hsz hcel hpin
  obtain ⟨m,hn⟩:=hns
  refine ⟨m,hn,fun h' hsb => ?_⟩
  exact ⟨.ref D,H',I'.turned (t':=s'.toks) (fun b o hb e => hsb.extBut b o hb e) hC hL (.inr hsz) hcel hpin,rfl,q'⟩
theorem ps_comp {i:Nat} {y:Str} {py spos:Pos} {tg elt iter:Expr} {ifs:List Expr} {sc:Scope} {pos:Pos} {wi:TI} {g:Bk→TG} {tt:Bk→TT} {te:Bk→TE} (N':List Str) (ix:List (Option Nat)) (hc:X.calm=true) (hNd:X.N.Nodup) (hiy:X.N[i]? = some y) (hy:X.env.scope.names.lookup y=some .local)
    (hi:PI X tg iter wi) (hg:∀ b:Bk,PG (X.blk N' sc b) tg (g b)) (ht:∀ b:Bk,PTs (X.blk N' sc b) ifs (tt b)) (he:∀ b:Bk,PE (X.blk N' sc b) elt (te b)) {N:List Str} {ks:List (Str×NameKind)}
    (hN:X.N=N) (hks:X.env.scope.names=ks) (hfree:∀ p∈sc.names,p.2 = .free→ks.lookup p.1=some .cell) (hfrom:fromB N sc.names N' ix=true)
    (hcell:∀ y∈sc.names,y.2≠.cell) (hnames:∀ y∈sc.names,y.2 = .local→sc.names.lookup y.1=some .local) (hkind:sc.kind = .function:=by rfl)
    (hs:∀ x,foldedSetIterable iter X.env x=pure x:=by intro _; rfl) (hsw:swapsWith (.ListComp elt [⟨tg,iter,ifs,0⟩] sc pos) (some (.Name y py)) spos.line X.env=pure true:=by rfl) :
    PS X (.Assign [.Name y py] (.ListComp elt [⟨tg,iter,ifs,0⟩] sc pos) spos) (tAsg (tComp wi ix g tt te) (gName i)):=by
  intro pins s σ H D I h
  have hfree':∀ p∈sc.names,p.2 = .free→X.env.kindOf p.1=some .cell:=fun p hp hf => by
    show X.env.scope.names.lookup p.1=_
    rw [hks]; exact hfree p hp hf
  obtain ⟨cl,hclos,hcl,hcl2⟩:=closure_of (sc:=sc) (env:=X.env) fun p hp hf => I.ok.has p.1 (.inl (hfree' p hp hf))
  rw [exec_Assign_Name_used _ _ _ _ hsw]
  refine wpAny_bind (wpAny_standAt (wpAny_bind ?_))
  show wpAny _ X.A (do let _ ← comprehension (.ListComp elt [⟨tg,iter,ifs,0⟩] sc pos) sc X.env _ (newList []) false (eval iter X.env) (some (assign (.Name y py) X.env))) _ _ s
  refine wpAny_bind (wpAny_mono (wpAny_comprehension_free (use:=some (assign (.Name y py) X.env)) (Q:=fun _ s' => SP X pins D .next s') rfl hs hclos hkind hnames
    (thn (hi pins s σ H _ I h) fun v s1 h1 => thn h1 fun itv s2 h2 => ?_)) (fun _ s' hq => wpAny_pure (wpAny_pure hq)) fun _ _ e => e)
  obtain ⟨it,fp,tn,J,H2,e,I2,T,st2,f2,q⟩:=h2
  subst e
  refine blk_run (Q:=fun x H1 => gName i x σ H1 D.nx) (RR:=fun acc C => compPost (model X.prog X.w) X.A X.xe (some (assign (.Name y py) X.env)) (fun _ s' => SP X pins D .next s') acc C) hc hkind hcell hfree' (by rw [hN]; exact hfrom) hg ht he hcl hcl2 I2 T st2 f2 q ?_
  intro E C s' H' I' q' hns hC hL hsz hcel hpin
  obtain ⟨m,hn⟩:=hns
  show wpAny _ X.A (assign (.Name y py) X.env (.ref E)) _ _ _
  refine wpAny_assign_Name (store_ok2 I' hNd hiy (.inl hy) (show RelV (.ref E) (.ref E) from rfl) (fun s2 I2' hch => ?_) (.inr hy))
  obtain ⟨a,hsb,ha⟩:=hch
  have haC:C≠a:=by
    rcases ha with z | z
    · rw [z]; exact hL
    · exact (hcel _ _ z).symm
  refine ⟨m,hn.sameBut hsb haC,fun h' hsb' => ?_⟩
  exact ⟨_,H',I2'.turned (t':=s2.toks) (fun b o hb e => hsb'.extBut b o hb e) hC hL (.inr hsz) hcel hpin,q'⟩
end
theorem comp_range {lo:Int} {n:Nat} {g:TG} {tt:TT} {te:TE} {D:Addr} {Q:VK} {σ : St} {H:Hp} (Pv:Nat→List V→St→Hp→Prop) (h0:Pv 0 [] σ (upd H D (.lst [])))
    (hs:∀ i ys σ H,i < n→H D=some (.lst ys)→Pv i ys σ H→g (.int (lo + i)) σ H fun σ2 H2 => tt σ2 H2 fun b H3 =>
      if b=true then te σ2 H3 fun y H4 => H4 D=some (.lst ys)∧ys.length < sizeLine∧Pv (i + 1) (ys ++ [y]) σ2 (upd H4 D (.lst (ys ++ [y]))) else H3 D=some (.lst ys)∧Pv (i + 1) ys σ2 H3)
    (hd:∀ ys σ H,H D=some (.lst ys)→Pv n ys σ H→Q (.ref D) H) :
    tLoop (Itr lo n) g tt te D Q σ (upd H D (.lst [])):=by
  refine ⟨fun i m σ H => m=n - i∧i≤n∧∃ ys,H D=some (.lst ys)∧Pv i ys σ H,⟨n,by simp,Nat.zero_le _,[],upd_same,h0⟩,?_⟩
  rintro i m σ H ⟨rfl,hi,ys,hD,p⟩
  by_cases hlt:i < n
  · refine .inr ⟨hlt,fun y σ' H' => H' D=some (.lst ys)∧ys.length < sizeLine∧Pv (i + 1) (ys ++ [y]) σ' (upd H' D (.lst (ys ++ [y]))),fun σ' H' => H' D=some (.lst ys)∧Pv (i + 1) ys σ' H',
      fun y σ' H' q => ⟨ys,q.1,q.2.1,n - (i + 1),by omega,rfl,hlt,_,upd_same,q.2.2⟩,fun σ' H' q => ⟨n - (i + 1),by omega,rfl,hlt,ys,q⟩,fun x H' y => ?_⟩
    obtain ⟨e,y⟩:=y
    subst e y
    exact hs i ys σ _ hlt hD p
  · have e:i=n:=by omega
    subst e
    exact .inl ⟨Nat.le_refl _,hd ys σ H hD p⟩
theorem comp_list {K:PySem.W.Frag} {a:Addr} {xs:List V} {g:TG} {tt:TT} {te:TE} {D:Addr} {Q:VK} {σ : St} {H:Hp} (Pv:Nat→List V→St→Hp→Prop) (h0:Pv 0 [] σ (upd H D (.lst [])))
    (hl:∀ i ys σ H,i≤xs.length→H D=some (.lst ys)→Pv i ys σ H→SqL K H a xs)
    (hs:∀ i x ys σ H,xs[i]? = some x→H D=some (.lst ys)→Pv i ys σ H→g x σ H fun σ2 H2 => tt σ2 H2 fun b H3 =>
      if b=true then te σ2 H3 fun y H4 => H4 D=some (.lst ys)∧ys.length < sizeLine∧Pv (i + 1) (ys ++ [y]) σ2 (upd H4 D (.lst (ys ++ [y]))) else H3 D=some (.lst ys)∧Pv (i + 1) ys σ2 H3)
    (hd:∀ ys σ H,H D=some (.lst ys)→Pv xs.length ys σ H→Q (.ref D) H) :
    tLoop (Itl K a) g tt te D Q σ (upd H D (.lst [])):=by
  refine ⟨fun i m σ H => m=xs.length - i∧i≤xs.length∧∃ ys,H D=some (.lst ys)∧Pv i ys σ H,⟨xs.length,by simp,Nat.zero_le _,[],upd_same,h0⟩,?_⟩
  rintro i m σ H ⟨rfl,hi,ys,hD,p⟩
  have hq:=hl i ys σ H hi hD p
  by_cases hlt:i < xs.length
  · refine .inr ⟨⟨xs,xs[i],hq,by simp [hlt]⟩,fun y σ' H' => H' D=some (.lst ys)∧ys.length < sizeLine∧Pv (i + 1) (ys ++ [y]) σ' (upd H' D (.lst (ys ++ [y]))),fun σ' H' => H' D=some (.lst ys)∧Pv (i + 1) ys σ' H',
      fun y σ' H' q => ⟨ys,q.1,q.2.1,xs.length - (i + 1),by omega,rfl,hlt,_,upd_same,q.2.2⟩,fun σ' H' q => ⟨xs.length - (i + 1),by omega,rfl,hlt,ys,q⟩,fun x H' y => ?_⟩
    obtain ⟨e,y⟩:=y
    subst e
    exact hs i x ys σ _ (y xs hq) hD p
  · have e:i=xs.length:=by omega
    subst e
    exact .inl ⟨⟨xs,hq,Nat.le_refl _⟩,hd ys σ H hD p⟩
theorem comp_rangeA {lo:Int} {n:Nat} {g:TG} {te:TE} {D:Addr} {Q:VK} {σ : St} {H:Hp} (Pv:Nat→List V→St→Hp→Prop) (h0:Pv 0 [] σ (upd H D (.lst [])))
    (hs:∀ i ys σ H,i < n→H D=some (.lst ys)→Pv i ys σ H→g (.int (lo + i)) σ H fun σ2 H3 => te σ2 H3 fun y H4 => H4 D=some (.lst ys)∧ys.length < sizeLine∧Pv (i + 1) (ys ++ [y]) σ2 (upd H4 D (.lst (ys ++ [y]))))
    (hd:∀ ys σ H,H D=some (.lst ys)→Pv n ys σ H→Q (.ref D) H):tLoop (Itr lo n) g tYes te D Q σ (upd H D (.lst [])) :=
  comp_range Pv h0 (fun i ys σ H hi hD p => hs i ys σ H hi hD p) hd
theorem comp_listA {K:PySem.W.Frag} {a:Addr} {xs:List V} {g:TG} {te:TE} {D:Addr} {Q:VK} {σ : St} {H:Hp} (Pv:Nat→List V→St→Hp→Prop) (h0:Pv 0 [] σ (upd H D (.lst [])))
    (hl:∀ i ys σ H,i≤xs.length→H D=some (.lst ys)→Pv i ys σ H→SqL K H a xs)
    (hs:∀ i x ys σ H,xs[i]? = some x→H D=some (.lst ys)→Pv i ys σ H→g x σ H fun σ2 H3 => te σ2 H3 fun y H4 => H4 D=some (.lst ys)∧ys.length < sizeLine∧Pv (i + 1) (ys ++ [y]) σ2 (upd H4 D (.lst (ys ++ [y]))))
    (hd:∀ ys σ H,H D=some (.lst ys)→Pv xs.length ys σ H→Q (.ref D) H):tLoop (Itl K a) g tYes te D Q σ (upd H D (.lst [])) :=
  comp_list Pv h0 hl (fun i x ys σ H hi hD p => hs i x ys σ H hi hD p) hd
end L2
namespace L2
open PySem PySem.Spec PyProof.Rows
def Ite (K:PySem.W.Frag) (a:Addr):It :=
  ⟨fun i H => ∃ xs x,SqL K H a xs∧xs[i]? = some x,fun i H y H' => ∃ t x,y = .ref t∧H t=none∧H'=upd H t (.tup [.int i,x])∧∀ xs,SqL K H a xs→xs[i]? = some x,fun i H => ∃ xs,SqL K H a xs∧xs.length≤i⟩
theorem turn_enum {P:Program} {w:World} {K:PySem.W.Frag} {elts:List Expr} {x1:Nat} {tp:Pos} (a e it:Addr) (hne:e≠it) :
    Turn P w K (.Tuple elts x1 tp) (Ite K a) [e,it] e (fun i h => (∃ old,IsEnum h e it (i:Nat) old)∧h.IsListIter it a i) where
  mem:=by simp
  obj:=fun i h st b hb => by
    obtain ⟨⟨old,he⟩,o,ho,hc,hd⟩:=st
    rcases List.mem_cons.mp hb with z | hb
    · subst z
      exact ⟨_,he,fun v z => by cases (show Data.fields _=Data.cell v from z)⟩
    · have z:b=it:=by simpa using hb
      subst z
      exact ⟨o,ho,fun v z => by rw [hd] at z; cases z⟩
  keep:=fun i h h' st k => by
    obtain ⟨⟨old,he⟩,hit⟩:=st
    exact ⟨⟨old,k e (by simp) _ he⟩,hit.at fun o z => k it (by simp) o z⟩
  item:=by
    intro X hP hw hK hc i pins s σ H E I hf st hg
    subst hP hw hK
    obtain ⟨⟨old,he⟩,hit⟩:=st
    obtain ⟨xs,x,hq,hx⟩:=hg
    obtain ⟨its,rv,pl,hz⟩:=I.list hq
    obtain ⟨u,hu,ru⟩:=rv.get hx
    obtain ⟨f0,f1,f2,f3,f4,f5⟩:=hf e (by simp)
    obtain ⟨g0,g1,g2,g3,g4,g5⟩:=hf it (by simp)
    refine wpAny_pyNext_enum_item he hit pl.isList (x:=u) (by simpa using hu) hne fun h1 heo hit1 ht1 hz1 hk1 => ⟨_,rfl,?_⟩
    refine wpAny_letOwnedTupleGo_enum heo fun h2 he2 hs2 => ?_
    have hk2:∀ b o,b≠e→b≠it→s.heap.get? b=some o→h2.get? b=some o:=fun b o n1 n2 q => (hs2.2 b n1).trans (hk1 b o n1 n2 q)
    have elt:e < s.heap.objs.size:=Heap.lt_size he
    have ilt:it < s.heap.objs.size:=by obtain ⟨o,z,_⟩:=hit; exact Heap.lt_size z
    have hTe:s.heap.objs.size≠e:=Nat.ne_of_gt elt
    have hT:h2.get? s.heap.objs.size=some { cls:=.type "tuple",data:=.seq #[.int i s.toks,u] }:=(hs2.2 _ hTe).trans ht1
    have hn:H s.heap.objs.size=none:=I.fresh
    have hob:∀ b o,h2.get? b=some o∨s.heap.get? b=some o→True:=fun _ _ _ => trivial
    have e2:∃ o,h2.get? e=some o:=⟨_,he2⟩
    have i2:∃ o,h2.get? it=some o:=by
      obtain ⟨o,z,_⟩:=hit1
      exact ⟨o,(hs2.2 it hne.symm).trans z⟩
    have I2:Inv X pins σ (upd H s.heap.objs.size (.tup [.int i,x])) { s with heap:=h2,toks:=s.toks + 1 }:=by
      refine I.step (g':=s.gens) (d':=s.drawn) (ch:=[e,it]) (fun b hb => ?_) (fun b o _ _ hcb q _ => ?_) (fun b o _ _ hcb q _ => ?_) (fun b o _ q n => ?_) (fun b o hcb q => ?_) (fun b ys q => ?_) (fun b o v q => ?_) (fun b qs q => ?_) (fun m hm => ?_) (fun b v q => ?_) I.bare
      · rcases List.mem_cons.mp hb with z | hb
        · subst z; exact ⟨f3,f1,f4,f5⟩
        · have z:b=it:=by simpa using hb
          subst z; exact ⟨g3,g1,g4,g5⟩
      · exact hk2 b o (fun z => hcb (by simp [z])) (fun z => hcb (by simp [z])) q
      · exact ⟨o.slots,hk2 b o (fun z => hcb (by simp [z])) (fun z => hcb (by simp [z])) q⟩
      · rw [upd_ne (Nat.ne_of_lt (Heap.lt_size q))]; exact n
      · exact ⟨o,hk2 b o (fun z => hcb (by simp [z])) (fun z => hcb (by simp [z])) q⟩
      · rw [upd_ne (ne_of_none q hn)]; exact q
      · rw [upd_ne (ne_of_none q hn)]; exact q
      · exact ⟨#[],by rw [upd_ne (ne_of_none q hn),q]; simp⟩
      · obtain ⟨o,es,ep,ho,r⟩:=hm
        exact ⟨o,es,ep,hk2 _ o (Ne.symm f1) (Ne.symm g1) ho,r⟩
      · by_cases hb:b=s.heap.objs.size
        · subst hb
          rw [upd_same] at q
          cases q
          exact ⟨by show 2≤sizeLine; decide,[.int i s.toks,u],.cons ⟨_,rfl⟩ (.cons ru .nil),_,hT,rfl,_,rfl⟩
        · rw [upd_ne hb] at q
          refine (I.hok b v q).stay (fun c o hc' z => hk2 c o ?_ ?_ z) (fun c z => by rw [upd_ne (ne_of_none z hn)]; exact z) fun c ys z => by rw [upd_ne (ne_of_none z hn)]; exact z
          · rcases hc' with y | y
            · rw [y]; exact fun w => by rw [w,f0] at q; cases q
            · exact fun w => by rw [w,f0] at y; cases y
          · rcases hc' with y | y
            · rw [y]; exact fun w => by rw [w,g0] at q; cases q
            · exact fun w => by rw [w,g0] at y; cases y
    refine ⟨.ref s.heap.objs.size,_,I2,rfl,⟨_,x,rfl,hn,rfl,fun ys hy => by rw [I.list_inj hy hq]; exact hx⟩,⟨⟨_,he2⟩,?_⟩,fun b hb => ?_⟩
    · exact hit1.at fun o z => (hs2.2 it hne.symm).trans z
    · rcases List.mem_cons.mp hb with z | hb
      · subst z; rw [upd_ne hTe.symm]; exact f0
      · have z:b=it:=by simpa using hb
        subst z; rw [upd_ne (Nat.ne_of_lt ilt)]; exact g0
  done:=by
    intro X hP hw hK hc i pins s σ H E I hf st hg
    subst hP hw hK
    obtain ⟨⟨old,he⟩,hit⟩:=st
    obtain ⟨xs,hq,hx⟩:=hg
    obtain ⟨its,rv,pl,hz⟩:=I.list hq
    obtain ⟨g0,g1,g2,g3,g4,g5⟩:=hf it (by simp)
    have hl:=rv.length
    exact wpAny_pyNext_enum_end (I.ok.hd hc) he hit pl.isList (by simp; omega) fun h' eb => ⟨rfl,I.turned (t':=s.toks) (fun b o hb q => eb b o hb q) g0 g1 g3 g4 g5⟩
  self:=fun _ _ _ _ _ st h => by
    obtain ⟨⟨old,he⟩,_⟩:=st
    exact wpAny_pyIter_enum he h
section
variable {X:Cx}
def iEnum (K:PySem.W.Frag) (ta:TA):TI:=fun σ H R => ta σ H fun vs H1 => ∃ a,vs=[.ref a]∧(∃ xs,SqL K H1 a xs)∧R (Ite K a) H1
theorem pi_enum {elts:List Expr} {x1:Nat} {tp:Pos} {a:Expr} {ta:TA} {p pos:Pos} (hg:Gl X "enumerate") (hm:X.mg "enumerate" = none) (ha:PA X [a] ta) (hs:starEach [a] X.env=[(false,eval a X.env)]:=by rfl) :
    PI X (.Tuple elts x1 tp) (.Call (.Name "enumerate" p) [a] [] pos) (iEnum X.K ta):=by
  intro pins s σ H R I h
  refine Call_ (ld_blt I hg hm (by decide +kernel:bootBuiltins "enumerate" = some (.type "enumerate")) (PyProof.Rows.callWith_type1 (thn (ha pos pins s σ H _ I h) fun us s1 ⟨vs,H1,I1,r1,q1⟩ => ?_) hs rfl))
  obtain ⟨b,e,⟨xs,hq⟩,q⟩:=q1
  subst e
  obtain ⟨u,rfl,ru⟩:=Vals.one r1
  cases (show u=Value.ref b from ru)
  obtain ⟨its,rv,pl,hz⟩:=I1.list hq
  refine call_enumerate_list pl.isList fun h' he hit hsz hk => ?_
  refine wpAny_pyIter_enum he ?_
  have I2:Inv X pins σ H1 { s1 with heap:=h' }:=I1.kept (t':=s1.toks) hk
  refine ⟨s1.heap.objs.size + 1,[s1.heap.objs.size + 1,s1.heap.objs.size],_,_,H1,rfl,I2,turn_enum b (s1.heap.objs.size + 1) s1.heap.objs.size (Nat.succ_ne_self _),⟨⟨.none,he⟩,hit⟩,fun c hc => ?_,q⟩
  rcases List.mem_cons.mp hc with z | hc
  · subst z; exact I1.fpOk (Nat.le_succ _) (I1.hok.fresh (Nat.le_succ _))
  · have z:c=s1.heap.objs.size:=by simpa using hc
    subst z; exact I1.fpOk (Nat.le_refl _) (I1.hok.fresh (Nat.le_refl _))
end
theorem for_enum {K:PySem.W.Frag} {a:Addr} {xs:List V} {g:TG} {tb:TS} {D:Ends} {σ : St} {H:Hp} (Pv:Nat→St→Hp→Prop) (h0:Pv 0 σ H) (hl:∀ i σ H,i≤xs.length→Pv i σ H→SqL K H a xs)
    (hs:∀ i x t σ H,xs[i]? = some x→H t=none→Pv i σ H→g (.ref t) σ (upd H t (.tup [.int i,x])) fun σ2 H2 => tb { D with nx:=Pv (i + 1),ct:=Pv (i + 1),bk:=D.nx } σ2 H2) (hd:∀ σ H,Pv xs.length σ H→D.nx σ H) :
    ∃ W:Nat→Nat→St→Hp→Prop,(∃ m,W 0 m σ H)∧∀ i m σ H,W i m σ H →
      ((Ite K a).stop i H∧D.nx σ H)∨((Ite K a).go i H∧∃ N:St→Hp→Prop,(∀ σ' H',N σ' H'→∃ m',m' < m∧W (i + 1) m' σ' H')∧∀ x H',(Ite K a).yld i H x H'→g x σ H' fun σ2 H2 => tb { D with nx:=N,ct:=N,bk:=D.nx } σ2 H2):=by
  refine ⟨fun i m σ H => m=xs.length - i∧i≤xs.length∧Pv i σ H,⟨xs.length,by simp,Nat.zero_le _,h0⟩,?_⟩
  rintro i m σ H ⟨rfl,hi,p⟩
  have q:=hl i σ H hi p
  by_cases hlt:i < xs.length
  · refine .inr ⟨⟨xs,xs[i],q,by simp [hlt]⟩,Pv (i + 1),fun σ' H' p' => ⟨xs.length - (i + 1),by omega,rfl,hlt,p'⟩,fun y H' hy => ?_⟩
    obtain ⟨t,x,rfl,ht,rfl,hx⟩:=hy
    exact hs i x t σ H (hx xs q) ht p
  · have e:i=xs.length:=by omega
    subst e
    exact .inl ⟨⟨xs,q,Nat.le_refl _⟩,hd σ H p⟩
end L2
namespace L2
open PySem PySem.Spec PyProof.Rows
end L2
set_option Elab.async false
set_option linter.all false
set_option maxRecDepth 100000
set_option maxHeartbeats 4000000
namespace L2
open PySem PySem.Spec PyProof.Rows
section
variable {X:Cx}
seal PySem.Meets in
end
end L2
set_option Elab.async false
set_option linter.all false
set_option maxRecDepth 100000
set_option maxHeartbeats 4000000
namespace L2
open PySem PySem.Spec PyProof.Rows
inductive Tr where
  | int (i:Int)
  | nil
  | cons (x r:Tr)
  deriving DecidableEq
def Tr.dep:Tr→Nat
  | .int _ => 0
  | .nil => 1
  | .cons x r => max (x.dep + 1) r.dep
def Tr.size:Tr→Nat
  | .int _ => 1
  | .nil => 1
  | .cons x r => x.size + r.size + 1
mutual
inductive TV (h:Heap):Tr→Value→Prop
  | int (i:Int) (t:Tok):TV h (.int i) (.int i t)
  | nil {a:Addr} {o:Obj} {n:Nat}:h.get? a=some o→o.cls = .type "tuple"→o.data = .seq #[] n→TV h .nil (.ref a)
  | cons {a:Addr} {o:Obj} {n:Nat} {x r:Tr} {v:Value} {vs:List Value}:h.get? a=some o→o.cls = .type "tuple"→o.data = .seq (v :: vs).toArray n→TV h x v→TVs h r vs→TV h (.cons x r) (.ref a)
inductive TVs (h:Heap):Tr→List Value→Prop
  | nil:TVs h .nil []
  | cons {x r:Tr} {v:Value} {vs:List Value}:TV h x v→TVs h r vs→TVs h (.cons x r) (v :: vs)
end
theorem TV.tup {h:Heap} {k:Tr} {a:Addr} (x:TV h k (.ref a)):∃ o items n,h.get? a=some o∧o.cls = .type "tuple"∧o.data = .seq items n∧TVs h k items.toList:=by
  cases x with
  | nil h1 h2 h3 => exact ⟨_,_,_,h1,h2,h3,.nil⟩
  | cons h1 h2 h3 h4 h5 => exact ⟨_,_,_,h1,h2,h3,.cons h4 h5⟩
theorem TV.typeIs {s:Shared} {k:Tr} {a:Addr} (x:TV s.heap k (.ref a)):s.TypeIs (.ref a) "tuple" := let ⟨o,_,_,h1,h2,_⟩:=x.tup; ⟨o,h1,h2⟩
mutual
theorem TV.inj {h:Heap}:∀ {x y:Tr} {v:Value},TV h x v→TV h y v→x=y
  | _,_,_,.int i t,b => by cases b; rfl
  | _,_,_,.nil h1 h2 h3,b => by
    cases b with
    | nil _ _ _ => rfl
    | cons g1 g2 g3 _ _ =>
      rw [h1] at g1; cases g1
      rw [h3] at g3
      injection g3 with g3 _
      have:=congrArg Array.toList g3
      simp at this
  | _,_,_,.cons h1 h2 h3 h4 h5,b => by
    cases b with
    | nil g1 g2 g3 =>
      rw [h1] at g1; cases g1
      rw [h3] at g3
      injection g3 with g3 _
      have:=congrArg Array.toList g3
      simp at this
    | cons g1 g2 g3 g4 g5 =>
      rw [h1] at g1; cases g1
      rw [h3] at g3
      injection g3 with g3 _
      have e:=congrArg Array.toList g3
      simp only [List.cons.injEq] at e
      obtain ⟨rfl,rfl⟩:=e
      rw [TV.inj h4 g4,TVs.inj h5 g5]
theorem TVs.inj {h:Heap}:∀ {x y:Tr} {vs:List Value},TVs h x vs→TVs h y vs→x=y
  | _,_,_,.nil,b => by cases b; rfl
  | _,_,_,.cons a1 a2,b => by
    cases b with
    | cons b1 b2 => rw [TV.inj a1 b1,TVs.inj a2 b2]
end
mutual
theorem TV.mono {h h':Heap} (H:∀ a o,h.get? a=some o→o.cls = .type "tuple"→(∃ items n,o.data = .seq items n)→h'.get? a=some o):∀ {x:Tr} {v:Value},TV h x v→TV h' x v
  | _,_,.int i t => .int i t
  | _,_,.nil h1 h2 h3 => .nil (H _ _ h1 h2 ⟨_,_,h3⟩) h2 h3
  | _,_,.cons h1 h2 h3 h4 h5 => .cons (H _ _ h1 h2 ⟨_,_,h3⟩) h2 h3 (TV.mono H h4) (TVs.mono H h5)
theorem TVs.mono {h h':Heap} (H:∀ a o,h.get? a=some o→o.cls = .type "tuple"→(∃ items n,o.data = .seq items n)→h'.get? a=some o):∀ {x:Tr} {vs:List Value},TVs h x vs→TVs h' x vs
  | _,_,.nil => .nil
  | _,_,.cons a b => .cons (TV.mono H a) (TVs.mono H b)
end
mutual
def Tr.hsh:Tr→Int
  | .int i => hashInt i
  | .nil => reduceHash (Builtin.Tuple.tupleHashOf [])
  | .cons x r => reduceHash (Builtin.Tuple.tupleHashOf (x.hsh :: r.hshs))
def Tr.hshs:Tr→List Int
  | .int _ => []
  | .nil => []
  | .cons x r => x.hsh :: r.hshs
end
mutual
def Tr.drw:Tr→Nat
  | .int _ => 1
  | .nil => 1
  | .cons x r => x.drw + r.drws + 1
def Tr.drws:Tr→Nat
  | .int _ => 0
  | .nil => 0
  | .cons x r => x.drw + r.drws
end
section
variable {prog:Program} {w:World} {E:Value→Shared→Prop}
theorem hash_tail {A:Around} {a:Addr} {s:Shared} {items:Array Value} {n:Nat} {o:Obj} {hs:List Int} {dr:Nat} {Q:Int→Shared→Prop} (ho:s.heap.get? a=some o) (hc:o.cls = .type "tuple") (hd:o.data = .seq items n) (hu:A.units < cLine)
    (loop:∀ (A':Around) (Q':Array Int→Shared→Prop),A'=A.in1→(∀ b':Array Int,b'.toList=hs→Q' b' { s with toks:=s.toks + dr }) →
      wpAny (model prog w) A' (forIn items.toList #[] fun x r => do let h ← pyHash x; pure PUnit.unit; pure (ForInStep.yield (r.push h))) Q' E s)
    (q:Q (reduceHash (Builtin.Tuple.tupleHashOf hs)) { s with toks:=s.toks + (dr + 1) }):wpAny (model prog w) A (pyHash (.ref a)) Q E s:=by
  refine PySem.W.pyHash_slot (T := "tuple") ⟨_,ho,hc⟩ F.slot_tuple_hash F.entry_tuple_hash (F.args_tuple_hash_1 _) (beq_builtin_none _) (.inr hu) ?_
  show wpAny _ _ (Builtin.Tuple.tupleItemsOf (.ref a) >>= _) _ _ s
  refine wpAny_bind (wpAny_tupleItemsOf ho hd ?_)
  refine wpAny_bind ?_
  rw [← Array.forIn_toList]
  refine loop _ _ rfl fun b hb => ?_
  show wpAny _ _ (retInt (Builtin.Tuple.tupleHashOf b.toList)) _ _ _
  rw [hb]
  refine wpAny_bind (wpAny_mkInt (wpAny_pure ⟨_,_,rfl,?_⟩))
  simpa [Nat.add_assoc] using q
mutual
theorem tv_hash:∀ (k:Tr) {v:Value} {A:Around} {s:Shared} {Q:Int→Shared→Prop},TV s.heap k v→A.units + k.dep < cLine→Q k.hsh { s with toks:=s.toks + k.drw }→wpAny (model prog w) A (pyHash v) Q E s
  | .int i,v,A,s,Q,x,hu,h => by
    cases x
    exact wpAny_pyHash_int h
  | .nil,v,A,s,Q,x,hu,h => by
    cases x with
    | nil h1 h2 h3 =>
      refine hash_tail (hs:=[]) (dr := 0) h1 h2 h3 (by simp only [Tr.dep] at hu; omega) (fun A' Q' e q' => ?_) (by simpa [Tr.hsh,Tr.drw] using h)
      exact wpAny_pure (q' #[] rfl)
  | .cons y r,v,A,s,Q,x,hu,h => by
    cases x with
    | @cons a o n _ _ v' vs h1 h2 h3 h4 h5 =>
      simp only [Tr.dep] at hu
      refine hash_tail (hs:=y.hsh :: r.hshs) (dr:=y.drw + r.drws) h1 h2 h3 (by omega) (fun A' Q' e q' => ?_) (by simpa [Tr.hsh,Tr.drw] using h)
      subst e
      show wpAny _ _ (forIn (v' :: vs) _ _) _ _ _
      rw [List.forIn_cons]
      refine wpAny_bind (wpAny_bind (tv_hash y h4 (by rw [Around.in1_units]; omega) ?_))
      refine wpAny_bind (wpAny_pure (wpAny_pure ?_))
      refine tvs_hash r (s:={ s with toks:=s.toks + y.drw }) h5 (by rw [Around.in1_units]; omega) fun b' hb => ?_
      have z:=q' b' (by rw [hb]; simp)
      simpa [Nat.add_assoc] using z
theorem tvs_hash:∀ (k:Tr) {vs:List Value} {A:Around} {s:Shared} {b:Array Int} {Q:Array Int→Shared→Prop},TVs s.heap k vs→A.units + (k.dep - 1) < cLine →
    (∀ b':Array Int,b'.toList=b.toList ++ k.hshs→Q b' { s with toks:=s.toks + k.drws })→wpAny (model prog w) A (forIn vs b fun x r => do let h ← pyHash x; pure PUnit.unit; pure (ForInStep.yield (r.push h))) Q E s
  | .int i,vs,A,s,b,Q,x,hu,h => by cases x
  | .nil,vs,A,s,b,Q,x,hu,h => by
    cases x
    exact wpAny_pure (h b (by simp [Tr.hshs]))
  | .cons y r,vs,A,s,b,Q,x,hu,h => by
    cases x with
    | @cons _ _ v' vs h4 h5 =>
      simp only [Tr.dep] at hu
      rw [List.forIn_cons]
      refine wpAny_bind (wpAny_bind (tv_hash y h4 (by omega) ?_))
      refine wpAny_bind (wpAny_pure (wpAny_pure ?_))
      refine tvs_hash r (s:={ s with toks:=s.toks + y.drw }) h5 (by omega) fun b' hb => ?_
      have z:=h b' (by rw [hb]; simp [Tr.hshs])
      simpa [Nat.add_assoc,Tr.drws] using z
end
def Tr.cmp:Tr→Tr→Prop
  | .int _,.int _ => True
  | .int _,_ => False
  | _,.int _ => False
  | .cons x r,.cons y q => x.cmp y∧r.cmp q
  | _,_ => True
theorem tv_eq:∀ (n:Nat) (x y:Tr) (v u:Value) (A:Around) (s:Shared) (Q:Bool→Shared→Prop),x.size≤n→TV s.heap x v→TV s.heap y u→x.cmp y→A.units + x.dep < cLine→Q (decide (x=y)) s→wpAny (model prog w) A (eqBool v u) Q E s
  | 0,x,y,v,u,A,s,Q,hn,_,_,_,_,_ => by cases x <;> simp [Tr.size] at hn
  | n + 1,x,y,v,u,A,s,Q,hn,hx,hy,hc,hu,h => by
    have tt:∀ {a b:Addr},TV s.heap x (.ref a)→TV s.heap y (.ref b)→0 < x.dep→wpAny (model prog w) A (eqBool (.ref a) (.ref b)) Q E s:=by
      intro a b hx hy hdep
      unfold eqBool
      try with_reducible refine wpAny_holding ?_
      show wpAny _ _ (if (Value.ref a == Value.ref b)=true then _ else _) Q E s
      by_cases hab:(Value.ref a == Value.ref b)=true
      · rw [if_pos hab]
        have e:a=b:=by have:=eq_of_beq hab; injection this
        subst e
        obtain rfl:=hx.inj hy
        exact wpAny_bind (wpAny_rule (wpAny_pure (by simpa using h)))
      · rw [if_neg hab]
        refine wpAny_bind (wpAny_richCompare_same_room (op:=.Eq) hx.typeIs hy.typeIs F.slot_tuple_eq
          (wpAny_call_entry F.slot_tuple_eq hx.typeIs F.entry_tuple_eq ?_ (F.args_tuple_eq_2 _ _)) (by omega))
        have hTb:=hy.typeIs
        obtain ⟨oa,xs,na,hoa,_,hda,hia⟩:=hx.tup
        obtain ⟨ob,ys,nb,hob,_,hdb,hib⟩:=hy.tup
        show wpAny _ _ (isInstance (.ref b) (.type "tuple") >>= _) _ _ s
        refine wpAny_bind (wpAny_isInstance hTb isSubtype_tuple_tuple ?_)
        simp only [Bool.not_true,Bool.false_eq_true,if_false]
        refine wpAny_bind (wpAny_tupleItemsOf hoa hda ?_)
        refine wpAny_bind (wpAny_tupleItemsOf hob hdb ?_)
        refine wpAny_bind ?_
        refine wpAny_forIn_list _
          (fun rest r s' => r.1=none∧s'=s∧∃ x' y' xs' ys',rest=List.zip xs' ys'∧TVs s.heap x' xs'∧TVs s.heap y' ys'∧decide (x'=y')=decide (x=y)∧(xs'.length == ys'.length)=(xs.size == ys.size)∧x'.size≤n + 1∧x'.dep≤x.dep∧x'.cmp y')
          _ ?_ ?_ _ _ ⟨rfl,rfl,x,y,xs.toList,ys.toList,rfl,hia,hib,rfl,by simp,hn,Nat.le_refl _,hc⟩
        · rintro ⟨u,v⟩ rest r s' ⟨hr,rfl,x',y',xs',ys',hz,hx',hy',hdec,hlen,hsz,hdp,hcp⟩
          cases hx' with
          | nil => simp at hz
          | @cons k1 x'' u' xs'' h1 hx'' =>
            cases hy' with
            | nil => simp at hz
            | @cons k2 y'' v' ys'' h2 hy'' =>
              simp only [List.zip_cons_cons,List.cons.injEq,Prod.mk.injEq] at hz
              obtain ⟨⟨rfl,rfl⟩,rfl⟩:=hz
              simp only [Tr.size] at hsz
              simp only [Tr.dep] at hdp
              obtain ⟨c1,c2⟩:=(show k1.cmp k2∧x''.cmp y'' from hcp)
              refine wpAny_bind (tv_eq n k1 k2 _ _ _ _ _ (by omega) h1 h2 c1 (by rw [Around.in1_units]; omega) ?_)
              by_cases hk:k1=k2
              · subst hk
                rw [decide_eq_true rfl]
                simp only [Bool.not_true,Bool.false_eq_true,if_false]
                refine wpAny_pure ⟨rfl,rfl,x'',y'',xs'',ys'',rfl,hx'',hy'',?_,by simpa using hlen,by omega,by omega,c2⟩
                rw [← hdec]
                by_cases hxy:x''=y''
                · simp [hxy]
                · simp [hxy]
              · rw [decide_eq_false hk]
                simp only [Bool.not_false,if_true]
                have hf:decide (x=y)=false:=by rw [← hdec]; simp [hk]
                rw [hf] at h
                exact wpAny_bind (wpAny_pure (wpAny_pure (wpAny_pure ⟨_,rfl,(fun e => nomatch e),wpAny_truthy_bool h⟩)))
        · rintro ⟨r1,r2⟩ s' ⟨hr,rfl,x',y',xs',ys',hz,hx',hy',hdec,hlen,_,_,_⟩
          simp only at hr
          subst hr
          refine wpAny_pure ?_
          have hfin:(xs.size == ys.size)=decide (x=y):=by
            rw [← hdec,← hlen]
            cases hx' with
            | nil =>
              cases hy' with
              | nil => simp
              | cons _ _ => simp
            | cons _ _ =>
              cases hy' with
              | nil => simp
              | cons _ _ => simp at hz
          refine ⟨_,rfl,(fun e => nomatch e),?_⟩
          show wpAny _ _ (truthy (.bool (xs.size == ys.size))) _ _ _
          rw [hfin]
          exact wpAny_truthy_bool h
    cases x with
    | int i =>
      cases y with
      | int j =>
        cases hx with
        | int _ t =>
        cases hy with
        | int _ t' =>
        refine (intKind prog w).eqBool (a:=i) (b:=j) (show Value.isInt i (.int i t)=true by simp [Value.isInt]) (show Value.isInt j (.int j t')=true by simp [Value.isInt]) ?_
        have e:decide (Tr.int i=Tr.int j)=decide (i=j):=by simp
        rw [e] at h
        exact h
      | nil => exact absurd hc (by simp [Tr.cmp])
      | cons y q => exact absurd hc (by simp [Tr.cmp])
    | nil =>
      cases y with
      | int j => exact absurd hc (by simp [Tr.cmp])
      | nil =>
        cases hx with
        | nil a1 a2 a3 =>
        cases hy with
        | nil b1 b2 b3 => exact tt (.nil a1 a2 a3) (.nil b1 b2 b3) (by simp [Tr.dep])
      | cons y q => cases hx; cases hy; exact tt (.nil ‹_› ‹_› ‹_›) (.cons ‹_› ‹_› ‹_› ‹_› ‹_›) (by simp [Tr.dep])
    | cons x r =>
      cases y with
      | int j => exact absurd hc (by simp [Tr.cmp])
      | nil => cases hx; cases hy; exact tt (.cons ‹_› ‹_› ‹_› ‹_› ‹_›) (.nil ‹_› ‹_› ‹_›) (by simp [Tr.dep]; omega)
      | cons y q =>
        cases hx with
        | cons a1 a2 a3 a4 a5 =>
          cases hy with
          | cons b1 b2 b3 b4 b5 => exact tt (.cons a1 a2 a3 a4 a5) (.cons b1 b2 b3 b4 b5) (by simp [Tr.dep]; omega)
theorem tv_quiet:∀ (n:Nat) (k:Tr) {v:Value} {A:Around} {s:Shared} {Q:Bool→Shared→Prop},k.dep≤n→TV s.heap k v→Q true s→wpAny (model prog w) A (eqIsQuiet n v) Q E s:=by
  intro n
  induction n with
  | zero =>
    intro k v A s Q hk hx h
    cases hx with
    | int i t =>
      rw [eqIsQuiet_byValue _ rfl]
      exact wpAny_pure h
    | nil => simp [Tr.dep] at hk
    | cons => simp [Tr.dep] at hk
  | succ n ih =>
    intro k v A s Q hk hx h
    have key:∀ {a:Addr},TV s.heap k (.ref a)→wpAny (model prog w) A (eqIsQuiet (n + 1) (.ref a)) Q E s:=by
      intro a hx
      have hT:=hx.typeIs
      obtain ⟨o,items,m,ho,_,hd,hi⟩:=hx.tup
      unfold eqIsQuiet
      refine wpAny_bind (wpAny_specialOf hT F.slot_tuple_eq.lookup ?_)
      show wpAny _ _ (isInstance (.ref a) (.type "tuple") >>= _) _ _ s
      refine wpAny_bind (wpAny_isInstance hT isSubtype_tuple_tuple ?_)
      simp only [Bool.not_true,Bool.false_eq_true,if_false]
      refine wpAny_bind (wpAny_seqItems ho hd ?_)
      refine wpAny_bind ?_
      show wpAny _ _ (forIn items _ _) _ _ s
      rw [← Array.forIn_toList]
      refine wpAny_forIn_list _ (fun rest r s' => r.1=none∧s'=s∧∃ k',TVs s.heap k' rest∧k'.dep≤n + 1) _ ?_ ?_ _ _ ⟨rfl,rfl,k,hi,hk⟩
      · rintro v rest r s' ⟨hr,rfl,k',hk',hd'⟩
        cases hk' with
        | @cons y q _ _ h1 h2 =>
          simp only [Tr.dep] at hd'
          refine wpAny_bind (ih y (by omega) h1 ?_)
          simp only [Bool.not_true,Bool.false_eq_true,if_false]
          exact wpAny_pure ⟨rfl,rfl,q,h2,by omega⟩
      · rintro ⟨r1,r2⟩ s' ⟨hr,rfl,_⟩
        simp only at hr
        subst hr
        exact wpAny_pure h
    cases hx with
    | int i t =>
      rw [eqIsQuiet_byValue _ rfl]
      exact wpAny_pure h
    | nil h1 h2 h3 => exact key (.nil h1 h2 h3)
    | cons h1 h2 h3 h4 h5 => exact key (.cons h1 h2 h3 h4 h5)
structure Make where
  fit:Tr→Prop
  dep:∀ k,fit k→k.dep≤8
  cmp:∀ x y,fit x→fit y→x.cmp y
def trKind (prog:Program) (w:World) (F:Make):HeapKind prog w Tr where
  is:=fun h k a => TV h k (.ref a)∧F.fit k
  hash:=Tr.hsh
  draws:=Tr.drw
  room:=fun A => A.units + 8 < cLine
  inj:=fun hx hy => hx.1.inj hy.1
  keeps:=fun x ho hd hs => ⟨x.1.mono (fun a o e hc hs' => by
    refine (hs.2 a ?_).trans e
    rintro rfl
    rw [ho] at e
    cases e
    obtain ⟨_,_,z⟩:=hs'
    rw [hd] at z
    cases z),x.2⟩
  pyHash:=fun hu hk h => tv_hash _ hk.1 (by have:=F.dep _ hk.2; omega) h
  eqBool:=fun hu hx hy h => tv_eq _ _ _ _ _ _ _ _ (Nat.le_refl _) hx.1 hy.1 (F.cmp _ _ hx.2 hy.2) (by have:=F.dep _ hx.2; omega) h
  quiet:=fun hk h => tv_quiet 8 _ (F.dep _ hk.2) hk.1 h
end
section
variable {prog:Program} {w:World} {K:Type} [DecidableEq K] {knd:HeapKind prog w K} {A:Around} {E:Value→Shared→Prop} {s:Shared}
end
mutual
inductive TrAt (H:Hp):Tr→V→Prop
  | int (i:Int):TrAt H (.int i) (.int i)
  | tup {a:Addr} {vs:List V} {k:Tr}:H a=some (.tup vs)→TrsAt H k vs→TrAt H k (.ref a)
inductive TrsAt (H:Hp):Tr→List V→Prop
  | nil:TrsAt H .nil []
  | cons {x r:Tr} {v:V} {vs:List V}:TrAt H x v→TrsAt H r vs→TrsAt H (.cons x r) (v :: vs)
end
mutual
theorem TrAt.keep {H H':Hp} (k:∀ a xs,H a=some (.tup xs)→H' a=some (.tup xs)):∀ {x:Tr} {v:V},TrAt H x v→TrAt H' x v
  | _,_,.int i => .int i
  | _,_,.tup h hs => .tup (k _ _ h) (TrsAt.keep k hs)
theorem TrsAt.keep {H H':Hp} (k:∀ a xs,H a=some (.tup xs)→H' a=some (.tup xs)):∀ {x:Tr} {vs:List V},TrsAt H x vs→TrsAt H' x vs
  | _,_,.nil => .nil
  | _,_,.cons a b => .cons (TrAt.keep k a) (TrsAt.keep k b)
end
section
variable {X:Cx} {pins:List (Addr×Obj)} {σ : St} {H:Hp} {s:Shared}
mutual
theorem TrAt.tv (I:Inv X pins σ H s):∀ {k:Tr} {v:V} {u:Value},TrAt H k v→RelV v u→TV s.heap k u
  | _,_,u,.int i,r => by
    obtain ⟨t,q⟩:=(show ∃ t,u=Value.int i t from r)
    cases q
    exact .int i t
  | _,_,u,.tup (a:=a) h hs,r => by
    cases (show u=Value.ref a from r)
    obtain ⟨its,rv,p,_⟩:=I.tuple (SqT.of h)
    obtain ⟨o,ho,hc,n,hd⟩:=p
    have z:=TrsAt.tvs I hs rv
    cases z with
    | nil => exact .nil ho hc hd
    | cons z1 z2 => exact .cons ho hc hd z1 z2
theorem TrsAt.tvs (I:Inv X pins σ H s):∀ {k:Tr} {vs:List V} {us:List Value},TrsAt H k vs→Vals vs us→TVs s.heap k us
  | _,_,_,.nil,.nil => .nil
  | _,_,_,.cons h hs,.cons r rs => .cons (TrAt.tv I h r) (TrsAt.tvs I hs rs)
end
end
abbrev NK:=Tr×Addr×V
def nRel (p:NK) (q:Tr×Addr×Value):Prop:=p.1=q.1∧p.2.1=q.2.1∧RelV p.2.2 q.2.2
def ND (d:Addr) (kvs:List NK):HO:=.ext fun h => (d == sysModules)=false∧∃ (o:Obj) (es:Array DictEntry) (ep:Nat) (xs:List (Tr×Addr×Value)),h.get? d=some o∧o.ExactDict∧o.data = .dict es ep∧Paired nRel kvs xs ∧
  es.toList=xs.map fun x => (⟨x.1.hsh,.ref x.2.1,x.2.2⟩ : DictEntry)
structure NAt (F:Make) (H:Hp) (d:Addr) (kvs:List NK):Prop where
  ob:H d=some (ND d kvs)
  keys:∀ x∈kvs,TrAt H x.1 (.ref x.2.1)∧F.fit x.1
  nd:(kvs.map (·.1)).Nodup
  few:kvs.length≤1000
theorem NAt.keep {F:Make} {H H':Hp} {d:Addr} {kvs:List NK} (h:NAt F H d kvs) (ob:H' d=some (ND d kvs)) (k:∀ a xs,H a=some (.tup xs)→H' a=some (.tup xs)):NAt F H' d kvs :=
  ⟨ob,fun x hx => ⟨(h.keys x hx).1.keep k,(h.keys x hx).2⟩,h.nd,h.few⟩
def valT (kvs:List NK) (k:Tr):Option V:=(kvs.find? fun x => decide (x.1=k)).map (·.2.2)
theorem paired_at:∀ {kvs:List NK} {xs:List (Tr×Addr×Value)},Paired nRel kvs xs→∀ k,(atKey xs k=none→valT kvs k=none)∧(∀ p,atKey xs k=some p→∃ z,valT kvs k=some z∧RelV z p.2)
  | _,_,.nil,k => ⟨fun _ => rfl,fun p h => by simp [atKey] at h⟩
  | _,_,.cons (a:=p) (b:=q) h hs,k => by
    obtain ⟨i1,i2⟩:=paired_at hs k
    obtain ⟨e1,e2,e3⟩:=h
    by_cases hk:p.1=k
    · have hq:q.1=k:=e1.symm.trans hk
      refine ⟨fun z => by simp [atKey,hq] at z,fun r hr => ?_⟩
      simp only [atKey,List.find?_cons,hq,decide_true,Option.map_some,Option.some.injEq] at hr
      subst hr
      exact ⟨p.2.2,by simp [valT,hk],e3⟩
    · have hq:¬ q.1=k:=fun z => hk (e1.trans z)
      refine ⟨fun z => ?_,fun r hr => ?_⟩
      · have:=i1 (by simpa [atKey,hq] using z)
        simpa [valT,hk] using this
      · obtain ⟨z,z1,z2⟩:=i2 r (by simpa [atKey,hq] using hr)
        exact ⟨z,by simpa [valT,hk] using z1,z2⟩
theorem paired_mem:∀ {kvs:List NK} {xs:List (Tr×Addr×Value)},Paired nRel kvs xs→(∀ x∈xs,∃ p∈kvs,p.1=x.1∧p.2.1=x.2.1)∧kvs.map (·.1)=xs.map (·.1)
  | _,_,.nil => ⟨fun x hx => by simp at hx,rfl⟩
  | _,_,.cons (a:=p) (b:=q) h hs => by
    obtain ⟨i1,i2⟩:=paired_mem hs
    refine ⟨fun x hx => ?_,by rw [List.map_cons,List.map_cons,i2,h.1]⟩
    rcases List.mem_cons.mp hx with z | z
    · subst z; exact ⟨p,List.mem_cons_self,h.1,h.2.1⟩
    · obtain ⟨p',hp',e⟩:=i1 x z
      exact ⟨p',List.mem_cons_of_mem _ hp',e⟩
theorem paired_snoc:∀ {kvs:List NK} {xs:List (Tr×Addr×Value)} {p:NK} {q:Tr×Addr×Value},Paired nRel kvs xs→nRel p q→Paired nRel (kvs ++ [p]) (xs ++ [q])
  | _,_,_,_,.nil,r => .cons r .nil
  | _,_,_,_,.cons h hs,r => .cons h (paired_snoc hs r)
theorem paired_len:∀ {kvs:List NK} {xs:List (Tr×Addr×Value)},Paired nRel kvs xs→kvs.length=xs.length
  | _,_,.nil => rfl
  | _,_,.cons _ hs => by simp [paired_len hs]
theorem nd_stay (d:Addr) (kvs:List NK) (h1 h2:Heap) (p:(d == sysModules)=false∧∃ (o:Obj) (es:Array DictEntry) (ep:Nat) (xs:List (Tr×Addr×Value)),h1.get? d=some o∧o.ExactDict∧o.data = .dict es ep∧Paired nRel kvs xs ∧
    es.toList=xs.map fun x => (⟨x.1.hsh,.ref x.2.1,x.2.2⟩ : DictEntry)) (k:∀ o,h1.get? d=some o→h2.get? d=some o) :
    (d == sysModules)=false∧∃ (o:Obj) (es:Array DictEntry) (ep:Nat) (xs:List (Tr×Addr×Value)),h2.get? d=some o∧o.ExactDict∧o.data = .dict es ep∧Paired nRel kvs xs∧es.toList=xs.map fun x => (⟨x.1.hsh,.ref x.2.1,x.2.2⟩ : DictEntry):=by
  obtain ⟨a,o,es,ep,xs,b1,b2⟩:=p
  exact ⟨a,o,es,ep,xs,k _ b1,b2⟩
section
variable {X:Cx} {pins:List (Addr×Obj)} {σ : St} {H:Hp} {s:Shared} {pos:Pos}
theorem sys_big (I:Inv X pins σ H s):sysModules < s.heap.objs.size:=by
  have h:mainGlobals < s.heap.objs.size:=(I.mod.glob.keeps I.bk).lt
  exact Nat.lt_trans (by decide) h
theorem nd_of (I:Inv X pins σ H s) {d:Addr} {kvs:List NK} (e:H d=some (ND d kvs)):(d == sysModules)=false∧∃ (o:Obj) (es:Array DictEntry) (ep:Nat) (xs:List (Tr×Addr×Value)),s.heap.get? d=some o∧o.ExactDict∧o.data = .dict es ep∧Paired nRel kvs xs ∧
    es.toList=xs.map fun x => (⟨x.1.hsh,.ref x.2.1,x.2.2⟩ : DictEntry):=(I.hok d _ e).1
end
end L2
set_option Elab.async false
set_option linter.all false
set_option maxRecDepth 100000
set_option maxHeartbeats 4000000
namespace L2
open PySem PySem.Spec PyProof.Rows
section
variable {X:Cx} {pins:List (Addr×Obj)} {σ : St} {H:Hp} {s:Shared} {pos:Pos}
theorem nat_dict {F:Make} (I:Inv X pins σ H s) {d:Addr} {kvs:List NK} (hN:NAt F H d kvs):(d == sysModules)=false∧∃ xs:List (Tr×Addr×Value),Paired nRel kvs xs∧s.heap.DictOfH (trKind X.prog X.w F) d xs:=by
  obtain ⟨hs,o,es,ep,xs,h1,h2,h3,h4,h5⟩:=nd_of I hN.ob
  obtain ⟨m1,m2⟩:=paired_mem h4
  refine ⟨hs,xs,h4,o,es,ep,h1,h2,h3,h5,fun x hx => ?_,by rw [← m2]; exact hN.nd⟩
  obtain ⟨p,hp,e1,e2⟩:=m1 x hx
  obtain ⟨k1,k2⟩:=hN.keys p hp
  rw [e1,e2] at k1
  rw [e1] at k2
  exact ⟨k1.tv I rfl,k2⟩
def rNotInN (F:Make):R2:=fun x y H Q => ∃ d a kvs k,y = .ref d∧x = .ref a∧NAt F H d kvs∧TrAt H k (.ref a)∧F.fit k∧Q (.bl (!(valT kvs k).isSome)) H
theorem op_notInN (F:Make) (hu:X.A.units + 64 < cLine):OpR X (compareOp .NotIn) (rNotInN F):=by
  intro pins s σ H x y v u Q I rx ry h
  obtain ⟨d,a,kvs,k,rfl,rfl,hN,hk,hf,q⟩:=h
  cases rx
  cases ry
  obtain ⟨hs,xs,h4,hD⟩:=nat_dict I hN
  obtain ⟨p1,p2⟩:=paired_at h4 k
  refine wpAny_notIn_heap (knd:=trKind X.prog X.w F) (by show X.A.in1.units + 8 < cLine; rw [Around.in1_units]; omega) ⟨hk.tv I rfl,hf⟩ hs hD ⟨.bl _,H,I.tok _,?_,q⟩
  show Value.bool _=Value.bool _
  cases e:atKey xs k with
  | none => rw [p1 e]; rfl
  | some p =>
    obtain ⟨z,z1,_⟩:=p2 p e
    rw [z1]; rfl
def rIxN (F:Make):R2:=fun x y H Q => ∃ d a kvs k z,x = .ref d∧y = .ref a∧NAt F H d kvs∧TrAt H k (.ref a)∧F.fit k∧valT kvs k=some z∧Q z H
theorem ix_dictN (F:Make) (hu:X.A.units + 64 < cLine):IxR X (rIxN F):=by
  intro value slice pins s σ H x y v u Q I rx ry h hs'
  obtain ⟨d,a,kvs,k,z,rfl,rfl,hN,hk,hf,hz,q⟩:=h
  cases rx
  cases ry
  obtain ⟨hs,xs,h4,hD⟩:=nat_dict I hN
  obtain ⟨p1,p2⟩:=paired_at h4 k
  cases e:atKey xs k with
  | none => rw [p1 e] at hz; cases hz
  | some p =>
    obtain ⟨z',z1,z2⟩:=p2 p e
    rw [hz] at z1
    cases z1
    exact subscriptTail_builtinR (x:=p.2) hD.typeIs PySem.F.slot_dict_getitem.lookup
      (wpAny_getItem_heap (knd:=trKind X.prog X.w F) (Q:=fun r s' => r=p.2∧EP X pins σ Q r s') (by show X.A.in1.units + 8 < cLine; rw [Around.in1_units]; omega) ⟨hk.tv I rfl,hf⟩ hD e ⟨rfl,z,H,I.tok _,z2,q⟩) hs'
def rSetN (F:Make):V→V→V→Hp→(Hp→Prop)→Prop:=fun o i v H Q => ∃ d a kvs k,o = .ref d∧i = .ref a∧NAt F H d kvs∧kvs.length < 1000∧TrAt H k (.ref a)∧F.fit k∧valT kvs k=none∧Q (upd H d (ND d (kvs ++ [(k,a,v)])))
theorem set_dictN (F:Make) (hu:X.A.units + 64 < cLine):PSet X (rSetN F):=by
  intro pins s σ H o i v ov iv u Q I ro ri rv h
  obtain ⟨d,a,kvs,k,rfl,rfl,hN,hl,hk,hf,hz,q⟩:=h
  cases ro
  cases ri
  obtain ⟨hs,xs,h4,hD⟩:=nat_dict I hN
  obtain ⟨p1,p2⟩:=paired_at h4 k
  have lx:=paired_len h4
  have hn:atKey xs k=none:=by
    cases e:atKey xs k with
    | none => rfl
    | some p =>
      obtain ⟨z',z1,_⟩:=p2 p e
      rw [hz] at z1; cases z1
  refine wpAny_setItem_heap (knd:=trKind X.prog X.w F) (by show X.A.in1.units + 8 < cLine; rw [Around.in1_units]; omega) ⟨hk.tv I rfl,hf⟩ hD (fun h' hm' hs' => ?_) (Nat.le_trans (show xs.length≤1000 by omega) (by decide))
  have est:storedH xs k a u=xs ++ [(k,a,u)]:=storedH_new hn a u
  rw [est] at hm'
  obtain ⟨o',es',ep',g1,g2,g3,g4,g5,g6⟩:=hm'
  refine ⟨_,I.write (x:=d) (e:=d) (by rw [hN.ob]; exact True.intro) (.inl rfl) (fun b q hb y => (hs'.2 b hb).trans y) ⟨_,g1⟩ ?_,q⟩
  exact ⟨⟨hs,o',es',ep',_,g1,g2,g3,paired_snoc h4 ⟨rfl,rfl,rv⟩,g4⟩,⟨_,g1⟩,fun h1 h2 p k => nd_stay _ _ h1 h2 p k⟩
end
end L2
namespace PySem
open Sem (wp)
section
variable {prog:Program} {w:World} {A:Around} {E:Value→Shared→Prop} {s:Shared}
abbrev IsZipG (h:Heap) (z TI TO T:Addr) (b:Bool):Prop :=
  h.get? z=some { cls:=.type "zip",dict:=none,data:=.fields #[rawInt T,.bool b,.bool false,.ref TI,.ref TO],slots := #[] }
theorem alive_at {a:Addr} {o:Obj} {Q:Option Obj→Shared→Prop} (ho:s.heap.get? a=some o) (h:Q (some o) s):wpAny (model prog w) A (loadIfAlive a) Q E s:=by
  have h':Q (s.heap.get? a) s:=by rw [ho]; exact h
  exact fun _ _ _ => h'
theorem free_out {z TI TO T:Addr} {bb:Bool} {oT:Obj} {Q:Bool→Shared→Prop} (hz:IsZipG s.heap z TI TO T bb) (hT:s.heap.get? T=some oT)
    (h:∀ h₁,IsZipG h₁ z TI TO T true→Heap.SameBut z s.heap h₁→Q false { s with heap:=h₁ }):wpAny (model prog w) A (Builtin.SmallTypes.ownedTupleIsFree (.ref z)) Q E s:=by
  unfold Builtin.SmallTypes.ownedTupleIsFree
  refine wpAny_bind (wpAny_field hz rfl (x:=rawInt T) rfl ?_)
  show wpAny _ _ (loadIfAlive ((T:Int)).toNat >>= _) _ _ _
  rw [Int.toNat_natCast]
  refine wpAny_bind (alive_at hT ?_)
  simp only [Option.isNone_some,Bool.false_eq_true,if_false]
  refine wpAny_bind (wpAny_field hz rfl (x:=.bool bb) rfl ?_)
  cases bb with
  | true =>
    simp only [bne_self_eq_false,Bool.false_eq_true,if_false]
    exact wpAny_pure (h s.heap hz (Heap.SameBut.refl z s.heap))
  | false =>
    have e:(Value.bool false != Value.bool true)=true:=by decide
    simp only [e,if_true]
    refine wpAny_bind (wpAny_setField_rec hz (by simp) fun h₁ hz₁ hs₁ => wpAny_pure (h h₁ hz₁ hs₁))
theorem zip_next_item2 {z TI TO i1 i2 l1 l2 T:Addr} {bb:Bool} {k1 k2:Nat} {xs ys:Array Value} {x y:Value} {oT:Obj} {Q:Value→Shared→Prop} (D:ZipApart z TI TO i1 i2 l1 l2)
    (hz:IsZipG s.heap z TI TO T bb) (hTI:IsPair s.heap TI (.ref i1) (.ref i2)) (hT:s.heap.get? T=some oT)
    (h1:s.heap.IsListIter i1 l1 k1) (h2:s.heap.IsListIter i2 l2 k2) (hl1:s.heap.IsList l1 xs) (hl2:s.heap.IsList l2 ys) (hx:xs[k1]? = some x) (hy:ys[k2]? = some y)
    (hQ:∀ h',IsZipG h' z TI TO T true→h'.IsListIter i1 l1 (k1 + 1)→h'.IsListIter i2 l2 (k2 + 1)→IsPair h' s.heap.objs.size x y→h'.objs.size=s.heap.objs.size + 1 →
      (∀ c o,c≠z→c≠i1→c≠i2→s.heap.get? c=some o→h'.get? c=some o)→Q (.ref s.heap.objs.size) { s with heap:=h' }) :
    wpAny (model prog w) A (Builtin.«zip.__next__» ⟨[.ref z],[]⟩) (fun fin s' => ∃ v,fin = .done (.ret v)∧Q v s') E s:=by
  show wpAny _ _ (field (.ref z) 2 >>= _) _ _ _
  refine wpAny_bind (wpAny_field hz rfl (x:=.bool false) rfl ?_)
  show wpAny _ _ (field (.ref z) 3 >>= _) _ _ _
  refine wpAny_bind (wpAny_field hz rfl (x:=.ref TI) rfl ?_)
  refine wpAny_bind (wpAny_seqItems hTI rfl ?_)
  show wpAny _ _ (Builtin.SmallTypes.ownedTupleIsFree (.ref z) >>= _) _ _ _
  refine wpAny_bind (free_out hz hT fun h₁ hz₁ hs₁ => ?_)
  simp only [Bool.false_eq_true,if_false]
  rw [show (#[Value.ref i1,Value.ref i2]:Array Value)=[Value.ref i1,Value.ref i2].toArray from rfl,List.forIn_toArray]
  simp only [List.forIn_cons,List.forIn_nil]
  refine wpAny_bind (wpAny_bind (wpAny_bind (wpAny_holding ?_)))
  show wpAny _ _ (Builtin.SmallTypes.nextOf (.ref i1) >>= _) _ _ _
  refine wpAny_bind (wpAny_nextOf_list_item (h1.extBut hs₁.extBut D.i1z) (hl1.extBut hs₁.extBut D.l1z) hx fun h₂ h1₂ hs₂ => wpAny_pure (wpAny_pure ?_))
  refine wpAny_bind (wpAny_bind (wpAny_holding ?_))
  show wpAny _ _ (Builtin.SmallTypes.nextOf (.ref i2) >>= _) _ _ _
  refine wpAny_bind (wpAny_nextOf_list_item ((h2.extBut hs₁.extBut D.i2z).extBut hs₂.extBut D.i12.symm) ((hl2.extBut hs₁.extBut D.l2z).extBut hs₂.extBut D.l2i1) hy fun h₃ h2₃ hs₃ => wpAny_pure (wpAny_pure (wpAny_pure ?_)))
  have hsz:h₃.objs.size=s.heap.objs.size:=by rw [hs₃.1,hs₂.1,hs₁.1]
  refine wpAny_bind (wpAny_newTuple (hsz:=(by show 2≤sizeLine; decide)) ?_)
  refine wpAny_pure ⟨_,rfl,?_⟩
  show Q (.ref h₃.objs.size) _
  have up:∀ c o,h₃.get? c=some o→(h₃.push { cls:=.type "tuple",data:=.seq #[x,y] }).get? c=some o:=fun c o e => Heap.get?_push_of_some _ e
  have hT3:IsPair (h₃.push { cls:=.type "tuple",data:=.seq #[x,y] }) h₃.objs.size x y:=Heap.get?_push_size _ rfl
  rw [hsz] at hT3 ⊢
  exact hQ _ (up _ _ (hs₃.extBut _ _ D.i2z.symm (hs₂.extBut _ _ D.i1z.symm hz₁))) ((h1₂.extBut hs₃.extBut D.i12).at fun o e => up _ o e) (h2₃.at fun o e => up _ o e) hT3 (by rw [Heap.size_push,hsz]) fun c o c1 c2 c3 e => up _ _ (hs₃.extBut _ _ c3 (hs₂.extBut _ _ c2 (hs₁.extBut _ _ c1 e)))
theorem zip_next_end2 {z TI TO i1 i2 l1 l2 T:Addr} {bb:Bool} {k1:Nat} {xs:Array Value} {oT:Obj} {Q:Fin→Shared→Prop} (hh:A.handled=none) (D:ZipApart z TI TO i1 i2 l1 l2)
    (hz:IsZipG s.heap z TI TO T bb) (hTI:IsPair s.heap TI (.ref i1) (.ref i2)) (hT:s.heap.get? T=some oT)
    (h1:s.heap.IsListIter i1 l1 k1) (hl1:s.heap.IsList l1 xs) (hx:xs[k1]? = none)
    (hE:∀ h' e,(∀ c o,c≠z→c≠i1→s.heap.get? c=some o→h'.get? c=some o)→(∃ o,h'.get? e=some o∧o.cls = .type "StopIteration")→E (.ref e) { s with heap:=h' }) :
    wpAny (model prog w) A (Builtin.«zip.__next__» ⟨[.ref z],[]⟩) Q E s:=by
  show wpAny _ _ (field (.ref z) 2 >>= _) _ _ _
  refine wpAny_bind (wpAny_field hz rfl (x:=.bool false) rfl ?_)
  show wpAny _ _ (field (.ref z) 3 >>= _) _ _ _
  refine wpAny_bind (wpAny_field hz rfl (x:=.ref TI) rfl ?_)
  refine wpAny_bind (wpAny_seqItems hTI rfl ?_)
  show wpAny _ _ (Builtin.SmallTypes.ownedTupleIsFree (.ref z) >>= _) _ _ _
  refine wpAny_bind (free_out hz hT fun h₁ hz₁ hs₁ => ?_)
  simp only [Bool.false_eq_true,if_false]
  rw [show (#[Value.ref i1,Value.ref i2]:Array Value)=[Value.ref i1,Value.ref i2].toArray from rfl,List.forIn_toArray]
  simp only [List.forIn_cons,List.forIn_nil]
  refine wpAny_bind (wpAny_bind (wpAny_bind (wpAny_holding ?_)))
  show wpAny _ _ (Builtin.SmallTypes.nextOf (.ref i1) >>= _) _ _ _
  exact wpAny_bind (wpAny_nextOf_list_end hh (h1.extBut hs₁.extBut D.i1z) (hl1.extBut hs₁.extBut D.l1z) hx fun h₂ e hs₂ he => hE h₂ e (fun c o c1 c2 x => hs₂ _ _ c2 (hs₁.extBut _ _ c1 x)) he)
end
end PySem
namespace PySem
section
variable {prog:Program} {w:World} {A:Around} {E:Value→Shared→Prop} {s:Shared}
theorem pyNext_zip_item2 {z TI TO i1 i2 l1 l2 T:Addr} {bb:Bool} {k1 k2:Nat} {xs ys:Array Value} {x y:Value} {oT:Obj} {Q:Option Value→Shared→Prop} (D:ZipApart z TI TO i1 i2 l1 l2)
    (hz:IsZipG s.heap z TI TO T bb) (hTI:IsPair s.heap TI (.ref i1) (.ref i2)) (hT:s.heap.get? T=some oT)
    (h1:s.heap.IsListIter i1 l1 k1) (h2:s.heap.IsListIter i2 l2 k2) (hl1:s.heap.IsList l1 xs) (hl2:s.heap.IsList l2 ys) (hx:xs[k1]? = some x) (hy:ys[k2]? = some y)
    (hQ:∀ h',IsZipG h' z TI TO T true→h'.IsListIter i1 l1 (k1 + 1)→h'.IsListIter i2 l2 (k2 + 1)→IsPair h' s.heap.objs.size x y→h'.objs.size=s.heap.objs.size + 1 →
      (∀ c o,c≠z→c≠i1→c≠i2→s.heap.get? c=some o→h'.get? c=some o)→Q (some (.ref s.heap.objs.size)) { s with heap:=h' }) :
    wpAny (model prog w) A (pyNext (.ref z)) Q E s:=by
  have hT':s.TypeIs (.ref z) "zip" := ⟨_,hz,rfl⟩
  unfold pyNext
  exact wpAny_bind (wpAny_attempt (wpAny_callSpecial?_slot (name:=Str.ofString "__next__") hT' F.slot_zip_next
    (wpAny_call_entry F.slot_zip_next hT' F.entry_zip_next
      (zip_next_item2 D hz hTI hT h1 h2 hl1 hl2 hx hy fun h' a1 a2 a3 a4 a5 a6 => wpAny_pure (hQ h' a1 a2 a3 a4 a5 a6)) (F.args_zip_next_1 _))))
theorem pyNext_zip_end2 {z TI TO i1 i2 l1 l2 T:Addr} {bb:Bool} {k1:Nat} {xs:Array Value} {oT:Obj} {Q:Option Value→Shared→Prop} (hh:A.handled=none) (D:ZipApart z TI TO i1 i2 l1 l2)
    (hz:IsZipG s.heap z TI TO T bb) (hTI:IsPair s.heap TI (.ref i1) (.ref i2)) (hT:s.heap.get? T=some oT)
    (h1:s.heap.IsListIter i1 l1 k1) (hl1:s.heap.IsList l1 xs) (hx:xs[k1]? = none)
    (hQ:∀ h',(∀ c o,c≠z→c≠i1→s.heap.get? c=some o→h'.get? c=some o)→Q none { s with heap:=h' }):wpAny (model prog w) A (pyNext (.ref z)) Q E s:=by
  have hT':s.TypeIs (.ref z) "zip" := ⟨_,hz,rfl⟩
  unfold pyNext
  refine wpAny_bind (wpAny_attempt (wpAny_callSpecial?_slot (name:=Str.ofString "__next__") hT' F.slot_zip_next
    (wpAny_call_entry F.slot_zip_next hT' F.entry_zip_next (zip_next_end2 hh D hz hTI hT h1 hl1 hx fun h' e hk he => ?_) (F.args_zip_next_1 _))))
  obtain ⟨o,ho,hc⟩:=he
  refine wpAny_bind (wpAny_isInstance (T := "StopIteration") (b:=true) ⟨o,ho,hc⟩ isSubtype_stop ?_)
  exact wpAny_pure (hQ _ hk)
theorem zip_no_len:typeLookup (.type "zip") "__len__" = pure none:=by rw [typeLookup_type,builtinLookup_eq_fast]; kernel_rfl
theorem zip_no_hint:typeLookup (.type "zip") "__length_hint__" = pure none:=by rw [typeLookup_type,builtinLookup_eq_fast]; kernel_rfl
end
end PySem
namespace L2
open PySem PySem.Spec PyProof.Rows
section
variable {X:Cx} {pins:List (Addr×Obj)} {σ : St} {H:Hp} {s:Shared}
theorem inv_tupd {ch:List Addr} {h2:Heap} {x y:V} {u v:Value} (I:Inv X pins σ H s) (hf:∀ b∈ch,FpOk X pins H b) (hk2:∀ b o,b ∉ ch→s.heap.get? b=some o→h2.get? b=some o)
    (hT:IsPair h2 s.heap.objs.size u v) (ru:RelV x u) (rv:RelV y v):Inv X pins σ (upd H s.heap.objs.size (.tup [x,y])) { s with heap:=h2 }:=by
  have hn:H s.heap.objs.size=none:=I.fresh
  have f0:∀ b∈ch,H b=none:=fun b hb => (hf b hb).1
  refine I.step (g':=s.gens) (d':=s.drawn) (t':=s.toks) (ch:=ch) (fun b hb => ?_) (fun b o _ _ hcb q _ => ?_) (fun b o _ _ hcb q _ => ?_) (fun b o _ q n => ?_) (fun b o hcb q => ?_) (fun b ys q => ?_) (fun b o v q => ?_) (fun b qs q => ?_) (fun m hm => ?_) (fun b v q => ?_) I.bare
  · obtain ⟨_,f1,f2,f3,f4,f5⟩:=hf b hb
    exact ⟨f3,f1,f4,f5⟩
  · exact hk2 b o hcb q
  · exact ⟨o.slots,hk2 b o hcb q⟩
  · rw [upd_ne (Nat.ne_of_lt (Heap.lt_size q))]; exact n
  · exact ⟨o,hk2 b o hcb q⟩
  · rw [upd_ne (ne_of_none q hn)]; exact q
  · rw [upd_ne (ne_of_none q hn)]; exact q
  · exact ⟨#[],by rw [upd_ne (ne_of_none q hn),q]; simp⟩
  · obtain ⟨o,es,ep,ho,r⟩:=hm
    exact ⟨o,es,ep,hk2 _ o (fun z => (hf _ z).2.1 rfl) ho,r⟩
  · by_cases hb:b=s.heap.objs.size
    · subst hb
      rw [upd_same] at q
      cases q
      exact ⟨by show 2≤sizeLine; decide,[u,_],.cons ru (.cons rv .nil),_,hT,rfl,_,rfl⟩
    · rw [upd_ne hb] at q
      refine (I.hok b v q).stay (fun c o hc' z => hk2 c o ?_ z) (fun c z => by rw [upd_ne (ne_of_none z hn)]; exact z) fun c ys z => by rw [upd_ne (ne_of_none z hn)]; exact z
      rcases hc' with y | y
      · rw [y]; exact fun w => by rw [f0 b w] at q; cases q
      · exact fun w => by rw [f0 c w] at y; cases y
theorem inv_ch {ch:List Addr} {h2:Heap} (I:Inv X pins σ H s) (hf:∀ b∈ch,FpOk X pins H b) (hk2:∀ b o,b ∉ ch→s.heap.get? b=some o→h2.get? b=some o):Inv X pins σ H { s with heap:=h2 }:=by
  have f0:∀ b∈ch,H b=none:=fun b hb => (hf b hb).1
  refine I.step (g':=s.gens) (d':=s.drawn) (t':=s.toks) (ch:=ch) (fun b hb => ?_) (fun b o _ _ hcb q _ => ?_) (fun b o _ _ hcb q _ => ?_) (fun b o _ q n => n) (fun b o hcb q => ?_) (fun b ys q => q) (fun b o v q => q) (fun b qs q => ⟨#[],by rw [q]; simp⟩) (fun m hm => ?_) (fun b v q => ?_) I.bare
  · obtain ⟨_,f1,f2,f3,f4,f5⟩:=hf b hb
    exact ⟨f3,f1,f4,f5⟩
  · exact hk2 b o hcb q
  · exact ⟨o.slots,hk2 b o hcb q⟩
  · exact ⟨o,hk2 b o hcb q⟩
  · obtain ⟨o,es,ep,ho,r⟩:=hm
    exact ⟨o,es,ep,hk2 _ o (fun z => (hf _ z).2.1 rfl) ho,r⟩
  · refine (I.hok b v q).stay (fun c o hc' z => hk2 c o ?_ z) (fun c z => z) fun c ys z => z
    rcases hc' with y | y
    · rw [y]; exact fun w => by rw [f0 b w] at q; cases q
    · exact fun w => by rw [f0 c w] at y; cases y
structure ZipAt (h:Heap) (S z TI TO i1 i2 l1 l2:Addr) (i:Nat):Prop where
  z:(i=0∧IsZip h z TI TO .none∧∃ a b,IsPair h TO a b)∨∃ T bb oT,IsZipG h z TI TO T bb∧h.get? T=some oT∧T≠z∧T≠i1∧T≠i2∧T≠S
  ti:IsPair h TI (.ref i1) (.ref i2)
  t1:h.IsListIter i1 l1 i
  t2:h.IsListIter i2 l2 i
def PairsAt (H:Hp) (xs ys:List V) (Ts:List Addr):Prop := ∀ (j:Nat) T,Ts[j]? = some T→∃ x y,xs[j]? = some x∧ys[j]? = some y∧H T=some (.tup [x,y])
theorem zip_loop {A:Around} {R:Result→Shared→Prop} (hh:A.in1.handled=none) {l1 l2 S z TI TO i1 i2:Addr} (D:ZipApart z TI TO i1 i2 l1 l2) {xs ys:List V} (hxy:xs.length=ys.length) (hn:xs.length≤1000) (res:Value) :
    ∀ (k i:Nat) (s:Shared) (H:Hp) (Ts:List Addr),xs.length - i=k→i≤xs.length→Inv X pins σ H s→SqL X.K H l1 xs→SqL X.K H l2 ys→H S=some (.lst (Ts.map V.ref))→Ts.length=i→PairsAt H xs ys Ts→ZipAt s.heap S z TI TO i1 i2 l1 l2 i→(∀ b∈[z,TI,TO,i1,i2],FpOk X pins H b)→(∀ b∈[z,TI,TO,i1,i2],b < s.heap.objs.size)→l1≠S→l2≠S →
      (∀ s' H' Ts',Inv X pins σ H' s'→(∀ b o,H b=some o→b≠S→H' b=some o)→H' S=some (.lst (Ts'.map V.ref))→Ts'.length=xs.length→PairsAt H' xs ys Ts'→R (.ok (.ret res)) s') →
      codeAny (model X.prog X.w) A (.builtin "list.extend.loop" ⟨[.ref S,.ref z,res],[]⟩) R s:=by
  intro k
  induction k with
  | zero =>
    intro i s H Ts hk hi I q1 q2 hS hTl hP hZ hf hlt n1 n2 hR
    have hin:i=xs.length:=by omega
    obtain ⟨its,rv,pl,hz⟩:=I.list q1
    obtain ⟨its2,rv2,pl2,hz2⟩:=I.list q2
    have hl:=rv.length
    refine codeAny_builtin PySem.F.entry_extend_loop ?_
    rw [Around.under_plainId PySem.F.plain_extend_loop _]
    show wpAny _ A.in1 (pyNext (.ref z) >>= _) _ _ s
    refine wpAny_bind ?_
    have fin:∀ h',(∀ c o,c ∉ [z,TI,TO,i1,i2]→s.heap.get? c=some o→h'.get? c=some o)→R (.ok (.ret res)) { s with heap:=h' }:=fun h' hk => hR _ H Ts (inv_ch I hf hk) (fun _ _ e _ => e) hS (by omega) hP
    rcases hZ.z with ⟨hi0,hz0,a,b,hTO⟩ | ⟨T,bb,oT,hz1,hT,_⟩
    · exact wpAny_pyNext_zip_end hh D hz0 hZ.ti hTO hZ.t1 hZ.t2 pl.isList pl2.isList (.inl (by simp; omega)) fun h' hk' => wpAny_pure (fin h' fun c o hc e => hk' c o (fun y => hc (by simp [y])) (fun y => hc (by simp [y])) (fun y => hc (by simp [y])) (fun y => hc (by simp [y])) e)
    · exact pyNext_zip_end2 hh D hz1 hZ.ti hT hZ.t1 pl.isList (by simp; omega) fun h' hk' => wpAny_pure (fin h' fun c o hc e => hk' c o (fun y => hc (by simp [y])) (fun y => hc (by simp [y])) e)
  | succ k ih =>
    intro i s H Ts hk hi I q1 q2 hS hTl hP hZ hf hlt n1 n2 hR
    have hlti:i < xs.length:=by omega
    obtain ⟨its,rv,pl,hz⟩:=I.list q1
    obtain ⟨its2,rv2,pl2,hz2⟩:=I.list q2
    have hl:=rv.length
    have hl2:=rv2.length
    have hxi:=List.getElem?_eq_getElem hlti
    have hyi:=List.getElem?_eq_getElem (show i < ys.length by omega)
    obtain ⟨u,hu,ru⟩:=rv.get hxi
    obtain ⟨v,hv,rw2⟩:=rv2.get hyi
    refine codeAny_builtin PySem.F.entry_extend_loop ?_
    rw [Around.under_plainId PySem.F.plain_extend_loop _]
    show wpAny _ A.in1 (pyNext (.ref z) >>= _) _ _ s
    refine wpAny_bind ?_
    have fz:∀ b∈[z,TI,TO,i1,i2],H b=none:=fun b hb => (hf b hb).1
    have go:∀ h',(∃ T bb oT,IsZipG h' z TI TO T bb∧h'.get? T=some oT∧T≠z∧T≠i1∧T≠i2∧T≠S)→h'.IsListIter i1 l1 (i + 1)→h'.IsListIter i2 l2 (i + 1)→IsPair h' s.heap.objs.size u v→h'.objs.size=s.heap.objs.size + 1 →
        (∀ c o,c≠z→c≠TO→c≠i1→c≠i2→s.heap.get? c=some o→h'.get? c=some o) →
        wpAny (model X.prog X.w) A.in1 (updateSeq S (·.push (.ref s.heap.objs.size)) >>= fun _ => again (.builtin "list.extend.loop" ⟨[.ref S,.ref z,res],[]⟩)) (fun fin s' => match fin with | .done f => R (.ok f) s' | .again c' => c'.quiet=true∧codeAny (model X.prog X.w) A c' R s') (fun e s' => R (.error e) s') { s with heap:=h' }:=by
      intro h' hzz ht1 ht2 hTp hsz hkk
      have hn0:H s.heap.objs.size=none:=I.fresh
      have I1:Inv X pins σ (upd H s.heap.objs.size (.tup [xs[i],ys[i]'(by omega)])) { s with heap:=h' }:=inv_tupd (ch:=[z,TI,TO,i1,i2]) I hf (fun c o hc e => hkk c o (fun y => hc (by simp [y])) (fun y => hc (by simp [y])) (fun y => hc (by simp [y])) (fun y => hc (by simp [y])) e) hTp ru rw2
      have up:∀ b o,H b=some o→upd H s.heap.objs.size (.tup [xs[i],ys[i]'(by omega)]) b=some o:=fun b o e => by rw [upd_ne (ne_of_none e hn0)]; exact e
      have hS1:=up _ _ hS
      obtain ⟨zz,itS,nS,rS,hlS,eS⟩:=I1.lstM hS1
      refine wpAny_bind ?_
      have hlen:itS.length=i:=by rw [← hlS,List.length_map,hTl]
      have hbig:(1000:Nat)≤sizeLine:=by decide
      refine wpAny_updateSeq eS rfl (wpAny_pure ⟨plainId_quiet PySem.F.plain_extend_loop _,?_⟩) (by rw [List.size_toArray]; omega) (by show (itS.toArray.push _).size≤_; rw [Array.size_push,List.size_toArray]; omega)
      have I2:=I1.lset (t':=s.toks) (its':=itS ++ [.ref s.heap.objs.size]) (ys:=Ts.map V.ref ++ [V.ref s.heap.objs.size]) (f:=fun a => a.push (.ref s.heap.objs.size)) hS1 eS (by simp) (rS.append (.cons (show RelV (V.ref s.heap.objs.size) (Value.ref s.heap.objs.size) from rfl) .nil)) (by rw [List.length_append,List.length_map,hTl]; show i + 1≤_; omega)
      have nST:S≠s.heap.objs.size:=ne_of_none hS hn0
      have kp:∀ b o,H b=some o→b≠S→(upd (upd H s.heap.objs.size (.tup [xs[i],ys[i]'(by omega)])) S (.lst (Ts.map V.ref ++ [V.ref s.heap.objs.size]))) b=some o:=fun b o e n => by rw [upd_ne n]; exact up b o e
      have sq:∀ {l:Addr} {zs:List V},l≠S→SqL X.K H l zs→SqL X.K (upd (upd H s.heap.objs.size (.tup [xs[i],ys[i]'(by omega)])) S (.lst (Ts.map V.ref ++ [V.ref s.heap.objs.size]))) l zs:=fun n q => by
        rcases q with (q | ⟨o,q⟩) | q
        · exact .inl (.inl (kp _ _ q n))
        · exact .inl (.inr ⟨o,kp _ _ q n⟩)
        · exact .inr q
      have hoth:∀ c,c≠S→(h'.update S (Obj.mapSeq fun a => a.push (.ref s.heap.objs.size))).get? c=h'.get? c:=fun c n => Heap.get?_update_other _ _ (Ne.symm n)
      have nS:∀ b∈[z,TI,TO,i1,i2],b≠S:=fun b hb y => by rw [y] at hb; rw [fz S hb] at hS; cases hS
      have hszu:(h'.update S (Obj.mapSeq fun a => a.push (.ref s.heap.objs.size))).objs.size=h'.objs.size:=(Heap.SameBut.update ..).1
      refine ih (i + 1) _ _ (Ts ++ [s.heap.objs.size]) (by omega) hlti I2 (sq n1 q1) (sq n2 q2) (by rw [upd_same,List.map_append]; rfl) (by rw [List.length_append,hTl]; rfl) (fun j T hj => ?_) ⟨?_,?_,?_,?_⟩ (fun b hb => ?_) (fun b hb => ?_) n1 n2 fun s' H' Ts' a1 a2 a3 a4 a5 => hR s' H' Ts' a1 (fun b o e n => a2 b o (kp b o e n) n) a3 a4 a5
      · by_cases hjl:j < Ts.length
        · rw [List.getElem?_append_left hjl] at hj
          obtain ⟨x,y,b1,b2,b3⟩:=hP j T hj
          exact ⟨x,y,b1,b2,kp _ _ b3 (fun e => by rw [e,hS] at b3; cases b3)⟩
        · rw [List.getElem?_append_right (by omega)] at hj
          have ej:j=i:=by
            cases e:j - Ts.length with
            | zero => omega
            | succ m => rw [e] at hj; cases hj
          subst ej
          rw [show j - Ts.length=0 by omega] at hj
          cases hj
          exact ⟨_,_,hxi,hyi,by rw [upd_ne nST.symm,upd_same]⟩
      · obtain ⟨T,bb,oT,g1,g2,g3⟩:=hzz
        exact .inr ⟨T,bb,oT,(hoth _ (nS z (by simp))).trans g1,(hoth _ g3.2.2.2).trans g2,g3⟩
      · exact (hoth _ (nS TI (by simp))).trans (hkk TI _ D.TIz D.TITO D.TIi1 D.TIi2 hZ.ti)
      · exact ht1.at fun o e => (hoth _ (nS i1 (by simp))).trans e
      · exact ht2.at fun o e => (hoth _ (nS i2 (by simp))).trans e
      · obtain ⟨f0,f1⟩:=hf b hb
        refine ⟨?_,f1⟩
        rw [upd_ne (nS b hb),upd_ne (Nat.ne_of_lt (hlt b hb))]; exact f0
      · exact Nat.lt_of_lt_of_le (hlt b hb) (Nat.le_trans (Nat.le_succ _) (Nat.le_of_eq (hszu.trans hsz).symm))
    have lt:∀ b∈[z,TI,TO,i1,i2],s.heap.objs.size≠b:=fun b hb => Nat.ne_of_gt (hlt b hb)
    have nSz:S≠s.heap.objs.size:=ne_of_none hS I.fresh
    rcases hZ.z with ⟨hi0,hz0,a,b,hTO⟩ | ⟨T,bb,oT,hz1,hT,hTz,hT1,hT2,hTS⟩
    · refine wpAny_pyNext_zip_item D hz0 hZ.ti hTO hZ.t1 hZ.t2 pl.isList pl2.isList (x:=u) (y:=v) (by simpa using hu) (by simpa using hv) fun h' a1 a2 a3 a4 a5 a6 a7 => ?_
      exact go h' ⟨s.heap.objs.size,false,_,a1,a5,lt z (by simp),lt i1 (by simp),lt i2 (by simp),fun e => nSz (by rw [e])⟩ a3 a4 a5 a6 a7
    · refine pyNext_zip_item2 D hz1 hZ.ti hT hZ.t1 hZ.t2 pl.isList pl2.isList (x:=u) (y:=v) (by simpa using hu) (by simpa using hv) fun h' a1 a2 a3 a4 a5 a6 => ?_
      exact go h' ⟨T,true,oT,a1,a6 T _ hTz hT1 hT2 hT,hTz,hT1,hT2,hTS⟩ a2 a3 a4 a5 fun c o c1 c2 c3 c4 e => a6 c o c1 c3 c4 e
theorem call_list_zip {z TI TO i1 i2 l1 l2:Addr} {xs ys:List V} {Q:VK} (hc:X.calm=true) (I:Inv X pins σ H s) (D:ZipApart z TI TO i1 i2 l1 l2) (q1:SqL X.K H l1 xs) (q2:SqL X.K H l2 ys) (hxy:xs.length=ys.length) (hn:xs.length≤1000)
    (hz:IsZip s.heap z TI TO .none) (hTI:IsPair s.heap TI (.ref i1) (.ref i2)) (hTO:∃ a b,IsPair s.heap TO a b) (h1:s.heap.IsListIter i1 l1 0) (h2:s.heap.IsListIter i2 l2 0) (hf:∀ b∈[z,TI,TO,i1,i2],FpOk X pins H b)
    (q:∀ (l:Addr) (Ts:List Addr) (H':Hp),Same H H'→H l=none→H' l=some (.lst (Ts.map V.ref))→Ts.length=xs.length→PairsAt H' xs ys Ts→Q (.ref l) H') :
    wpAny (model X.prog X.w) X.A (call (.type "list") [.ref z]) (EP X pins σ Q) X.xe s:=by
  have hfr:H s.heap.objs.size=none:=I.fresh
  have hlt:∀ b∈[z,TI,TO,i1,i2],b < s.heap.objs.size:=fun b hb => by
    obtain ⟨a',b',hTO⟩:=hTO
    rcases List.mem_cons.mp hb with rfl | hb
    · exact Heap.lt_size hz
    rcases List.mem_cons.mp hb with rfl | hb
    · exact Heap.lt_size hTI
    rcases List.mem_cons.mp hb with rfl | hb
    · exact Heap.lt_size hTO
    rcases List.mem_cons.mp hb with rfl | hb
    · obtain ⟨_,e,_⟩:=h1; exact Heap.lt_size e
    · have e:b=i2:=by simpa using hb
      subst e; obtain ⟨_,e,_⟩:=h2; exact Heap.lt_size e
  have nS:∀ b∈[z,TI,TO,i1,i2],b≠s.heap.objs.size:=fun b hb => Nat.ne_of_lt (hlt b hb)
  refine callType_codes (Q₁:=fun obj s₁ => obj = .ref s.heap.objs.size∧s₁ = { s with heap:=s.heap.push { cls:=.type "list",data:=.seq #[] } }) PySem.F.called_list (PySem.F.typeCall_list_1 _) PySem.F.entry_list_init
    (code_list_new _ ⟨rfl,rfl⟩) fun obj s₁ h₁ => ?_
  obtain ⟨rfl,rfl⟩:=h₁
  have hS:(s.heap.push { cls:=.type "list",data:=.seq #[] }).get? s.heap.objs.size=some { cls:=.type "list",data:=.seq #[] }:=Heap.get?_push_size _ rfl
  have I0:=I.lnew (t':=s.toks) (its:=[]) (ys:=[]) .nil (Nat.zero_le _)
  refine ⟨⟨_,hS,rfl⟩,PySem.F.args_list_init_2 _ _,?_⟩
  show wpAny _ X.A.in1.in1 (do let old ← Builtin.List.listItems (.ref s.heap.objs.size); Builtin.List.listUpdate (.ref s.heap.objs.size) (fun _ => #[]); letGo old.toList.reverse; Builtin.List.listExtendWith (.ref s.heap.objs.size) (.ref z) .none) _ _ _
  refine wpAny_bind ?_
  unfold Builtin.List.listItems
  refine wpAny_bind (wpAny_seqItems hS rfl (wpAny_pure ?_))
  show wpAny _ X.A.in1.in1 (updateSeq s.heap.objs.size (fun _ => #[]) >>= fun _ => letGo (#[]:Array Value).toList.reverse >>= fun _ => Builtin.List.listExtendWith (.ref s.heap.objs.size) (.ref z) .none) _ _ _
  refine wpAny_bind (wpAny_updateSeq hS rfl ?_)
  have I1:=I0.lset (t':=s.toks) (l:=s.heap.objs.size) (its:=[]) (its':=[]) (ys:=[]) (n := 0) (f:=fun _ => (#[]:Array Value)) upd_same hS rfl .nil (Nat.zero_le _)
  have hS1:=Heap.get?_update_self (Obj.mapSeq (fun _ => (#[]:Array Value))) hS rfl
  refine wpAny_bind (wpAny_letGo ?_)
  unfold Builtin.List.listExtendWith
  have hot:∀ (f:Obj→Obj) (h:Heap) (b:Addr),b≠s.heap.objs.size→(h.update s.heap.objs.size f).get? b=h.get? b:=fun f h b n => Heap.get?_update_other _ _ (Ne.symm n)
  have hz1:IsZip ((s.heap.push { cls:=.type "list",data:=.seq #[] }).update s.heap.objs.size (Obj.mapSeq (fun _ => (#[]:Array Value)))) z TI TO .none:=(hot _ _ _ (nS z (by simp))).trans (Heap.get?_push_of_some _ hz)
  refine wpAny_bind (wpAny_typeOf (T := "zip") ⟨_,hz1,rfl⟩ ?_)
  have e1:Builtin.List.listSameRef (.ref s.heap.objs.size) (.ref z)=false:=by simp [Builtin.List.listSameRef,(nS z (by simp)).symm]
  have e2:(Value.type "zip" == Value.type "list")=false:=by decide
  have e3:(Value.type "zip" == Value.type "tuple")=false:=by decide
  simp only [e1,e2,e3,Bool.or_false,Bool.false_eq_true,if_false]
  refine wpAny_bind (wpAny_pyIter_zip hz1 ?_)
  refine wpAny_bind (wpAny_holding ?_)
  unfold Builtin.List.listLengthHint
  refine wpAny_bind (wpAny_specialOf (T := "zip") ⟨_,hz1,rfl⟩ zip_no_len ?_)
  show wpAny _ X.A.in1.in1 (specialOf (Value.ref z) (Str.ofString "__length_hint__") >>= _) _ _ _
  refine wpAny_bind (wpAny_specialOf (T := "zip") ⟨_,hz1,rfl⟩ zip_no_hint ?_)
  refine wpAny_pure ?_
  show wpAny _ X.A.in1.in1 (rule "list.extend.makes-room" >>= fun _ => Builtin.List.listTouch (.ref s.heap.objs.size) >>= fun _ =>
    again (.builtin "list.extend.loop" ⟨[.ref s.heap.objs.size,.ref z,.none],[]⟩)) _ _ _
  refine wpAny_bind (wpAny_rule ?_)
  refine wpAny_bind ?_
  show wpAny _ X.A.in1.in1 (updateSeq s.heap.objs.size (·.push .none) >>= fun _ => updateSeq s.heap.objs.size (·.pop)) _ _ _
  refine wpAny_bind (wpAny_updateSeq hS1 rfl ?_)
  have I2:=I1.lset (t':=s.toks) (l:=s.heap.objs.size) (its:=[]) (its':=[.none]) (ys:=[.non]) (f:=(·.push Value.none)) upd_same hS1 (by simp) (.cons rfl .nil) (by show 1≤sizeLine; decide)
  have hS2:=Heap.get?_update_self (Obj.mapSeq (·.push Value.none)) hS1 rfl
  refine wpAny_updateSeq (hz:=by seq_fits) hS2 rfl ?_
  have I3:=I2.lset (t':=s.toks) (l:=s.heap.objs.size) (its:=[.none]) (its':=[]) (ys:=[]) (f:=(·.pop)) upd_same hS2 (by simp) .nil (Nat.zero_le _)
  rw [upd_upd,upd_upd,upd_upd] at I3
  refine wpAny_pure ⟨plainId_quiet PySem.F.plain_extend_loop _,?_⟩
  have up:∀ b o,H b=some o→upd H s.heap.objs.size (.lst []) b=some o:=fun b o e => by rw [upd_ne (ne_of_none e hfr)]; exact e
  have sq:∀ {l:Addr} {zs:List V},SqL X.K H l zs→SqL X.K (upd H s.heap.objs.size (.lst [])) l zs:=fun q => by
    rcases q with (q | ⟨o,q⟩) | q
    · exact .inl (.inl (up _ _ q))
    · exact .inl (.inr ⟨o,up _ _ q⟩)
    · exact .inr q
  have nl:∀ {l:Addr} {zs:List V},SqL X.K H l zs→l≠s.heap.objs.size:=fun {l zs} q => by
    obtain ⟨_,_,pl,_⟩:=I.list q
    obtain ⟨o,ho,_⟩:=pl.isList
    exact Nat.ne_of_lt (Heap.lt_size ho)
  have keep:∀ b o,b≠s.heap.objs.size→s.heap.get? b=some o→((((s.heap.push { cls:=.type "list",data:=.seq #[] }).update s.heap.objs.size (Obj.mapSeq (fun _ => (#[]:Array Value)))).update s.heap.objs.size (Obj.mapSeq (·.push Value.none))).update s.heap.objs.size (Obj.mapSeq (·.pop))).get? b=some o:=fun b o n e =>
    (hot _ _ _ n).trans ((hot _ _ _ n).trans ((hot _ _ _ n).trans (Heap.get?_push_of_some _ e)))
  refine zip_loop (A:=X.A.in1) (by rw [Around.in1_handled,Around.in1_handled]; exact I.ok.hd hc) D hxy hn .none xs.length 0 _ _ [] rfl (Nat.zero_le _) I3 (sq q1) (sq q2) upd_same rfl (fun j T hj => by cases hj) ⟨.inl ⟨rfl,keep _ _ (nS z (by simp)) hz,?_⟩,keep _ _ (nS TI (by simp)) hTI,h1.at fun o e => keep _ _ (nS i1 (by simp)) e,h2.at fun o e => keep _ _ (nS i2 (by simp)) e⟩ (fun b hb => ?_) (fun b hb => ?_) (nl q1) (nl q2) fun s' H' Ts' a1 a2 a3 a4 a5 => ?_
  · obtain ⟨a,b,hTO⟩:=hTO
    exact ⟨a,b,keep _ _ (nS TO (by simp)) hTO⟩
  · obtain ⟨f0,f1⟩:=hf b hb
    exact ⟨by rw [upd_ne (nS b hb)]; exact f0,f1⟩
  · exact Nat.lt_of_lt_of_le (hlt b hb) (Nat.le_trans (Nat.le_succ _) (Nat.le_of_eq (by rw [(Heap.SameBut.update ..).1,(Heap.SameBut.update ..).1,(Heap.SameBut.update ..).1,Heap.size_push])))
  · exact ⟨rfl,.ref s.heap.objs.size,H',a1,rfl,q _ Ts' H' (fun b o e => a2 b o (up b o e) (ne_of_none e hfr)) hfr a3 a4 a5⟩
def tListZip (K:PySem.W.Frag) (ta:TA):TE:=fun σ H Q => ta σ H fun vs H1 => ∃ l1 l2 xs ys,vs=[.ref l1,.ref l2]∧SqL K H1 l1 xs∧SqL K H1 l2 ys∧xs.length=ys.length∧xs.length≤1000 ∧
  ∀ (l:Addr) (Ts:List Addr) (H':Hp),Same H1 H'→H1 l=none→H' l=some (.lst (Ts.map V.ref))→Ts.length=xs.length→PairsAt H' xs ys Ts→Q (.ref l) H'
theorem pe_listzip {a b:Expr} {ta:TA} {p p2 pos pos2:Pos} (hc:X.calm=true) (hgl:Gl X "list") (hml:X.mg "list" = none) (hgz:Gl X "zip") (hmz:X.mg "zip" = none) (ha:PA X [a,b] ta)
    (hs:starEach [.Call (.Name "zip" p2) [a,b] [] pos2] X.env=[(false,eval (.Call (.Name "zip" p2) [a,b] [] pos2) X.env)]:=by rfl) (hs2:starEach [a,b] X.env=(false,eval a X.env) :: starEach [b] X.env:=by rfl)
    (hpl:(backTo pos2 (starEach [b] X.env)).any (·.1)=false:=by rfl):PE X (.Call (.Name "list" p) [.Call (.Name "zip" p2) [a,b] [] pos2] [] pos) (tListZip X.K ta):=by
  intro pins s σ H Q I h
  refine wpAny_Call_Name_kw (ld_blt I hgl hml (by decide +kernel:bootBuiltins "list" = some (.type "list")) ?_)
  refine PyProof.Rows.callWith_type1 ?_ hs rfl
  rw [hs]
  show wpAny _ _ (spliced ((false,eval (.Call (.Name "zip" p2) [a,b] [] pos2) X.env) :: backTo pos [])) _ _ s
  refine Calls.spliced_cons ?_
  refine wpAny_Call_Name_kw (ld_blt I hgz hmz (by decide +kernel:bootBuiltins "zip" = some (.type "zip")) ?_)
  refine PyProof.Rows.callWith_type1 (thn (ha pos2 pins s σ H _ I h) fun us s1 ⟨vs,H1,I1,r1,q1⟩ => ?_) hs2 hpl
  obtain ⟨l1,l2,xs,ys,rfl,sq1,sq2,hxy,hn,q⟩:=q1
  obtain ⟨u,u',rfl,ru,ru'⟩:=r1.two
  cases (show u=Value.ref l1 from ru)
  cases (show u'=Value.ref l2 from ru')
  obtain ⟨its,rv,pl,hz⟩:=I1.list sq1
  obtain ⟨its2,rv2,pl2,hz2⟩:=I1.list sq2
  refine call_zip_2 pl.isList pl2.isList fun h' hz hTI hTO hi1 hi2 hsz hk => ?_
  have I2:Inv X pins σ H1 { s1 with heap:=h' }:=I1.kept (t':=s1.toks) hk
  have o1:l1 < s1.heap.objs.size:=by obtain ⟨o,ho,_⟩:=pl.isList; exact Heap.lt_size ho
  have o2:l2 < s1.heap.objs.size:=by obtain ⟨o,ho,_⟩:=pl2.isList; exact Heap.lt_size ho
  have D:ZipApart (s1.heap.objs.size + 4) (s1.heap.objs.size + 2) (s1.heap.objs.size + 3) s1.heap.objs.size (s1.heap.objs.size + 1) l1 l2:=PySem.W.ktu_apart _ _ _ o1 o2
  refine Calls.spliced_nil ?_
  refine call_list_zip hc I2 D sq1 sq2 hxy hn hz hTI ⟨_,_,hTO⟩ hi1 hi2 (fun b hb => ?_) q
  have fp:∀ b,s1.heap.objs.size≤b→FpOk X pins H1 b:=fun b hb => I1.fpOk hb (I1.hok.fresh hb)
  refine fp b ?_
  simp only [List.mem_cons,List.not_mem_nil,or_false] at hb
  show s1.heap.objs.size≤(b:Nat)
  rcases hb with rfl | rfl | rfl | rfl | rfl <;> first | exact Nat.le_refl _ | exact Nat.le_add_right _ _
def tDict1 (F:Make) (tk tv:TE):TE:=fun σ H Q => ∀ p,H p=none→tk σ (upd H p (ND p [])) fun x H1 => tv σ H1 fun v H2 => ∃ a k,x = .ref a∧NAt F H2 p []∧TrAt H2 k (.ref a)∧F.fit k∧Q (.ref p) (upd H2 p (ND p [(k,a,v)]))
theorem pe_dict1 (F:Make) (hu:X.A.units + 64 < cLine) {k v:Expr} {tk tv:TE} {pos:Pos} (hk:PE X k tk) (hv:PE X v tv):PE X (.Dict [some k] [v] pos) (tDict1 F tk tv):=by
  intro pins s σ H Q I h
  have h0:=h s.heap.objs.size (I.hok.fresh (Nat.le_refl _))
  have g:=Heap.get?_push_size s.heap (o:={ cls:=.type "dict",data:=.dict #[] }) rfl
  have I0:Inv X pins σ (upd H s.heap.objs.size (ND s.heap.objs.size [])) { s with heap:=s.heap.push { cls:=.type "dict",data:=.dict #[] } } :=
    I.laid (a:=s.heap.objs.size) (o:=ND s.heap.objs.size []) (t':=s.toks) (fun _ _ q => Heap.get?_push_of_some _ q) (Nat.le_refl _)
      ⟨⟨beq_eq_false_iff_ne.mpr (Ne.symm (Nat.ne_of_lt (sys_big I))),_,#[],0,[],g,⟨rfl,rfl,rfl⟩,rfl,.nil,rfl⟩,⟨_,g⟩,fun h1 h2 p k => nd_stay _ _ h1 h2 p k⟩
  refine wpAny_Dict_any rfl rfl (by intro z; cases z) (by show 1≤15; decide) ?_
  show wpAny _ _ (evalPairs [(eval k X.env,do let x ← eval v X.env; standAt pos; pure x)]) _ _ _
  refine evalPairs_cons ?_
  refine thn (hk pins _ σ _ _ I0 h0) fun kv s1 ⟨x,H1,I1,r1,q1⟩ => ?_
  refine wpAny_bind (thn (hv pins s1 σ H1 _ I1 q1) fun vv s2 ⟨y,H2,I2,r2,q2⟩ => ?_)
  refine wpAny_bind (wpAny_standAt (wpAny_pure ?_))
  refine evalPairs_nil ?_
  obtain ⟨a,kk,rfl,hN,ht,hf,q⟩:=q2
  cases r1
  unfold storeAll
  simp only [List.forIn_cons,List.forIn_nil]
  obtain ⟨hs,xs,h4,hD⟩:=nat_dict I2 hN
  cases h4
  refine wpAny_bind (wpAny_bind (wpAny_dictSet_heap (knd:=trKind X.prog X.w F) (by show X.A.units + 8 < cLine; omega) ⟨ht.tv I2 rfl,hf⟩ hD (fun h' hm' hs' => wpAny_pure (wpAny_pure ?_)) (by show 0≤sizeLine; decide)))
  have est:storedH ([]:List (Tr×Addr×Value)) kk a vv=[] ++ [(kk,a,vv)]:=storedH_new rfl a vv
  rw [est] at hm'
  obtain ⟨o',es',ep',g1,g2,g3,g4,g5,g6⟩:=hm'
  refine ⟨.ref s.heap.objs.size,_,I2.write (x:=s.heap.objs.size) (e:=s.heap.objs.size) (by rw [hN.ob]; exact True.intro) (.inl rfl) (fun b q hb y => (hs'.2 b hb).trans y) ⟨_,g1⟩ ?_,rfl,q⟩
  exact ⟨⟨hs,o',es',ep',_,g1,g2,g3,.cons ⟨rfl,rfl,r2⟩ .nil,g4⟩,⟨_,g1⟩,fun h1 h2 p k => nd_stay _ _ h1 h2 p k⟩
end
section
variable {X:Cx}
def rCatB (K:PySem.W.Frag):R2:=fun x y H Q => ∃ a b xs ys,x = .ref a∧y = .ref b∧SqT K H a xs∧SqT K H b ys∧ys≠[]∧xs.length + ys.length≤sizeLine ∧
  (xs=[]→Q (.ref b) H)∧(xs≠[]→∀ p,H p=none→Q (.ref p) (upd H p (.tup (xs ++ ys))))
theorem op_catB:OpR X (binaryOp .Add) (rCatB X.K):=by
  intro pins s σ H x y v u Q I rx ry h
  obtain ⟨a,b,xs,ys,rfl,rfl,ha,hb,hy,hz,q1,q2⟩:=h
  by_cases hx:xs=[]
  · cases rx
    cases ry
    obtain ⟨its,r1,p1,_⟩:=I.tuple ha
    obtain ⟨its2,r2,p2,_⟩:=I.tuple hb
    obtain ⟨⟨cls,dd,data,sl⟩,ho,hc,n,hd⟩:=id p1
    obtain ⟨⟨cls2,dd2,data2,sl2⟩,ho2,hc2,n2,hd2⟩:=id p2
    simp only at hc hd hc2 hd2
    subst hc hd hc2 hd2
    have hi:its=[]:=r1.nil_iff.mpr hx
    exact concat_meets ⟨_,ho,rfl⟩ ⟨_,ho2,rfl⟩ noFill_tuple_add seq_tuple_add PySem.F.slot_tuple_add PySem.F.entry_tuple_add (PySem.F.args_tuple_add_2 _ _)
      (tuple_addW0 a b its.toArray its2.toArray n n2 dd dd2 sl sl2 (by simp [hi])) ⟨ho,ho2,⟨.ref b,H,I,rfl,q1 hx⟩⟩
  · exact op_catT pins s σ H _ _ v u Q I rx ry ⟨a,b,xs,ys,rfl,rfl,ha,hb,hx,hz,fun z => absurd z hy,fun _ => q2 hx⟩
end
end L2
set_option maxHeartbeats 4000000
namespace Toy
open PySem L2
seal PySem.wpAny
def top (i:Nat):Stmt:=PySem.Challenge.pw_chartfold_k10_states_parted.main.body.getD i (.Pass ⟨0,0,0,0⟩)
abbrev sInit:Stmt:=inClass (top 3) 0
abbrev sParted:Stmt:=top 5
abbrev sFirst:Stmt:=top 6
abbrev sBehind:Stmt:=top 7
abbrev sEntries:Stmt:=top 8
abbrev sCell:Stmt:=top 10
abbrev sMach:Stmt:=top 11
abbrev sRound:Stmt:=top 12
abbrev sFar:Stmt:=top 13
abbrev sRow:Stmt:=top 14
abbrev sWord:Stmt:=top 15
abbrev sLaw:Stmt:=top 16
theorem same_new {H:Hp} {p:Addr} (h:H p=none) (o:HO):Same H (upd H p o):=fun b u q => by rw [upd_ne (ne_of_none q h)]; exact q
theorem sameUpd {H H1:Hp} {p:Addr} (h:Same H H1) (hp:H p=none) (o:HO):Same H (upd H1 p o):=fun b u q => by rw [upd_ne (ne_of_none q hp)]; exact h b u q
theorem small {n:Nat} (h:n≤1000):n≤sizeLine:=Nat.le_of_lt (small1000 h)
def Z {α β : Type} (R : α→β→Prop) (xs:List α) (ys:List β):Prop:=xs.length=ys.length∧∀ (i:Nat) x y,xs[i]? = some x→ys[i]? = some y→R x y
theorem Z.nil {α β : Type} {R : α→β→Prop}:Z R [] []:=⟨rfl,fun i x y h => by simp at h⟩
theorem Z.mono {α β : Type} {R S : α→β→Prop} {xs:List α} {ys:List β} (h:Z R xs ys) (m:∀ x y,R x y→S x y):Z S xs ys:=⟨h.1,fun i x y a b => m _ _ (h.2 i x y a b)⟩
theorem Z.monoM {α β : Type} {R S : α→β→Prop} {xs:List α} {ys:List β} (h:Z R xs ys) (m:∀ x y,x∈xs→R x y→S x y):Z S xs ys:=⟨h.1,fun i x y a b => m _ _ (List.mem_of_getElem? a) (h.2 i x y a b)⟩
theorem Z.at {α β : Type} {R : α→β→Prop} {xs:List α} {ys:List β} (h:Z R xs ys) {i:Nat} {y : β} (e:ys[i]? = some y):∃ x,xs[i]? = some x∧R x y:=by
  obtain ⟨hi,_⟩:=List.getElem?_eq_some_iff.mp e
  have hi':i < xs.length:=by rw [h.1]; exact hi
  exact ⟨xs[i],List.getElem?_eq_getElem hi',h.2 i _ y (List.getElem?_eq_getElem hi') e⟩
theorem Z.at1 {α β : Type} {R : α→β→Prop} {xs:List α} {ys:List β} (h:Z R xs ys) {i:Nat} {x : α} (e:xs[i]? = some x):∃ y,ys[i]? = some y∧R x y:=by
  obtain ⟨hi,_⟩:=List.getElem?_eq_some_iff.mp e
  have hi':i < ys.length:=by rw [← h.1]; exact hi
  exact ⟨ys[i],List.getElem?_eq_getElem hi',h.2 i x _ e (List.getElem?_eq_getElem hi')⟩
theorem Z.snoc {α β : Type} {R : α→β→Prop} {xs:List α} {ys:List β} {x : α} {y : β} (h:Z R xs ys) (r:R x y):Z R (xs ++ [x]) (ys ++ [y]):=by
  refine ⟨by simp [h.1],fun i p q a b => ?_⟩
  by_cases hi:i < xs.length
  · rw [List.getElem?_append_left hi] at a
    rw [List.getElem?_append_left (by rw [← h.1]; exact hi)] at b
    exact h.2 i p q a b
  · have hl:=h.1
    rw [List.getElem?_append_right (by omega)] at a
    rw [List.getElem?_append_right (by omega)] at b
    have e1:i - xs.length=0:=by
      cases z:i - xs.length with
      | zero => rfl
      | succ n => rw [z] at a; simp at a
    have e2:i - ys.length=0:=by omega
    rw [e1] at a
    rw [e2] at b
    simp at a b
    subst a b
    exact r
theorem Z.cons {α β : Type} {R : α→β→Prop} {xs:List α} {ys:List β} {x : α} {y : β} (h:Z R xs ys) (r:R x y):Z R (x :: xs) (y :: ys):=by
  refine ⟨by simp [h.1],fun i p q a b => ?_⟩
  cases i with
  | zero => simp at a b; subst a b; exact r
  | succ i => exact h.2 i p q (by simpa using a) (by simpa using b)
theorem Z.uncons {α β : Type} {R : α→β→Prop} {xs:List α} {ys:List β} {x : α} {y : β} (h:Z R (x :: xs) (y :: ys)):R x y∧Z R xs ys :=
  ⟨h.2 0 x y rfl rfl,by have:=h.1; simpa using this,fun i p q a b => h.2 (i + 1) p q (by simpa using a) (by simpa using b)⟩
abbrev Ent:=Int×List Int
abbrev Mach:=List (List Ent)
def DeedsAt (H:Hp) (v:V) (ds:List Int):Prop := ∃ d,v = .ref d∧H d=some (.tup (ds.map V.int))
def EntAt (H:Hp) (v:V) (e:Ent):Prop := ∃ t u,v = .ref t∧H t=some (.tup [.int e.1,u])∧DeedsAt H u e.2
def RowAt (H:Hp) (p:Addr) (r:List Ent):Prop := ∃ vs,H p=some (.lst vs)∧Z (EntAt H) vs r
def RowsAt (H:Hp) (ps:List Addr) (M:Mach):Prop:=Z (RowAt H) ps M
def Keeps (l:Addr) (H H':Hp):Prop := ∀ x o,H x=some o→x≠l→H' x=some o
theorem DeedsAt.keep {H H':Hp} {l:Addr} {v:V} {ds:List Int} (k:Keeps l H H') (hl:∀ ys,H l≠some (.tup ys)) (h:DeedsAt H v ds):DeedsAt H' v ds:=by
  obtain ⟨d,e,h⟩:=h
  exact ⟨d,e,k _ _ h fun z => hl _ (by rw [← z]; exact h)⟩
theorem EntAt.keep {H H':Hp} {l:Addr} {v:V} {e:Ent} (k:Keeps l H H') (hl:∀ ys,H l≠some (.tup ys)) (h:EntAt H v e):EntAt H' v e:=by
  obtain ⟨t,u,e1,h1,h2⟩:=h
  exact ⟨t,u,e1,k _ _ h1 (fun z => hl _ (by rw [← z]; exact h1)),h2.keep k hl⟩
theorem RowAt.keep {H H':Hp} {l p:Addr} {r:List Ent} (k:Keeps l H H') (hl:∀ ys,H l≠some (.tup ys)) (n:p≠l) (h:RowAt H p r):RowAt H' p r:=by
  obtain ⟨vs,h1,h2⟩:=h
  exact ⟨vs,k _ _ h1 n,h2.mono fun _ _ z => z.keep k hl⟩
theorem RowsAt.keep {H H':Hp} {l:Addr} {ps:List Addr} {M:Mach} (k:Keeps l H H') (hl:∀ ys,H l≠some (.tup ys)) (n:∀ p∈ps,p≠l) (h:RowsAt H ps M):RowsAt H' ps M :=
  h.monoM fun p _ hp z => z.keep k hl (n p hp)
theorem DeedsAt.same {H H':Hp} {v:V} {ds:List Int} (s:Same H H') (h:DeedsAt H v ds):DeedsAt H' v ds:=by
  obtain ⟨d,e,h⟩:=h
  exact ⟨d,e,s _ _ h⟩
theorem EntAt.same {H H':Hp} {v:V} {e:Ent} (s:Same H H') (h:EntAt H v e):EntAt H' v e:=by
  obtain ⟨t,u,e1,h1,h2⟩:=h
  exact ⟨t,u,e1,s _ _ h1,h2.same s⟩
theorem RowAt.same {H H':Hp} {p:Addr} {r:List Ent} (s:Same H H') (h:RowAt H p r):RowAt H' p r:=by
  obtain ⟨vs,h1,h2⟩:=h
  exact ⟨vs,s _ _ h1,h2.mono fun _ _ z => z.same s⟩
theorem RowsAt.same {H H':Hp} {ps:List Addr} {M:Mach} (s:Same H H') (h:RowsAt H ps M):RowsAt H' ps M:=h.mono fun _ _ z => z.same s
theorem lst_tup {H:Hp} {l:Addr} {xs:List V} (h:H l=some (.lst xs)):∀ ys,H l≠some (.tup ys):=fun ys z => by rw [h] at z; cases z
theorem kf3:¬ (("rows" : Str) = "ways"):=by decide +kernel
def fflds (s r y:Addr):List (Str×V):=putF "ways" (.ref y) (putF "rows" (.ref r) (putF "states" (.ref s) []))
theorem fflds_rows (s r y:Addr):(fflds s r y).lookup ("rows" : Str)=some (.ref r):=by
  unfold fflds
  rw [lookup_putF,if_neg kf3,lookup_putF,if_pos rfl]
structure FlatIs (C:Addr) (H:Hp) (c s r y:Addr) (ps:List Addr) (S:List V) (M:Mach) (W:List V):Prop where
  ob:∃ dx,H c=some (.ins C dx (fflds s r y))
  hs:H s=some (.lst S)
  hr:H r=some (.lst (ps.map V.ref))
  hm:RowsAt H ps M
  hw:H y=some (.lst W)
theorem FlatIs.same {C:Addr} {H H':Hp} {c s r y:Addr} {ps:List Addr} {S W:List V} {M:Mach} (e:Same H H') (h:FlatIs C H c s r y ps S M W):FlatIs C H' c s r y ps S M W:=by
  obtain ⟨⟨dx,h1⟩,h2,h3,h4,h5⟩:=h
  exact ⟨⟨dx,e _ _ h1⟩,e _ _ h2,e _ _ h3,h4.same e,e _ _ h5⟩
structure GoodM (M:Mach):Prop where
  pos : 0 < M.length
  most:M.length≤30
  four:∀ r∈M,r.length=4
  to:∀ r∈M,∀ e∈r,0≤e.1∧e.1 < M.length
  few:∀ r∈M,∀ e∈r,e.2.length≤2
structure DefAt (K:PySem.W.Frag) (mg:Str→Option Value) (x:Str) (st:Stmt) (ps:List Str) (f:Addr) (fd:FuncData):Prop where
  fn:Fun K x x st f fd
  bd:Binds K fd ps []
  mg:mg x=some (.ref f)
structure FTxt (K:PySem.W.Frag) (mg:Str→Option Value) (C:Addr):Prop where
  cl:Cls K C
  nS:NoAttr K C "states"
  nR:NoAttr K C "rows"
  nW:NoAttr K C "ways"
  mgC:mg "Flat" = some (.ref C)
  len:mg "len" = none
  range:mg "range" = none
  list:mg "list" = none
  inst:mg "isinstance" = none
  tbool:mg "bool" = none
  tint:mg "int" = none
  tup:mg "tuple" = none
  tstr:mg "str" = none
  enum:mg "enumerate" = none
  zip:mg "zip" = none
  behind:∃ t,mg "BEHIND" = some (.int 0 t)
  deeds:∃ t,mg "DEEDS" = some (.int 1 t)
  ll:PySem.W.kitOne K (.type "list") (.type "list")=some true
  bb:PySem.W.kitOne K (.type "bool") (.type "bool")=some true
  ii:PySem.W.kitOne K (.type "int") (.type "int")=some true
  ib:PySem.W.kitOne K (.type "int") (.type "bool")=some false
  pp:PySem.W.kitOne K (.type "tuple") (.type "tuple")=some true
theorem pe_gint {X:Cx} {x:Str} {i:Int} {pos:Pos} (h:∃ t,X.mg x=some (.int i t)) (hg:Gl X x) (hd:(x == ("__debug__" : Str))=false:=by decide):PE X (.Name x pos) (tC (.int i)):=by
  obtain ⟨t,h⟩:=h
  exact pe_glob hg h ⟨t,rfl⟩ hd
theorem ints_get {ns:List Int} {k:Nat} (h:k < ns.length):atI (ns.map V.int) (k:Int)=some (.int ns[k]):=atI_nat (by rw [List.getElem?_map,List.getElem?_eq_getElem h]; rfl)
section
variable {P:Program} {w:World} {K:PySem.W.Frag} {mg:Str→Option Value} {base:Heap}
def spCell (K:PySem.W.Frag):Sp:=fun vs H Q _ => ∃ (a:Addr) (ns:List Int) (k:Nat),vs=[.ref a,.int k]∧SqL K H a (ns.map V.int)∧Q (.int (Rm.cell ns k)) H
theorem scCell:FnScope ["script", "k"] ["script", "k"] (defScope sCell):=⟨rfl,rfl,rfl,by decide +kernel,rfl,by decide +kernel,by decide +kernel⟩
theorem ok_cell {f C:Addr} {fd:FuncData} (D:DefAt K mg "_law_cell_at" sCell ["script", "k"] f fd) (T:FTxt K mg C):FnOk P w K mg base CX0 1 f fd ["script", "k"] (spCell K):=by
  refine D.fn.ok scCell (fun vs H Q E h => ?_) (fun cdv A outer s H vs Q E hr h => ?_)
  · obtain ⟨a,ns,k,rfl,_⟩:=h
    rfl
  obtain ⟨a,ns,k,rfl,hS,q⟩:=h
  refine ⟨_,pss_cons (ps_if (pt_cmpR op_lt (pv 1) (pe_callB call_len_seq (by rfl) T.len PySem.boot_len (pa_cons (pv 0) pa_nil)) (nomark _)) (pss_one (ps_ret (pe_ix ix_list (pv 0) (pv 1) (fun _ _ => rfl)))) pss_nil)
    (pss_one (ps_ret pe_int)),?_⟩
  refine ⟨_,rfl,_,rfl,a,_,rfl,.inl hS,_,_,rfl,rfl,_,rfl,?_⟩
  rw [List.length_map]
  refine ite2 (fun z => ?_) (fun z => ?_)
  · have z':k < ns.length:=by
      have:(k:Int) < (ns.length:Int):=by simpa using z
      omega
    refine ⟨_,rfl,_,rfl,a,_,_,_,rfl,rfl,hS,ints_get z',?_⟩
    have e:Rm.cell ns k=ns[k]:=by
      unfold Rm.cell
      rw [List.getD_eq_getElem?_getD,List.getElem?_eq_getElem z']; rfl
    rw [e] at q
    exact q
  · have z':¬ k < ns.length:=fun y => z (by simpa using y)
    have e:Rm.cell ns k=0:=by
      unfold Rm.cell
      rw [List.getD_eq_getElem?_getD,List.getElem?_eq_none (by omega)]; rfl
    rw [e] at q
    exact q
end
end Toy
namespace Toy
open PySem L2
seal PySem.wpAny
section
variable {P:Program} {w:World} {K:PySem.W.Frag} {mg:Str→Option Value} {base:Heap}
theorem ints_rd {K:PySem.W.Frag} {H:Hp}:∀ xs:List Int,RdVs K H (xs.map V.int) (xs.map PyData.int)
  | [] => .nil
  | x :: r => .cons (.int x) (ints_rd r)
def shapes (n:Nat) (ds:List PyData):Prop:=PyData.canLayAll0 ds=true∧PyData.depthAll ds≤n∧PyData.eqvAll ds ds=true
def shape (n:Nat) (d:PyData):Prop:=PyData.canLay0 d=true∧PyData.depth d≤n∧PyData.eqv d d=true
theorem shapes_map {β : Type} {g : β→PyData} {n:Nat}:∀ bs:List β,(∀ b∈bs,shape n (g b))→shapes n (bs.map g)
  | [],_ => ⟨rfl,by simp [PyData.depthAll],rfl⟩
  | b :: bs,h => by
    obtain ⟨i1,i2,i3⟩:=shapes_map bs fun x hx => h x (List.mem_cons_of_mem _ hx)
    obtain ⟨j1,j2,j3⟩:=h b List.mem_cons_self
    refine ⟨?_,?_,?_⟩
    · simp only [List.map_cons,PyData.canLayAll0,i1,j1,Bool.and_true]
    · simp only [List.map_cons,PyData.depthAll]; omega
    · simp only [List.map_cons,PyData.eqvAll,i3,j3,Bool.and_true]
theorem shape_list {n:Nat} {ds:List PyData} (h:shapes n ds):shape (n + 1) (.list ds):=by
  obtain ⟨a,b,c⟩:=h
  exact ⟨by simpa only [PyData.canLay0] using a,by simp only [PyData.depth]; omega,by simpa only [PyData.eqv] using c⟩
theorem shape_tuple {n:Nat} {ds:List PyData} (h:shapes n ds):shape (n + 1) (.tuple ds):=by
  obtain ⟨a,b,c⟩:=h
  exact ⟨by simpa only [PyData.canLay0] using a,by simp only [PyData.depth]; omega,by simpa only [PyData.eqv] using c⟩
theorem shape_int (i:Int):shape 0 (.int i):=⟨rfl,by simp [PyData.depth],by simp only [PyData.eqv,beq_self_eq_true]⟩
theorem shape_ints (xs:List Int):shapes 0 (xs.map PyData.int):=shapes_map xs fun i _ => shape_int i
theorem shaped_of {n:Nat} {d:PyData} (h:shape n d) (hn:n≤8):SeqAt.shaped d=true:=by
  obtain ⟨a,b,_⟩:=h
  unfold SeqAt.shaped
  rw [Bool.and_eq_true]
  exact ⟨a,decide_eq_true (by omega)⟩
end
end Toy
namespace Toy
open PySem L2
seal PySem.wpAny
section
variable {P:Program} {w:World} {K:PySem.W.Frag} {mg:Str→Option Value} {base:Heap}
def entD (e:Ent):PyData:=.tuple [.int e.1,.tuple (e.2.map PyData.int)]
def rowD (r:List Ent):PyData:=.list (r.map entD)
def rowsD (M:Mach):PyData:=.list (M.map rowD)
theorem z_rd {K:PySem.W.Frag} {H:Hp} {β : Type} {R:V→β→Prop} {g : β→PyData} (m:∀ v b,R v b→RdV K H v (g b)):∀ {vs:List V} {bs:List β},Z R vs bs→RdVs K H vs (bs.map g)
  | [],[],_ => .nil
  | [],_ :: _,h => by have:=h.1; simp at this
  | _ :: _,[],h => by have:=h.1; simp at this
  | v :: vs,b :: bs,h => .cons (m _ _ h.uncons.1) (z_rd m h.uncons.2)
theorem DeedsAt.rd {K:PySem.W.Frag} {H:Hp} {v:V} {ds:List Int} (h:DeedsAt H v ds):RdV K H v (.tuple (ds.map PyData.int)):=by
  obtain ⟨d,rfl,h⟩:=h
  exact .tup (SqT.of h) (ints_rd ds)
theorem EntAt.rd {K:PySem.W.Frag} {H:Hp} {v:V} {e:Ent} (h:EntAt H v e):RdV K H v (entD e):=by
  obtain ⟨t,u,rfl,h1,h2⟩:=h
  exact .tup (SqT.of h1) (.cons (.int _) (.cons h2.rd .nil))
theorem RowAt.rd {K:PySem.W.Frag} {H:Hp} {p:Addr} {r:List Ent} (h:RowAt H p r):RdV K H (.ref p) (rowD r):=by
  obtain ⟨vs,h1,h2⟩:=h
  exact .lst (SqL.of h1) (z_rd (fun _ _ z => z.rd) h2)
theorem RowsAt.rd {K:PySem.W.Frag} {H:Hp} {r:Addr} {ps:List Addr} {M:Mach} (e:H r=some (.lst (ps.map V.ref))) (h:RowsAt H ps M):RdV K H (.ref r) (rowsD M):=by
  refine .lst (SqL.of e) (z_rd (R:=fun v r => ∃ p,v=V.ref p∧RowAt H p r) (fun v b z => ?_) ⟨by simp [h.1],fun i x y a b => ?_⟩)
  · obtain ⟨p,rfl,z⟩:=z
    exact z.rd
  · rw [List.getElem?_map] at a
    cases q:ps[i]? with
    | none => rw [q] at a; simp at a
    | some p =>
      rw [q] at a
      exact ⟨p,by simpa using a.symm,h.2 i p y q b⟩
theorem shape_ent (e:Ent):shape 2 (entD e):=by
  obtain ⟨a,b,c⟩:=shape_tuple (shape_ints e.2)
  refine ⟨?_,?_,?_⟩
  · simp only [entD,PyData.canLay0,PyData.canLayAll0,Bool.and_true] at a ⊢; exact a
  · simp only [entD,PyData.depth,PyData.depthAll] at b ⊢; omega
  · simp only [entD,PyData.eqv,PyData.eqvAll,beq_self_eq_true,Bool.and_true,Bool.true_and] at c ⊢; exact c
theorem shape_row (r:List Ent):shape 3 (rowD r):=shape_list (shapes_map r fun e _ => shape_ent e)
theorem shape_rows (M:Mach):shape 4 (rowsD M):=shape_list (shapes_map M fun e _ => shape_row e)
end
end Toy
namespace Toy
open PySem L2
seal PySem.wpAny
section
variable {P:Program} {w:World} {K:PySem.W.Frag} {mg:Str→Option Value} {base:Heap}
def someL:List (List Int):=[[],[5],[5,7],[],[0],[5]]
def mixM (ns:List Int) (k e:Nat):Int:=(Rm.cell ns (2 + (4 * k + e) % 56) * 48271 + 7919 * (4 * (k:Int) + (e:Int))) % 10007
def deedM (ns:List Int) (g:Nat→Bool) (k e:Nat):List Int:=if g e=true then someL.getD (mixM ns k e / 30 % 6).toNat [] else []
def entM (ns:List Int) (m:Nat) (g:Nat→Bool) (k e:Nat):Ent:=(mixM ns k e % (m:Int),deedM ns g k e)
def machR (ns:List Int) (m:Nat) (g:Nat→Bool) (k:Nat):List Ent:=(List.range 4).map (entM ns m g k)
def machL (ns:List Int) (m:Nat) (g:Nat→Bool):Mach:=(List.range m).map (machR ns m g)
theorem machL_len (ns:List Int) (m:Nat) (g:Nat→Bool):(machL ns m g).length=m:=by simp [machL]
theorem someL_at {n:Nat} (h:n < 6):someL[n]? = some (someL.getD n []):=by
  match n,h with
  | 0,_ => rfl
  | 1,_ => rfl
  | 2,_ => rfl
  | 3,_ => rfl
  | 4,_ => rfl
  | 5,_ => rfl
theorem someL_few (n:Nat):(someL.getD n []).length≤2:=by
  by_cases h:n < 6
  · match n,h with
    | 0,_ => decide
    | 1,_ => decide
    | 2,_ => decide
    | 3,_ => decide
    | 4,_ => decide
    | 5,_ => decide
  · rw [List.getD_eq_getElem?_getD,List.getElem?_eq_none (by simpa [someL] using h)]; decide
theorem mach_good (ns:List Int) {m:Nat} (g:Nat→Bool) (h0 : 0 < m) (h1:m≤30):GoodM (machL ns m g):=by
  refine ⟨by rw [machL_len]; exact h0,by rw [machL_len]; exact h1,fun r hr => ?_,fun r hr e he => ?_,fun r hr e he => ?_⟩
  · obtain ⟨k,_,rfl⟩:=List.mem_map.mp hr
    simp [machR]
  · obtain ⟨k,_,rfl⟩:=List.mem_map.mp hr
    obtain ⟨j,_,rfl⟩:=List.mem_map.mp he
    rw [machL_len]
    exact ⟨Int.emod_nonneg _ (by omega),Int.emod_lt_of_pos _ (by omega)⟩
  · obtain ⟨k,_,rfl⟩:=List.mem_map.mp hr
    obtain ⟨j,_,rfl⟩:=List.mem_map.mp he
    show (deedM ns g k j).length≤2
    unfold deedM
    split
    · exact someL_few _
    · decide
def SomeAt (H:Hp) (so:Addr):Prop := ∃ vs,H so=some (.lst vs)∧Z (DeedsAt H) vs someL
theorem SomeAt.same {H H':Hp} {so:Addr} (s:Same H H') (h:SomeAt H so):SomeAt H' so:=by
  obtain ⟨vs,h1,h2⟩:=h
  exact ⟨vs,s _ _ h1,h2.mono fun _ _ z => z.same s⟩
def spMach (K:PySem.W.Frag) (G:List Int→Nat→Bool):Sp:=fun vs H Q _ => ∃ (a:Addr) (ns:List Int) (m:Nat),vs=[.ref a,.int m]∧SqL K H a (ns.map V.int)∧0 < m∧m≤30 ∧
  ∀ (r:Addr) (ps:List Addr) (H':Hp),H r=Option.none→(∀ p∈ps,H p=Option.none∧p≠r)→Same H H'→H' r=some (.lst (ps.map V.ref))→RowsAt H' ps (machL ns m (G ns))→Q (.ref r) H'
end
end Toy
namespace Toy
open PySem L2
seal PySem.wpAny
section
variable {P:Program} {w:World} {K:PySem.W.Frag} {mg:Str→Option Value} {base:Heap}
def b10 (ns:List Int):Int:=Rm.cell ns 1 / 64 % 8
def g10 (ns:List Int) (e:Nat):Bool:=decide (((e:Int)≤b10 ns∧b10 ns < 4)∨(b10 ns - 4≤(e:Int)∧3 < b10 ns))
theorem scMach:FnScope ["script", "many", "some", "rows", "k", "row", "event", "cell", "mixed", "deeds", "bound"] ["script", "many"] (defScope sMach):=⟨rfl,rfl,rfl,by decide +kernel,rfl,by decide +kernel,by decide +kernel⟩
theorem ok_mach {f C fc:Addr} {fd fdc:FuncData} (D:DefAt K mg "_law_machine" sMach ["script", "many"] f fd) (T:FTxt K mg C) (Dc:DefAt K mg "_law_cell_at" sCell ["script", "k"] fc fdc):FnOk P w K mg base CX0 2 f fd ["script", "many"] (spMach K g10):=by
  have Gc:FnOk P w K mg base CX0 1 fc fdc ["script", "k"] (spCell K):=ok_cell Dc T
  refine D.fn.ok scMach (fun vs H Q E h => ?_) (fun cdv A outer s H vs Q E hr h => ?_)
  · obtain ⟨a,ns,m,rfl,_⟩:=h
    rfl
  obtain ⟨a,ns,m,rfl,hS,h0,h30,q⟩:=h
  refine ⟨_,pss_cons (ps_set (i := 2) scMach.nd rfl (Or.inl rfl) (pe_lst (pa_cons (pe_tup pa_nil) (pa_cons (pe_tup (pa_cons pe_int pa_nil)) (pa_cons (pe_tup (pa_cons pe_int (pa_cons pe_int pa_nil))) (pa_cons (pe_tup pa_nil) (pa_cons (pe_tup (pa_cons pe_int pa_nil)) (pa_cons (pe_tup (pa_cons pe_int pa_nil)) pa_nil))))))))
    (pss_cons (ps_set (i := 3) scMach.nd rfl (Or.inl rfl) (pe_lst pa_nil))
    (pss_cons (ps_for PassesOwn.never rfl (pi_range1 rfl T.range (pa_cons (pv 1) pa_nil)) (pg_name (i := 4) scMach.nd rfl (Or.inl rfl))
      (pss_cons (ps_set (i := 5) scMach.nd rfl (Or.inl rfl) (pe_lst pa_nil))
      (pss_cons (ps_for PassesOwn.never rfl (pi_range1 rfl T.range (pa_cons pe_int pa_nil)) (pg_name (i := 6) scMach.nd rfl (Or.inl rfl))
        (pss_cons (ps_set (i := 7) scMach.nd rfl (Or.inl rfl) (pe_call Gc hr rfl Dc.mg Dc.fn.kp Dc.bd .nil pass0 (pa_cons (pv 0) (pa_cons (pe_op op_add pe_int (pe_op op_mod (pe_op op_add (pe_op op_mul pe_int (pv 4)) (pv 6)) pe_int)) pa_nil))))
        (pss_cons (ps_set (i := 8) scMach.nd rfl (Or.inl rfl) (pe_op op_mod (pe_op op_add (pe_op op_mul (pv 7) pe_int) (pe_op op_mul pe_int (pe_op op_add (pe_op op_mul pe_int (pv 4)) (pv 6)))) pe_int))
        (pss_cons (ps_set (i := 9) scMach.nd rfl (Or.inl rfl) (pe_tup pa_nil))
        (pss_cons (ps_set (i := 10) scMach.nd rfl (Or.inl rfl) (pe_op op_mod (pe_op op_fdiv (pe_call Gc hr rfl Dc.mg Dc.fn.kp Dc.bd .nil pass0 (pa_cons (pv 0) (pa_cons pe_int pa_nil))) pe_int) pe_int))
        (pss_cons (ps_if (PW.pt (pw_or (PW.pt (pw_and (pt_cmpR op_le (pv 6) (pv 10) (nomark _)) (pw_and1 (pt_cmpR op_lt (pv 10) pe_int (nomark _))))) (pw_or1 (PW.pt (pw_and (pt_cmpR op_ge (pv 6) (pe_op op_sub (pv 10) pe_int) (nomark _)) (pw_and1 (pt_cmpR op_gt (pv 10) pe_int (nomark _))))))))
          (pss_one (ps_set (i := 9) scMach.nd rfl (Or.inl rfl) (pe_ix ix_list (pv 2) (pe_op op_mod (pe_op op_fdiv (pv 8) pe_int) pe_int) (fun _ _ => rfl)))) pss_nil)
        (pss_one (ps_expr (pe_bm PySem.F.plainAttrs_list PySem.F.slot_list_append PySem.F.type_list_append mt_append (pv 5) (pa_cons (pe_tup (pa_cons (pe_op op_mod (pv 8) (pv 1)) (pa_cons (pv 9) pa_nil))) pa_nil))))))))))
      (pss_one (ps_expr (pe_bm PySem.F.plainAttrs_list PySem.F.slot_list_append PySem.F.type_list_append mt_append (pv 3) (pa_cons (pv 5) pa_nil)))))))
    (pss_one (ps_ret (pv 3))))),?_⟩
  refine ⟨(by show 0≤sizeLine; decide),fun t1 h1 => ?_⟩
  refine ⟨(by show 1≤sizeLine; decide),fun t2 h2 => ?_⟩
  refine ⟨(by show 2≤sizeLine; decide),fun t3 h3 => ?_⟩
  refine ⟨(by show 0≤sizeLine; decide),fun t4 h4 => ?_⟩
  refine ⟨(by show 1≤sizeLine; decide),fun t5 h5 => ?_⟩
  refine ⟨(by show 1≤sizeLine; decide),fun t6 h6 => ?_⟩
  refine ⟨(by show 6≤sizeLine; decide),fun so h7 => ?_⟩
  have u1:=same_new h1 (.tup [])
  have u2:=same_new h2 (.tup [.int 5])
  have u3:=same_new h3 (.tup [.int 5,.int 7])
  have u4:=same_new h4 (.tup [])
  have u5:=same_new h5 (.tup [.int 0])
  have u6:=same_new h6 (.tup [.int 5])
  have u7:=same_new h7 (.lst [.ref t1,.ref t2,.ref t3,.ref t4,.ref t5,.ref t6])
  have hso:SomeAt (upd (upd (upd (upd (upd (upd (upd H t1 (.tup [])) t2 (.tup [.int 5])) t3 (.tup [.int 5,.int 7])) t4 (.tup [])) t5 (.tup [.int 0])) t6 (.tup [.int 5])) so (.lst [.ref t1,.ref t2,.ref t3,.ref t4,.ref t5,.ref t6])) so:=by
    refine ⟨_,upd_same,?_⟩
    refine Z.cons (Z.cons (Z.cons (Z.cons (Z.cons (Z.cons Z.nil ?_) ?_) ?_) ?_) ?_) ?_
    · exact ⟨t6,rfl,u7 _ _ upd_same⟩
    · exact ⟨t5,rfl,u7 _ _ (u6 _ _ upd_same)⟩
    · exact ⟨t4,rfl,u7 _ _ (u6 _ _ (u5 _ _ upd_same))⟩
    · exact ⟨t3,rfl,u7 _ _ (u6 _ _ (u5 _ _ (u4 _ _ upd_same)))⟩
    · exact ⟨t2,rfl,u7 _ _ (u6 _ _ (u5 _ _ (u4 _ _ (u3 _ _ upd_same))))⟩
    · exact ⟨t1,rfl,u7 _ _ (u6 _ _ (u5 _ _ (u4 _ _ (u3 _ _ (u2 _ _ upd_same)))))⟩
  have s0:=u1.trans (u2.trans (u3.trans (u4.trans (u5.trans (u6.trans u7)))))
  generalize upd (upd (upd (upd (upd (upd (upd H t1 (.tup [])) t2 (.tup [.int 5])) t3 (.tup [.int 5,.int 7])) t4 (.tup [])) t5 (.tup [.int 0])) t6 (.tup [.int 5])) so (.lst [.ref t1,.ref t2,.ref t3,.ref t4,.ref t5,.ref t6])=H0 at hso s0
  clear u1 u2 u3 u4 u5 u6 u7 h1 h2 h3 h4 h5 h6 h7
  refine ⟨(by show 0≤sizeLine; decide),fun ro hro => ?_⟩
  have hro0:H ro=Option.none:=s0.free hro
  refine ⟨_,rfl,m,rfl,by omega,by omega,?_⟩
  have em:((m:Int)).toNat=m:=by omega
  rw [em]
  refine for_range (fun i σ H1 => ∃ v4 v5 v6 v7 v8 v9 vx ps,σ = [some (.ref a),some (.int m),some (.ref so),some (.ref ro),v4,v5,v6,v7,v8,v9,vx]∧Same H0 H1∧H1 ro=some (.lst (ps.map V.ref))∧RowsAt H1 ps ((List.range i).map (machR ns m (g10 ns)))∧∀ p∈ps,H p=Option.none∧p≠ro)
    ⟨_,_,_,_,_,_,_,[],rfl,same_new hro _,upd_same,Z.nil,fun p hp => by simp at hp⟩ ?_ ?_
  · rintro k σ H1 hk ⟨v4,v5,v6,v7,v8,v9,vx,ps,rfl,s1,e1,hR1,hps⟩
    have ek:(0:Int) + (k:Int)=(k:Int):=by omega
    rw [ek]
    refine ⟨(by show 0≤sizeLine; decide),fun rw hrw => ?_⟩
    have nrr:ro≠rw:=ne_of_none e1 hrw
    refine ⟨_,rfl,by decide,by decide,?_⟩
    refine for_range (n := 4) (fun i σ H2 => ∃ v6 v7 v8 v9 vx vs,σ = [some (.ref a),some (.int m),some (.ref so),some (.ref ro),some (.int k),some (.ref rw),v6,v7,v8,v9,vx]∧Same H1 H2∧H2 rw=some (.lst vs)∧Z (EntAt H2) vs ((List.range i).map (entM ns m (g10 ns) k)))
      ⟨_,_,_,_,_,[],rfl,same_new hrw _,upd_same,Z.nil⟩ ?_ ?_
    · rintro e σ H2 he ⟨v6,v7,v8,v9,vx,vs,rfl,s2,e2,hE2⟩
      have ee:(0:Int) + (e:Int)=(e:Int):=by omega
      rw [ee]
      have s02:=s1.trans s2
      have hlen:vs.length=e:=by rw [hE2.1]; simp
      have last:∀ (v:V) (H3:Hp),DeedsAt H3 v (deedM ns (g10 ns) k e)→Same H2 H3→(tDrop (tBM K "list" rAppend (tVar 5) (tCons (tTup (tCons (tOp (rI (fun _ j => 0 < j) fun i j => .int (i % j)) (tVar 8) (tVar 1)) (tCons (tVar 9) tNil))) tNil)))
          { nx:=fun σ H2 => ∃ v6 v7 v8 v9 vx vs,σ = [some (.ref a),some (.int m),some (.ref so),some (.ref ro),some (.int k),some (.ref rw),v6,v7,v8,v9,vx]∧Same H1 H2∧H2 rw=some (.lst vs)∧Z (EntAt H2) vs ((List.range (e + 1)).map (entM ns m (g10 ns) k)),rt:=Q }
          [some (.ref a),some (.int m),some (.ref so),some (.ref ro),some (.int k),some (.ref rw),some (.int e),some (.int (Rm.cell ns (2 + (4 * k + e) % 56))),some (.int (mixM ns k e)),some v,some (.int (b10 ns))] H3:=by
        rintro v H3 hd s3
        refine ⟨_,rfl,.inl ⟨rfl,_,SqL.of (s3 _ _ e2)⟩,_,rfl,_,rfl,_,_,rfl,rfl,by omega,_,rfl,(by show 2≤sizeLine; decide),fun t ht => ?_⟩
        have nt:rw≠t:=ne_of_none (s3 _ _ e2) ht
        refine ⟨rw,_,_,rfl,rfl,(by rw [upd_ne nt]; exact s3 _ _ e2),by rw [hlen]; exact small1000 (by omega),?_⟩
        have kp:Keeps rw H3 (upd (upd H3 t (.tup [.int (mixM ns k e % m),v])) rw (.lst (vs ++ [.ref t]))):=fun x o ex n => by
          rw [upd_ne n,upd_ne (ne_of_none ex ht)]; exact ex
        refine ⟨_,_,_,_,_,_,rfl,fun x o ex => kp x o (s3 _ _ (s2 _ _ ex)) (ne_of_none ex hrw),upd_same,?_⟩
        rw [List.range_succ,List.map_append]
        refine Z.snoc (hE2.mono fun _ _ z => (z.same s3).keep kp (lst_tup (s3 _ _ e2))) ?_
        exact ⟨t,v,rfl,by rw [upd_ne nt.symm,upd_same]; rfl,hd.keep kp (lst_tup (s3 _ _ e2))⟩
      refine ⟨_,rfl,_,rfl,_,_,rfl,rfl,.inl ⟨by decide,by decide⟩,_,rfl,_,_,rfl,rfl,_,_,rfl,rfl,(by show (0:Int) < _; decide),_,_,rfl,rfl,a,ns,2 + (4 * k + e) % 56,?_,(s0.trans s02).seq hS,?_⟩
      · have z:(2:Int) + (4 * (k:Int) + (e:Int)) % 56=((2 + (4 * k + e) % 56:Nat):Int):=by omega
        show [V.ref a,V.int ((2:Int) + (4 * (k:Int) + (e:Int)) % 56)] = _
        rw [z]
      refine ⟨_,rfl,_,_,rfl,rfl,.inr ⟨by decide,by decide⟩,_,rfl,_,_,rfl,rfl,.inl ⟨by decide,by decide⟩,_,rfl,_,_,rfl,rfl,_,_,rfl,rfl,.inl ⟨by decide,by decide⟩,_,_,rfl,rfl,_,_,rfl,rfl,(by show (0:Int) < _; decide),?_⟩
      refine ⟨(by show 0≤sizeLine; decide),fun td htd => ?_⟩
      have s3:=same_new htd (.tup [])
      refine ⟨_,rfl,a,ns,1,rfl,((s0.trans s02).trans s3).seq hS,_,_,rfl,rfl,⟨by decide,by decide⟩,_,_,rfl,rfl,(by show (0:Int) < _; decide),?_⟩
      refine ⟨_,rfl,_,rfl,_,_,rfl,rfl,_,rfl,?_⟩
      refine ite2 (fun z1 => ?_) (fun z1 => ?_)
      · refine ⟨_,rfl,_,_,rfl,rfl,_,rfl,?_⟩
        refine ite2 (fun z2 => ?_) (fun z2 => ?_)
        · have z':g10 ns e=true:=decide_eq_true (.inl ⟨of_decide_eq_true z1,of_decide_eq_true z2⟩)
          refine iteT ?_
          obtain ⟨ws,w1,w2⟩:=(hso.same s02).same s3
          have hlt:(mixM ns k e / 30 % 6).toNat < 6:=by omega
          obtain ⟨x,x1,x2⟩:=w2.at (someL_at hlt)
          refine ⟨_,rfl,_,rfl,_,_,rfl,rfl,⟨by decide,by decide⟩,_,_,rfl,rfl,(by show (0:Int) < _; decide),so,_,_,x,rfl,rfl,SqL.of w1,?_,?_⟩
          · have z2:mixM ns k e / 30 % 6=((mixM ns k e / 30 % 6).toNat:Int):=by omega
            show atI ws (mixM ns k e / 30 % 6)=some x
            rw [z2]
            exact atI_nat x1
          · refine last x _ ?_ s3
            unfold deedM
            rw [if_pos z']
            exact x2
        · skip
          refine ⟨_,rfl,_,rfl,_,_,rfl,rfl,_,_,rfl,rfl,_,rfl,?_⟩
          refine ite2 (fun y1 => ?_) (fun y1 => ?_)
          · refine ⟨_,rfl,_,_,rfl,rfl,_,rfl,?_⟩
            refine ite2 (fun y2 => ?_) (fun y2 => ?_)
            · have z':g10 ns e=true:=decide_eq_true (.inr ⟨of_decide_eq_true y1,of_decide_eq_true y2⟩)
              obtain ⟨ws,w1,w2⟩:=(hso.same s02).same s3
              have hlt:(mixM ns k e / 30 % 6).toNat < 6:=by omega
              obtain ⟨x,x1,x2⟩:=w2.at (someL_at hlt)
              refine ⟨_,rfl,_,rfl,_,_,rfl,rfl,⟨by decide,by decide⟩,_,_,rfl,rfl,(by show (0:Int) < _; decide),so,_,_,x,rfl,rfl,SqL.of w1,?_,?_⟩
              · have z2:mixM ns k e / 30 % 6=((mixM ns k e / 30 % 6).toNat:Int):=by omega
                show atI ws (mixM ns k e / 30 % 6)=some x
                rw [z2]
                exact atI_nat x1
              · refine last x _ ?_ s3
                unfold deedM
                rw [if_pos z']
                exact x2
            · have z':¬ g10 ns e=true:=fun z => by
                rcases of_decide_eq_true z with z | z
                · exact (fun z => z2 (decide_eq_true z.2)) z
                · exact y2 (decide_eq_true z.2)
              refine last (.ref td) _ ?_ s3
              unfold deedM
              rw [if_neg z']
              exact ⟨td,rfl,upd_same⟩
          · have z':¬ g10 ns e=true:=fun z => by
              rcases of_decide_eq_true z with z | z
              · exact (fun z => z2 (decide_eq_true z.2)) z
              · exact y1 (decide_eq_true z.1)
            refine iteF ?_
            refine last (.ref td) _ ?_ s3
            unfold deedM
            rw [if_neg z']
            exact ⟨td,rfl,upd_same⟩
      · refine iteF ?_
        refine ⟨_,rfl,_,rfl,_,_,rfl,rfl,_,_,rfl,rfl,_,rfl,?_⟩
        refine ite2 (fun y1 => ?_) (fun y1 => ?_)
        · refine ⟨_,rfl,_,_,rfl,rfl,_,rfl,?_⟩
          refine ite2 (fun y2 => ?_) (fun y2 => ?_)
          · have z':g10 ns e=true:=decide_eq_true (.inr ⟨of_decide_eq_true y1,of_decide_eq_true y2⟩)
            obtain ⟨ws,w1,w2⟩:=(hso.same s02).same s3
            have hlt:(mixM ns k e / 30 % 6).toNat < 6:=by omega
            obtain ⟨x,x1,x2⟩:=w2.at (someL_at hlt)
            refine ⟨_,rfl,_,rfl,_,_,rfl,rfl,⟨by decide,by decide⟩,_,_,rfl,rfl,(by show (0:Int) < _; decide),so,_,_,x,rfl,rfl,SqL.of w1,?_,?_⟩
            · have z2:mixM ns k e / 30 % 6=((mixM ns k e / 30 % 6).toNat:Int):=by omega
              show atI ws (mixM ns k e / 30 % 6)=some x
              rw [z2]
              exact atI_nat x1
            · refine last x _ ?_ s3
              unfold deedM
              rw [if_pos z']
              exact x2
          · have z':¬ g10 ns e=true:=fun z => by
              rcases of_decide_eq_true z with z | z
              · exact (fun z => z1 (decide_eq_true z.1)) z
              · exact y2 (decide_eq_true z.2)
            refine last (.ref td) _ ?_ s3
            unfold deedM
            rw [if_neg z']
            exact ⟨td,rfl,upd_same⟩
        · have z':¬ g10 ns e=true:=fun z => by
            rcases of_decide_eq_true z with z | z
            · exact (fun z => z1 (decide_eq_true z.1)) z
            · exact y1 (decide_eq_true z.1)
          refine iteF ?_
          refine last (.ref td) _ ?_ s3
          unfold deedM
          rw [if_neg z']
          exact ⟨td,rfl,upd_same⟩
    · rintro σ H2 ⟨v6,v7,v8,v9,vx,vs,rfl,s2,e2,hE2⟩
      refine ⟨_,rfl,.inl ⟨rfl,_,SqL.of (s2 _ _ e1)⟩,_,rfl,ro,_,_,rfl,rfl,s2 _ _ e1,?_,?_⟩
      · rw [List.length_map,hR1.1]; exact small1000 (by simp; omega)
      have kp:Keeps ro H2 (upd H2 ro (.lst (ps.map V.ref ++ [.ref rw]))):=fun x o ex n => by rw [upd_ne n]; exact ex
      refine ⟨_,_,_,_,_,_,_,ps ++ [rw],rfl,fun x o ex => kp x o (s2 _ _ (s1 _ _ ex)) (ne_of_none ex hro),?_,?_,fun p hp => ?_⟩
      · rw [upd_same,List.map_append]; rfl
      · rw [List.range_succ,List.map_append]
        refine Z.snoc ((hR1.same s2).keep kp (lst_tup (s2 _ _ e1)) fun p hp => (hps p hp).2) ?_
        exact ⟨vs,kp _ _ e2 nrr.symm,hE2.mono fun _ _ z => z.keep kp (lst_tup (s2 _ _ e1))⟩
      · rcases List.mem_append.mp hp with z | z
        · exact hps p z
        · have z':p=rw:=by simpa using z
          subst z'
          exact ⟨s0.free (s1.free hrw),nrr.symm⟩
  · rintro σ H1 ⟨v4,v5,v6,v7,v8,v9,vx,ps,rfl,s1,e1,hR1,hps⟩
    refine ⟨_,rfl,?_⟩
    exact q ro ps H1 hro0 hps (s0.trans s1) e1 hR1
end
end Toy
namespace Toy
open PySem L2
seal PySem.wpAny
section
variable {P:Program} {w:World} {K:PySem.W.Frag} {mg:Str→Option Value} {base:Heap}
def ListsAt (H:Hp) (ps:List Addr) (vss:List (List V)):Prop:=Z (fun p vs => H p=some (.lst vs)) ps vss
def spFInit (C:Addr):Sp:=fun vs H Q _ => ∃ (c dx s r y:Addr) (qs:List Addr) (ss:List V) (vss:List (List V)) (ws:List V),vs=[.ref c,.ref s,.ref r,.ref y]∧H c=some (.ins C dx [])∧H s=some (.lst ss)∧H r=some (.lst (qs.map V.ref))∧ListsAt H qs vss∧H y=some (.lst ws)∧qs.length≤100 ∧
  ∀ (s' r' y':Addr) (ps:List Addr) (H':Hp),Keeps c H H'→H' c=some (.ins C dx (fflds s' r' y'))→H s'=Option.none→H' s'=some (.lst ss)→H r'=Option.none→H' r'=some (.lst (ps.map V.ref))→ListsAt H' ps vss→(∀ p∈ps,H p=Option.none∧p≠r')→H y'=Option.none→H' y'=some (.lst ws)→Q .non H'
theorem scFInit:FnScope ["self", "states", "rows", "ways"] ["self", "states", "rows", "ways"] (defScope sInit):=⟨rfl,rfl,rfl,by decide +kernel,rfl,by decide +kernel,by decide +kernel⟩
theorem ok_finit {f C:Addr} {fd:FuncData} (F:Fun K "__init__" "Flat.__init__" sInit f fd) (T:FTxt K mg C):FnOk P w K mg base CX0 1 f fd ["self", "states", "rows", "ways"] (spFInit C):=by
  refine F.ok scFInit (fun vs H Q E h => ?_) (fun cdv A outer s H vs Q E hr h => ?_)
  · obtain ⟨c,dx,s,r,y,qs,ss,vss,ws,rfl,_⟩:=h
    rfl
  obtain ⟨c,dx,sa,ra,ya,qs,ss,vss,ws,rfl,hc,hs,hra,hqs,hy,hl,q⟩:=h
  refine ⟨_,pss_cons (ps_fld (pv 0) (pe_callTy call_list_of (by rfl) T.list (by decide +kernel) (pa_cons (pv 1) pa_nil)) rfl)
    (pss_cons (ps_fld (pv 0) (pe_comp ["row"] [Option.none] rfl (pi_list (pv 2)) (fun _ => pg_name (i := 0) (show (["row"]:List Str).Nodup by decide +kernel) rfl (Or.inl rfl)) (fun _ => pts_nil)
      (fun _ => pe_callTy call_list_of (by rfl) T.list (by decide +kernel) (pa_cons (pv 0) pa_nil))
      (N:=["self", "states", "rows", "ways"]) (ks:=(defScope sInit).names) rfl rfl (by decide +kernel) (by decide +kernel) (by decide +kernel) (by decide +kernel)) rfl)
    (pss_one (ps_fld (pv 0) (pe_callTy call_list_of (by rfl) T.list (by decide +kernel) (pa_cons (pv 3) pa_nil)) rfl))),?_⟩
  refine ⟨_,rfl,sa,_,rfl,.inl (SqL.of hs),fun l1 hl1 => ?_⟩
  have n1:c≠l1:=ne_of_none hc hl1
  refine ⟨_,rfl,c,C,dx,_,rfl,(by rw [upd_ne n1]; exact hc),T.cl,T.nS,(by show 0 < 1000; decide),?_⟩
  have k1:Keeps c H (upd (upd H l1 (.lst ss)) c (.ins C dx (putF "states" (.ref l1) []))):=fun x o e n => by rw [upd_ne n,upd_ne (ne_of_none e hl1)]; exact e
  have c1:(upd (upd H l1 (.lst ss)) c (.ins C dx (putF "states" (.ref l1) []))) c=some (.ins C dx (putF "states" (.ref l1) [])):=upd_same
  have e1:(upd (upd H l1 (.lst ss)) c (.ins C dx (putF "states" (.ref l1) []))) l1=some (.lst ss):=by rw [upd_ne n1.symm,upd_same]
  have f1:∀ x,(upd (upd H l1 (.lst ss)) c (.ins C dx (putF "states" (.ref l1) []))) x=Option.none→H x=Option.none:=fun x e => by
    cases z:H x with
    | none => rfl
    | some o =>
      by_cases n:x=c
      · rw [n,c1] at e; cases e
      · rw [k1 x o z n] at e; cases e
  generalize upd (upd H l1 (.lst ss)) c (.ins C dx (putF "states" (.ref l1) []))=H1 at k1 c1 e1 f1 ⊢
  have ntc:∀ {p xs},H p=some (.lst xs)→p≠c:=fun e => ne_of e hc (by intro z; cases z)
  have r1:H1 ra=some (.lst (qs.map V.ref)):=k1 _ _ hra (ntc hra)
  refine ⟨_,rfl,ra,rfl,⟨_,SqL.of r1⟩,fun bk D hD => ?_⟩
  refine comp_listA (K:=K) (xs:=qs.map V.ref) (Pv:=fun i ys σ H' => ∃ v ps,σ = [v]∧ys=ps.map V.ref∧Same H1 H'∧ListsAt H' ps (vss.take i)∧∀ p∈ps,H1 p=Option.none∧p≠D) ⟨_,[],rfl,rfl,same_new hD _,by rw [List.take_zero]; exact Z.nil,fun p hp => by simp at hp⟩ ?_ ?_ ?_
  · rintro i ys σ H' hi hDi ⟨v,ps,rfl,rfl,s2,_,_⟩
    exact SqL.of (s2 _ _ r1)
  · rintro i x ys σ H' hx hDi ⟨v,ps,rfl,rfl,s2,hL,hps⟩
    obtain ⟨qa,hqa,rfl⟩ : ∃ qa,qs[i]? = some qa∧V.ref qa=x:=by
      rw [List.getElem?_map] at hx
      cases z:qs[i]? with
      | none => rw [z] at hx; simp at hx
      | some p => rw [z] at hx; exact ⟨p,rfl,by simpa using hx⟩
    obtain ⟨vs,hvs,hq⟩:=hqs.at1 hqa
    refine ⟨_,rfl,qa,vs,rfl,.inl (SqL.of (s2 _ _ (k1 _ _ hq (ntc hq)))),fun l hl => ?_⟩
    have nDl:D≠l:=ne_of_none hDi hl
    have hi:i < vss.length:=(List.getElem?_eq_some_iff.mp hvs).1
    refine ⟨by rw [upd_ne nDl]; exact hDi,?_,⟨_,ps ++ [l],rfl,by rw [List.map_append]; rfl,?_,?_,fun p hp => ?_⟩⟩
    · have z:=hL.1
      rw [List.length_take] at z
      have z2:=hqs.1
      rw [List.length_map]
      exact small1000 (by omega)
    · exact sameUpd (sameUpd s2 (s2.free hl) _) hD _
    · rw [List.take_succ,hvs]
      refine Z.snoc (hL.monoM fun p vs hp e => ?_) ?_
      · show (upd (upd H' l (.lst _)) D _) p=_
        rw [upd_ne (hps p hp).2,upd_ne (ne_of_none e hl)]; exact e
      · show (upd (upd H' l (.lst _)) D _) l=_
        rw [upd_ne nDl.symm,upd_same]
    · rcases List.mem_append.mp hp with z | z
      · exact hps p z
      · have z':p=l:=by simpa using z
        subst z'
        exact ⟨s2.free hl,nDl.symm⟩
  · rintro ys σ H2 hD2 ⟨v,ps,rfl,rfl,s2,hL,hps⟩
    have ecl:(qs.map V.ref).length=vss.length:=by rw [List.length_map,hqs.1]
    rw [ecl,List.take_length] at hL
    refine ⟨_,rfl,c,C,dx,_,rfl,s2 _ _ c1,T.cl,T.nR,(by show 1 < 1000; decide),?_⟩
    have c2:=s2 _ _ c1
    have ncD:c≠D:=ne_of_none c1 hD
    have npc:∀ p∈ps,p≠c:=fun p hp z => by
      have y:=(hps p hp).1
      rw [z,c1] at y
      cases y
    have k2:Keeps c H2 (upd H2 c (.ins C dx (putF "rows" (.ref D) (putF "states" (.ref l1) [])))):=fun x o e n => by rw [upd_ne n]; exact e
    have c3:(upd H2 c (.ins C dx (putF "rows" (.ref D) (putF "states" (.ref l1) [])))) c=some (.ins C dx (putF "rows" (.ref D) (putF "states" (.ref l1) []))):=upd_same
    have f3:∀ x,(upd H2 c (.ins C dx (putF "rows" (.ref D) (putF "states" (.ref l1) [])))) x=Option.none→H2 x=Option.none:=fun x e => by
      by_cases n:x=c
      · rw [n,c3] at e; cases e
      · rw [upd_ne n] at e; exact e
    generalize upd H2 c (.ins C dx (putF "rows" (.ref D) (putF "states" (.ref l1) [])))=H3 at k2 c3 f3 ⊢
    have y3:H3 ya=some (.lst ws):=k2 _ _ (s2 _ _ (k1 _ _ hy (ntc hy))) (ntc hy)
    refine ⟨_,rfl,ya,_,rfl,.inl (SqL.of y3),fun l3 hl3 => ?_⟩
    have n3:c≠l3:=ne_of_none c3 hl3
    refine ⟨_,rfl,c,C,dx,_,rfl,(by rw [upd_ne n3]; exact c3),T.cl,T.nW,(by show 2 < 1000; decide),?_⟩
    have k4:Keeps c H3 (upd (upd H3 l3 (.lst ws)) c (.ins C dx (putF "ways" (.ref l3) (putF "rows" (.ref D) (putF "states" (.ref l1) []))))):=fun x o e n => by rw [upd_ne n,upd_ne (ne_of_none e hl3)]; exact e
    have hl3':=f3 _ hl3
    have hl3H:H1 l3=Option.none:=s2.free hl3'
    refine q l1 D l3 ps _ (fun x o e n => k4 _ _ (k2 _ _ (s2 _ _ (k1 _ _ e n)) n) n) upd_same hl1 (k4 _ _ (k2 _ _ (s2 _ _ e1) n1.symm) n1.symm) (f1 _ hD) (k4 _ _ (k2 _ _ hD2 ncD.symm) ncD.symm) (hL.monoM fun p vs hp e => k4 _ _ (k2 _ _ e (npc p hp)) (npc p hp)) (fun p hp => ⟨f1 _ (hps p hp).1,(hps p hp).2⟩) (f1 _ hl3H) ?_
    rw [upd_ne n3.symm,upd_same]
end
end Toy
namespace Toy
open PySem L2
seal PySem.wpAny
section
variable {P:Program} {w:World} {K:PySem.W.Frag} {mg:Str→Option Value} {base:Heap}
def entAt (M:Mach) (n e:Nat):Ent:=(M.getD n []).getD e (0,[])
theorem entAt_get {M:Mach} (G:GoodM M) {n e:Nat} (hn:n < M.length) (he:e < 4):∃ r,M[n]? = some r∧r.length=4∧r[e]? = some (entAt M n e)∧0≤(entAt M n e).1∧(entAt M n e).1 < M.length∧(entAt M n e).2.length≤2:=by
  have hm:M[n]∈M:=List.getElem_mem hn
  have h4:=G.four _ hm
  have ee:entAt M n e=M[n][e]'(by omega):=by
    unfold entAt
    rw [List.getD_eq_getElem?_getD,List.getD_eq_getElem?_getD,List.getElem?_eq_getElem hn]
    rw [Option.getD_some,List.getElem?_eq_getElem (show e < M[n].length by omega)]; rfl
  have hme:M[n][e]'(by omega)∈M[n]:=List.getElem_mem _
  refine ⟨M[n],List.getElem?_eq_getElem hn,h4,?_,?_⟩
  · rw [ee]; exact List.getElem?_eq_getElem (by omega)
  · rw [ee]
    exact ⟨(G.to _ hm _ hme).1,(G.to _ hm _ hme).2,G.few _ hm _ hme⟩
end
end Toy
namespace Toy
open PySem L2
seal PySem.wpAny
section
variable {P:Program} {w:World} {K:PySem.W.Frag} {mg:Str→Option Value} {base:Heap}
def intsTr:List Int→Tr
  | [] => .nil
  | i :: r => .cons (.int i) (intsTr r)
theorem intsTr_inj:∀ {a b:List Int},intsTr a=intsTr b→a=b
  | [],[],_ => rfl
  | [],_ :: _,h => by cases h
  | _ :: _,[],h => by cases h
  | x :: a,y :: b,h => by
    injection h with h1 h2
    injection h1 with h1
    rw [h1,intsTr_inj h2]
theorem intsTr_dep:∀ a:List Int,(intsTr a).dep=1
  | [] => rfl
  | x :: a => by
    show max ((Tr.int x).dep + 1) (intsTr a).dep=1
    rw [intsTr_dep a]; rfl
theorem intsTr_cmp:∀ a b:List Int,(intsTr a).cmp (intsTr b)
  | [],[] => trivial
  | [],_ :: _ => trivial
  | _ :: _,[] => trivial
  | x :: a,y :: b => ⟨trivial,intsTr_cmp a b⟩
theorem ints_tr {H:Hp}:∀ xs:List Int,TrsAt H (intsTr xs) (xs.map V.int)
  | [] => .nil
  | x :: r => .cons (.int x) (ints_tr r)
def nV (xs:List Nat):List V:=xs.map fun (n:Nat) => V.int (n:Int)
theorem nV_len (xs:List Nat):(nV xs).length=xs.length:=by simp [nV]
end
end Toy
namespace Toy
open PySem L2
seal PySem.wpAny
section
variable {P:Program} {w:World} {K:PySem.W.Frag} {mg:Str→Option Value} {base:Heap}
def mcOf (M:Mach):Fm.Mc:=⟨M.length,fun a e => (entAt M a e).1.toNat,fun a e => (entAt M a e).2⟩
theorem mc_ok {M:Mach} (G:GoodM M):(mcOf M).Ok:=⟨G.pos,fun a e ha he => by
  obtain ⟨r,_,_,_,g1,g2,_⟩:=entAt_get G (show a < M.length from ha) he
  show (entAt M a e).1.toNat < M.length
  omega⟩
theorem eqv_nats:∀ a b:List Nat,PyData.eqvAll (a.map fun (n:Nat) => PyData.int (n:Int)) (b.map fun (n:Nat) => PyData.int (n:Int))=decide (a=b)
  | [],[] => rfl
  | [],_ :: _ => rfl
  | _ :: _,[] => rfl
  | x :: a,y :: b => by
    simp only [List.map_cons,PyData.eqvAll,PyData.eqv,eqv_nats a b]
    by_cases h:x=y
    · subst h
      by_cases h2:a=b
      · simp [h2]
      · simp [h2]
    · have h':¬ (x:Int)=(y:Int):=by omega
      simp [h,h']
theorem nats_rd {K:PySem.W.Frag} {H:Hp} {a:Addr} {xs:List Nat} (h:H a=some (.lst (nV xs))):RdV K H (.ref a) (.list (xs.map fun (n:Nat) => PyData.int (n:Int))):=by
  have z:=ints_rd (K:=K) (H:=H) (xs.map fun (n:Nat) => (n:Int))
  rw [List.map_map,List.map_map] at z
  exact .lst (SqL.of h) z
theorem nats_shape (xs:List Nat):shape 1 (.list (xs.map fun (n:Nat) => PyData.int (n:Int))):=shape_list (shapes_map xs fun i _ => shape_int _)
end
end Toy
namespace Toy
open PySem L2
seal PySem.wpAny
section
variable {P:Program} {w:World} {K:PySem.W.Frag} {mg:Str→Option Value} {base:Heap}
def tabL (n:Nat) (F:Nat→Nat→Nat) (a:Nat):List Nat:=(List.range n).map (F a)
theorem tabL_len (n:Nat) (F:Nat→Nat→Nat) (a:Nat):(tabL n F a).length=n:=by simp [tabL]
theorem tabL_get {n:Nat} {F:Nat→Nat→Nat} {a b:Nat} (h:b < n):(tabL n F a)[b]? = some (F a b):=by
  unfold tabL
  rw [List.getElem?_map,List.getElem?_range h]; rfl
def LineAt (n:Nat) (F:Nat→Nat→Nat) (H:Hp) (p:Addr) (a:Nat):Prop:=H p=some (.lst (nV (tabL n F a)))
def TabAt (n:Nat) (F:Nat→Nat→Nat) (H:Hp) (f:Addr) (ps:List Addr):Prop:=H f=some (.lst (ps.map V.ref))∧Z (LineAt n F H) ps (List.range n)
theorem TabAt.same {n:Nat} {F:Nat→Nat→Nat} {H H':Hp} {f:Addr} {ps:List Addr} (s:Same H H') (h:TabAt n F H f ps):TabAt n F H' f ps:=⟨s _ _ h.1,h.2.mono fun _ _ z => s _ _ z⟩
theorem TabAt.line {n:Nat} {F:Nat→Nat→Nat} {H:Hp} {f:Addr} {ps:List Addr} (h:TabAt n F H f ps) {a:Nat} (ha:a < n):∃ p,atI (ps.map V.ref) (a:Int)=some (.ref p)∧H p=some (.lst (nV (tabL n F a))):=by
  obtain ⟨p,hp,hl⟩:=h.2.at (List.getElem?_range ha)
  exact ⟨p,atI_nat (by rw [List.getElem?_map,hp]; rfl),hl⟩
theorem nV_get {xs:List Nat} {i x:Nat} (h:xs[i]? = some x):atI (nV xs) (i:Int)=some (.int (x:Int)):=atI_nat (by unfold nV; rw [List.getElem?_map,h]; rfl)
theorem nV_set (xs:List Nat) (i x:Nat):(nV xs).set i (.int (x:Int))=nV (xs.set i x):=by unfold nV; rw [List.map_set]
theorem ixN_of {n:Nat} {i:Int} {j:Nat} (e:i=(j:Int)) (h:j < n):ixN n i=some j:=by
  subst e
  unfold ixN
  rw [if_pos (by omega),if_pos (by omega),Int.toNat_natCast]
structure RowsIs (H:Hp) (r:Addr) (ps:List Addr) (M:Mach):Prop where
  hr:H r=some (.lst (ps.map V.ref))
  hm:RowsAt H ps M
theorem RowsIs.same {H H':Hp} {r:Addr} {ps:List Addr} {M:Mach} (s:Same H H') (h:RowsIs H r ps M):RowsIs H' r ps M:=⟨s _ _ h.hr,h.hm.same s⟩
theorem RowsIs.ent {H:Hp} {r:Addr} {ps:List Addr} {M:Mach} (h:RowsIs H r ps M) (G:GoodM M) {a e:Nat} (ha:a < M.length) (he:e < 4) :
    ∃ p vs v,atI (ps.map V.ref) (a:Int)=some (.ref p)∧H p=some (.lst vs)∧atI vs (e:Int)=some v∧EntAt H v (entAt M a e):=by
  obtain ⟨row,er,_,ee,_⟩:=entAt_get G ha he
  obtain ⟨p,hp,vs,hv,hE⟩:=h.hm.at er
  obtain ⟨v,hv2,hv3⟩:=hE.at ee
  exact ⟨p,vs,v,atI_nat (by rw [List.getElem?_map,hp]; rfl),hv,atI_nat hv2,hv3⟩
def fcond (m:Fm.Mc) (t a b e:Nat):Bool:=if t=0 then decide (m.dd a e≠m.dd b e) else decide (Fm.far m t (m.nx a e) (m.nx b e)=t)
def fcur (m:Fm.Mc) (t a b e:Nat):Nat:=if Fm.far m t a b≠0 then Fm.far m t a b else if (List.range e).any (fcond m t a b)=true then t + 1 else 0
theorem fcur_zero (m:Fm.Mc) (t a b:Nat):fcur m t a b 0=Fm.far m t a b:=by
  unfold fcur
  by_cases h:Fm.far m t a b≠0
  · rw [if_pos h]
  · rw [if_neg h]
    have:Fm.far m t a b=0:=by omega
    rw [this]; rfl
theorem fcur_four (m:Fm.Mc) (t a b:Nat):fcur m t a b 4=Fm.far m (t + 1) a b:=by
  unfold fcur
  rw [Fm.far]
  have e:(List.range 4).any (fcond m t a b)=(if t=0 then (List.range 4).any fun e => decide (m.dd a e≠m.dd b e) else (List.range 4).any fun e => decide (Fm.far m t (m.nx a e) (m.nx b e)=t)):=by
    by_cases h:t=0
    · rw [if_pos h]
      unfold fcond
      simp only [if_pos h]
    · rw [if_neg h]
      unfold fcond
      simp only [if_neg h]
  rw [e]
theorem fcur_succ_nz {m:Fm.Mc} {t a b e:Nat} (h:fcur m t a b e≠0):fcur m t a b (e + 1)=fcur m t a b e:=by
  unfold fcur at h ⊢
  by_cases hf:Fm.far m t a b≠0
  · rw [if_pos hf,if_pos hf]
  · rw [if_neg hf] at h
    rw [if_neg hf,if_neg hf]
    by_cases hy:(List.range e).any (fcond m t a b)=true
    · rw [if_pos hy,List.range_succ,List.any_append,hy,Bool.true_or,if_pos rfl]
    · rw [if_neg hy] at h
      exact absurd rfl h
theorem fcur_succ_z {m:Fm.Mc} {t a b e:Nat} (h:fcur m t a b e=0):fcur m t a b (e + 1)=if fcond m t a b e=true then t + 1 else 0:=by
  unfold fcur at h ⊢
  by_cases hf:Fm.far m t a b≠0
  · rw [if_pos hf] at h
    exact absurd h hf
  · rw [if_neg hf] at h
    rw [if_neg hf]
    by_cases hy:(List.range e).any (fcond m t a b)=true
    · rw [if_pos hy] at h
      omega
    · have hy':(List.range e).any (fcond m t a b)=false:=by cases z:(List.range e).any (fcond m t a b) with | true => exact absurd z hy | false => rfl
      rw [List.range_succ,List.any_append,hy',Bool.false_or,List.any_cons,List.any_nil,Bool.or_false]
theorem eqv_ints:∀ a b:List Int,PyData.eqvAll (a.map PyData.int) (b.map PyData.int)=decide (a=b)
  | [],[] => rfl
  | [],_ :: _ => rfl
  | _ :: _,[] => rfl
  | x :: a,y :: b => by
    simp only [List.map_cons,PyData.eqvAll,PyData.eqv,eqv_ints a b]
    by_cases h:x=y
    · subst h
      by_cases h2:a=b
      · simp [h2]
      · simp [h2]
    · simp [h]
def spRound:Sp:=fun vs H Q _ => ∃ (r f:Addr) (ps fs:List Addr) (M:Mach) (t:Nat),vs=[.ref r,.ref f,.int ((t + 1:Nat):Int)]∧RowsIs H r ps M∧GoodM M∧TabAt M.length (Fm.far (mcOf M) t) H f fs∧t≤100 ∧
  ∀ (g:Addr) (gs:List Addr) (H':Hp),Same H H'→TabAt M.length (Fm.far (mcOf M) (t + 1)) H' g gs→Q (.ref g) H'
theorem scRound:FnScope ["rows", "far", "turn", "found", "a", "line", "b", "event", "mine", "theirs"] ["rows", "far", "turn"] (defScope sRound):=⟨rfl,rfl,rfl,by decide +kernel,rfl,by decide +kernel,by decide +kernel⟩
theorem ok_round {f C:Addr} {fd:FuncData} (D:DefAt K mg "_law_far_round" sRound ["rows", "far", "turn"] f fd) (T:FTxt K mg C):FnOk P w K mg base CX0 1 f fd ["rows", "far", "turn"] spRound:=by
  refine D.fn.ok scRound (fun vs H Q E h => ?_) (fun cdv A outer s H vs Q E hr h => ?_)
  · obtain ⟨r,f,ps,fs,M,t,rfl,_⟩:=h
    rfl
  obtain ⟨r,fa,ps,fs,M,t,rfl,hR,hG,hT,ht,q⟩:=h
  refine ⟨_,pss_cons (ps_set (i := 3) scRound.nd rfl (Or.inl rfl) (pe_lst pa_nil))
    (pss_cons (ps_for PassesOwn.never rfl (pi_range1 rfl T.range (pa_cons (pe_callB call_len_seq (by rfl) T.len PySem.boot_len (pa_cons (pv 0) pa_nil)) pa_nil)) (pg_name (i := 4) scRound.nd rfl (Or.inl rfl))
      (pss_cons (ps_set (i := 5) scRound.nd rfl (Or.inl rfl) (pe_callTy call_list_of (by rfl) T.list (by decide +kernel) (pa_cons (pe_ix ix_list (pv 1) (pv 4) (fun _ _ => rfl)) pa_nil)))
      (pss_cons (ps_for PassesOwn.never rfl (pi_range1 rfl T.range (pa_cons (pe_callB call_len_seq (by rfl) T.len PySem.boot_len (pa_cons (pv 0) pa_nil)) pa_nil)) (pg_name (i := 6) scRound.nd rfl (Or.inl rfl))
        (pss_one (ps_for PassesOwn.never rfl (pi_range1 rfl T.range (pa_cons pe_int pa_nil)) (pg_name (i := 7) scRound.nd rfl (Or.inl rfl))
          (pss_cons (ps_set (i := 8) scRound.nd rfl (Or.inl rfl) (pe_ix ix_list (pe_ix ix_list (pv 0) (pv 4) (fun _ _ => rfl)) (pv 7) (fun _ _ => rfl)))
          (pss_cons (ps_set (i := 9) scRound.nd rfl (Or.inl rfl) (pe_ix ix_list (pe_ix ix_list (pv 0) (pv 6) (fun _ _ => rfl)) (pv 7) (fun _ _ => rfl)))
          (pss_cons (ps_if (PW.pt (pw_and (pt_cmpR op_eq (pe_ix ix_list (pv 5) (pv 6) (fun _ _ => rfl)) pe_int (nomark _)) (pw_and (pt_cmpR op_eq (pv 2) pe_int (nomark _)) (pw_and1 (pt_cmpR (op_neD hr.units) (pe_ix ix_tup (pv 8) pe_int (fun _ _ => rfl)) (pe_ix ix_tup (pv 9) pe_int (fun _ _ => rfl)) (nomark _))))))
            (pss_one (ps_asg pe_int (pg_sub (pv 5) (pv 6) set_list))) pss_nil)
          (pss_one (ps_if (PW.pt (pw_and (pt_cmpR op_eq (pe_ix ix_list (pv 5) (pv 6) (fun _ _ => rfl)) pe_int (nomark _)) (pw_and (pt_cmpR op_gt (pv 2) pe_int (nomark _)) (pw_and1 (pt_cmpR op_eq (pe_ix ix_list (pe_ix ix_list (pv 1) (pe_ix ix_tup (pv 8) pe_int (fun _ _ => rfl)) (fun _ _ => rfl)) (pe_ix ix_tup (pv 9) pe_int (fun _ _ => rfl)) (fun _ _ => rfl)) (pe_op op_sub (pv 2) pe_int) (nomark _))))))
            (pss_one (ps_asg (pv 2) (pg_sub (pv 5) (pv 6) set_list))) pss_nil)))))))
      )
      (pss_one (ps_expr (pe_bm PySem.F.plainAttrs_list PySem.F.slot_list_append PySem.F.type_list_append mt_append (pv 3) (pa_cons (pv 5) pa_nil)))))))
    (pss_one (ps_ret (pv 3)))),?_⟩
  have hpl:(ps.map V.ref).length=M.length:=by rw [List.length_map,hR.hm.1]
  have hm30:=hG.most
  have ok:=mc_ok hG
  refine ⟨(by show 0≤sizeLine; decide),fun fo hfo => ?_⟩
  have s1:=same_new hfo (.lst [])
  refine ⟨_,rfl,r,_,rfl,.inl (SqL.of (s1 _ _ hR.hr)),_,rfl,by rw [hpl]; omega,by rw [hpl]; omega,?_⟩
  rw [hpl]
  have em:((M.length:Int)).toNat=M.length:=by omega
  rw [em]
  refine for_range (fun a σ H1 => ∃ v4 v5 v6 v7 v8 v9 gs,σ = [some (.ref r),some (.ref fa),some (.int ((t + 1:Nat):Int)),some (.ref fo),v4,v5,v6,v7,v8,v9]∧Same H H1∧H1 fo=some (.lst (gs.map V.ref))∧Z (LineAt M.length (Fm.far (mcOf M) (t + 1)) H1) gs (List.range a)∧∀ p∈gs,p≠fo)
    ⟨_,_,_,_,_,_,[],rfl,s1,upd_same,Z.nil,fun p hp => by simp at hp⟩ ?_ ?_
  · rintro a σ H1 ha ⟨v4,v5,v6,v7,v8,v9,gs,rfl,s2,e2,hZ,hgs⟩
    have ea:(0:Int) + (a:Int)=(a:Int):=by omega
    rw [ea]
    obtain ⟨pl,hpl1,hpl2⟩:=(hT.same s2).line ha
    refine ⟨_,rfl,_,rfl,fa,_,_,_,rfl,rfl,SqL.of (s2 _ _ hT.1),hpl1,pl,_,rfl,.inl (SqL.of hpl2),fun ln hln => ?_⟩
    have s3:=same_new hln (.lst (nV (tabL M.length (Fm.far (mcOf M) t) a)))
    have nfl:fo≠ln:=ne_of_none e2 hln
    have hln0:H ln=Option.none:=s2.free hln
    refine ⟨_,rfl,r,_,rfl,.inl (SqL.of ((s2.trans s3) _ _ hR.hr)),_,rfl,by rw [hpl]; omega,by rw [hpl]; omega,?_⟩
    rw [hpl,em]
    refine for_range (fun b σ H2 => ∃ v6 v7 v8 v9 L,σ = [some (.ref r),some (.ref fa),some (.int ((t + 1:Nat):Int)),some (.ref fo),some (.int (a:Int)),some (.ref ln),v6,v7,v8,v9]∧Same H1 H2∧H2 ln=some (.lst (nV L))∧L.length=M.length∧∀ j,j < M.length→L[j]? = some (if j < b then Fm.far (mcOf M) (t + 1) a j else Fm.far (mcOf M) t a j))
      ⟨_,_,_,_,tabL M.length (Fm.far (mcOf M) t) a,rfl,s3,upd_same,tabL_len _ _ _,fun j hj => by rw [if_neg (by omega)]; exact tabL_get hj⟩ ?_ ?_
    · rintro b σ H2 hb ⟨v6,v7,v8,v9,L,rfl,s4,e4,hL,hLj⟩
      have eb:(0:Int) + (b:Int)=(b:Int):=by omega
      rw [eb]
      refine ⟨_,rfl,by decide,by decide,?_⟩
      refine for_range (n := 4) (fun e σ H3 => ∃ v7 v8 v9 L,σ = [some (.ref r),some (.ref fa),some (.int ((t + 1:Nat):Int)),some (.ref fo),some (.int (a:Int)),some (.ref ln),some (.int (b:Int)),v7,v8,v9]∧Same H1 H3∧H3 ln=some (.lst (nV L))∧L.length=M.length∧∀ j,j < M.length→L[j]? = some (if j < b then Fm.far (mcOf M) (t + 1) a j else if j=b then fcur (mcOf M) t a b e else Fm.far (mcOf M) t a j))
        ⟨_,_,_,L,rfl,s4,e4,hL,fun j hj => by
          rw [hLj j hj]
          by_cases h1:j < b
          · rw [if_pos h1,if_pos h1]
          · rw [if_neg h1,if_neg h1]
            by_cases h2:j=b
            · rw [if_pos h2,fcur_zero,h2]
            · rw [if_neg h2]⟩ ?_ ?_
      · rintro e σ H3 he ⟨v7,v8,v9,L,rfl,s5,e5,hL,hLj⟩
        have ee:(0:Int) + (e:Int)=(e:Int):=by omega
        rw [ee]
        have he4:e < 4:=he
        have s05:=s2.trans s5
        have hR5:=hR.same s05
        obtain ⟨p1,vs1,x1,a1,a2,a3,t1,u1,rfl,a5,a6⟩:=hR5.ent hG ha he4
        obtain ⟨p2,vs2,x2,b1,b2,b3,t2,u2,rfl,b5,b6⟩:=hR5.ent hG hb he4
        refine ⟨_,rfl,_,rfl,r,_,_,_,rfl,rfl,SqL.of hR5.hr,a1,_,rfl,p1,_,_,_,rfl,rfl,SqL.of a2,a3,?_⟩
        refine ⟨_,rfl,_,rfl,r,_,_,_,rfl,rfl,SqL.of hR5.hr,b1,_,rfl,p2,_,_,_,rfl,rfl,SqL.of b2,b3,?_⟩
        have hLb:L[b]? = some (fcur (mcOf M) t a b e):=by rw [hLj b hb,if_neg (by omega),if_pos rfl]
        have gLb:atI (nV L) (b:Int)=some (.int ((fcur (mcOf M) t a b e:Nat):Int)):=nV_get hLb
        have hbl:b < (nV L).length:=by rw [nV_len]; omega
        have keep:fcur (mcOf M) t a b (e + 1)=fcur (mcOf M) t a b e→∃ v7 v8 v9 L,[some (V.ref r),some (.ref fa),some (.int ((t + 1:Nat):Int)),some (.ref fo),some (.int (a:Int)),some (.ref ln),some (.int (b:Int)),some (.int (e:Int)),some (.ref t1),some (.ref t2)] = [some (V.ref r),some (.ref fa),some (.int ((t + 1:Nat):Int)),some (.ref fo),some (.int (a:Int)),some (.ref ln),some (.int (b:Int)),v7,v8,v9]∧Same H1 H3∧H3 ln=some (.lst (nV L))∧L.length=M.length∧∀ j,j < M.length→L[j]? = some (if j < b then Fm.far (mcOf M) (t + 1) a j else if j=b then fcur (mcOf M) t a b (e + 1) else Fm.far (mcOf M) t a j) :=
          fun z => ⟨_,_,_,L,rfl,s5,e5,hL,by rw [z]; exact hLj⟩
        have store:fcur (mcOf M) t a b (e + 1)=t + 1→∃ v7 v8 v9 L',[some (V.ref r),some (.ref fa),some (.int ((t + 1:Nat):Int)),some (.ref fo),some (.int (a:Int)),some (.ref ln),some (.int (b:Int)),some (.int (e:Int)),some (.ref t1),some (.ref t2)] = [some (V.ref r),some (.ref fa),some (.int ((t + 1:Nat):Int)),some (.ref fo),some (.int (a:Int)),some (.ref ln),some (.int (b:Int)),v7,v8,v9]∧Same H1 (upd H3 ln (.lst ((nV L).set b (.int ((t + 1:Nat):Int)))))∧(upd H3 ln (.lst ((nV L).set b (.int ((t + 1:Nat):Int))))) ln=some (.lst (nV L'))∧L'.length=M.length∧∀ j,j < M.length→L'[j]? = some (if j < b then Fm.far (mcOf M) (t + 1) a j else if j=b then fcur (mcOf M) t a b (e + 1) else Fm.far (mcOf M) t a j) :=
          fun z => ⟨_,_,_,L.set b (t + 1),rfl,fun x o ex => by rw [upd_ne (ne_of_none ex hln)]; exact s5 _ _ ex,by rw [upd_same,nV_set],by rw [List.length_set]; exact hL,fun j hj => by
            by_cases h2:j=b
            · subst h2
              rw [List.getElem?_set_self (by omega),if_neg (by omega),if_pos rfl,z]
            · rw [List.getElem?_set_ne (fun y => h2 y.symm),hLj j hj,if_neg h2,if_neg h2]⟩
        by_cases hx:fcur (mcOf M) t a b e=0
        ·
          have hs:=fcur_succ_z hx
          have z0:decide (V.int ((fcur (mcOf M) t a b e:Nat):Int)=V.int 0)=true:=decide_eq_true (by rw [hx]; rfl)
          refine ⟨_,rfl,_,rfl,ln,_,_,_,rfl,rfl,SqL.of e5,gLb,rfl,_,rfl,?_⟩
          rw [z0]
          refine iteT ?_
          refine ⟨_,rfl,rfl,_,rfl,?_⟩
          by_cases t0:t=0
          · rw [decide_eq_true (show V.int ((t + 1:Nat):Int)=V.int 1 by rw [t0]; rfl)]
            refine iteT ?_
            have sh1:=shape_tuple (shape_ints (entAt M a e).2)
            have sh2:=shape_tuple (shape_ints (entAt M b e).2)
            refine ⟨_,rfl,t1,_,_,_,rfl,rfl,SqT.of a5,rfl,_,rfl,t2,_,_,_,rfl,rfl,SqT.of b5,rfl,_,_,a6.rd,b6.rd,shaped_of sh1 (by decide),shaped_of sh2 (by decide),_,rfl,?_⟩
            have eq:(if (true:Bool)=true then !PyData.eqv (.tuple ((entAt M a e).2.map PyData.int)) (.tuple ((entAt M b e).2.map PyData.int)) else PyData.eqv (.tuple ((entAt M a e).2.map PyData.int)) (.tuple ((entAt M b e).2.map PyData.int))) = !decide ((entAt M a e).2=(entAt M b e).2):=by
              rw [if_pos rfl,← eqv_ints]
              simp only [PyData.eqv]
            rw [eq]
            by_cases hd:(entAt M a e).2=(entAt M b e).2
            · rw [decide_eq_true hd]
              refine iteF ?_
              have hc:fcond (mcOf M) t a b e=false:=by
                unfold fcond
                rw [if_pos t0]
                exact decide_eq_false fun y => y hd
              rw [hc] at hs
              refine ⟨_,rfl,_,rfl,ln,_,_,_,rfl,rfl,SqL.of e5,gLb,rfl,_,rfl,?_⟩
              rw [z0]
              refine iteT ?_
              refine ⟨_,rfl,_,_,rfl,rfl,_,rfl,?_⟩
              rw [decide_eq_false (show ¬ (1:Int) < ((t + 1:Nat):Int) by omega)]
              refine iteF ?_
              refine iteF ?_
              exact keep (by rw [hs,hx]; rfl)
            · rw [decide_eq_false hd]
              refine iteT ?_
              have hc:fcond (mcOf M) t a b e=true:=by
                unfold fcond
                rw [if_pos t0]
                exact decide_eq_true hd
              rw [hc,if_pos rfl] at hs
              refine ⟨_,rfl,_,rfl,ln,_,_,b,rfl,rfl,e5,ixN_of rfl hbl,?_⟩
              have st:=store hs
              have e1:V.int ((t + 1:Nat):Int)=V.int 1:=by rw [t0]; rfl
              have g1:atI ((nV L).set b (.int 1)) (b:Int)=some (.int 1):=atI_nat (List.getElem?_set_self hbl)
              refine ⟨_,rfl,_,rfl,ln,_,_,_,rfl,rfl,SqL.of upd_same,g1,rfl,_,rfl,?_⟩
              refine iteF ?_
              refine iteF ?_
              rw [e1] at st
              rw [e1]
              exact st
          · rw [decide_eq_false (show ¬ V.int ((t + 1:Nat):Int)=V.int 1 from fun y => by injection y with y; omega)]
            refine iteF ?_
            refine iteF ?_
            refine ⟨_,rfl,_,rfl,ln,_,_,_,rfl,rfl,SqL.of e5,gLb,rfl,_,rfl,?_⟩
            rw [z0]
            refine iteT ?_
            refine ⟨_,rfl,_,_,rfl,rfl,_,rfl,?_⟩
            rw [decide_eq_true (show (1:Int) < ((t + 1:Nat):Int) by omega)]
            refine iteT ?_
            obtain ⟨_,_,_,_,q1,q2,_⟩:=entAt_get hG ha he4
            obtain ⟨_,_,_,_,q3,q4,_⟩:=entAt_get hG hb he4
            have n1:(entAt M a e).1=(((entAt M a e).1.toNat:Nat):Int):=by omega
            have n2:(entAt M b e).1=(((entAt M b e).1.toNat:Nat):Int):=by omega
            obtain ⟨pq,pq1,pq2⟩:=(hT.same s05).line (show (entAt M a e).1.toNat < M.length by omega)
            rw [← n1] at pq1
            have gq:atI (nV (tabL M.length (Fm.far (mcOf M) t) (entAt M a e).1.toNat)) (entAt M b e).1=some (.int ((Fm.far (mcOf M) t (entAt M a e).1.toNat (entAt M b e).1.toNat:Nat):Int)):=by
              have:=nV_get (tabL_get (n:=M.length) (F:=Fm.far (mcOf M) t) (a:=(entAt M a e).1.toNat) (b:=(entAt M b e).1.toNat) (by omega))
              rw [← n2] at this
              exact this
            refine ⟨_,rfl,_,rfl,t1,_,_,_,rfl,rfl,SqT.of a5,rfl,fa,_,_,_,rfl,rfl,SqL.of (s05 _ _ hT.1),pq1,_,rfl,t2,_,_,_,rfl,rfl,SqT.of b5,rfl,pq,_,_,_,rfl,rfl,SqL.of pq2,gq,_,rfl,_,_,rfl,rfl,rfl,_,rfl,?_⟩
            have ec:decide (V.int ((Fm.far (mcOf M) t (entAt M a e).1.toNat (entAt M b e).1.toNat:Nat):Int)=V.int (((t + 1:Nat):Int) - 1))=fcond (mcOf M) t a b e:=by
              unfold fcond
              rw [if_neg t0]
              refine decide_eq_decide.mpr ⟨fun y => ?_,fun y => ?_⟩
              · injection y with y
                show Fm.far (mcOf M) t (entAt M a e).1.toNat (entAt M b e).1.toNat=t
                omega
              · have y':Fm.far (mcOf M) t (entAt M a e).1.toNat (entAt M b e).1.toNat=t:=y
                rw [y']
                congr 1
                omega
            show if decide (V.int ((Fm.far (mcOf M) t (entAt M a e).1.toNat (entAt M b e).1.toNat:Nat):Int)=V.int (((t + 1:Nat):Int) - 1))=true then _ else _
            rw [ec]
            cases hc:fcond (mcOf M) t a b e with
            | false =>
              rw [hc] at hs
              refine iteF ?_
              exact keep (by rw [hs,hx]; rfl)
            | true =>
              rw [hc,if_pos rfl] at hs
              refine iteT ?_
              exact ⟨_,rfl,_,rfl,_,rfl,ln,_,_,b,rfl,rfl,e5,ixN_of rfl hbl,store hs⟩
        ·
          have hs:=fcur_succ_nz hx
          have z0:decide (V.int ((fcur (mcOf M) t a b e:Nat):Int)=V.int 0)=false:=decide_eq_false fun y => by injection y with y; omega
          refine ⟨_,rfl,_,rfl,ln,_,_,_,rfl,rfl,SqL.of e5,gLb,rfl,_,rfl,?_⟩
          rw [z0]
          refine iteF ?_
          refine iteF ?_
          refine ⟨_,rfl,_,rfl,ln,_,_,_,rfl,rfl,SqL.of e5,gLb,rfl,_,rfl,?_⟩
          rw [z0]
          refine iteF ?_
          refine iteF ?_
          exact keep hs
      · rintro σ H3 ⟨v7,v8,v9,L,rfl,s5,e5,hL,hLj⟩
        refine ⟨_,_,_,_,L,rfl,s5,e5,hL,fun j hj => ?_⟩
        rw [hLj j hj]
        by_cases h1:j < b
        · rw [if_pos h1,if_pos (by omega)]
        · rw [if_neg h1]
          by_cases h2:j=b
          · rw [if_pos h2,if_pos (by omega),fcur_four,h2]
          · rw [if_neg h2,if_neg (by omega)]
    · rintro σ H2 ⟨v6,v7,v8,v9,L,rfl,s4,e4,hL,hLj⟩
      have eL:L=tabL M.length (Fm.far (mcOf M) (t + 1)) a:=List.ext_getElem? fun j => by
        by_cases hj:j < M.length
        · rw [hLj j hj,if_pos hj,tabL_get hj]
        · rw [List.getElem?_eq_none (by omega),List.getElem?_eq_none (by rw [tabL_len]; omega)]
      rw [eL] at e4
      refine ⟨_,rfl,.inl ⟨rfl,_,SqL.of (s4 _ _ e2)⟩,_,rfl,fo,_,_,rfl,rfl,s4 _ _ e2,?_,?_⟩
      · rw [List.length_map,hZ.1,List.length_range]; exact small1000 (by omega)
      have kp:Keeps fo H2 (upd H2 fo (.lst (gs.map V.ref ++ [.ref ln]))):=fun x o ex n => by rw [upd_ne n]; exact ex
      refine ⟨_,_,_,_,_,_,gs ++ [ln],rfl,fun x o ex => kp x o (s4 _ _ (s2 _ _ ex)) (ne_of_none ex hfo),?_,?_,fun p hp => ?_⟩
      · rw [upd_same,List.map_append]; rfl
      · rw [List.range_succ]
        refine Z.snoc (hZ.monoM fun p x hp z => kp _ _ (s4 _ _ z) (hgs p hp)) ?_
        exact kp _ _ e4 nfl.symm
      · rcases List.mem_append.mp hp with z | z
        · exact hgs p z
        · have z':p=ln:=by simpa using z
          subst z'
          exact nfl.symm
  · rintro σ H1 ⟨v4,v5,v6,v7,v8,v9,gs,rfl,s2,e2,hZ,hgs⟩
    exact ⟨_,rfl,q fo gs H1 s2 ⟨e2,hZ⟩⟩
end
end Toy
namespace Toy
open PySem L2
seal PySem.wpAny
section
variable {P:Program} {w:World} {K:PySem.W.Frag} {mg:Str→Option Value} {base:Heap}
theorem no_free {sc:Scope} {ks:List (Str×NameKind)} (h:(sc.names.all fun p => decide (p.2≠.free))=true):∀ p∈sc.names,p.2 = .free→ks.lookup p.1=some .cell:=fun p hp hf =>
  absurd hf (of_decide_eq_true (List.all_eq_true.mp h p hp))
theorem far0 (m:Fm.Mc) (n a:Nat):tabL n (Fm.far m 0) a=List.replicate n 0:=by
  refine List.ext_getElem? fun i => ?_
  rw [List.getElem?_replicate]
  by_cases h:i < n
  · rw [tabL_get h,if_pos h]; rfl
  · rw [List.getElem?_eq_none (by rw [tabL_len]; omega),if_neg h]
def tabD (n:Nat) (F:Nat→Nat→Nat):PyData:=.list ((List.range n).map fun a => PyData.list ((tabL n F a).map fun (x:Nat) => PyData.int (x:Int)))
theorem TabAt.rd {K:PySem.W.Frag} {n:Nat} {F:Nat→Nat→Nat} {H:Hp} {f:Addr} {ps:List Addr} (h:TabAt n F H f ps):RdV K H (.ref f) (tabD n F):=by
  refine .lst (SqL.of h.1) (z_rd (R:=fun v a => ∃ p,v=V.ref p∧LineAt n F H p a) (g:=fun a => PyData.list ((tabL n F a).map fun (x:Nat) => PyData.int (x:Int))) (fun v b z => ?_) ⟨by simp [h.2.1],fun i x y a b => ?_⟩)
  · obtain ⟨p,rfl,z⟩:=z
    exact nats_rd z
  · rw [List.getElem?_map] at a
    cases q:ps[i]? with
    | none => rw [q] at a; simp at a
    | some p =>
      rw [q] at a
      exact ⟨p,by simpa using a.symm,h.2.2 i p y q b⟩
theorem tab_shape (n:Nat) (F:Nat→Nat→Nat):shape 2 (tabD n F):=shape_list (shapes_map (List.range n) fun a _ => nats_shape (tabL n F a))
theorem eqv_map {α : Type} {f g : α→PyData}:∀ l:List α,PyData.eqvAll (l.map f) (l.map g)=l.all fun x => PyData.eqv (f x) (g x)
  | [] => rfl
  | x :: l => by simp only [List.map_cons,PyData.eqvAll,List.all_cons,eqv_map l]
theorem tab_eqv (n:Nat) (F G:Nat→Nat→Nat):PyData.eqv (tabD n F) (tabD n G)=true ↔ ∀ a b,a < n→b < n→F a b=G a b:=by
  unfold tabD
  simp only [PyData.eqv]
  rw [eqv_map,List.all_eq_true]
  simp only [PyData.eqv,eqv_nats,decide_eq_true_eq]
  constructor
  · intro h a b ha hb
    have z:=congrArg (fun l => l[b]?) (h a (List.mem_range.mpr ha))
    have z':(tabL n F a)[b]? = (tabL n G a)[b]?:=z
    rw [tabL_get hb,tabL_get hb] at z'
    exact Option.some.inj z'
  · intro h a ha
    unfold tabL
    exact List.map_congr_left fun b hb => h a b (List.mem_range.mp ha) (List.mem_range.mp hb)
def spFar:Sp:=fun vs H Q _ => ∃ (r:Addr) (ps:List Addr) (M:Mach),vs=[.ref r]∧RowsIs H r ps M∧GoodM M ∧
  ∀ (t:Nat) (g:Addr) (gs:List Addr) (H':Hp),Same H H'→Fm.Stable (mcOf M) t→TabAt M.length (Fm.far (mcOf M) t) H' g gs→Q (.ref g) H'
theorem scFar:FnScope ["rows", "far", "turn", "turned"] ["rows"] (defScope sFar):=⟨rfl,rfl,rfl,by decide +kernel,rfl,by decide +kernel,by decide +kernel⟩
theorem ok_far {f C fr:Addr} {fd fdr:FuncData} (D:DefAt K mg "_law_far" sFar ["rows"] f fd) (T:FTxt K mg C) (Dr:DefAt K mg "_law_far_round" sRound ["rows", "far", "turn"] fr fdr):FnOk P w K mg base CX0 2 f fd ["rows"] spFar:=by
  have Gr:FnOk P w K mg base CX0 1 fr fdr ["rows", "far", "turn"] spRound:=ok_round Dr T
  refine D.fn.ok scFar (fun vs H Q E h => ?_) (fun cdv A outer s H vs Q E hr h => ?_)
  · obtain ⟨r,ps,M,rfl,_⟩:=h
    rfl
  obtain ⟨r,ps,M,rfl,hR,hG,q⟩:=h
  refine ⟨_,pss_cons (ps_comp (i := 1) ["a", "rows"] [Option.none,some 0] rfl scFar.nd rfl rfl (pi_list (pv 0)) (fun _ => pg_name (i := 0) (show (["a", "rows"]:List Str).Nodup by decide +kernel) rfl (Or.inl rfl)) (fun _ => pts_nil)
      (fun _ => pe_comp ["b"] [Option.none] rfl (pi_list (pv 1)) (fun _ => pg_name (i := 0) (show (["b"]:List Str).Nodup by decide +kernel) rfl (Or.inl rfl)) (fun _ => pts_nil) (fun _ => pe_int)
        (N:=["a", "rows"]) rfl rfl (no_free (by decide +kernel)) (by decide +kernel) (by decide +kernel) (by decide +kernel))
      (N:=["rows", "far", "turn", "turned"]) (ks:=(defScope sFar).names) rfl rfl (by decide +kernel) (by decide +kernel) (by decide +kernel) (by decide +kernel))
    (pss_cons (ps_for PassesOwn.never rfl (pi_range2 rfl T.range (pa_cons pe_int (pa_cons (pe_op op_add (pe_callB call_len_seq (by rfl) T.len PySem.boot_len (pa_cons (pv 0) pa_nil)) pe_int) pa_nil))) (pg_name (i := 2) scFar.nd rfl (Or.inl rfl))
      (pss_cons (ps_set (i := 3) scFar.nd rfl (Or.inl rfl) (pe_call Gr hr rfl Dr.mg Dr.fn.kp Dr.bd .nil pass0 (pa_cons (pv 0) (pa_cons (pv 1) (pa_cons (pv 2) pa_nil)))))
      (pss_cons (ps_if (pt_cmpR (op_eqD hr.units) (pv 3) (pv 1) (nomark _)) (pss_one (ps_ret (pv 1))) pss_nil)
      (pss_one (ps_set (i := 1) scFar.nd rfl (Or.inl rfl) (pv 3))))))
    (pss_one (ps_ret (pv 1)))),?_⟩
  have hpl:(ps.map V.ref).length=M.length:=by rw [List.length_map,hR.hm.1]
  have hm30:=hG.most
  have hm0:=hG.pos
  have ok:=mc_ok hG
  refine ⟨_,rfl,r,rfl,⟨_,SqL.of hR.hr⟩,fun bk D1 hD1 => ?_⟩
  refine comp_listA (K:=K) (xs:=ps.map V.ref) (Pv:=fun i ys σ H' => ∃ v gs,σ = [v,some (.ref r)]∧ys=gs.map V.ref∧Same H H'∧Z (LineAt M.length (Fm.far (mcOf M) 0) H') gs (List.range i)∧∀ p∈gs,p≠D1) ⟨_,[],rfl,rfl,same_new hD1 _,Z.nil,fun p hp => by simp at hp⟩ ?_ ?_ ?_
  · rintro i ys σ H' hi hDi ⟨v,gs,rfl,_,(s:Same _ _),_⟩
    exact SqL.of (s _ _ hR.hr)
  · rintro i x ys σ H' hx hDi ⟨v,gs,rfl,rfl,(s:Same _ _),hZ,hgs⟩
    have hi:i < M.length:=by
      have z:=(List.getElem?_eq_some_iff.mp hx).1
      omega
    refine ⟨_,rfl,r,rfl,⟨_,SqL.of (s _ _ hR.hr)⟩,fun bk2 D2 hD2 => ?_⟩
    refine comp_listA (K:=K) (xs:=ps.map V.ref) (Pv:=fun j zs σ H2 => ∃ v,σ = [v]∧zs=nV (List.replicate j 0)∧Same H' H2) ⟨_,rfl,rfl,same_new hD2 _⟩ ?_ ?_ ?_
    · rintro j zs σ H2 hj hDj ⟨v,rfl,_,(s2:Same _ _)⟩
      exact SqL.of (s2 _ _ (s _ _ hR.hr))
    · rintro j y zs σ H2 hy hDj ⟨v,rfl,hzs,(s2:Same _ _)⟩
      have hj:j < M.length:=by
        have z:=(List.getElem?_eq_some_iff.mp hy).1
        omega
      refine ⟨hDj,by rw [hzs,nV_len,List.length_replicate]; exact small1000 (by omega),⟨_,rfl,?_,sameUpd s2 hD2 _⟩⟩
      rw [List.replicate_succ',hzs]
      unfold nV
      rw [List.map_append]; rfl
    · rintro zs σ H2 hDn ⟨v,rfl,hzs,(s2:Same _ _)⟩
      rw [hpl,← far0 (mcOf M) M.length i] at hzs
      subst hzs
      have n12:D1≠D2:=ne_of_none hDi hD2
      have kp:Keeps D1 H2 (upd H2 D1 (.lst (gs.map V.ref ++ [.ref D2]))):=fun x o ex n => by rw [upd_ne n]; exact ex
      refine ⟨s2 _ _ hDi,?_,⟨_,gs ++ [D2],rfl,by rw [List.map_append]; rfl,sameUpd (s.trans s2) hD1 _,?_,fun p hp => ?_⟩⟩
      · rw [List.length_map,hZ.1,List.length_range]; exact small1000 (by omega)
      · rw [List.range_succ]
        exact Z.snoc (hZ.monoM fun p x hp z => kp _ _ (s2 _ _ z) (hgs p hp)) (kp _ _ hDn n12.symm)
      · rcases List.mem_append.mp hp with z | z
        · exact hgs p z
        · have z':p=D2:=by simpa using z
          subst z'
          exact n12.symm
  rintro ys σ H1 hDn ⟨v,gs,rfl,rfl,(s1:Same _ _),hZ,_⟩
  rw [hpl] at hZ
  refine ⟨_,rfl,r,_,rfl,.inl (SqL.of (s1 _ _ hR.hr)),_,_,rfl,rfl,1,(M.length:Int) + 1,by rw [hpl],⟨by decide,by decide,by omega,by omega⟩,?_⟩
  have em:((M.length:Int) + 1 - 1).toNat=M.length:=by omega
  rw [em]
  refine for_range (fun i σ H2 => ∃ v2 v3 fa fs,σ = [some (.ref r),some (.ref fa),v2,v3]∧Same H H2∧TabAt M.length (Fm.far (mcOf M) i) H2 fa fs) ⟨_,_,D1,gs,rfl,s1,hDn,hZ⟩ ?_ ?_
  · rintro i σ H2 hi ⟨v2,v3,fa,fs,rfl,s2,hT⟩
    have ek:(1:Int) + (i:Int)=((i + 1:Nat):Int):=by omega
    rw [ek]
    refine ⟨_,rfl,_,rfl,_,rfl,r,fa,ps,fs,M,i,rfl,hR.same s2,hG,hT,by omega,fun g gs' H3 s3 hT3 => ?_⟩
    have sh1:=tab_shape M.length (Fm.far (mcOf M) (i + 1))
    have sh2:=tab_shape M.length (Fm.far (mcOf M) i)
    refine ⟨_,rfl,_,rfl,_,_,hT3.rd,(hT.same s3).rd,shaped_of sh1 (by decide),shaped_of sh2 (by decide),_,rfl,?_⟩
    show if (PyData.eqv (tabD M.length (Fm.far (mcOf M) (i + 1))) (tabD M.length (Fm.far (mcOf M) i)))=true then _ else _
    refine ite2 (fun z => ?_) (fun z => ?_)
    · have z':=(tab_eqv _ _ _).mp z
      exact ⟨_,rfl,q i fa fs H3 (s2.trans s3) (Fm.far_stop ok fun a b ha hb => (z' a b ha hb).symm) (hT.same s3)⟩
    · exact ⟨_,rfl,_,_,g,gs',rfl,s2.trans s3,hT3⟩
  · rintro σ H2 ⟨v2,v3,fa,fs,rfl,s2,hT⟩
    exact ⟨_,rfl,q M.length fa fs H2 s2 (Fm.stable_n ok) hT⟩
end
end Toy
namespace Toy
open PySem L2
seal PySem.wpAny
section
variable {P:Program} {w:World} {K:PySem.W.Frag} {mg:Str→Option Value} {base:Heap}
def spRow:Sp:=fun vs H Q _ => ∃ (f d:Addr) (xs:List Int),vs=[.ref f,.ref d]∧H f=some (.tup (xs.map V.int))∧H d=some (.tup (xs.map V.int))∧xs.length≤100∧Q (.bl true) H
theorem scRow:FnScope ["found", "due", "k"] ["found", "due"] (defScope sRow):=⟨rfl,rfl,rfl,by decide +kernel,rfl,by decide +kernel,by decide +kernel⟩
theorem ok_row {f C:Addr} {fd:FuncData} (D:DefAt K mg "_law_row" sRow ["found", "due"] f fd) (T:FTxt K mg C):FnOk P w K mg base CX0 1 f fd ["found", "due"] spRow:=by
  refine D.fn.ok scRow (fun vs H Q E h => ?_) (fun cdv A outer s H vs Q E hr h => ?_)
  · obtain ⟨a,d,xs,rfl,_⟩:=h
    rfl
  obtain ⟨a,d,xs,rfl,ha,hd,hx,q⟩:=h
  refine ⟨_,pss_cons (ps_if (PW.pt (pw_or (pt_not (pt_val (pe_callB call_isinst (by rfl) T.inst (by decide +kernel) (pa_cons (pv 0) (pa_cons (pe_bltn (by rfl) T.tup (by decide +kernel) (v:=.ty "tuple") rfl) pa_nil)))))
      (pw_or1 (pt_cmpR op_ne (pe_callB call_len_seq (by rfl) T.len PySem.boot_len (pa_cons (pv 0) pa_nil)) (pe_callB call_len_seq (by rfl) T.len PySem.boot_len (pa_cons (pv 1) pa_nil)) (nomark _))))) pss_never pss_nil)
    (pss_cons (ps_for PassesOwn.never rfl (pi_range1 rfl T.range (pa_cons (pe_callB call_len_seq (by rfl) T.len PySem.boot_len (pa_cons (pv 1) pa_nil)) pa_nil)) (pg_name (i := 2) scRow.nd rfl (Or.inl rfl))
      (pss_one (ps_if (PW.pt (pw_or (pt_val (pe_callB call_isinst (by rfl) T.inst (by decide +kernel) (pa_cons (pe_ix ix_tup (pv 0) (pv 2) (fun _ _ => rfl)) (pa_cons (pe_bltn (by rfl) T.tbool (by decide +kernel) (v:=.ty "bool") rfl) pa_nil))))
        (pw_or (pt_not (pt_val (pe_callB call_isinst (by rfl) T.inst (by decide +kernel) (pa_cons (pe_ix ix_tup (pv 0) (pv 2) (fun _ _ => rfl)) (pa_cons (pe_bltn (by rfl) T.tint (by decide +kernel) (v:=.ty "int") rfl) pa_nil)))))
        (pw_or1 (pt_cmpR op_ne (pe_ix ix_tup (pv 0) (pv 2) (fun _ _ => rfl)) (pe_ix ix_tup (pv 1) (pv 2) (fun _ _ => rfl)) (nomark _)))))) pss_never pss_nil)))
    (pss_one (ps_ret pe_bl))),?_⟩
  refine ⟨_,rfl,_,_,_,_,rfl,.tup ha,T.pp,_,rfl,?_⟩
  refine iteF ?_
  refine ⟨_,rfl,a,_,rfl,.inr (SqT.of ha),_,rfl,d,_,rfl,.inr (SqT.of hd),rfl,_,rfl,?_⟩
  refine iteNS rfl ?_
  refine ⟨_,rfl,d,_,rfl,.inr (SqT.of hd),_,rfl,by rw [List.length_map]; omega,by rw [List.length_map]; omega,?_⟩
  rw [List.length_map]
  refine for_range (fun i σ H1 => ∃ v,σ = [some (.ref a),some (.ref d),v]∧H1=H) ⟨_,rfl,rfl⟩ ?_ ?_
  · rintro i σ H1 hi ⟨v,rfl,rfl⟩
    have hi':i < xs.length:=by omega
    have ek:(0:Int) + (i:Int)=(i:Int):=by omega
    rw [ek]
    refine ⟨_,rfl,_,rfl,a,_,_,_,rfl,rfl,SqT.of ha,ints_get hi',_,_,_,_,rfl,.int _,T.ib,_,rfl,?_⟩
    refine iteF ?_
    refine ⟨_,rfl,_,rfl,a,_,_,_,rfl,rfl,SqT.of ha,ints_get hi',_,_,_,_,rfl,.int _,T.ii,_,rfl,?_⟩
    refine iteF ?_
    refine ⟨_,rfl,_,rfl,a,_,_,_,rfl,rfl,SqT.of ha,ints_get hi',_,rfl,_,rfl,d,_,_,_,rfl,rfl,SqT.of hd,ints_get hi',rfl,_,rfl,?_⟩
    refine iteNS rfl ?_
    exact ⟨_,rfl,rfl⟩
  · rintro σ H1 ⟨v,rfl,rfl⟩
    exact q
end
end Toy
namespace Toy
open PySem L2
seal PySem.wpAny
section
variable {P:Program} {w:World} {K:PySem.W.Frag} {mg:Str→Option Value} {base:Heap}
inductive Refu where
  | clash (evs:List Int) (i j:Nat)
  | many
structure FS where
  cs:List (List Int)
  ws:List (List Int)
  rows:List (List Ent)
  row:List Ent
end
end Toy
namespace Toy
open PySem L2
seal PySem.wpAny
section
variable {P:Program} {w:World} {K:PySem.W.Frag} {mg:Str→Option Value} {base:Heap}
structure Wk where
  nx:List Int→Int→List Int
  dd:List Int→Int→List Int
  pr:List Int→Int→Option (Nat×Nat)
  m:Nat
def gput (W:Wk) (c w:List Int) (S:FS) (e:Int):Except Refu FS :=
  if W.nx c e∈S.cs then .ok ⟨S.cs,S.ws,S.rows,S.row ++ [(((S.cs.idxOf (W.nx c e):Nat):Int),W.dd c e)]⟩
  else if S.cs.length=W.m then .error .many
  else .ok ⟨S.cs ++ [W.nx c e],S.ws ++ [w ++ [e]],S.rows,S.row ++ [(((S.cs.length:Nat):Int),W.dd c e)]⟩
def gstep (W:Wk) (c w:List Int) (S:FS) (e:Int):Except Refu FS :=
  match W.pr c e with
  | some (i,j) => .error (.clash (w ++ [e]) i j)
  | Option.none => gput W c w S e
def gevs (W:Wk) (c w:List Int):List Int→FS→Except Refu FS
  | [],S => .ok S
  | e :: r,S => match gstep W c w S e with
    | .error x => .error x
    | .ok S' => gevs W c w r S'
def grow (W:Wk) (n:Nat) (S:FS):Except Refu FS:=gevs W (S.cs.getD n []) (S.ws.getD n []) [0,1,2,3] ⟨S.cs,S.ws,S.rows,[]⟩
def lxW:List Int→List Int→Prop
  | x :: a,y :: b => x < y∨(x=y∧lxW a b)
  | _,_ => False
def SL (a b:List Int):Prop:=a.length < b.length∨(a.length=b.length∧lxW a b)
theorem lxW_snoc (p q:Int):∀ (a b:List Int),lxW a b→lxW (a ++ [p]) (b ++ [q])
  | [],_,h => by cases h
  | _ :: _,[],h => by cases h
  | x :: a,y :: b,h => by
    rcases h with h | ⟨h,h'⟩
    · exact .inl h
    · exact .inr ⟨h,lxW_snoc p q a b h'⟩
theorem lxW_last {p q:Int} (h:p < q):∀ (a:List Int),lxW (a ++ [p]) (a ++ [q])
  | [] => .inl h
  | _ :: a => .inr ⟨rfl,lxW_last h a⟩
theorem SL.snoc {a b:List Int} (h:SL a b) (p q:Int):SL (a ++ [p]) (b ++ [q]):=by
  rcases h with h | ⟨h,h'⟩
  · left; rw [List.length_append,List.length_append]; exact Nat.add_lt_add_right h 1
  · right; exact ⟨by rw [List.length_append,List.length_append,h]; rfl,lxW_snoc p q a b h'⟩
theorem SL_last {p q:Int} (h:p < q) (a:List Int):SL (a ++ [p]) (a ++ [q]):=.inr ⟨by rw [List.length_append,List.length_append]; rfl,lxW_last h a⟩
theorem SL_nil (a:List Int) (p:Int):SL [] (a ++ [p]):=.inl (by rw [List.length_append]; exact Nat.succ_pos _)
def RowT (W:Wk) (cs ws:List (List Int)) (c u:List Int) (es:List Int) (r:List Ent):Prop :=
  r.length=es.length∧∀ (i:Nat) e x,es[i]? = some e→r[i]? = some x→W.pr c e=Option.none∧x.2=W.dd c e∧∃ j:Nat,x.1=(j:Int)∧cs[j]? = some (W.nx c e)∧∃ v,ws[j]? = some v∧(v=u ++ [e]∨SL v (u ++ [e]))
theorem get_app {α : Type} {l m:List α} {i:Nat} {x : α} (h:l[i]? = some x):(l ++ m)[i]? = some x:=by
  have hi:=(List.getElem?_eq_some_iff.mp h).1
  rw [List.getElem?_append_left hi]; exact h
theorem get_snoc {α : Type} {l:List α} {y x : α} {i:Nat} (h:(l ++ [y])[i]? = some x):l[i]? = some x∨(i=l.length∧x=y):=by
  by_cases hi:i < l.length
  · rw [List.getElem?_append_left hi] at h; exact .inl h
  · right
    rw [List.getElem?_append_right (by omega)] at h
    cases e:i - l.length with
    | zero => rw [e] at h; exact ⟨by omega,(Option.some.inj h).symm⟩
    | succ k => rw [e] at h; cases h
theorem RowT.mono {W:Wk} {cs ws cs' ws':List (List Int)} {c u es:List Int} {r:List Ent} (h:RowT W cs ws c u es r):RowT W (cs ++ cs') (ws ++ ws') c u es r:=by
  refine ⟨h.1,fun i e x a b => ?_⟩
  obtain ⟨h1,h2,j,h3,h4,v,h5,h6⟩:=h.2 i e x a b
  exact ⟨h1,h2,j,h3,get_app h4,v,get_app h5,h6⟩
structure GI (W:Wk) (f0:List Int) (S:FS) (n k:Nat):Prop where
  wl:S.ws.length=S.cs.length
  c0:S.cs[0]? = some f0
  w0:S.ws[0]? = some []
  nd:S.cs.Nodup
  go:∀ (j:Nat) v c,S.ws[j]? = some v→S.cs[j]? = some c→v.foldl W.nx f0=c
  par:∀ (j:Nat) v,S.ws[j]? = some v→v=[]∨∃ (i:Nat) (u:List Int) (e:Int),S.ws[i]? = some u∧v=u ++ [e]∧0≤e∧e < 4∧(i < n∨(i=n∧e < (k:Int)))
  srt:∀ (i j:Nat) u v,i < j→S.ws[i]? = some u→S.ws[j]? = some v→SL u v
  rl:S.rows.length=n
  rw:∀ (i:Nat) c u r,S.cs[i]? = some c→S.ws[i]? = some u→S.rows[i]? = some r→RowT W S.cs S.ws c u [0,1,2,3] r
theorem GI.below {W:Wk} {f0:List Int} {S:FS} {n k:Nat} (h:GI W f0 S n k) {w:List Int} (hw:S.ws[n]? = some w) {j:Nat} {v:List Int} (hv:S.ws[j]? = some v):SL v (w ++ [(k:Int)]):=by
  rcases h.par j v hv with rfl | ⟨i,u,e,h1,rfl,h2,h3,h4⟩
  · exact SL_nil _ _
  · rcases h4 with h4 | ⟨rfl,h4⟩
    · exact (h.srt i n u w h4 h1 hw).snoc _ _
    · rw [h1] at hw; cases hw; exact SL_last h4 _
theorem gstep_ok {W:Wk} {f0:List Int} {S S':FS} {n k:Nat} {c w:List Int} (h:GI W f0 S n k) (hk:k < 4) (hc:S.cs[n]? = some c) (hw:S.ws[n]? = some w) (hr:RowT W S.cs S.ws c w (([0,1,2,3]:List Int).take k) S.row) (hs:gstep W c w S (k:Int) = .ok S') :
    GI W f0 S' n (k + 1)∧S'.cs[n]? = some c∧S'.ws[n]? = some w∧RowT W S'.cs S'.ws c w (([0,1,2,3]:List Int).take (k + 1)) S'.row:=by
  unfold gstep at hs
  split at hs
  · cases hs
  rename_i hp
  have par':∀ {i:Nat} {e:Int},(i < n∨(i=n∧e < (k:Int)))→(i < n∨(i=n∧e < ((k + 1:Nat):Int))):=fun z => by
    rcases z with z | ⟨z,z'⟩
    · exact .inl z
    · exact .inr ⟨z,by omega⟩
  have hek:([0,1,2,3]:List Int)[k]? = some (k:Int):=by
    match k,hk with
    | 0,_ => rfl
    | 1,_ => rfl
    | 2,_ => rfl
    | 3,_ => rfl
  have tk:([0,1,2,3]:List Int).take (k + 1)=([0,1,2,3]:List Int).take k ++ [(k:Int)]:=by rw [List.take_add_one,hek]; rfl
  have rowx:∀ {cs ws:List (List Int)} {r:List Ent} {x:Ent},RowT W cs ws c w (([0,1,2,3]:List Int).take k) r→(x.2=W.dd c (k:Int)∧∃ j:Nat,x.1=(j:Int)∧cs[j]? = some (W.nx c (k:Int))∧∃ v,ws[j]? = some v∧(v=w ++ [(k:Int)]∨SL v (w ++ [(k:Int)]))) →
      RowT W cs ws c w (([0,1,2,3]:List Int).take (k + 1)) (r ++ [x]):=fun {cs ws r x} hr hx => by
    rw [tk]
    refine ⟨by rw [List.length_append,List.length_append,hr.1]; rfl,fun i e y a b => ?_⟩
    rcases get_snoc b with b | ⟨b,rfl⟩
    · rcases get_snoc a with a | ⟨a,rfl⟩
      · exact hr.2 i e y a b
      · have:=(List.getElem?_eq_some_iff.mp b).1
        rw [hr.1] at this
        omega
    · rcases get_snoc a with a | ⟨a,rfl⟩
      · have:=(List.getElem?_eq_some_iff.mp a).1
        rw [← hr.1] at this
        omega
      · exact ⟨hp,hx⟩
  unfold gput at hs
  split at hs
  · rename_i hin
    cases hs
    refine ⟨⟨h.wl,h.c0,h.w0,h.nd,h.go,fun j v hv => ?_,h.srt,h.rl,h.rw⟩,hc,hw,rowx hr ⟨rfl,S.cs.idxOf (W.nx c (k:Int)),rfl,?_,?_⟩⟩
    · rcases h.par j v hv with z | ⟨i,u,e,h1,h2,h3,h4,h5⟩
      · exact .inl z
      · exact .inr ⟨i,u,e,h1,h2,h3,h4,par' h5⟩
    · rw [List.getElem?_eq_getElem (List.idxOf_lt_length_iff.mpr hin),List.getElem_idxOf]
    · have hl:S.cs.idxOf (W.nx c (k:Int)) < S.ws.length:=by rw [h.wl]; exact List.idxOf_lt_length_iff.mpr hin
      exact ⟨_,List.getElem?_eq_getElem hl,.inr (h.below hw (List.getElem?_eq_getElem hl))⟩
  · rename_i hin
    split at hs
    · cases hs
    cases hs
    refine ⟨⟨?_,get_app h.c0,get_app h.w0,?_,fun j v c' hv hc' => ?_,fun j v hv => ?_,fun i j u v hij hu hv => ?_,h.rl,fun i c' u r a b d => ?_⟩,get_app hc,get_app hw,rowx hr.mono ⟨rfl,S.cs.length,rfl,?_,w ++ [(k:Int)],?_,.inl rfl⟩⟩
    · show (S.ws ++ [_]).length=(S.cs ++ [_]).length
      rw [List.length_append,List.length_append,h.wl]; rfl
    · refine List.nodup_append.mpr ⟨h.nd,List.nodup_cons.mpr ⟨by simp,List.nodup_nil⟩,fun x hx y hy e => ?_⟩
      rw [e,List.mem_singleton.mp hy] at hx
      exact hin hx
    · rcases get_snoc hv with hv | ⟨ej,rfl⟩
      · rcases get_snoc hc' with hc' | ⟨ej,_⟩
        · exact h.go j v c' hv hc'
        · have:=(List.getElem?_eq_some_iff.mp hv).1
          rw [h.wl] at this
          omega
      · rcases get_snoc hc' with hc' | ⟨_,rfl⟩
        · have:=(List.getElem?_eq_some_iff.mp hc').1
          have:=h.wl
          omega
        · rw [List.foldl_append]
          show W.nx (w.foldl W.nx f0) (k:Int)=_
          rw [h.go n w c hw hc]
    · rcases get_snoc hv with hv | ⟨ej,rfl⟩
      · rcases h.par j v hv with z | ⟨i,u,e,h1,h2,h3,h4,h5⟩
        · exact .inl z
        · exact .inr ⟨i,u,e,get_app h1,h2,h3,h4,par' h5⟩
      · exact .inr ⟨n,w,(k:Int),get_app hw,rfl,by omega,by omega,.inr ⟨rfl,by omega⟩⟩
    · rcases get_snoc hv with hv | ⟨ej,rfl⟩
      · rcases get_snoc hu with hu | ⟨ei,_⟩
        · exact h.srt i j u v hij hu hv
        · have:=(List.getElem?_eq_some_iff.mp hv).1
          omega
      · rcases get_snoc hu with hu | ⟨ei,_⟩
        · exact h.below hw hu
        · omega
    · rcases get_snoc a with a | ⟨ei,_⟩
      · rcases get_snoc b with b | ⟨ei,_⟩
        · exact (h.rw i c' u r a b d).mono
        · have:=(List.getElem?_eq_some_iff.mp a).1
          have:=h.wl
          omega
      · have:=(List.getElem?_eq_some_iff.mp d).1
        rw [h.rl] at this
        have:=(List.getElem?_eq_some_iff.mp hc).1
        omega
    · show (S.cs ++ [_])[S.cs.length]? = _
      rw [List.getElem?_append_right (Nat.le_refl _),Nat.sub_self]; rfl
    · show (S.ws ++ [_])[S.cs.length]? = _
      rw [← h.wl,List.getElem?_append_right (Nat.le_refl _),Nat.sub_self]; rfl
theorem gevs_ok {W:Wk} {f0 c w:List Int} {n:Nat}:∀ (es:List Int) (k:Nat) {S S':FS},es=([0,1,2,3]:List Int).drop k→k≤4→GI W f0 S n k→S.cs[n]? = some c→S.ws[n]? = some w→RowT W S.cs S.ws c w (([0,1,2,3]:List Int).take k) S.row→gevs W c w es S = .ok S' →
    GI W f0 S' n 4∧S'.cs[n]? = some c∧S'.ws[n]? = some w∧RowT W S'.cs S'.ws c w [0,1,2,3] S'.row
  | [],k,S,S',he,hk,h,hc,hw,hr,hs => by
    have e4:k=4:=by
      have:=congrArg List.length he
      rw [List.length_drop] at this
      simp only [List.length_cons,List.length_nil] at this
      omega
    subst e4
    cases hs
    exact ⟨h,hc,hw,hr⟩
  | e :: es,k,S,S',he,hk,h,hc,hw,hr,hs => by
    have hk4:k < 4:=by
      have:=congrArg List.length he
      rw [List.length_drop] at this
      simp only [List.length_cons,List.length_nil] at this
      omega
    have hh:e=(k:Int)∧es=([0,1,2,3]:List Int).drop (k + 1):=by
      match k,hk4,he with
      | 0,_,he => cases he; exact ⟨rfl,rfl⟩
      | 1,_,he => cases he; exact ⟨rfl,rfl⟩
      | 2,_,he => cases he; exact ⟨rfl,rfl⟩
      | 3,_,he => cases he; exact ⟨rfl,rfl⟩
    obtain ⟨rfl,he'⟩:=hh
    unfold gevs at hs
    split at hs
    · cases hs
    · rename_i S1 h1
      obtain ⟨a1,a2,a3,a4⟩:=gstep_ok h hk4 hc hw hr h1
      exact gevs_ok es (k + 1) he' hk4 a1 a2 a3 a4 hs
theorem gi_first (W:Wk) (f0:List Int):GI W f0 ⟨[f0],[[]],[],[]⟩ 0 0:=by
  refine ⟨rfl,rfl,rfl,List.nodup_cons.mpr ⟨by simp,List.nodup_nil⟩,fun j v c a b => ?_,fun j v a => ?_,fun i j u v hij a b => ?_,rfl,fun i c u r a b d => by cases d⟩
  · cases j with
    | zero => cases a; cases b; rfl
    | succ j => cases a
  · cases j with
    | zero => cases a; exact .inl rfl
    | succ j => cases a
  · cases j with
    | zero => omega
    | succ j => cases b
end
end Toy
namespace Toy
open PySem L2
seal PySem.wpAny
section
variable {P:Program} {w:World} {K:PySem.W.Frag} {mg:Str→Option Value} {base:Heap}
theorem gevs_pre {W:Wk} {c w:List Int}:∀ (es:List Int) {S S':FS},gevs W c w es S = .ok S'→∃ more,S'.cs=S.cs ++ more
  | [],S,S',h => by cases h; exact ⟨[],by simp⟩
  | e :: es,S,S',h => by
    unfold gevs at h
    split at h
    · cases h
    · rename_i S1 h1
      obtain ⟨m1,e1⟩:=gevs_pre es h
      unfold gstep at h1
      split at h1
      · cases h1
      · unfold gput at h1
        split at h1
        · cases h1; exact ⟨m1,e1⟩
        · split at h1
          · cases h1
          · cases h1
            exact ⟨W.nx c e :: m1,by rw [e1]; simp⟩
end
end Toy
namespace Toy
open PySem L2
seal PySem.wpAny
section
variable {P:Program} {w:World} {K:PySem.W.Frag} {mg:Str→Option Value} {base:Heap}
theorem mem_at {α : Type} {l:List α} {x : α} (h:x∈l):∃ i:Nat,l[i]? = some x:=by
  obtain ⟨i,hi,rfl⟩:=List.mem_iff_getElem.mp h
  exact ⟨i,List.getElem?_eq_getElem hi⟩
theorem nodup_le {α : Type} [DecidableEq α]:∀ (l m:List α),l.Nodup→(∀ x∈l,x∈m)→l.length≤m.length
  | [],m,_,_ => Nat.zero_le _
  | x :: l,m,hn,hs => by
    have hx:=hs x List.mem_cons_self
    obtain ⟨n1,n2⟩:=List.nodup_cons.mp hn
    have:=nodup_le l (m.erase x) n2 fun y hy => (List.mem_erase_of_ne (fun e => n1 (by rw [← e]; exact hy))).mpr (hs y (List.mem_cons_of_mem _ hy))
    rw [List.length_erase_of_mem hx] at this
    have hp:=List.length_pos_of_mem hx
    rw [List.length_cons]
    omega
theorem gfew_evs {W:Wk} {L:List (List Int)} (hp:∀ c e,W.pr c e=Option.none) (hL:L.length < W.m) {c w:List Int} (hc:∀ e:Nat,e < 4→W.nx c (e:Int)∈L):∀ (es:List Nat) (S:FS),(∀ e∈es,e < 4)→(∀ y∈S.cs,y∈L)→S.cs.Nodup →
    ∃ S',gevs W c w (es.map fun (e:Nat) => (e:Int)) S = .ok S'∧(∀ y∈S'.cs,y∈L)∧S'.cs.Nodup
  | [],S,_,h1,h2 => ⟨S,rfl,h1,h2⟩
  | e :: es,S,he,h1,h2 => by
    have hx:=hc e (he e List.mem_cons_self)
    have hst:gstep W c w S (e:Int)=gput W c w S (e:Int):=by unfold gstep; rw [hp]
    rw [List.map_cons]
    unfold gevs
    rw [hst]
    unfold gput
    by_cases hin:W.nx c (e:Int)∈S.cs
    · rw [if_pos hin]
      exact gfew_evs hp hL hc es _ (fun y hy => he y (List.mem_cons_of_mem _ hy)) h1 h2
    · have hlen:=nodup_le S.cs L h2 h1
      rw [if_neg hin,if_neg (by omega)]
      refine gfew_evs hp hL hc es _ (fun y hy => he y (List.mem_cons_of_mem _ hy)) (fun y hy => ?_) ?_
      · rcases List.mem_append.mp hy with z | z
        · exact h1 y z
        · rw [List.mem_singleton.mp z]; exact hx
      · refine List.nodup_append.mpr ⟨h2,List.nodup_cons.mpr ⟨by simp,List.nodup_nil⟩,fun a ha b hb e => ?_⟩
        rw [e,List.mem_singleton.mp hb] at ha
        exact hin ha
theorem lxW_trans:∀ {a b c:List Int},lxW a b→lxW b c→lxW a c
  | [],_,_,h,_ => by cases h
  | _ :: _,[],_,h,_ => by cases h
  | _ :: _,_ :: _,[],_,h => by cases h
  | x :: a,y :: b,z :: c,h,g => by
    rcases h with h | ⟨rfl,h⟩
    · rcases g with g | ⟨rfl,g⟩
      · exact .inl (Int.lt_trans h g)
      · exact .inl h
    · rcases g with g | ⟨rfl,g⟩
      · exact .inl g
      · exact .inr ⟨rfl,lxW_trans h g⟩
theorem SL_trans {a b c:List Int} (h:SL a b) (g:SL b c):SL a c:=by
  rcases h with h | ⟨h,h'⟩
  · rcases g with g | ⟨g,_⟩
    · exact .inl (Nat.lt_trans h g)
    · exact .inl (by omega)
  · rcases g with g | ⟨g,g'⟩
    · exact .inl (by omega)
    · exact .inr ⟨h.trans g,lxW_trans h' g'⟩
theorem lxW_irr:∀ {a:List Int},¬ lxW a a
  | [],h => by cases h
  | x :: a,h => by
    rcases h with h | ⟨_,h⟩
    · omega
    · exact lxW_irr h
theorem SL_irr {a:List Int}:¬ SL a a:=fun h => by
  rcases h with h | ⟨_,h⟩
  · omega
  · exact lxW_irr h
def LE2 (a b:List Int):Prop:=a=b∨SL a b
theorem LE2.trans {a b c:List Int} (h:LE2 a b) (g:LE2 b c):LE2 a c:=by
  rcases h with rfl | h
  · exact g
  · rcases g with rfl | g
    · exact .inr h
    · exact .inr (SL_trans h g)
theorem LE2.snoc {a b:List Int} (h:LE2 a b) (x:Int):LE2 (a ++ [x]) (b ++ [x]):=by
  rcases h with rfl | h
  · exact .inl rfl
  · exact .inr (h.snoc x x)
theorem LE2.up {a b:List Int} (h:LE2 a b) (x:Int):LE2 a (b ++ [x]):=by
  right
  left
  rw [List.length_append]
  show a.length < b.length + 1
  rcases h with rfl | h | ⟨h,_⟩ <;> omega
theorem LE2_anti {a b:List Int} (h:LE2 a b) (g:LE2 b a):a=b:=by
  rcases h with h | h
  · exact h
  · rcases g with g | g
    · exact g.symm
    · exact absurd (SL_trans h g) SL_irr
def nxP (m:Fm.Mc) (p:List Int) (e:Int):List Int:=match p with
  | [a,b] => [((m.nx a.toNat e.toNat:Nat):Int),((m.nx b.toNat e.toNat:Nat):Int)]
  | _ => p
def dif (m:Fm.Mc) (p:List Int) (e:Nat):Bool:=match p with
  | [a,b] => decide (m.dd a.toNat e≠m.dd b.toNat e)
  | _ => false
def fdif (m:Fm.Mc) (p:List Int):Option Nat:=(List.range 4).find? (dif m p)
def wkD (m:Fm.Mc):Wk:=⟨nxP m,fun _ _ => [],fun _ _ => Option.none,1000⟩
def pfold (m:Fm.Mc):Nat→Nat→FS→Option (List Int)
  | 0,_,_ => Option.none
  | f + 1,n,S => if n < S.cs.length then
      match fdif m (S.cs.getD n []) with
      | some e => some (S.ws.getD n [] ++ [(e:Int)])
      | Option.none => match grow (wkD m) n S with
        | .ok S' => pfold m f (n + 1) ⟨S'.cs,S'.ws,S'.rows ++ [S'.row],[]⟩
        | .error _ => Option.none
    else Option.none
def Evs (u:List Int):Prop := ∀ x∈u,0≤x∧x < 4
def Parts (m:Fm.Mc) (p w:List Int):Prop := ∃ (u:List Int) (e:Nat),w=u ++ [(e:Int)]∧Evs u∧e < 4∧dif m (u.foldl (nxP m) p) e=true
theorem fdif_none {m:Fm.Mc} {p:List Int} (h:fdif m p=Option.none) {e:Nat} (he:e < 4):dif m p e=false:=by
  have:=List.find?_eq_none.mp h e (List.mem_range.mpr he)
  simpa using this
theorem fdif_some {m:Fm.Mc} {p:List Int} {e:Nat} (h:fdif m p=some e):e < 4∧dif m p e=true∧∀ j,j < e→dif m p j=false:=by
  have h1:=List.find?_some h
  have h2:=List.mem_range.mp (List.mem_of_find?_eq_some h)
  refine ⟨h2,h1,fun j hj => ?_⟩
  obtain ⟨_,i,hi,e',hlt⟩:=List.find?_eq_some_iff_getElem.mp h
  rw [List.getElem_range] at e'
  subst e'
  have z:=hlt j hj
  rw [List.getElem_range] at z
  simpa using z
theorem snoc_ind {P:List Int→Prop} (h0:P []) (h1:∀ u a,P u→P (u ++ [a])) (u:List Int):P u:=by
  have key:∀ l:List Int,P l.reverse:=fun l => by
    induction l with
    | nil => exact h0
    | cons a l ih => rw [List.reverse_cons]; exact h1 _ a ih
  have:=key u.reverse
  rwa [List.reverse_reverse] at this
section
variable {m:Fm.Mc} {p0:List Int} {S:FS} {n:Nat}
theorem ways_evs (h:GI (wkD m) p0 S n 0):∀ (k j:Nat) v,v.length=k→S.ws[j]? = some v→Evs v
  | k,j,v,hk,hv => by
    rcases h.par j v hv with rfl | ⟨i,u,e,h1,rfl,h2,h3,_⟩
    · exact fun x hx => by cases hx
    · have hl:u.length < k:=by rw [← hk,List.length_append]; exact Nat.lt_succ_self _
      have:=ways_evs h u.length i u rfl h1
      intro x hx
      rcases List.mem_append.mp hx with z | z
      · exact this x z
      · rw [List.mem_singleton.mp z]; exact ⟨h2,h3⟩
termination_by k => k
decreasing_by exact hl
theorem reach (h:GI (wkD m) p0 S n 0):∀ (u:List Int),Evs u→(∃ (j:Nat) (v:List Int),S.cs[j]? = some (u.foldl (nxP m) p0)∧S.ws[j]? = some v∧LE2 v u)∨∃ wn,S.ws[n]? = some wn∧LE2 wn u:=by
  intro u
  refine snoc_ind (P:=fun u => Evs u→(∃ (j:Nat) (v:List Int),S.cs[j]? = some (u.foldl (nxP m) p0)∧S.ws[j]? = some v∧LE2 v u)∨∃ wn,S.ws[n]? = some wn∧LE2 wn u) ?_ ?_ u
  · exact fun _ => .inl ⟨0,[],h.c0,h.w0,.inl rfl⟩
  · intro u a ih hu
    have ha:=hu a (List.mem_append_right _ (List.mem_singleton.mpr rfl))
    rcases ih fun x hx => hu x (List.mem_append_left _ hx) with ⟨j,v,g1,g2,g3⟩ | ⟨wn,g1,g2⟩
    · have hjc:=(List.getElem?_eq_some_iff.mp g1).1
      have hjw:=(List.getElem?_eq_some_iff.mp g2).1
      by_cases hj:j < n
      · have hr:=List.getElem?_eq_getElem (show j < S.rows.length by rw [h.rl]; exact hj)
        obtain ⟨r1,r2⟩:=h.rw j _ v _ g1 g2 hr
        have h4:a.toNat < (S.rows[j]'(by rw [h.rl]; exact hj)).length:=by
          rw [r1]
          show a.toNat < 4
          omega
        have he:([0,1,2,3]:List Int)[a.toNat]? = some a:=by
          obtain ⟨k,hk⟩ : ∃ k:Nat,a=(k:Int):=⟨a.toNat,by omega⟩
          subst hk
          have hk4:k < 4:=by omega
          rw [Int.toNat_natCast]
          match k,hk4 with
          | 0,_ => rfl
          | 1,_ => rfl
          | 2,_ => rfl
          | 3,_ => rfl
        obtain ⟨_,_,k,_,b1,v',b2,b3⟩:=r2 a.toNat a _ he (List.getElem?_eq_getElem h4)
        left
        refine ⟨k,v',?_,b2,LE2.trans (show LE2 v' (v ++ [a]) from b3) (g3.snoc a)⟩
        rw [b1,List.foldl_append]; rfl
      · right
        have hnw:n < S.ws.length:=by omega
        refine ⟨_,List.getElem?_eq_getElem hnw,?_⟩
        have hnv:LE2 (S.ws[n]) v:=by
          by_cases e:n=j
          · subst e
            have:=(List.getElem?_eq_getElem hnw).symm.trans g2
            exact .inl (Option.some.inj this)
          · exact .inr (h.srt n j _ v (by omega) (List.getElem?_eq_getElem hnw) g2)
        exact (hnv.trans g3).up a
    · exact .inr ⟨wn,g1,g2.up a⟩
theorem pfold_ok {L:List (List Int)} (hL:L.length≤900) (hc:∀ c∈L,∀ e:Nat,e < 4→nxP m c (e:Int)∈L):∀ (f n:Nat) (S:FS),GI (wkD m) p0 S n 0→(∀ y∈S.cs,y∈L)→n≤S.cs.length→900 < f + n→(∀ (i:Nat) c,i < n→S.cs[i]? = some c→fdif m c=Option.none) →
    (∀ w,pfold m f n S=some w→Parts m p0 w∧∀ w',Parts m p0 w'→LE2 w w')∧(pfold m f n S=Option.none→∀ w',¬ Parts m p0 w')
  | 0,n,S,h,hl,hn,hf,_ => by
    have:=nodup_le S.cs L h.nd hl
    omega
  | f + 1,n,S,h,hl,hn,hf,hno => by
    have hlen:=nodup_le S.cs L h.nd hl
    unfold pfold
    by_cases hlt:n < S.cs.length
    · rw [if_pos hlt]
      have hcn:=List.getElem?_eq_getElem hlt
      have hwn:=List.getElem?_eq_getElem (show n < S.ws.length by rw [h.wl]; exact hlt)
      have ec:S.cs.getD n [] = S.cs[n]:=by rw [List.getD_eq_getElem?_getD,hcn]; rfl
      have ew:S.ws.getD n [] = S.ws[n]'(by rw [h.wl]; exact hlt):=by rw [List.getD_eq_getElem?_getD,hwn]; rfl
      rw [ec,ew]
      have hgo:=h.go n _ _ hwn hcn
      generalize S.ws[n]'(by rw [h.wl]; exact hlt)=wn at hwn hgo
      cases hd:fdif m S.cs[n] with
      | some e =>
        obtain ⟨e4,d1,d2⟩:=fdif_some hd
        refine ⟨fun w hw => ?_,fun z => by cases z⟩
        cases hw
        refine ⟨⟨wn,e,rfl,ways_evs h _ n wn rfl hwn,e4,by rw [show wn.foldl (nxP m) p0=S.cs[n] from hgo]; exact d1⟩,fun w' ⟨u,a,hw',hu,ha,hda⟩ => ?_⟩
        subst hw'
        have key:LE2 wn u:=by
          rcases reach h u hu with ⟨j,v,g1,g2,g3⟩ | ⟨wn',g1,g2⟩
          · have hj:¬ j < n:=fun z => by
              have:=fdif_none (hno j _ z g1) ha
              rw [hda] at this; cases this
            have hnv:LE2 wn v:=by
              by_cases e':n=j
              · subst e'
                rw [hwn] at g2
                cases g2; exact .inl rfl
              · exact .inr (h.srt n j wn v (by omega) hwn g2)
            exact hnv.trans g3
          · rw [hwn] at g1
            cases g1; exact g2
        rcases key with rfl | key
        · have hea:¬ a < e:=fun z => by
            have:=d2 a z
            rw [show wn.foldl (nxP m) p0=S.cs[n] from hgo] at hda
            rw [hda] at this; cases this
          by_cases e':e=a
          · subst e'; exact .inl rfl
          · exact .inr (SL_last (by omega) wn)
        · exact .inr (key.snoc _ _)
      | none =>
        have hm:=hl _ (List.getElem_mem hlt)
        obtain ⟨S1,g1,g2,g3⟩:=gfew_evs (W:=wkD m) (L:=L) (w:=wn) (c:=S.cs[n]) (fun _ _ => rfl) (by show L.length < 1000; omega) (fun e he => hc _ hm e he) [0,1,2,3] ⟨S.cs,S.ws,S.rows,[]⟩ (by decide) hl h.nd
        have g1':grow (wkD m) n S = .ok S1:=by
          unfold grow
          rw [ec,List.getD_eq_getElem?_getD,hwn]
          exact g1
        rw [g1']
        obtain ⟨b,b1,b2,b3⟩:=gevs_ok (f0:=p0) (n:=n) [0,1,2,3] 0 (S:=⟨S.cs,S.ws,S.rows,[]⟩) rfl (by decide) ⟨h.wl,h.c0,h.w0,h.nd,h.go,h.par,h.srt,h.rl,h.rw⟩ hcn hwn ⟨rfl,fun i e x a _ => by cases a⟩ g1
        have hcl:=gevs_pre (S:=⟨S.cs,S.ws,S.rows,[]⟩) _ g1
        have hnl:=(List.getElem?_eq_some_iff.mp b1).1
        refine pfold_ok hL hc f (n + 1) ⟨S1.cs,S1.ws,S1.rows ++ [S1.row],[]⟩ ⟨b.wl,b.c0,b.w0,b.nd,b.go,fun j v hv => ?_,b.srt,?_,fun i c u r x y z => ?_⟩ g2 hnl (by omega) (fun i c hi hc' => ?_)
        · rcases b.par j v hv with z | ⟨i,u,e,k1,k2,k3,k4,k5⟩
          · exact .inl z
          · refine .inr ⟨i,u,e,k1,k2,k3,k4,.inl ?_⟩
            rcases k5 with k5 | ⟨k5,_⟩ <;> omega
        · show (S1.rows ++ [S1.row]).length=n + 1
          rw [List.length_append,b.rl]; rfl
        · rcases get_snoc z with z | ⟨ei,rfl⟩
          · exact b.rw i c u r x y z
          · rw [b.rl] at ei
            subst ei
            rw [b1] at x
            rw [b2] at y
            cases x
            cases y
            exact b3
        · by_cases e:i=n
          · subst e
            have:S1.cs[i]? = some c:=hc'
            rw [b1] at this
            cases this
            exact hd
          · obtain ⟨more,hmore⟩:=hcl
            have:S1.cs[i]? = some c:=hc'
            have hS1:S1.cs=S.cs ++ more:=hmore
            rw [hS1,List.getElem?_append_left (by omega)] at this
            exact hno i c (by omega) this
    · rw [if_neg hlt]
      refine ⟨fun w hw => (by cases hw),fun _ w' ⟨u,a,hw',hu,ha,hda⟩ => ?_⟩
      rcases reach h u hu with ⟨j,v,g1,g2,g3⟩ | ⟨wn',g1,g2⟩
      · have hj:=(List.getElem?_eq_some_iff.mp g1).1
        have:=fdif_none (hno j _ (by omega) g1) ha
        rw [hda] at this; cases this
      · have:=(List.getElem?_eq_some_iff.mp g1).1
        have:=h.wl
        omega
end
def goodW (m:Fm.Mc) (t a b l e:Nat):Bool:=if l=1 then decide (m.dd a e≠m.dd b e) else decide (Fm.far m t (m.nx a e) (m.nx b e)=l - 1)
def pickW (m:Fm.Mc) (t a b l:Nat):Nat:=((List.range 4).find? (goodW m t a b l)).getD 3
def wordW (m:Fm.Mc) (t:Nat):Nat→Nat→Nat→List Int
  | 0,_,_ => []
  | l + 1,a,b => ((pickW m t a b (l + 1):Nat):Int) :: wordW m t l (m.nx a (pickW m t a b (l + 1))) (m.nx b (pickW m t a b (l + 1)))
theorem word_len (m:Fm.Mc) (t:Nat):∀ l a b,(wordW m t l a b).length=l
  | 0,_,_ => rfl
  | l + 1,a,b => by
    unfold wordW
    rw [List.length_cons,word_len m t l]
theorem far_eq {m:Fm.Mc} {t l a b:Nat} (h1 : 0 < l) (ht:l≤t) (hf:Fm.al m l a b=false) (hg:Fm.al m (l - 1) a b=true):Fm.far m t a b=l:=by
  have h0:Fm.far m t a b≠0:=fun z => by
    rw [Fm.al_le ht ((Fm.far_zero t a b).mp z)] at hf; cases hf
  obtain ⟨_,j2,j3⟩:=(Fm.far_spec t a b).2 h0
  rcases Nat.lt_trichotomy (Fm.far m t a b) l with z | z | z
  · rw [Fm.al_le (show Fm.far m t a b≤l - 1 by omega) hg] at j2; cases j2
  · exact z
  · rw [Fm.al_le (show l≤Fm.far m t a b - 1 by omega) j3] at hf; cases hf
theorem pick_ok {m:Fm.Mc} {t a b l:Nat} (hf:Fm.al m (l + 1) a b=false) (hg:Fm.al m l a b=true) (ht:l + 1≤t) :
    pickW m t a b (l + 1) < 4∧goodW m t a b (l + 1) (pickW m t a b (l + 1))=true∧∀ j,j < pickW m t a b (l + 1)→goodW m t a b (l + 1) j=false:=by
  have ex:∃ e,e < 4∧goodW m t a b (l + 1) e=true:=by
    obtain ⟨e,he,hd⟩:=Fm.al_or hf
    refine ⟨e,he,?_⟩
    unfold goodW
    cases l with
    | zero =>
      rw [if_pos rfl]
      rcases hd with y | y
      · exact decide_eq_true y
      · cases y
    | succ l =>
      rw [if_neg (by omega)]
      have g:=Fm.al_succ.mp hg e he
      rcases hd with y | y
      · exact absurd g.1 y
      · exact decide_eq_true (far_eq (by omega) (by omega) y g.2)
  unfold pickW
  cases h:(List.range 4).find? (goodW m t a b (l + 1)) with
  | none =>
    obtain ⟨e,he,hd⟩:=ex
    exact absurd hd (List.find?_eq_none.mp h e (List.mem_range.mpr he))
  | some e =>
    have h1:=List.find?_some h
    have h2:=List.mem_range.mp (List.mem_of_find?_eq_some h)
    refine ⟨h2,h1,fun j hj => ?_⟩
    have hj':j < e:=hj
    obtain ⟨_,i,hi,e',hlt⟩:=List.find?_eq_some_iff_getElem.mp h
    rw [List.getElem_range] at e'
    subst e'
    have z:=hlt j hj'
    rw [List.getElem_range] at z
    simpa using z
theorem parts_un {m:Fm.Mc} {a b:Nat} {w:List Int} (h:Parts m [(a:Int),(b:Int)] w):∃ (e:Nat) (w':List Int),w=(e:Int) :: w'∧e < 4∧((w'=[]∧m.dd a e≠m.dd b e)∨Parts m [((m.nx a e:Nat):Int),((m.nx b e:Nat):Int)] w'):=by
  obtain ⟨u,e,hw,hu,he,hd⟩:=h
  cases u with
  | nil => exact ⟨e,[],hw,he,.inl ⟨rfl,of_decide_eq_true hd⟩⟩
  | cons x u =>
    obtain ⟨x0,x4⟩:=hu x List.mem_cons_self
    obtain ⟨k,rfl⟩ : ∃ k:Nat,x=(k:Int):=⟨x.toNat,by omega⟩
    exact ⟨k,u ++ [(e:Int)],hw,by omega,.inr ⟨u,e,rfl,fun y hy => hu y (List.mem_cons_of_mem _ hy),he,hd⟩⟩
theorem parts_cons {m:Fm.Mc} {a b e:Nat} {w:List Int} (he:e < 4) (h:Parts m [((m.nx a e:Nat):Int),((m.nx b e:Nat):Int)] w):Parts m [(a:Int),(b:Int)] ((e:Int) :: w):=by
  obtain ⟨u,e',rfl,hu,he',hd⟩:=h
  refine ⟨(e:Int) :: u,e',rfl,fun y hy => ?_,he',hd⟩
  rcases List.mem_cons.mp hy with rfl | hy
  · omega
  · exact hu y hy
theorem parts_len {m:Fm.Mc}:∀ (w:List Int) (a b:Nat),Parts m [(a:Int),(b:Int)] w→Fm.al m w.length a b=false
  | [],a,b,h => by
    obtain ⟨_,_,z,_⟩:=parts_un h
    cases z
  | x :: w,a,b,h => by
    obtain ⟨e,w',z,he,hd⟩:=parts_un h
    obtain ⟨z1,z2⟩:=List.cons.inj z
    subst z2
    cases y:Fm.al m (x :: w).length a b with
    | false => rfl
    | true =>
      have g:=Fm.al_succ.mp (show Fm.al m (w.length + 1) a b=true from y) e he
      rcases hd with ⟨_,hd⟩ | hd
      · exact absurd g.1 hd
      · have:=parts_len w _ _ hd
        rw [g.2] at this; cases this
theorem word_ok {m:Fm.Mc} {t:Nat}:∀ (l a b:Nat),Fm.al m (l + 1) a b=false→Fm.al m l a b=true→l + 1≤t→Parts m [(a:Int),(b:Int)] (wordW m t (l + 1) a b)∧∀ w',Parts m [(a:Int),(b:Int)] w'→LE2 (wordW m t (l + 1) a b) w':=by
  intro l
  induction l with
  | zero =>
    intro a b hf hg ht
    obtain ⟨p4,pg,pl⟩:=pick_ok hf hg ht
    show Parts m _ (((pickW m t a b 1:Nat):Int) :: [])∧∀ w',Parts m _ w'→LE2 (((pickW m t a b 1:Nat):Int) :: []) w'
    generalize pickW m t a b (0 + 1)=e at p4 pg pl
    refine ⟨⟨[],e,rfl,fun y hy => (by cases hy),p4,?_⟩,fun w' hw' => ?_⟩
    · unfold goodW at pg
      rw [if_pos rfl] at pg
      exact pg
    · obtain ⟨e',w'',rfl,he',hd⟩:=parts_un hw'
      rcases hd with ⟨rfl,hd⟩ | hd
      · have hg':goodW m t a b (0 + 1) e'=true:=by
          unfold goodW
          rw [if_pos rfl]
          exact decide_eq_true hd
        have hle:¬ e' < e:=fun z => by
          rw [pl e' z] at hg'; cases hg'
        by_cases z:e=e'
        · subst z; exact .inl rfl
        · exact .inr (.inr ⟨rfl,.inl (by omega)⟩)
      · obtain ⟨_,_,rfl,_⟩:=parts_un hd
        exact .inr (.inl (by simp))
  | succ l ih =>
    intro a b hf hg ht
    obtain ⟨p4,pg,pl⟩:=pick_ok hf hg ht
    have hw:wordW m t (l + 1 + 1) a b=((pickW m t a b (l + 1 + 1):Nat):Int) :: wordW m t (l + 1) (m.nx a (pickW m t a b (l + 1 + 1))) (m.nx b (pickW m t a b (l + 1 + 1))):=rfl
    rw [hw]
    generalize pickW m t a b (l + 1 + 1)=e at p4 pg pl
    have hfar:Fm.far m t (m.nx a e) (m.nx b e)=l + 1:=by
      unfold goodW at pg
      rw [if_neg (by omega)] at pg
      exact of_decide_eq_true pg
    obtain ⟨_,j2,j3⟩:=(Fm.far_spec (m:=m) t (m.nx a e) (m.nx b e)).2 (by omega)
    rw [hfar] at j2 j3
    obtain ⟨i1,i2⟩:=ih _ _ j2 j3 (by omega)
    refine ⟨parts_cons p4 i1,fun w' hw' => ?_⟩
    have hlen:=parts_len w' _ _ hw'
    have hge:¬ w'.length < l + 1 + 1:=fun z => by
      rw [Fm.al_le (show w'.length≤l + 1 by omega) hg] at hlen; cases hlen
    by_cases hl:w'.length=l + 1 + 1
    · obtain ⟨e',w'',rfl,he',hd⟩:=parts_un hw'
      have hl':w''.length=l + 1:=by simpa using hl
      rcases hd with ⟨rfl,hd⟩ | hd
      · cases hl'
      · have hp:=parts_len w'' _ _ hd
        rw [hl'] at hp
        have g:=Fm.al_succ.mp hg e' he'
        have hg':goodW m t a b (l + 1 + 1) e'=true:=by
          unfold goodW
          rw [if_neg (by omega)]
          exact decide_eq_true (far_eq (by omega) (by omega) hp g.2)
        have hle:¬ e' < e:=fun z => by
          rw [pl e' z] at hg'; cases hg'
        by_cases z:e=e'
        · subst z
          rcases i2 w'' hd with q | q
          · rw [q]; exact .inl rfl
          · right; right
            refine ⟨by simp [word_len,hl'],.inr ⟨rfl,?_⟩⟩
            rcases q with q | q
            · rw [word_len,hl'] at q; omega
            · exact q.2
        · exact .inr (.inr ⟨by simp [word_len,hl'],.inl (by omega)⟩)
    · exact .inr (.inl (by rw [List.length_cons,word_len]; omega))
def allP (n:Nat):List (List Int):=(List.range (n * n)).map fun k => [((k / n:Nat):Int),((k % n:Nat):Int)]
theorem allP_mem {n a b:Nat} (ha:a < n) (hb:b < n):[(a:Int),(b:Int)]∈allP n:=by
  refine List.mem_map.mpr ⟨n * a + b,List.mem_range.mpr ?_,?_⟩
  · have:n * (a + 1)≤n * n:=Nat.mul_le_mul_left n ha
    rw [Nat.mul_add] at this
    omega
  · rw [Nat.mul_add_div (by omega),Nat.div_eq_of_lt hb,Nat.mul_add_mod,Nat.mod_eq_of_lt hb]; rfl
theorem allP_two {n:Nat} {c:List Int} (h:c∈allP n):∃ a b:Nat,c=[(a:Int),(b:Int)]∧a < n∧b < n:=by
  obtain ⟨k,hk,rfl⟩:=List.mem_map.mp h
  have hk':=List.mem_range.mp hk
  have hn : 0 < n:=by
    rcases Nat.eq_zero_or_pos n with rfl | z
    · cases hk'
    · exact z
  exact ⟨k / n,k % n,rfl,(Nat.div_lt_iff_lt_mul hn).mpr hk',Nat.mod_lt _ hn⟩
theorem allP_next {m:Fm.Mc} (ok:m.Ok) {c:List Int} (h:c∈allP m.n) {e:Nat} (he:e < 4):nxP m c (e:Int)∈allP m.n:=by
  obtain ⟨a,b,rfl,ha,hb⟩:=allP_two h
  exact allP_mem (ok.nx a e ha he) (ok.nx b e hb he)
theorem pfold_word {m:Fm.Mc} (ok:m.Ok) (hn:m.n≤30) {t a b:Nat} (st:Fm.Stable m t) (ha:a < m.n) (hb:b < m.n) :
    pfold m 1000 0 ⟨[[(a:Int),(b:Int)]],[[]],[],[]⟩ = if Fm.far m t a b=0 then Option.none else some (wordW m t (Fm.far m t a b) a b):=by
  have hL:(allP m.n).length≤900:=by
    unfold allP
    rw [List.length_map,List.length_range]
    exact Nat.mul_le_mul hn hn
  obtain ⟨k1,k2⟩:=pfold_ok (m:=m) (p0:=[(a:Int),(b:Int)]) hL (fun c hc e he => allP_next ok hc he) 1000 0 ⟨[[(a:Int),(b:Int)]],[[]],[],[]⟩ (gi_first _ _) (fun y hy => by rw [List.mem_singleton.mp hy]; exact allP_mem ha hb) (Nat.zero_le _) (by decide) (fun i c hi => by cases hi)
  by_cases h:Fm.far m t a b=0
  · rw [if_pos h]
    have hal:=(Fm.far_zero t a b).mp h
    cases hp:pfold m 1000 0 ⟨[[(a:Int),(b:Int)]],[[]],[],[]⟩ with
    | none => rfl
    | some w =>
      have g:=parts_len w a b (k1 w hp).1
      rcases Nat.le_total w.length t with z | z
      · rw [Fm.al_le z hal] at g; cases g
      · rw [Fm.stable_al ok z st ha hb,hal] at g; cases g
  · rw [if_neg h]
    obtain ⟨j1,j2,j3⟩:=(Fm.far_spec t a b).2 h
    obtain ⟨l,hl⟩ : ∃ l,Fm.far m t a b=l + 1:=⟨Fm.far m t a b - 1,by omega⟩
    rw [hl] at j1 j2 j3 ⊢
    obtain ⟨i1,i2⟩:=word_ok (t:=t) l a b j2 j3 j1
    cases hp:pfold m 1000 0 ⟨[[(a:Int),(b:Int)]],[[]],[],[]⟩ with
    | none => exact absurd i1 (k2 hp _)
    | some w =>
      obtain ⟨q1,q2⟩:=k1 w hp
      rw [LE2_anti (q2 _ i1) (i2 _ q1)]
end
end Toy
namespace Toy
open PySem L2
seal PySem.wpAny
section
variable {P:Program} {w:World} {K:PySem.W.Frag} {mg:Str→Option Value} {base:Heap}
def TwoAt (H:Hp) (v:V) (p:Ent×Ent):Prop := ∃ t x y,v = .ref t∧H t=some (.tup [x,y])∧EntAt H x p.1∧EntAt H y p.2
def twoL (M:Mach) (a b:Nat):List (Ent×Ent):=(List.range 4).map fun e => (entAt M a e,entAt M b e)
theorem twoL_at {M:Mach} {a b i:Nat} {p:Ent×Ent} (h:(twoL M a b)[i]? = some p):i < 4∧p=(entAt M a i,entAt M b i):=by
  unfold twoL at h
  rw [List.getElem?_map] at h
  have hi:i < 4:=by
    by_cases z:i < 4
    · exact z
    · rw [List.getElem?_eq_none (by simpa using z)] at h; cases h
  rw [List.getElem?_range hi] at h
  exact ⟨hi,(Option.some.inj h).symm⟩
def spEntries (C:Addr):Sp:=fun vs H Q _ => ∃ (c s r y pa:Addr) (ps:List Addr) (S W:List V) (M:Mach) (a b:Nat),vs=[.ref c,.ref pa]∧FlatIs C H c s r y ps S M W∧GoodM M∧H pa=some (.tup [.int a,.int b])∧a < M.length∧b < M.length ∧
  ∀ (l:Addr) (zs:List V) (H':Hp),Same H H'→H l=Option.none→H' l=some (.lst zs)→Z (TwoAt H') zs (twoL M a b)→Q (.ref l) H'
theorem scEntries:FnScope ["flat", "pair"] ["flat", "pair"] (defScope sEntries):=⟨rfl,rfl,rfl,by decide +kernel,rfl,by decide +kernel,by decide +kernel⟩
theorem ok_entries {f C:Addr} {fd:FuncData} (D:DefAt K mg "entries_of" sEntries ["flat", "pair"] f fd) (T:FTxt K mg C):FnOk P w K mg base CX0 1 f fd ["flat", "pair"] (spEntries C):=by
  refine D.fn.ok scEntries (fun vs H Q E h => ?_) (fun cdv A outer s H vs Q E hr h => ?_)
  · obtain ⟨c,s,r,y,pa,ps,S,W,M,a,b,rfl,_⟩:=h
    rfl
  obtain ⟨c,sa,ra,ya,pa,ps,S,W,M,a,b,rfl,hF,hG,hpa,ha,hb,q⟩:=h
  refine ⟨_,pss_one (ps_ret (pe_listzip rfl (by rfl) T.list (by rfl) T.zip (pa_cons (pe_ix ix_list (pe_fld (pv 0) rfl) (pe_ix ix_tup (pv 1) pe_int (fun _ _ => rfl)) (fun _ _ => rfl)) (pa_cons (pe_ix ix_list (pe_fld (pv 0) rfl) (pe_ix ix_tup (pv 1) pe_int (fun _ _ => rfl)) (fun _ _ => rfl)) pa_nil)))),?_⟩
  obtain ⟨⟨dx,h1⟩,h2,h3,h4,h5⟩:=hF
  obtain ⟨rowA,ea,la,_⟩:=entAt_get hG ha (show 0 < 4 by decide)
  obtain ⟨rowB,eb,lb,_⟩:=entAt_get hG hb (show 0 < 4 by decide)
  obtain ⟨p1,hp1,vs1,hv1,hE1⟩:=h4.at ea
  obtain ⟨p2,hp2,vs2,hv2,hE2⟩:=h4.at eb
  have ga:atI (ps.map V.ref) (a:Int)=some (.ref p1):=atI_nat (by rw [List.getElem?_map,hp1]; rfl)
  have gb:atI (ps.map V.ref) (b:Int)=some (.ref p2):=atI_nat (by rw [List.getElem?_map,hp2]; rfl)
  have l1:vs1.length=4:=by rw [hE1.1,la]
  have l2:vs2.length=4:=by rw [hE2.1,lb]
  refine ⟨_,rfl,c,C,dx,_,_,rfl,h1,T.cl,T.nR,fflds_rows sa ra ya,_,rfl,pa,_,_,_,rfl,rfl,SqT.of hpa,rfl,ra,_,_,_,rfl,rfl,SqL.of h3,ga,_,rfl,c,C,dx,_,_,rfl,h1,T.cl,T.nR,fflds_rows sa ra ya,_,rfl,pa,_,_,_,rfl,rfl,SqT.of hpa,rfl,ra,_,_,_,rfl,rfl,SqL.of h3,gb,
    p1,p2,vs1,vs2,rfl,SqL.of hv1,SqL.of hv2,by rw [l1,l2],by rw [l1]; decide,fun l Ts H' s' hl el hTs hP => ?_⟩
  refine q l _ H' s' hl el ⟨by rw [List.length_map,hTs,l1]; rfl,fun i v p z1 z2 => ?_⟩
  obtain ⟨hi,rfl⟩:=twoL_at z2
  rw [List.getElem?_map] at z1
  cases z:Ts[i]? with
  | none => rw [z] at z1; cases z1
  | some t =>
    rw [z] at z1
    cases z1
    obtain ⟨x,y,g1,g2,g3⟩:=hP i t z
    obtain ⟨rA,fa,_,fa2,_⟩:=entAt_get hG ha hi
    obtain ⟨rB,fb,_,fb2,_⟩:=entAt_get hG hb hi
    rw [ea] at fa
    cases fa
    rw [eb] at fb
    cases fb
    exact ⟨t,x,y,rfl,g3,(hE1.2 i _ _ g1 fa2).same s',(hE2.2 i _ _ g2 fb2).same s'⟩
def optE (o:Option Nat):V:=match o with
  | some e => .int (e:Int)
  | Option.none => .non
def spFirst (C:Addr):Sp:=fun vs H Q _ => ∃ (c s r y pa:Addr) (ps:List Addr) (S W:List V) (M:Mach) (a b:Nat),vs=[.ref c,.ref pa]∧FlatIs C H c s r y ps S M W∧GoodM M∧H pa=some (.tup [.int a,.int b])∧a < M.length∧b < M.length ∧
  ∀ (H':Hp),Same H H'→Q (optE (fdif (mcOf M) [(a:Int),(b:Int)])) H'
theorem fdif_is {m:Fm.Mc} {p:List Int} {e:Nat} (he:e < 4) (h:dif m p e=true) (hl:∀ j,j < e→dif m p j=false):fdif m p=some e:=by
  unfold fdif
  rw [List.find?_eq_some_iff_getElem]
  refine ⟨h,e,by simpa using he,by rw [List.getElem_range],fun j hj => ?_⟩
  rw [List.getElem_range,hl j hj]; rfl
theorem fdif_not {m:Fm.Mc} {p:List Int} (hl:∀ j,j < 4→dif m p j=false):fdif m p=Option.none:=by
  unfold fdif
  rw [List.find?_eq_none]
  intro j hj
  rw [hl j (List.mem_range.mp hj)]; decide
theorem scFirst:FnScope ["flat", "pair", "event", "entries"] ["flat", "pair"] (defScope sFirst):=⟨rfl,rfl,rfl,by decide +kernel,rfl,by decide +kernel,by decide +kernel⟩
theorem ok_first {f C fe:Addr} {fd fde:FuncData} (D:DefAt K mg "first_difference" sFirst ["flat", "pair"] f fd) (T:FTxt K mg C) (De:DefAt K mg "entries_of" sEntries ["flat", "pair"] fe fde):FnOk P w K mg base CX0 2 f fd ["flat", "pair"] (spFirst C):=by
  have Ge:FnOk P w K mg base CX0 1 fe fde ["flat", "pair"] (spEntries C):=ok_entries De T
  refine D.fn.ok scFirst (fun vs H Q E h => ?_) (fun cdv A outer s H vs Q E hr h => ?_)
  · obtain ⟨c,s,r,y,pa,ps,S,W,M,a,b,rfl,_⟩:=h
    rfl
  obtain ⟨c,sa,ra,ya,pa,ps,S,W,M,a,b,rfl,hF,hG,hpa,ha,hb,q⟩:=h
  refine ⟨_,pss_cons (ps_for PassesOwn.never rfl (pi_enum rfl T.enum (pa_cons (pe_call Ge hr rfl De.mg De.fn.kp De.bd .nil pass0 (pa_cons (pv 0) (pa_cons (pv 1) pa_nil))) pa_nil)) (pg_tup (n := 2) rfl (pgs_cons (pg_name (i := 2) scFirst.nd rfl (Or.inl rfl)) (pgs_cons (pg_name (i := 3) scFirst.nd rfl (Or.inl rfl)) pgs_nil)))
      (pss_one (ps_if (pt_cmpR (op_neD hr.units) (pe_ix ix_tup (pe_ix ix_tup (pv 3) pe_int (fun _ _ => rfl)) (pe_gint T.deeds rfl) (fun _ _ => rfl)) (pe_ix ix_tup (pe_ix ix_tup (pv 3) pe_int (fun _ _ => rfl)) (pe_gint T.deeds rfl) (fun _ _ => rfl)) (nomark _)) (pss_one (ps_ret (pv 2))) pss_nil)))
    (pss_one (ps_ret pe_non)),?_⟩
  refine ⟨_,rfl,_,rfl,c,sa,ra,ya,pa,ps,S,W,M,a,b,rfl,hF,hG,hpa,ha,hb,fun l zs H1 s1 hl el hZ => ⟨l,rfl,⟨_,SqL.of el⟩,?_⟩⟩
  have zl:zs.length=4:=by rw [hZ.1]; rfl
  refine for_enum (xs:=zs) (fun i σ H' => ∃ v2 v3,σ = [some (.ref c),some (.ref pa),v2,v3]∧Same H1 H'∧∀ j,j < i→dif (mcOf M) [(a:Int),(b:Int)] j=false) ⟨_,_,rfl,fun _ _ e => e,fun j hj => by cases hj⟩ ?_ ?_ ?_
  · rintro i σ H' hi ⟨v2,v3,rfl,(s:Same _ _),_⟩
    exact SqL.of (s _ _ el)
  · rintro i x t σ H' hx ht ⟨v2,v3,rfl,(s2:Same _ _),hno⟩
    obtain ⟨p,hp,tt,x1,x2,rfl,k1,⟨t1,u1,rfl,k2,k3⟩,⟨t2,u2,rfl,k4,k5⟩⟩:=hZ.at1 hx
    obtain ⟨hi,rfl⟩:=twoL_at hp
    have s3:=same_new ht (.tup [.int i,.ref tt])
    have et:(upd H' t (.tup [.int i,.ref tt])) t=some (.tup [.int i,.ref tt]):=upd_same
    have s13:=s2.trans s3
    generalize upd H' t (.tup [.int i,.ref tt])=H2 at s3 et s13 ⊢
    refine ⟨t,_,rfl,SqT.of et,rfl,_,_,rfl,_,_,rfl,rfl,?_⟩
    have sh1:=shape_tuple (shape_ints (entAt M a i).2)
    have sh2:=shape_tuple (shape_ints (entAt M b i).2)
    refine ⟨_,rfl,tt,_,_,_,rfl,rfl,SqT.of (s13 _ _ k1),rfl,t1,_,_,_,rfl,rfl,SqT.of (s13 _ _ k2),rfl,_,rfl,tt,_,_,_,rfl,rfl,SqT.of (s13 _ _ k1),rfl,t2,_,_,_,rfl,rfl,SqT.of (s13 _ _ k4),rfl,
      _,_,(k3.same s13).rd,(k5.same s13).rd,shaped_of sh1 (by decide),shaped_of sh2 (by decide),_,rfl,?_⟩
    have eq:(if (true:Bool)=true then !PyData.eqv (.tuple ((entAt M a i).2.map PyData.int)) (.tuple ((entAt M b i).2.map PyData.int)) else PyData.eqv (.tuple ((entAt M a i).2.map PyData.int)) (.tuple ((entAt M b i).2.map PyData.int)))=dif (mcOf M) [(a:Int),(b:Int)] i:=by
      rw [if_pos rfl]
      simp only [PyData.eqv,eqv_ints]
      show _=decide ((entAt M a i).2≠(entAt M b i).2)
      simp
    rw [eq]
    refine ite2 (fun z => ?_) (fun z => ?_)
    · refine ⟨_,rfl,?_⟩
      have z:=q H2 (s1.trans s13)
      rw [fdif_is hi ‹_› hno] at z
      exact z
    · refine ⟨_,_,rfl,s13,fun j hj => ?_⟩
      by_cases e:j=i
      · subst e
        cases y:dif (mcOf M) [(a:Int),(b:Int)] j with
        | false => rfl
        | true => exact absurd y z
      · exact hno j (by omega)
  · rintro σ H' ⟨v2,v3,rfl,(s2:Same _ _),hno⟩
    rw [zl] at hno
    have z:=q H' (s1.trans s2)
    rw [fdif_not hno] at z
    exact z
def spBehind (C:Addr):Sp:=fun vs H Q _ => ∃ (c s r y pa:Addr) (ps:List Addr) (S W:List V) (M:Mach) (a b:Nat),vs=[.ref c,.ref pa]∧FlatIs C H c s r y ps S M W∧GoodM M∧H pa=some (.tup [.int a,.int b])∧a < M.length∧b < M.length ∧
  ∀ (l:Addr) (zs:List V) (H':Hp),Same H H'→H l=Option.none→H' l=some (.lst zs)→Z (DeedsAt H') zs ((List.range 4).map fun (e:Nat) => nxP (mcOf M) [(a:Int),(b:Int)] (e:Int))→Q (.ref l) H'
theorem scBehind:FnScope ["flat", "pair"] ["flat", "pair"] (defScope sBehind):=⟨rfl,rfl,rfl,by decide +kernel,rfl,by decide +kernel,by decide +kernel⟩
theorem ok_behind {f C fe:Addr} {fd fde:FuncData} (D:DefAt K mg "pairs_behind" sBehind ["flat", "pair"] f fd) (T:FTxt K mg C) (De:DefAt K mg "entries_of" sEntries ["flat", "pair"] fe fde):FnOk P w K mg base CX0 2 f fd ["flat", "pair"] (spBehind C):=by
  have Ge:FnOk P w K mg base CX0 1 fe fde ["flat", "pair"] (spEntries C):=ok_entries De T
  refine D.fn.ok scBehind (fun vs H Q E h => ?_) (fun cdv A outer s H vs Q E hr h => ?_)
  · obtain ⟨c,s,r,y,pa,ps,S,W,M,a,b,rfl,_⟩:=h
    rfl
  obtain ⟨c,sa,ra,ya,pa,ps,S,W,M,a,b,rfl,hF,hG,hpa,ha,hb,q⟩:=h
  refine ⟨_,pss_one (ps_ret (pe_comp ["entries"] [Option.none] rfl (pi_list (pe_call Ge hr rfl De.mg De.fn.kp De.bd .nil pass0 (pa_cons (pv 0) (pa_cons (pv 1) pa_nil)))) (fun _ => pg_name (i := 0) (show (["entries"]:List Str).Nodup by decide +kernel) rfl (Or.inl rfl)) (fun _ => pts_nil)
      (fun _ => pe_tup (pa_cons (pe_ix ix_tup (pe_ix ix_tup (pv 0) pe_int (fun _ _ => rfl)) (pe_gint T.behind rfl) (fun _ _ => rfl)) (pa_cons (pe_ix ix_tup (pe_ix ix_tup (pv 0) pe_int (fun _ _ => rfl)) (pe_gint T.behind rfl) (fun _ _ => rfl)) pa_nil)))
      (N:=["flat", "pair"]) (ks:=(defScope sBehind).names) rfl rfl (by decide +kernel) (by decide +kernel) (by decide +kernel) (by decide +kernel))),?_⟩
  refine ⟨_,rfl,_,rfl,c,sa,ra,ya,pa,ps,S,W,M,a,b,rfl,hF,hG,hpa,ha,hb,fun l zs H1 s1 hl el hZ => ⟨l,rfl,⟨_,SqL.of el⟩,fun bk D1 hD1 => ?_⟩⟩
  have zl:zs.length=4:=by rw [hZ.1]; rfl
  refine comp_listA (K:=K) (xs:=zs) (Pv:=fun i ys σ H' => ∃ v,σ = [v]∧Same H1 H'∧Z (DeedsAt H') ys ((List.range i).map fun (e:Nat) => nxP (mcOf M) [(a:Int),(b:Int)] (e:Int))) ⟨_,rfl,same_new hD1 _,Z.nil⟩ ?_ ?_ ?_
  · rintro i ys σ H' hi hDi ⟨v,rfl,(s:Same _ _),_⟩
    exact SqL.of (s _ _ el)
  · rintro i x ys σ H' hx hDi ⟨v,rfl,(s:Same _ _),hY⟩
    obtain ⟨p,hp,tt,x1,x2,rfl,k1,⟨t1,u1,rfl,k2,k3⟩,⟨t2,u2,rfl,k4,k5⟩⟩:=hZ.at1 hx
    obtain ⟨hi,rfl⟩:=twoL_at hp
    obtain ⟨_,_,_,_,a0,_,_⟩:=entAt_get hG ha hi
    obtain ⟨_,_,_,_,b0,_,_⟩:=entAt_get hG hb hi
    refine ⟨_,rfl,tt,_,_,_,rfl,rfl,SqT.of (s _ _ k1),rfl,t1,_,_,_,rfl,rfl,SqT.of (s _ _ k2),rfl,_,rfl,tt,_,_,_,rfl,rfl,SqT.of (s _ _ k1),rfl,t2,_,_,_,rfl,rfl,SqT.of (s _ _ k4),rfl,(by show 2≤sizeLine; decide),fun tn htn => ?_⟩
    have nDt:D1≠tn:=ne_of_none hDi htn
    have kp:Keeps D1 H' (upd (upd H' tn (.tup [.int (entAt M a i).1,.int (entAt M b i).1])) D1 (.lst (ys ++ [.ref tn]))):=fun x o ex n => by rw [upd_ne n,upd_ne (ne_of_none ex htn)]; exact ex
    refine ⟨by rw [upd_ne nDt]; exact hDi,?_,⟨_,rfl,sameUpd (sameUpd s (s.free htn) _) hD1 _,?_⟩⟩
    · rw [hY.1,List.length_map,List.length_range]; exact small1000 (by omega)
    · rw [List.range_succ,List.map_append]
      refine Z.snoc (hY.mono fun _ _ z => z.keep kp (lst_tup hDi)) ⟨tn,rfl,?_⟩
      rw [upd_ne nDt.symm,upd_same]
      show some (HO.tup [.int (entAt M a i).1,.int (entAt M b i).1])=some (HO.tup [.int (((entAt M a i).1.toNat:Nat):Int),.int (((entAt M b i).1.toNat:Nat):Int)])
      rw [Int.toNat_of_nonneg a0,Int.toNat_of_nonneg b0]
  · rintro ys σ H' hDn ⟨v,rfl,(s:Same _ _),hY⟩
    rw [zl] at hY
    exact q D1 ys H' (s1.trans s) (s1.free hD1) hDn hY
end
end Toy
namespace Toy
open PySem L2
seal PySem.wpAny
section
variable {P:Program} {w:World} {K:PySem.W.Frag} {mg:Str→Option Value} {base:Heap}
def mkP:Make where
  fit:=fun k => ∃ a b:Int,k=intsTr [a,b]
  dep:=by
    rintro k ⟨a,b,rfl⟩
    rw [intsTr_dep]; decide
  cmp:=by
    rintro x y ⟨a,b,rfl⟩ ⟨c,d,rfl⟩
    exact intsTr_cmp _ _
theorem DeedsAt.keepU {H H':Hp} {v:V} {ds:List Int} (k:∀ a xs,H a=some (.tup xs)→H' a=some (.tup xs)) (h:DeedsAt H v ds):DeedsAt H' v ds:=by
  obtain ⟨d,e,h⟩:=h
  exact ⟨d,e,k _ _ h⟩
theorem find_key:∀ {kvs:List NK} {i:Nat} {x:NK},(kvs.map (·.1)).Nodup→kvs[i]? = some x→kvs.find? (fun y => decide (y.1=x.1))=some x
  | [],_,_,_,h => by cases h
  | y :: kvs,0,x,hn,h => by
    cases h
    rw [List.find?_cons,decide_eq_true rfl]
  | y :: kvs,i + 1,x,hn,h => by
    have h':kvs[i]? = some x:=h
    obtain ⟨n1,n2⟩:=List.nodup_cons.mp (show (y.1 :: kvs.map (·.1)).Nodup from hn)
    have hx:x.1∈kvs.map (·.1):=List.mem_map.mpr ⟨x,List.mem_of_getElem? h',rfl⟩
    rw [List.find?_cons,decide_eq_false (fun e => n1 (by rw [e]; exact hx))]
    exact find_key n2 h'
theorem gevs_snoc {W:Wk} {c w:List Int} {e:Int}:∀ (es:List Int) {S S':FS},gevs W c w es S = .ok S'→gevs W c w (es ++ [e]) S=gstep W c w S' e
  | [],S,S',h => by
    cases h
    show (match gstep W c w S e with | .error x => Except.error x | .ok S' => gevs W c w [] S')=_
    cases gstep W c w S e <;> rfl
  | a :: es,S,S',h => by
    rw [List.cons_append]
    unfold gevs at h ⊢
    cases hs:gstep W c w S a with
    | error x => rw [hs] at h; cases h
    | ok S1 =>
      rw [hs] at h
      exact gevs_snoc es h
structure PI2 (n:Nat) (S:FS) (d q:Addr) (kvs:List NK) (us:List V) (H:Hp):Prop where
  dN:NAt mkP H d kvs
  kc:Z (fun (x:NK) (c:List Int) => x.1=intsTr c) kvs S.cs
  kw:Z (fun (x:NK) (w:List Int) => DeedsAt H x.2.2 w) kvs S.ws
  pq:H q=some (.lst us)
  pz:Z (DeedsAt H) us (S.cs.drop n)
theorem PI2.keep {n:Nat} {S:FS} {d q:Addr} {kvs:List NK} {us:List V} {H H':Hp} (h:PI2 n S d q kvs us H) (hd:H' d=some (ND d kvs)) (hq:H' q=some (.lst us)) (k:∀ a xs,H a=some (.tup xs)→H' a=some (.tup xs)):PI2 n S d q kvs us H' :=
  ⟨h.dN.keep hd k,h.kc,h.kw.mono fun _ _ z => z.keepU k,hq,h.pz.mono fun _ _ z => z.keepU k⟩
theorem PI2.same {n:Nat} {S:FS} {d q:Addr} {kvs:List NK} {us:List V} {H H':Hp} (h:PI2 n S d q kvs us H) (s:Same H H'):PI2 n S d q kvs us H' :=
  h.keep (s _ _ h.dN.ob) (s _ _ h.pq) fun a xs e => s _ _ e
theorem PI2.val {n:Nat} {S:FS} {d q:Addr} {kvs:List NK} {us:List V} {H:Hp} (h:PI2 n S d q kvs us H) {i:Nat} {c w:List Int} (hc:S.cs[i]? = some c) (hw:S.ws[i]? = some w):∃ z,valT kvs (intsTr c)=some z∧DeedsAt H z w:=by
  obtain ⟨x,hx,ex⟩:=h.kc.at hc
  obtain ⟨x',hx',ew⟩:=h.kw.at hw
  rw [hx] at hx'
  cases hx'
  refine ⟨x.2.2,?_,ew⟩
  unfold valT
  rw [← ex,find_key h.dN.nd hx]; rfl
theorem PI2.out {n:Nat} {S:FS} {d q:Addr} {kvs:List NK} {us:List V} {H:Hp} (h:PI2 n S d q kvs us H) {c:List Int} (hc:¬ c∈S.cs):valT kvs (intsTr c)=Option.none:=by
  unfold valT
  have:kvs.find? (fun y => decide (y.1=intsTr c))=Option.none:=List.find?_eq_none.mpr fun x hx z => by
    obtain ⟨i,hi⟩:=mem_at hx
    obtain ⟨c',h1,h2⟩:=h.kc.at1 hi
    rw [h2] at z
    have:=intsTr_inj (of_decide_eq_true z)
    exact hc (by rw [← this]; exact List.mem_of_getElem? h1)
  rw [this]; rfl
def spParted (C:Addr):Sp:=fun vs H Q _ => ∃ (c s r y:Addr) (ps:List Addr) (S W:List V) (M:Mach) (a b:Nat),vs=[.ref c,.int a,.int b]∧FlatIs C H c s r y ps S M W∧GoodM M∧a < M.length∧b < M.length ∧
  (∀ (wd:List Int) (t:Addr) (H':Hp),Same H H'→pfold (mcOf M) 1000 0 ⟨[[(a:Int),(b:Int)]],[[]],[],[]⟩ = some wd→H' t=some (.tup (wd.map V.int))→Q (.ref t) H') ∧
  (∀ (H':Hp),Same H H'→pfold (mcOf M) 1000 0 ⟨[[(a:Int),(b:Int)]],[[]],[],[]⟩ = Option.none→Q .non H')
theorem scParted:FnScope ["flat", "one", "other", "ways", "pairs", "pair", "event", "behind"] ["flat", "one", "other"] (defScope sParted):=⟨rfl,rfl,rfl,by decide +kernel,rfl,by decide +kernel,by decide +kernel⟩
theorem drop_get {α : Type} {l:List α} {n:Nat} {x : α} {r:List α} (h:l.drop n=x :: r):l[n]? = some x∧l.drop (n + 1)=r:=by
  refine ⟨?_,?_⟩
  · have:(l.drop n)[0]? = some x:=by rw [h]; rfl
    rw [List.getElem?_drop] at this
    exact this
  · rw [← List.tail_drop,h]; rfl
def PW2 (m:Fm.Mc) (R:Option (List Int)) (c d qa:Addr) (a b:Nat) (H:Hp) (f:Nat) (σ : St) (H':Hp):Prop := ∃ (n:Nat) (S:FS) (kvs:List NK) (us:List V) (v5 v6 v7:Option V),σ = [some (.ref c),some (.int a),some (.int b),some (.ref d),some (.ref qa),v5,v6,v7]∧Same H H'∧PI2 n S d qa kvs us H' ∧
  pfold m f n S=R∧(∀ y∈S.cs,y∈allP m.n)∧S.cs.Nodup∧S.ws.length=S.cs.length∧n≤S.cs.length∧900 < f + n∧∀ v∈S.ws,v.length≤S.cs.length
theorem nodup_key {kvs:List NK} {k:Tr} (h:valT kvs k=Option.none) (hn:(kvs.map (·.1)).Nodup) (a:Addr) (v:V):((kvs ++ [(k,a,v)]).map (·.1)).Nodup:=by
  rw [List.map_append]
  refine List.nodup_append.mpr ⟨hn,List.nodup_cons.mpr ⟨by simp,List.nodup_nil⟩,fun x hx y hy e => ?_⟩
  rw [List.mem_singleton.mp hy] at e
  obtain ⟨z,hz,rfl⟩:=List.mem_map.mp hx
  have h':kvs.find? (fun y => decide (y.1=k))=Option.none:=by
    cases q:kvs.find? (fun y => decide (y.1=k)) with
    | none => rfl
    | some u => unfold valT at h; rw [q] at h; cases h
  exact absurd (decide_eq_true e) (List.find?_eq_none.mp h' z hz)
theorem ok_parted {f C fe ff fb:Addr} {fd fde fdf fdb:FuncData} (D:DefAt K mg "parted" sParted ["flat", "one", "other"] f fd) (T:FTxt K mg C) (De:DefAt K mg "entries_of" sEntries ["flat", "pair"] fe fde)
    (Df:DefAt K mg "first_difference" sFirst ["flat", "pair"] ff fdf) (Db:DefAt K mg "pairs_behind" sBehind ["flat", "pair"] fb fdb):FnOk P w K mg base CX0 3 f fd ["flat", "one", "other"] (spParted C):=by
  have Gf:FnOk P w K mg base CX0 2 ff fdf ["flat", "pair"] (spFirst C):=ok_first Df T De
  have Gb:FnOk P w K mg base CX0 2 fb fdb ["flat", "pair"] (spBehind C):=ok_behind Db T De
  refine D.fn.ok scParted (fun vs H Q E h => ?_) (fun cdv A outer s H vs Q E hr h => ?_)
  · obtain ⟨c,s,r,y,ps,S,W,M,a,b,rfl,_⟩:=h
    rfl
  obtain ⟨c,sa,ra,ya,ps,S0,W0,M,a,b,rfl,hF,hG,ha,hb,q1,q2⟩:=h
  refine ⟨_,pss_cons (ps_set (i := 3) scParted.nd rfl (Or.inl rfl) (pe_dict1 mkP hr.units (pe_tup (pa_cons (pv 1) (pa_cons (pv 2) pa_nil))) (pe_tup pa_nil)))
    (pss_cons (ps_set (i := 4) scParted.nd rfl (Or.inl rfl) (pe_lst (pa_cons (pe_tup (pa_cons (pv 1) (pa_cons (pv 2) pa_nil))) pa_nil)))
    (pss_cons (ps_while PassesOwn.never (pt_cmpR op_gt (pe_callB call_len_seq (by rfl) T.len PySem.boot_len (pa_cons (pv 4) pa_nil)) pe_int (nomark _))
      (pss_cons (ps_set (i := 5) scParted.nd rfl (Or.inl rfl) (pe_bm PySem.F.plainAttrs_list PySem.F.slot_list_pop PySem.F.type_list_pop mt_popAt (pv 4) (pa_cons pe_int pa_nil)))
      (pss_cons (ps_set (i := 6) scParted.nd rfl (Or.inl rfl) (pe_call Gf hr rfl Df.mg Df.fn.kp Df.bd .nil pass0 (pa_cons (pv 0) (pa_cons (pv 5) pa_nil))))
      (pss_cons (ps_if (pt_cmp (pc_notN (pv 6))) (pss_one (ps_ret (pe_op op_catB (pe_ix (ix_dictN mkP hr.units) (pv 3) (pv 5) (fun _ _ => rfl)) (pe_tup (pa_cons (pv 6) pa_nil))))) pss_nil)
      (pss_one (ps_for PassesOwn.never rfl (pi_enum rfl T.enum (pa_cons (pe_call Gb hr rfl Db.mg Db.fn.kp Db.bd .nil pass0 (pa_cons (pv 0) (pa_cons (pv 5) pa_nil))) pa_nil)) (pg_tup (n := 2) rfl (pgs_cons (pg_name (i := 6) scParted.nd rfl (Or.inl rfl)) (pgs_cons (pg_name (i := 7) scParted.nd rfl (Or.inl rfl)) pgs_nil)))
        (pss_one (ps_if (pt_cmpR (op_notInN mkP hr.units) (pv 7) (pv 3) (by rfl))
          (pss_cons (ps_asg (pe_op op_catB (pe_ix (ix_dictN mkP hr.units) (pv 3) (pv 5) (fun _ _ => rfl)) (pe_tup (pa_cons (pv 6) pa_nil))) (pg_sub (pv 3) (pv 7) (set_dictN mkP hr.units)))
          (pss_one (ps_expr (pe_bm PySem.F.plainAttrs_list PySem.F.slot_list_append PySem.F.type_list_append mt_append (pv 4) (pa_cons (pv 7) pa_nil))))) pss_nil))))))))
    (pss_one (ps_ret pe_non)))),?_⟩
  have ok:=mc_ok hG
  have hm30:=hG.most
  have hL:(allP M.length).length≤900:=by
    unfold allP
    rw [List.length_map,List.length_range]
    exact Nat.mul_le_mul hm30 hm30
  intro d hd
  refine ⟨_,rfl,_,rfl,(by show 2≤sizeLine; decide),fun k0 hk0 => ⟨(by show 0≤sizeLine; decide),fun w0 hw0 => ?_⟩⟩
  have ndk:d≠k0:=ne_of_none upd_same hk0
  have ndw:d≠w0:=by
    have:(upd (upd H d (ND d [])) k0 (.tup [.int a,.int b])) d=some (ND d []):=by rw [upd_ne ndk,upd_same]
    exact ne_of_none this hw0
  have nkw:k0≠w0:=ne_of_none upd_same hw0
  refine ⟨k0,intsTr [(a:Int),(b:Int)],rfl,⟨by rw [upd_ne ndw,upd_ne ndk,upd_same],fun x hx => (by cases hx),List.nodup_nil,Nat.zero_le _⟩,.tup (by rw [upd_ne nkw,upd_same]; rfl) (ints_tr [(a:Int),(b:Int)]),⟨_,_,rfl⟩,?_⟩
  refine ⟨_,rfl,_,rfl,(by show 2≤sizeLine; decide),fun k1 hk1 => ⟨(by show 1≤sizeLine; decide),fun qa hqa => ?_⟩⟩
  have sA:=same_new hd (ND d [])
  have sB:=same_new hk0 (.tup [.int (a:Int),.int (b:Int)])
  have sC:=same_new hw0 (.tup [])
  have s0C:=sA.trans (sB.trans sC)
  have sD:=sameUpd s0C hd (ND d [(intsTr [(a:Int),(b:Int)],k0,.ref w0)])
  have sE:=same_new hk1 (.tup [.int (a:Int),.int (b:Int)])
  have sF:=same_new hqa (.lst [.ref k1])
  have s3:=sD.trans (sE.trans sF)
  have hqa0:H qa=Option.none:=sD.free (sE.free hqa)
  have ekk:(upd (upd (upd (upd H d (ND d [])) k0 (.tup [.int (a:Int),.int (b:Int)])) w0 (.tup [])) d (ND d [(intsTr [(a:Int),(b:Int)],k0,.ref w0)])) k0=some (.tup [.int (a:Int),.int (b:Int)]):=by rw [upd_ne ndk.symm,upd_ne nkw,upd_same]
  have eww:(upd (upd (upd (upd H d (ND d [])) k0 (.tup [.int (a:Int),.int (b:Int)])) w0 (.tup [])) d (ND d [(intsTr [(a:Int),(b:Int)],k0,.ref w0)])) w0=some (.tup []):=by rw [upd_ne ndw.symm,upd_same]
  have hP0:PI2 0 ⟨[[(a:Int),(b:Int)]],[[]],[],[]⟩ d qa [(intsTr [(a:Int),(b:Int)],k0,.ref w0)] [.ref k1] (upd (upd (upd (upd (upd (upd H d (ND d [])) k0 (.tup [.int (a:Int),.int (b:Int)])) w0 (.tup [])) d (ND d [(intsTr [(a:Int),(b:Int)],k0,.ref w0)])) k1 (.tup [.int (a:Int),.int (b:Int)])) qa (.lst [.ref k1])):=by
    refine ⟨⟨sF _ _ (sE _ _ upd_same),fun x hx => ?_,List.nodup_cons.mpr ⟨by simp,List.nodup_nil⟩,(by show 1≤1000; decide)⟩,Z.cons Z.nil rfl,Z.cons Z.nil ⟨w0,rfl,sF _ _ (sE _ _ eww)⟩,upd_same,Z.cons Z.nil ⟨k1,rfl,sF _ _ upd_same⟩⟩
    rw [List.mem_singleton.mp hx]
    exact ⟨.tup (sF _ _ (sE _ _ ekk)) (ints_tr [(a:Int),(b:Int)]),⟨_,_,rfl⟩⟩
  obtain ⟨R,hR⟩ : ∃ R,pfold (mcOf M) 1000 0 ⟨[[(a:Int),(b:Int)]],[[]],[],[]⟩ = R:=⟨_,rfl⟩
  rw [hR] at q1 q2
  refine ⟨PW2 (mcOf M) R c d qa a b H,⟨1000,0,_,_,_,_,_,_,rfl,s3,hP0,hR,fun y hy => (by rw [List.mem_singleton.mp hy]; exact allP_mem ha hb),List.nodup_cons.mpr ⟨by simp,List.nodup_nil⟩,rfl,Nat.zero_le _,by decide,fun v hv => by rw [List.mem_singleton.mp hv]; exact Nat.zero_le _⟩,?_⟩
  clear hP0 sA sB sC s0C sD sE sF s3 ekk eww
  rintro f σ H1 ⟨n,S,kvs,us,v5,v6,v7,rfl,s1,hP,hf,hall,hnd,hwl,hn,h9,hvl⟩
  have hlen:S.cs.length≤900:=Nat.le_trans (nodup_le S.cs (allP M.length) hnd hall) hL
  obtain ⟨f',rfl⟩ : ∃ f',f=f' + 1:=⟨f - 1,by omega⟩
  have hul:us.length=S.cs.length - n:=by rw [hP.pz.1,List.length_drop]
  refine ⟨_,rfl,qa,_,rfl,.inl (SqL.of hP.pq),_,_,rfl,rfl,_,rfl,?_⟩
  refine ite2 (fun z => ?_) (fun z => ?_)
  · have z' : 0 < us.length:=by
      have:=of_decide_eq_true z
      omega
    cases us with
    | nil => cases z'
    | cons x us' =>
    cases hdr:S.cs.drop n with
    | nil =>
      have:=hP.pz.1
      rw [hdr] at this; cases this
    | cons c0 rc =>
    obtain ⟨hc,hrc⟩:=drop_get hdr
    have hpz:=hP.pz
    rw [hdr] at hpz
    obtain ⟨⟨tx,rfl,htx⟩,hz2⟩:=hpz.uncons
    rw [← hrc] at hz2
    have hnl:n < S.cs.length:=(List.getElem?_eq_some_iff.mp hc).1
    obtain ⟨a1,b1,rfl,ha1,hb1⟩:=allP_two (hall _ (List.mem_of_getElem? hc))
    have ha1':a1 < M.length:=ha1
    have hb1':b1 < M.length:=hb1
    obtain ⟨wn,hwn⟩ : ∃ wn,S.ws[n]? = some wn:=⟨_,List.getElem?_eq_getElem (by omega)⟩
    refine ⟨PW2 (mcOf M) R c d qa a b H f',fun σ' H' hN => ⟨f',Nat.lt_succ_self _,hN⟩,?_⟩
    refine ⟨_,rfl,.inl ⟨rfl,_,SqL.of hP.pq⟩,qa,_,0,0,.ref tx,rfl,rfl,hP.pq,by decide,by decide,PySem.StrLaws.seqIndex_nonneg (by decide) (by show (0:Int) < ((us'.length + 1:Nat):Int); omega),rfl,?_⟩
    have ndq:d≠qa:=ne_of hP.dN.ob hP.pq (by intro z; cases z)
    have kq:∀ x xs,H1 x=some (.tup xs)→(upd H1 qa (.lst us')) x=some (.tup xs):=fun x xs e => by
      rw [upd_ne (ne_of e hP.pq (by intro z; cases z))]; exact e
    have hP2:PI2 (n + 1) S d qa kvs us' (upd H1 qa (.lst us')):=⟨hP.dN.keep (by rw [upd_ne ndq]; exact hP.dN.ob) kq,hP.kc,hP.kw.mono fun _ _ z => z.keepU kq,upd_same,hz2.mono fun _ _ z => z.keepU kq⟩
    have s2:Same H (upd H1 qa (.lst us')):=fun x o ex => by rw [upd_ne (ne_of_none ex hqa0)]; exact s1 _ _ ex
    have htx2:=kq _ _ htx
    have ee:((V.ref tx :: us').eraseIdx 0)=us':=rfl
    rw [ee]
    generalize upd H1 qa (.lst us')=H2 at hP2 s2 htx2 ⊢
    refine ⟨_,rfl,_,rfl,c,sa,ra,ya,tx,ps,S0,W0,M,a1,b1,rfl,hF.same s2,hG,htx2,ha1',hb1',fun H3 s3 => ?_⟩
    have hP3:=hP2.same s3
    have s03:=s2.trans s3
    have htx3:=s3 _ _ htx2
    have ec:S.cs.getD n [] = [(a1:Int),(b1:Int)]:=by rw [List.getD_eq_getElem?_getD,hc]; rfl
    have ew:S.ws.getD n [] = wn:=by rw [List.getD_eq_getElem?_getD,hwn]; rfl
    have hf':=hf
    unfold pfold at hf'
    rw [if_pos hnl,ec,ew] at hf'
    obtain ⟨zv,hzv,zt,rfl,hzt⟩:=hP3.val hc hwn
    have hTx:TrAt H3 (intsTr [(a1:Int),(b1:Int)]) (.ref tx):=.tup htx3 (ints_tr [(a1:Int),(b1:Int)])
    refine ⟨_,rfl,_,rfl,?_⟩
    generalize hfd:fdif (mcOf M) [(a1:Int),(b1:Int)] = o at hf' ⊢
    cases o with
    | some e =>
      refine ite2 (fun z => ?_) (fun z => absurd (by simp [optE]) z)
      have hRe:R=some (wn ++ [(e:Int)]):=hf'.symm
      refine ⟨_,rfl,_,rfl,d,tx,kvs,_,.ref zt,rfl,rfl,hP3.dN,hTx,⟨_,_,rfl⟩,hzv,_,rfl,(by show 1≤sizeLine; decide),fun te hte => ?_⟩
      have s4:=same_new hte (.tup [.int (e:Int)])
      have ete:(upd H3 te (.tup [.int (e:Int)])) te=some (.tup [.int (e:Int)]):=upd_same
      have hwl9:wn.length + 1≤1000:=(by have:=hvl wn (List.mem_of_getElem? hwn); omega)
      refine ⟨zt,te,_,_,rfl,rfl,SqT.of (s4 _ _ hzt),SqT.of ete,by simp,by rw [List.length_map]; exact small hwl9,fun hx => ?_,fun hx p hp => ?_⟩
      · have hx':wn=[]:=by simpa using hx
        subst hx'
        exact q1 _ te _ (s03.trans s4) hRe upd_same
      · exact q1 _ p _ (s03.trans (s4.trans (same_new hp _))) hRe (by rw [upd_same,List.map_append]; rfl)
    | none =>
      refine ite2 (fun z => absurd z (by simp [optE])) (fun _ => ?_)
      refine ⟨_,rfl,_,rfl,c,sa,ra,ya,tx,ps,S0,W0,M,a1,b1,rfl,hF.same s03,hG,htx3,ha1',hb1',fun l zs H4 s4 hl el hZ => ⟨l,rfl,⟨_,SqL.of el⟩,?_⟩⟩
      have zl:zs.length=4:=by rw [hZ.1]; rfl
      have hP4:=hP3.same s4
      have nld:l≠d:=(ne_of_none hP3.dN.ob hl).symm
      have nlq:l≠qa:=(ne_of_none hP3.pq hl).symm
      refine for_enum (xs:=zs) (fun i σ H' => ∃ S' kvs' us' v6 v7,σ = [some (.ref c),some (.int a),some (.int b),some (.ref d),some (.ref qa),some (.ref tx),v6,v7]∧Same H H'∧(∀ x xs,H4 x=some (.tup xs)→H' x=some (.tup xs))∧H' l=some (.lst zs)∧PI2 (n + 1) S' d qa kvs' us' H' ∧
          gevs (wkD (mcOf M)) [(a1:Int),(b1:Int)] wn (([0,1,2,3]:List Int).take i) ⟨S.cs,S.ws,S.rows,[]⟩ = .ok S'∧(∀ y∈S'.cs,y∈allP M.length)∧S'.cs.Nodup∧S'.ws.length=S'.cs.length∧(∃ more,S'.cs=S.cs ++ more)∧(∃ more,S'.ws=S.ws ++ more)∧∀ v∈S'.ws,v.length≤S'.cs.length)
        ⟨⟨S.cs,S.ws,S.rows,[]⟩,_,_,_,_,rfl,s03.trans s4,fun _ _ e => e,el,⟨hP4.dN,hP4.kc,hP4.kw,hP4.pq,hP4.pz⟩,rfl,hall,hnd,hwl,⟨[],by simp⟩,⟨[],by simp⟩,hvl⟩ ?_ ?_ ?_
      · rintro i σ H' hi ⟨S',kvs',us',v6,v7,rfl,sH,kt,eli,_⟩
        exact SqL.of eli
      · rintro i x t σ H' hx ht ⟨S',kvs',us',v6,v7,rfl,sH,kt,eli,hPi,hgi,hal,hnd',hwl',hpre,hpw,hvl'⟩
        have hi4:i < 4:=by
          have:=(List.getElem?_eq_some_iff.mp hx).1
          omega
        obtain ⟨c',hc',tb,rfl,htb⟩:=hZ.at1 hx
        rw [List.getElem?_map,List.getElem?_range hi4] at hc'
        have hc'':nxP (mcOf M) [(a1:Int),(b1:Int)] ((i:Nat):Int)=c':=Option.some.inj hc'
        have hcn:(wkD (mcOf M)).nx [(a1:Int),(b1:Int)] ((i:Nat):Int)=c':=hc''
        have hc'P:c'∈allP M.length:=by
          rw [← hc'']
          exact allP_next ok (hall _ (List.mem_of_getElem? hc)) hi4
        obtain ⟨a2,b2,ec',_,_⟩:=allP_two hc'P
        have hfit:mkP.fit (intsTr c'):=⟨_,_,by rw [ec']⟩
        have hlen':S'.cs.length≤900:=Nat.le_trans (nodup_le S'.cs (allP M.length) hnd' hal) hL
        have hnl':n < S'.cs.length:=by
          obtain ⟨more,hm⟩:=hpre
          rw [hm,List.length_append]; omega
        have htk:([0,1,2,3]:List Int).take (i + 1)=([0,1,2,3]:List Int).take i ++ [((i:Nat):Int)]:=by
          match i,hi4 with
          | 0,_ => rfl
          | 1,_ => rfl
          | 2,_ => rfl
          | 3,_ => rfl
        have s5:=same_new ht (.tup [.int (i:Int),.ref tb])
        have et:(upd H' t (.tup [.int (i:Int),.ref tb])) t=some (.tup [.int (i:Int),.ref tb]):=upd_same
        generalize upd H' t (.tup [.int (i:Int),.ref tb])=H5 at s5 et ⊢
        refine ⟨t,_,rfl,SqT.of et,rfl,_,_,rfl,_,_,rfl,rfl,?_⟩
        have hP5:=hPi.same s5
        have hT5:TrAt H5 (intsTr c') (.ref tb):=.tup (s5 _ _ (kt _ _ htb)) (ints_tr _)
        refine ⟨_,rfl,_,rfl,d,tb,kvs',intsTr c',rfl,rfl,hP5.dN,hT5,hfit,_,rfl,?_⟩
        by_cases hin:c'∈S'.cs
        · obtain ⟨j,hj⟩:=mem_at hin
          have hjl:=(List.getElem?_eq_some_iff.mp hj).1
          obtain ⟨z9,hz9,_⟩:=hPi.val hj (List.getElem?_eq_getElem (show j < S'.ws.length by omega))
          rw [hz9]
          refine ite2 (fun z => absurd z (by simp)) (fun _ => ?_)
          refine ⟨⟨S'.cs,S'.ws,S'.rows,S'.row ++ [(((S'.cs.idxOf c':Nat):Int),[])]⟩,_,_,_,_,rfl,sH.trans s5,fun x xs e => s5 _ _ (kt _ _ e),s5 _ _ eli,⟨hP5.dN,hP5.kc,hP5.kw,hP5.pq,hP5.pz⟩,?_,hal,hnd',hwl',hpre,hpw,hvl'⟩
          rw [htk,gevs_snoc _ hgi]
          show gput (wkD (mcOf M)) [(a1:Int),(b1:Int)] wn S' ((i:Nat):Int)=_
          unfold gput
          rw [hcn,if_pos hin]
          rfl
        · rw [hPi.out hin]
          refine ite2 (fun _ => ?_) (fun z => absurd rfl z)
          obtain ⟨more,hm⟩:=id hpre
          obtain ⟨morew,hmw⟩:=id hpw
          have hc6:S'.cs[n]? = some [(a1:Int),(b1:Int)]:=by rw [hm,List.getElem?_append_left hnl]; exact hc
          have hw6:S'.ws[n]? = some wn:=by rw [hmw,List.getElem?_append_left (by omega)]; exact hwn
          obtain ⟨zv5,hzv5,zt5,rfl,hzt5⟩:=hP5.val hc6 hw6
          have hTx5:TrAt H5 (intsTr [(a1:Int),(b1:Int)]) (.ref tx):=.tup (s5 _ _ (kt _ _ (s4 _ _ htx3))) (ints_tr [(a1:Int),(b1:Int)])
          refine ⟨_,rfl,_,rfl,d,tx,kvs',_,.ref zt5,rfl,rfl,hP5.dN,hTx5,⟨_,_,rfl⟩,hzv5,_,rfl,(by show 1≤sizeLine; decide),fun te hte => ?_⟩
          have s6:=same_new hte (.tup [.int (i:Int)])
          have ete:(upd H5 te (.tup [.int (i:Int)])) te=some (.tup [.int (i:Int)]):=upd_same
          have hwl9:wn.length + 1≤1000:=(by have:=hvl wn (List.mem_of_getElem? hwn); omega)
          refine ⟨zt5,te,_,_,rfl,rfl,SqT.of (s6 _ _ hzt5),SqT.of ete,by simp,by rw [List.length_map]; exact small hwl9,fun hx => ?_,fun hx tv hp => ?_⟩
          · have hx':wn=[]:=by simpa using hx
            obtain ⟨tv,htv0⟩ : ∃ tv,tv=te:=⟨_,rfl⟩
            have htv:(upd H5 te (.tup [.int (i:Int)])) tv=some (.tup ((wn ++ [((i:Nat):Int)]).map V.int)):=by rw [htv0,hx']; exact ete
            rw [← htv0]
            have s56:=s6
            rw [← htv0] at htv s56
            generalize upd H5 tv (.tup [.int (i:Int)])=H6 at htv s56 ⊢
            have et6:∀ x xs,H' x=some (.tup xs)→H6 x=some (.tup xs):=fun x xs e => s56 _ _ (s5 _ _ e)
            have hP6:=hPi.same (s5.trans s56)
            have hT6:TrAt H6 (intsTr c') (.ref tb):=.tup (et6 _ _ (kt _ _ htb)) (ints_tr _)
            have hv6:valT kvs' (intsTr c')=Option.none:=hPi.out hin
            have hl6:kvs'.length < 1000:=by rw [hPi.kc.1]; omega
            refine ⟨_,rfl,_,rfl,d,tb,kvs',intsTr c',rfl,rfl,hP6.dN,hl6,hT6,hfit,hv6,?_⟩
            have ndq:d≠qa:=ne_of hP6.dN.ob hP6.pq (by intro z; cases z)
            have hq7:(upd H6 d (ND d (kvs' ++ [(intsTr c',tb,.ref tv)]))) qa=some (.lst us'):=by rw [upd_ne ndq.symm]; exact hP6.pq
            refine ⟨_,rfl,.inl ⟨rfl,_,SqL.of hq7⟩,_,rfl,qa,_,_,rfl,rfl,hq7,small1000 (by rw [hPi.pz.1,List.length_drop]; omega),?_⟩
            have k8:∀ x xs,H6 x=some (.tup xs)→(upd (upd H6 d (ND d (kvs' ++ [(intsTr c',tb,.ref tv)]))) qa (.lst (us' ++ [.ref tb]))) x=some (.tup xs):=fun x xs e => by
              rw [upd_ne (ne_of e hP6.pq (by intro z; cases z)),upd_ne (ne_of e hP6.dN.ob (by intro z; cases z))]; exact e
            refine ⟨⟨S'.cs ++ [c'],S'.ws ++ [wn ++ [((i:Nat):Int)]],S'.rows,S'.row ++ [(((S'.cs.length:Nat):Int),[])]⟩,_,_,_,_,rfl,fun x o ex => ?_,fun x xs e => k8 x xs (et6 x xs (kt x xs e)),?_,⟨⟨?_,fun x hx => ?_,nodup_key hv6 hPi.dN.nd tb _,?_⟩,Z.snoc hP6.kc rfl,Z.snoc (hP6.kw.mono fun _ _ z => z.keepU k8) ⟨tv,rfl,k8 _ _ htv⟩,upd_same,?_⟩,?_,fun y hy => ?_,?_,?_,?_,?_,fun v hv => ?_⟩
            · rw [upd_ne (ne_of_none ex hqa0),upd_ne (ne_of_none ex hd)]; exact s56 _ _ (s5 _ _ (sH _ _ ex))
            · rw [upd_ne nlq,upd_ne nld]; exact s56 _ _ (s5 _ _ eli)
            · rw [upd_ne ndq,upd_same]
            · rcases List.mem_append.mp hx with z | z
              · exact ⟨(hP6.dN.keys x z).1.keep k8,(hP6.dN.keys x z).2⟩
              · rw [List.mem_singleton.mp z]
                exact ⟨hT6.keep k8,hfit⟩
            · rw [List.length_append]
              show kvs'.length + 1≤1000
              omega
            · rw [List.drop_append_of_le_length (by omega)]
              exact Z.snoc (hP6.pz.mono fun _ _ z => z.keepU k8) ⟨tb,rfl,k8 _ _ (et6 _ _ (kt _ _ htb))⟩
            · rw [htk,gevs_snoc _ hgi]
              show gput (wkD (mcOf M)) [(a1:Int),(b1:Int)] wn S' ((i:Nat):Int)=_
              unfold gput
              rw [hcn,if_neg hin,if_neg (show ¬ S'.cs.length=(wkD (mcOf M)).m from fun z => by have z':S'.cs.length=1000:=z; omega)]
              rfl
            · rcases List.mem_append.mp hy with z | z
              · exact hal y z
              · rw [List.mem_singleton.mp z]; exact hc'P
            · refine List.nodup_append.mpr ⟨hnd',List.nodup_cons.mpr ⟨by simp,List.nodup_nil⟩,fun x hx y hy e => ?_⟩
              rw [e,List.mem_singleton.mp hy] at hx
              exact hin hx
            · show (S'.ws ++ [_]).length=(S'.cs ++ [c']).length
              rw [List.length_append,List.length_append,hwl']; rfl
            · obtain ⟨more,hm⟩:=hpre
              exact ⟨more ++ [c'],by show S'.cs ++ [c'] = _; rw [hm,List.append_assoc]⟩
            · obtain ⟨more,hm⟩:=hpw
              exact ⟨more ++ [wn ++ [((i:Nat):Int)]],by show S'.ws ++ [_] = _; rw [hm,List.append_assoc]⟩
            · show v.length≤(S'.cs ++ [c']).length
              rw [List.length_append]
              rcases List.mem_append.mp hv with z | z
              · have:=hvl' v z
                omega
              · rw [List.mem_singleton.mp z,List.length_append]
                have h1:=hvl wn (List.mem_of_getElem? hwn)
                show wn.length + 1≤S'.cs.length + 1
                rw [hm,List.length_append]
                omega
          · have htv:(upd (upd H5 te (.tup [.int (i:Int)])) tv (.tup (wn.map V.int ++ [.int (i:Int)]))) tv=some (.tup ((wn ++ [((i:Nat):Int)]).map V.int)):=by rw [upd_same,List.map_append]; rfl
            have s56:=s6.trans (same_new hp (.tup (wn.map V.int ++ [.int (i:Int)])))
            generalize upd (upd H5 te (.tup [.int (i:Int)])) tv (.tup (wn.map V.int ++ [.int (i:Int)]))=H6 at htv s56 ⊢
            have et6:∀ x xs,H' x=some (.tup xs)→H6 x=some (.tup xs):=fun x xs e => s56 _ _ (s5 _ _ e)
            have hP6:=hPi.same (s5.trans s56)
            have hT6:TrAt H6 (intsTr c') (.ref tb):=.tup (et6 _ _ (kt _ _ htb)) (ints_tr _)
            have hv6:valT kvs' (intsTr c')=Option.none:=hPi.out hin
            have hl6:kvs'.length < 1000:=by rw [hPi.kc.1]; omega
            refine ⟨_,rfl,_,rfl,d,tb,kvs',intsTr c',rfl,rfl,hP6.dN,hl6,hT6,hfit,hv6,?_⟩
            have ndq:d≠qa:=ne_of hP6.dN.ob hP6.pq (by intro z; cases z)
            have hq7:(upd H6 d (ND d (kvs' ++ [(intsTr c',tb,.ref tv)]))) qa=some (.lst us'):=by rw [upd_ne ndq.symm]; exact hP6.pq
            refine ⟨_,rfl,.inl ⟨rfl,_,SqL.of hq7⟩,_,rfl,qa,_,_,rfl,rfl,hq7,small1000 (by rw [hPi.pz.1,List.length_drop]; omega),?_⟩
            have k8:∀ x xs,H6 x=some (.tup xs)→(upd (upd H6 d (ND d (kvs' ++ [(intsTr c',tb,.ref tv)]))) qa (.lst (us' ++ [.ref tb]))) x=some (.tup xs):=fun x xs e => by
              rw [upd_ne (ne_of e hP6.pq (by intro z; cases z)),upd_ne (ne_of e hP6.dN.ob (by intro z; cases z))]; exact e
            refine ⟨⟨S'.cs ++ [c'],S'.ws ++ [wn ++ [((i:Nat):Int)]],S'.rows,S'.row ++ [(((S'.cs.length:Nat):Int),[])]⟩,_,_,_,_,rfl,fun x o ex => ?_,fun x xs e => k8 x xs (et6 x xs (kt x xs e)),?_,⟨⟨?_,fun x hx => ?_,nodup_key hv6 hPi.dN.nd tb _,?_⟩,Z.snoc hP6.kc rfl,Z.snoc (hP6.kw.mono fun _ _ z => z.keepU k8) ⟨tv,rfl,k8 _ _ htv⟩,upd_same,?_⟩,?_,fun y hy => ?_,?_,?_,?_,?_,fun v hv => ?_⟩
            · rw [upd_ne (ne_of_none ex hqa0),upd_ne (ne_of_none ex hd)]; exact s56 _ _ (s5 _ _ (sH _ _ ex))
            · rw [upd_ne nlq,upd_ne nld]; exact s56 _ _ (s5 _ _ eli)
            · rw [upd_ne ndq,upd_same]
            · rcases List.mem_append.mp hx with z | z
              · exact ⟨(hP6.dN.keys x z).1.keep k8,(hP6.dN.keys x z).2⟩
              · rw [List.mem_singleton.mp z]
                exact ⟨hT6.keep k8,hfit⟩
            · rw [List.length_append]
              show kvs'.length + 1≤1000
              omega
            · rw [List.drop_append_of_le_length (by omega)]
              exact Z.snoc (hP6.pz.mono fun _ _ z => z.keepU k8) ⟨tb,rfl,k8 _ _ (et6 _ _ (kt _ _ htb))⟩
            · rw [htk,gevs_snoc _ hgi]
              show gput (wkD (mcOf M)) [(a1:Int),(b1:Int)] wn S' ((i:Nat):Int)=_
              unfold gput
              rw [hcn,if_neg hin,if_neg (show ¬ S'.cs.length=(wkD (mcOf M)).m from fun z => by have z':S'.cs.length=1000:=z; omega)]
              rfl
            · rcases List.mem_append.mp hy with z | z
              · exact hal y z
              · rw [List.mem_singleton.mp z]; exact hc'P
            · refine List.nodup_append.mpr ⟨hnd',List.nodup_cons.mpr ⟨by simp,List.nodup_nil⟩,fun x hx y hy e => ?_⟩
              rw [e,List.mem_singleton.mp hy] at hx
              exact hin hx
            · show (S'.ws ++ [_]).length=(S'.cs ++ [c']).length
              rw [List.length_append,List.length_append,hwl']; rfl
            · obtain ⟨more,hm⟩:=hpre
              exact ⟨more ++ [c'],by show S'.cs ++ [c'] = _; rw [hm,List.append_assoc]⟩
            · obtain ⟨more,hm⟩:=hpw
              exact ⟨more ++ [wn ++ [((i:Nat):Int)]],by show S'.ws ++ [_] = _; rw [hm,List.append_assoc]⟩
            · show v.length≤(S'.cs ++ [c']).length
              rw [List.length_append]
              rcases List.mem_append.mp hv with z | z
              · have:=hvl' v z
                omega
              · rw [List.mem_singleton.mp z,List.length_append]
                have h1:=hvl wn (List.mem_of_getElem? hwn)
                show wn.length + 1≤S'.cs.length + 1
                rw [hm,List.length_append]
                omega
      · rintro σ H' ⟨S',kvs',us2,v6,v7,rfl,sH,kt,eli,hPi,hgi,hal,hnd',hwl',hpre,hpw,hvl'⟩
        rw [zl] at hgi
        have hgr:grow (wkD (mcOf M)) n S = .ok S':=by
          unfold grow
          rw [ec,ew]
          exact hgi
        rw [hgr] at hf'
        refine ⟨n + 1,⟨S'.cs,S'.ws,S'.rows ++ [S'.row],[]⟩,kvs',us2,_,_,_,rfl,sH,⟨hPi.dN,hPi.kc,hPi.kw,hPi.pq,hPi.pz⟩,hf',hal,hnd',hwl',?_,by omega,hvl'⟩
        obtain ⟨more,hm⟩:=hpre
        show n + 1≤S'.cs.length
        rw [hm,List.length_append]; omega
  · have z':¬ n < S.cs.length:=fun y => z (decide_eq_true (by omega))
    refine q2 H1 s1 ?_
    rw [← hf]
    unfold pfold
    rw [if_neg z']
end
end Toy
namespace Toy
open PySem L2
seal PySem.wpAny
section
variable {P:Program} {w:World} {K:PySem.W.Frag} {mg:Str→Option Value} {base:Heap}
theorem far_few {m:Fm.Mc} (ok:m.Ok) {t a b:Nat} (ha:a < m.n) (hb:b < m.n):Fm.far m t a b≤m.n:=by
  by_cases h:Fm.far m t a b=0
  · omega
  · obtain ⟨_,j2,j3⟩:=(Fm.far_spec t a b).2 h
    refine Nat.le_of_not_lt fun z => ?_
    rw [Fm.stable_al ok (show m.n≤Fm.far m t a b by omega) (Fm.stable_n ok) ha hb] at j2
    rw [Fm.stable_al ok (show m.n≤Fm.far m t a b - 1 by omega) (Fm.stable_n ok) ha hb,j2] at j3
    cases j3
def spWord:Sp:=fun vs H Q _ => ∃ (r g:Addr) (ps gs:List Addr) (M:Mach) (t a b:Nat),vs=[.ref r,.ref g,.int a,.int b]∧RowsIs H r ps M∧GoodM M∧TabAt M.length (Fm.far (mcOf M) t) H g gs∧a < M.length∧b < M.length ∧
  ∀ (tw:Addr) (H':Hp),Same H H'→H' tw=some (.tup ((wordW (mcOf M) t (Fm.far (mcOf M) t a b) a b).map V.int))→Q (.ref tw) H'
def PWd (M:Mach) (t a b:Nat) (r g wl:Addr) (H:Hp) (l:Nat) (σ : St) (H':Hp):Prop := ∃ (dn:List Int) (a' b':Nat) (v6 v7 v8 v9:Option V),σ = [some (.ref r),some (.ref g),some (.int a'),some (.int b'),some (.ref wl),some (.int (l:Int)),v6,v7,v8,v9]∧Same H H'∧H' wl=some (.lst (dn.map V.int))∧a' < M.length∧b' < M.length ∧
  wordW (mcOf M) t (Fm.far (mcOf M) t a b) a b=dn ++ wordW (mcOf M) t l a' b'∧(l=0∨Fm.far (mcOf M) t a' b'=l)∧dn.length + l≤30
theorem scWord:FnScope ["rows", "far", "one", "other", "word", "left", "event", "mine", "theirs", "good"] ["rows", "far", "one", "other"] (defScope sWord):=⟨rfl,rfl,rfl,by decide +kernel,rfl,by decide +kernel,by decide +kernel⟩
theorem ok_word {f C:Addr} {fd:FuncData} (D:DefAt K mg "_law_word" sWord ["rows", "far", "one", "other"] f fd) (T:FTxt K mg C):FnOk P w K mg base CX0 1 f fd ["rows", "far", "one", "other"] spWord:=by
  refine D.fn.ok scWord (fun vs H Q E h => ?_) (fun cdv A outer s H vs Q E hr h => ?_)
  · obtain ⟨r,g,ps,gs,M,t,a,b,rfl,_⟩:=h
    rfl
  obtain ⟨r,g,ps,gs,M,t,a,b,rfl,hR,hG,hT,ha,hb,q⟩:=h
  refine ⟨_,pss_cons (ps_set (i := 4) scWord.nd rfl (Or.inl rfl) (pe_lst pa_nil))
    (pss_cons (ps_set (i := 5) scWord.nd rfl (Or.inl rfl) (pe_ix ix_list (pe_ix ix_list (pv 1) (pv 2) (fun _ _ => rfl)) (pv 3) (fun _ _ => rfl)))
    (pss_cons (ps_while PassesOwn.never (pt_cmpR op_gt (pv 5) pe_int (nomark _))
      (pss_cons (ps_for PassesOwn.never rfl (pi_range1 rfl T.range (pa_cons pe_int pa_nil)) (pg_name (i := 6) scWord.nd rfl (Or.inl rfl))
        (pss_cons (ps_set (i := 7) scWord.nd rfl (Or.inl rfl) (pe_ix ix_list (pe_ix ix_list (pv 0) (pv 2) (fun _ _ => rfl)) (pv 6) (fun _ _ => rfl)))
        (pss_cons (ps_set (i := 8) scWord.nd rfl (Or.inl rfl) (pe_ix ix_list (pe_ix ix_list (pv 0) (pv 3) (fun _ _ => rfl)) (pv 6) (fun _ _ => rfl)))
        (pss_cons (ps_set (i := 9) scWord.nd rfl (Or.inl rfl) (pe_cmpR op_eq (pe_ix ix_list (pe_ix ix_list (pv 1) (pe_ix ix_tup (pv 7) pe_int (fun _ _ => rfl)) (fun _ _ => rfl)) (pe_ix ix_tup (pv 8) pe_int (fun _ _ => rfl)) (fun _ _ => rfl)) (pe_op op_sub (pv 5) pe_int) (nomark _)))
        (pss_cons (ps_if (pt_cmpR op_eq (pv 5) pe_int (nomark _)) (pss_one (ps_set (i := 9) scWord.nd rfl (Or.inl rfl) (pe_cmpR (op_neD hr.units) (pe_ix ix_tup (pv 7) pe_int (fun _ _ => rfl)) (pe_ix ix_tup (pv 8) pe_int (fun _ _ => rfl)) (nomark _)))) pss_nil)
        (pss_one (ps_if (pt_val (pv 9)) (pss_one ps_break) pss_nil)))))))
      (pss_cons (ps_expr (pe_bm PySem.F.plainAttrs_list PySem.F.slot_list_append PySem.F.type_list_append mt_append (pv 4) (pa_cons (pv 6) pa_nil)))
      (pss_cons (ps_set (i := 2) scWord.nd rfl (Or.inl rfl) (pe_ix ix_tup (pe_ix ix_list (pe_ix ix_list (pv 0) (pv 2) (fun _ _ => rfl)) (pv 6) (fun _ _ => rfl)) pe_int (fun _ _ => rfl)))
      (pss_cons (ps_set (i := 3) scWord.nd rfl (Or.inl rfl) (pe_ix ix_tup (pe_ix ix_list (pe_ix ix_list (pv 0) (pv 3) (fun _ _ => rfl)) (pv 6) (fun _ _ => rfl)) pe_int (fun _ _ => rfl)))
      (pss_one (ps_set (i := 5) scWord.nd rfl (Or.inl rfl) (pe_op op_sub (pv 5) pe_int))))))))
    (pss_one (ps_ret (pe_callTy call_tuple_of (by rfl) T.tup (by decide +kernel) (pa_cons (pv 4) pa_nil)))))),?_⟩
  have ok:=mc_ok hG
  have hm30:=hG.most
  have hfew:=far_few (t:=t) ok (show a < (mcOf M).n from ha) (show b < (mcOf M).n from hb)
  have hfew':Fm.far (mcOf M) t a b≤M.length:=hfew
  refine ⟨(by show 0≤sizeLine; decide),fun wl hwl0 => ?_⟩
  have s1:=same_new hwl0 (.lst [])
  obtain ⟨pl0,l1,l2⟩:=(hT.same s1).line ha
  refine ⟨_,rfl,_,rfl,g,_,_,_,rfl,rfl,SqL.of (hT.same s1).1,l1,_,rfl,pl0,_,_,_,rfl,rfl,SqL.of l2,nV_get (tabL_get hb),?_⟩
  refine ⟨PWd M t a b r g wl H,⟨Fm.far (mcOf M) t a b,[],a,b,_,_,_,_,rfl,s1,upd_same,ha,hb,rfl,.inr rfl,by show 0 + _≤30; omega⟩,?_⟩
  rintro l σ H2 ⟨dn,a',b',v6,v7,v8,v9,rfl,s2,ewl,ha',hb',hwd,hfar,hsz⟩
  refine ⟨_,rfl,_,_,rfl,rfl,_,rfl,?_⟩
  refine ite2 (fun z => ?_) (fun z => ?_)
  · obtain ⟨l',rfl⟩ : ∃ l',l=l' + 1:=⟨l - 1,by have:=of_decide_eq_true z; omega⟩
    have hfar':Fm.far (mcOf M) t a' b'=l' + 1:=by
      rcases hfar with y | y
      · omega
      · exact y
    obtain ⟨j1,j2,j3⟩:=(Fm.far_spec (m:=mcOf M) t a' b').2 (by omega)
    rw [hfar'] at j1 j2 j3
    obtain ⟨p4,pg,pl⟩:=pick_ok (t:=t) j2 j3 j1
    refine ⟨PWd M t a b r g wl H l',fun σ' H' hN => ⟨l',Nat.lt_succ_self _,hN⟩,?_⟩
    refine ⟨_,rfl,by decide,by decide,?_⟩
    refine for_range (n := 4) (fun i σ H' => ∃ v6 v7 v8 v9,σ = [some (.ref r),some (.ref g),some (.int a'),some (.int b'),some (.ref wl),some (.int ((l' + 1:Nat):Int)),v6,v7,v8,v9]∧H2=H'∧∀ j,j < i→goodW (mcOf M) t a' b' (l' + 1) j=false) ⟨_,_,_,_,rfl,rfl,fun j hj => (by cases hj)⟩ ?_ ?_
    · rintro i σ H' hi ⟨v6,v7,v8,v9,rfl,rfl,hno⟩
      have ei:(0:Int) + (i:Int)=(i:Int):=by omega
      rw [ei]
      have hR2:=hR.same s2
      have hT2:=hT.same s2
      obtain ⟨p1,vs1,x1,g1,g2,g3,⟨t1,u1,rfl,g4,g5⟩⟩:=hR2.ent hG ha' hi
      obtain ⟨p2,vs2,x2,f1,f2,f3,⟨t2,u2,rfl,f4,f5⟩⟩:=hR2.ent hG hb' hi
      obtain ⟨_,_,_,_,a0,_,_⟩:=entAt_get hG ha' hi
      obtain ⟨_,_,_,_,b0,_,_⟩:=entAt_get hG hb' hi
      have eA:(entAt M a' i).1=(((mcOf M).nx a' i:Nat):Int):=(Int.toNat_of_nonneg a0).symm
      have eB:(entAt M b' i).1=(((mcOf M).nx b' i:Nat):Int):=(Int.toNat_of_nonneg b0).symm
      obtain ⟨pf,m1,m2⟩:=hT2.line (ok.nx a' i ha' hi)
      refine ⟨_,rfl,_,rfl,r,_,_,_,rfl,rfl,SqL.of hR2.hr,g1,_,rfl,p1,_,_,_,rfl,rfl,SqL.of g2,g3,?_⟩
      refine ⟨_,rfl,_,rfl,r,_,_,_,rfl,rfl,SqL.of hR2.hr,f1,_,rfl,p2,_,_,_,rfl,rfl,SqL.of f2,f3,?_⟩
      refine ⟨_,rfl,_,rfl,t1,_,_,_,rfl,rfl,SqT.of g4,rfl,g,_,_,_,rfl,rfl,SqL.of hT2.1,(by rw [eA]; exact m1),_,rfl,t2,_,_,_,rfl,rfl,SqT.of f4,rfl,pf,_,_,_,rfl,rfl,SqL.of m2,(by rw [eB]; exact nV_get (tabL_get (ok.nx b' i hb' hi))),_,rfl,_,_,rfl,rfl,rfl,?_⟩
      refine ⟨_,rfl,rfl,_,rfl,?_⟩
      refine ite2 (fun y => ?_) (fun y => ?_)
      · have y':l' + 1=1:=by
          have:=of_decide_eq_true y
          injection this with this
          omega
        have sh1:=shape_tuple (shape_ints (entAt M a' i).2)
        have sh2:=shape_tuple (shape_ints (entAt M b' i).2)
        refine ⟨_,rfl,t1,_,_,_,rfl,rfl,SqT.of g4,rfl,_,rfl,t2,_,_,_,rfl,rfl,SqT.of f4,rfl,_,_,g5.rd,f5.rd,shaped_of sh1 (by decide),shaped_of sh2 (by decide),?_⟩
        have eq:(if (true:Bool)=true then !PyData.eqv (.tuple ((entAt M a' i).2.map PyData.int)) (.tuple ((entAt M b' i).2.map PyData.int)) else PyData.eqv (.tuple ((entAt M a' i).2.map PyData.int)) (.tuple ((entAt M b' i).2.map PyData.int)))=goodW (mcOf M) t a' b' (l' + 1) i:=by
          rw [if_pos rfl]
          simp only [PyData.eqv,eqv_ints]
          unfold goodW
          rw [if_pos y']
          show _=decide ((entAt M a' i).2≠(entAt M b' i).2)
          simp
        rw [eq]
        refine ⟨_,rfl,_,rfl,?_⟩
        refine ite2 (fun zg => ?_) (fun zg => ?_)
        · have hpk:pickW (mcOf M) t a' b' (l' + 1)=i:=by
            rcases Nat.lt_trichotomy (pickW (mcOf M) t a' b' (l' + 1)) i with y | y | y
            · have:=hno _ y
              rw [pg] at this; cases this
            · exact y
            · have:=pl i y
              rw [zg] at this; cases this
          refine ⟨_,rfl,.inl ⟨rfl,_,SqL.of ewl⟩,_,rfl,wl,_,_,rfl,rfl,ewl,small1000 (by rw [List.length_map]; omega),?_⟩
          have s3:Same H (upd H2 wl (.lst (dn.map V.int ++ [.int (i:Int)]))):=sameUpd s2 hwl0 _
          have e3:(upd H2 wl (.lst (dn.map V.int ++ [.int (i:Int)]))) wl=some (.lst ((dn ++ [((i:Nat):Int)]).map V.int)):=by rw [upd_same,List.map_append]; rfl
          generalize upd H2 wl (.lst (dn.map V.int ++ [.int (i:Int)]))=H3 at s3 e3 ⊢
          obtain ⟨p3,vs3,x3,k1,k2,k3,⟨t3,u3,rfl,k4,_⟩⟩:=(hR.same s3).ent hG ha' hi
          obtain ⟨p5,vs5,x5,o1,o2,o3,⟨t5,u5,rfl,o4,_⟩⟩:=(hR.same s3).ent hG hb' hi
          refine ⟨_,rfl,_,rfl,r,_,_,_,rfl,rfl,SqL.of (hR.same s3).hr,k1,_,rfl,p3,_,_,_,rfl,rfl,SqL.of k2,k3,t3,_,_,_,rfl,rfl,SqT.of k4,rfl,?_⟩
          refine ⟨_,rfl,_,rfl,r,_,_,_,rfl,rfl,SqL.of (hR.same s3).hr,o1,_,rfl,p5,_,_,_,rfl,rfl,SqL.of o2,o3,t5,_,_,_,rfl,rfl,SqT.of o4,rfl,?_⟩
          refine ⟨_,rfl,_,_,rfl,rfl,?_⟩
          refine ⟨dn ++ [((i:Nat):Int)],(mcOf M).nx a' i,(mcOf M).nx b' i,some (.int (i:Int)),some (.ref t1),some (.ref t2),some (.bl (goodW (mcOf M) t a' b' (l' + 1) i)),?_,s3,e3,ok.nx a' i ha' hi,ok.nx b' i hb' hi,?_,?_,?_⟩
          · show [some (V.ref r),some (V.ref g),some (V.int (entAt M a' i).1),some (V.int (entAt M b' i).1),some (V.ref wl),some (V.int (((l' + 1:Nat):Int) - 1)),some (V.int (i:Int)),some (V.ref t1),some (V.ref t2),some (V.bl (goodW (mcOf M) t a' b' (l' + 1) i))] = _
            rw [eA,eB,show (((l' + 1:Nat):Int) - 1)=((l':Nat):Int) by omega]
          · rw [hwd,List.append_assoc]
            show _ ++ ((pickW (mcOf M) t a' b' (l' + 1):Nat):Int) :: wordW (mcOf M) t l' ((mcOf M).nx a' (pickW (mcOf M) t a' b' (l' + 1))) ((mcOf M).nx b' (pickW (mcOf M) t a' b' (l' + 1)))=_
            rw [hpk]; rfl
          · by_cases y:l'=0
            · exact .inl y
            · right
              unfold goodW at zg
              rw [if_neg (by omega)] at zg
              have:=of_decide_eq_true zg
              omega
          · rw [List.length_append]
            show dn.length + 1 + l'≤30
            omega
        · refine ⟨_,_,_,_,rfl,rfl,fun j hj => ?_⟩
          by_cases y:j=i
          · subst y
            cases x:goodW (mcOf M) t a' b' (l' + 1) j with
            | false => rfl
            | true => exact absurd x zg
          · exact hno j (by omega)
      · have y':¬ l' + 1=1:=fun e => y (by rw [e]; exact decide_eq_true rfl)
        have eq:decide (V.int ((Fm.far (mcOf M) t ((mcOf M).nx a' i) ((mcOf M).nx b' i):Nat):Int)=V.int (((l' + 1:Nat):Int) - 1))=goodW (mcOf M) t a' b' (l' + 1) i:=by
          unfold goodW
          rw [if_neg y']
          exact decide_eq_decide.mpr ⟨fun e => by injection e with e; omega,fun e => by rw [e]; congr 1; omega⟩
        rw [eq]
        refine ⟨_,rfl,_,rfl,?_⟩
        refine ite2 (fun zg => ?_) (fun zg => ?_)
        · have hpk:pickW (mcOf M) t a' b' (l' + 1)=i:=by
            rcases Nat.lt_trichotomy (pickW (mcOf M) t a' b' (l' + 1)) i with y | y | y
            · have:=hno _ y
              rw [pg] at this; cases this
            · exact y
            · have:=pl i y
              rw [zg] at this; cases this
          refine ⟨_,rfl,.inl ⟨rfl,_,SqL.of ewl⟩,_,rfl,wl,_,_,rfl,rfl,ewl,small1000 (by rw [List.length_map]; omega),?_⟩
          have s3:Same H (upd H2 wl (.lst (dn.map V.int ++ [.int (i:Int)]))):=sameUpd s2 hwl0 _
          have e3:(upd H2 wl (.lst (dn.map V.int ++ [.int (i:Int)]))) wl=some (.lst ((dn ++ [((i:Nat):Int)]).map V.int)):=by rw [upd_same,List.map_append]; rfl
          generalize upd H2 wl (.lst (dn.map V.int ++ [.int (i:Int)]))=H3 at s3 e3 ⊢
          obtain ⟨p3,vs3,x3,k1,k2,k3,⟨t3,u3,rfl,k4,_⟩⟩:=(hR.same s3).ent hG ha' hi
          obtain ⟨p5,vs5,x5,o1,o2,o3,⟨t5,u5,rfl,o4,_⟩⟩:=(hR.same s3).ent hG hb' hi
          refine ⟨_,rfl,_,rfl,r,_,_,_,rfl,rfl,SqL.of (hR.same s3).hr,k1,_,rfl,p3,_,_,_,rfl,rfl,SqL.of k2,k3,t3,_,_,_,rfl,rfl,SqT.of k4,rfl,?_⟩
          refine ⟨_,rfl,_,rfl,r,_,_,_,rfl,rfl,SqL.of (hR.same s3).hr,o1,_,rfl,p5,_,_,_,rfl,rfl,SqL.of o2,o3,t5,_,_,_,rfl,rfl,SqT.of o4,rfl,?_⟩
          refine ⟨_,rfl,_,_,rfl,rfl,?_⟩
          refine ⟨dn ++ [((i:Nat):Int)],(mcOf M).nx a' i,(mcOf M).nx b' i,some (.int (i:Int)),some (.ref t1),some (.ref t2),some (.bl (goodW (mcOf M) t a' b' (l' + 1) i)),?_,s3,e3,ok.nx a' i ha' hi,ok.nx b' i hb' hi,?_,?_,?_⟩
          · show [some (V.ref r),some (V.ref g),some (V.int (entAt M a' i).1),some (V.int (entAt M b' i).1),some (V.ref wl),some (V.int (((l' + 1:Nat):Int) - 1)),some (V.int (i:Int)),some (V.ref t1),some (V.ref t2),some (V.bl (goodW (mcOf M) t a' b' (l' + 1) i))] = _
            rw [eA,eB,show (((l' + 1:Nat):Int) - 1)=((l':Nat):Int) by omega]
          · rw [hwd,List.append_assoc]
            show _ ++ ((pickW (mcOf M) t a' b' (l' + 1):Nat):Int) :: wordW (mcOf M) t l' ((mcOf M).nx a' (pickW (mcOf M) t a' b' (l' + 1))) ((mcOf M).nx b' (pickW (mcOf M) t a' b' (l' + 1)))=_
            rw [hpk]; rfl
          · by_cases y:l'=0
            · exact .inl y
            · right
              unfold goodW at zg
              rw [if_neg (by omega)] at zg
              have:=of_decide_eq_true zg
              omega
          · rw [List.length_append]
            show dn.length + 1 + l'≤30
            omega
        · refine ⟨_,_,_,_,rfl,rfl,fun j hj => ?_⟩
          by_cases y:j=i
          · subst y
            cases x:goodW (mcOf M) t a' b' (l' + 1) j with
            | false => rfl
            | true => exact absurd x zg
          · exact hno j (by omega)
    · rintro σ H' ⟨v6,v7,v8,v9,rfl,rfl,hno⟩
      have:=hno _ p4
      rw [pg] at this; cases this
  · have hl:l=0:=by
      by_cases e:l=0
      · exact e
      · exact absurd (decide_eq_true (by omega)) z
    subst hl
    refine ⟨_,rfl,wl,_,rfl,.inl ⟨SqL.of ewl,fun tw htw => ?_⟩⟩
    refine q tw _ (s2.trans (same_new htw _)) ?_
    rw [upd_same,hwd]
    show _=some (HO.tup ((dn ++ []).map V.int))
    rw [List.append_nil]
end
end Toy
namespace Toy
open PySem L2
seal PySem.wpAny
section
variable {P:Program} {w:World} {K:PySem.W.Frag} {mg:Str→Option Value} {base:Heap}
def m9 (ns:List Int):Nat:=if Rm.cell ns 1 % 16=1 then 30 else (1 + Rm.cell ns 0 % 8).toNat
theorem m9_le (ns:List Int) : 0 < m9 ns∧m9 ns≤30:=by
  unfold m9
  split <;> omega
theorem small_log {i:Nat} (h:i≤100):(i:Int).natAbs.log2 < 1920:=by
  have e:(i:Int).natAbs=i:=Int.natAbs_natCast i
  rw [e]
  by_cases z:i=0
  · subst z; decide
  · exact (Nat.log2_lt z).mpr (Nat.lt_of_le_of_lt h (by decide +kernel))
theorem rows_lists {H1:Hp} {qs:List Addr} {M:Mach} (hR1:RowsAt H1 qs M):∃ vss:List (List V),qs.length=vss.length∧∀ (H':Hp),Same H1 H'→∀ (i:Nat) q vs,qs[i]? = some q→vss[i]? = some vs→H' q=some (.lst vs)∧∃ ro,M[i]? = some ro∧Z (EntAt H') vs ro:=by
  refine ⟨qs.map fun q => match H1 q with | some (.lst vs) => vs | _ => [],by simp,fun H' s' i q vs h1 h2 => ?_⟩
  obtain ⟨ro,a1,ws,a2,a3⟩:=hR1.at1 h1
  rw [List.getElem?_map,h1] at h2
  have z:vs=ws:=by
    have z:=Option.some.inj h2
    simp only [a2] at z
    exact z.symm
  subst z
  exact ⟨s' _ _ a2,ro,a1,a3.mono fun _ _ y => y.same s'⟩
end
end Toy
namespace Toy
open PySem L2
seal PySem.wpAny
section
variable {P:Program} {w:World} {K:PySem.W.Frag} {mg:Str→Option Value} {base:Heap}
def spLaw (K:PySem.W.Frag):Sp:=fun vs H Q _ => ∃ (a:Addr) (ns:List Int),vs=[.ref a]∧SqL K H a (ns.map V.int)∧ns.length≤63∧∀ H',Q (.bl true) H'
theorem scLaw:FnScope ["script", "many", "rows", "one", "other", "flat", "found", "far"] ["script"] (defScope sLaw):=⟨rfl,rfl,rfl,by decide +kernel,rfl,by decide +kernel,by decide +kernel⟩
theorem ok_law {f C fi fcell fm ffar fpa fro fwo:Addr} {fd fdi fdcell fdm fdfar fdpa fdro fdwo:FuncData} (D:DefAt K mg "law" sLaw ["script"] f fd) (T:FTxt K mg C) (M:Mk K C fi) (bi:Binds K fdi ["self", "states", "rows", "ways"] [])
    (Gi:FnOk P w K mg base CX0 1 fi fdi ["self", "states", "rows", "ways"] (spFInit C)) (Dc:DefAt K mg "_law_cell_at" sCell ["script", "k"] fcell fdcell) (Dm:DefAt K mg "_law_machine" sMach ["script", "many"] fm fdm)
    (Df:DefAt K mg "_law_far" sFar ["rows"] ffar fdfar) (Gf:FnOk P w K mg base CX0 2 ffar fdfar ["rows"] spFar) (Dp:DefAt K mg "parted" sParted ["flat", "one", "other"] fpa fdpa) (Gp:FnOk P w K mg base CX0 3 fpa fdpa ["flat", "one", "other"] (spParted C))
    (Dr:DefAt K mg "_law_row" sRow ["found", "due"] fro fdro) (Dw:DefAt K mg "_law_word" sWord ["rows", "far", "one", "other"] fwo fdwo) :
    FnOk P w K mg base CX0 6 f fd ["script"] (spLaw K):=by
  have Gc:FnOk P w K mg base CX0 1 fcell fdcell ["script", "k"] (spCell K):=ok_cell Dc T
  have Gm:FnOk P w K mg base CX0 2 fm fdm ["script", "many"] (spMach K g10):=ok_mach Dm T Dc
  have Gr:FnOk P w K mg base CX0 1 fro fdro ["found", "due"] spRow:=ok_row Dr T
  have Gw:FnOk P w K mg base CX0 1 fwo fdwo ["rows", "far", "one", "other"] spWord:=ok_word Dw T
  refine D.fn.ok scLaw (fun vs H Q E h => ?_) (fun cdv A outer s H vs Q E hr h => ?_)
  · obtain ⟨a,ns,rfl,_⟩:=h
    rfl
  obtain ⟨a,ns,rfl,hS,hn,q⟩:=h
  have hr1:Room 1 _:=hr.mono (by decide)
  have hr2:Room 2 _:=hr.mono (by decide)
  have hr3:Room 3 _:=hr.mono (by decide)
  obtain ⟨m0,m30⟩:=m9_le ns
  obtain ⟨t6,p6,r6⟩ : ∃ t,PSs (cxOf CX0 P w K mg base ["script", "many", "rows", "one", "other", "flat", "found", "far"] "law" (defScope sLaw) f cdv A outer s H E).nox ((defBody sLaw).drop 6) t ∧
      ∀ (r:Addr) (qs:List Addr) (N:Mach) (i j:Nat) (H1:Hp),RowsIs H1 r qs N→GoodM N→N.length=m9 ns→i < m9 ns→j < m9 ns→t { nx:=fun _ H' => Q .non H',rt:=Q } [some (.ref a),some (.int (m9 ns)),some (.ref r),some (.int i),some (.int j),Option.none,Option.none,Option.none] H1:=by
    refine ⟨_,pss_cons (ps_set (i := 5) scLaw.nd rfl (Or.inl rfl) (pe_make M Gi hr2 rfl T.mgC bi .nil pass0
        (pa_cons (pe_comp ["k"] [Option.none] rfl (pi_range1 rfl T.range (pa_cons (pv 1) pa_nil)) (fun _ => pg_name (i := 0) (show (["k"]:List Str).Nodup by decide +kernel) rfl (Or.inl rfl)) (fun _ => pts_nil) (fun _ => pe_callTy call_str_int (by rfl) T.tstr (by decide +kernel) (pa_cons (pv 0) pa_nil))
          (N:=["script", "many", "rows", "one", "other", "flat", "found", "far"]) (ks:=(defScope sLaw).names) rfl rfl (by decide +kernel) (by decide +kernel) (by decide +kernel) (by decide +kernel))
        (pa_cons (pe_comp ["row"] [Option.none] rfl (pi_list (pv 2)) (fun _ => pg_name (i := 0) (show (["row"]:List Str).Nodup by decide +kernel) rfl (Or.inl rfl)) (fun _ => pts_nil) (fun _ => pe_callTy call_list_of (by rfl) T.list (by decide +kernel) (pa_cons (pv 0) pa_nil))
          (N:=["script", "many", "rows", "one", "other", "flat", "found", "far"]) (ks:=(defScope sLaw).names) rfl rfl (by decide +kernel) (by decide +kernel) (by decide +kernel) (by decide +kernel))
        (pa_cons (pe_comp ["row"] [Option.none] rfl (pi_list (pv 2)) (fun _ => pg_name (i := 0) (show (["row"]:List Str).Nodup by decide +kernel) rfl (Or.inl rfl)) (fun _ => pts_nil) (fun _ => pe_tup pa_nil)
          (N:=["script", "many", "rows", "one", "other", "flat", "found", "far"]) (ks:=(defScope sLaw).names) rfl rfl (by decide +kernel) (by decide +kernel) (by decide +kernel) (by decide +kernel)) pa_nil)))))
      (pss_cons (ps_set (i := 6) scLaw.nd rfl (Or.inl rfl) (pe_call Gp hr3 rfl Dp.mg Dp.fn.kp Dp.bd .nil pass0 (pa_cons (pv 5) (pa_cons (pv 3) (pa_cons (pv 4) pa_nil)))))
      (pss_cons (ps_set (i := 7) scLaw.nd rfl (Or.inl rfl) (pe_call Gf hr2 rfl Df.mg Df.fn.kp Df.bd .nil pass0 (pa_cons (pv 2) pa_nil)))
      (pss_cons (ps_if (pt_cmpR (op_neD hr.units) (pe_fld (pv 5) rfl) (pv 2) (nomark _)) pss_never pss_nil)
      (pss_cons (ps_if (pt_cmpR op_eq (pe_ix ix_list (pe_ix ix_list (pv 7) (pv 3) (fun _ _ => rfl)) (pv 4) (fun _ _ => rfl)) pe_int (nomark _)) (pss_one (ps_ret (pe_cmpR op_isN (pv 6) pe_non (nomark _)))) pss_nil)
      (pss_one (ps_ret (pe_call Gr hr1 rfl Dr.mg Dr.fn.kp Dr.bd .nil pass0 (pa_cons (pv 6) (pa_cons (pe_call Gw hr1 rfl Dw.mg Dw.fn.kp Dw.bd .nil pass0 (pa_cons (pv 2) (pa_cons (pv 7) (pa_cons (pv 3) (pa_cons (pv 4) pa_nil))))) pa_nil))))))))),fun r qs N i j H1 hR1 hG hNl hi hj => ?_⟩
    have ok:=mc_ok hG
    have hq30:qs.length=m9 ns:=by rw [hR1.hm.1,hNl]
    have e1:=hR1.hr
    have em:((m9 ns:Int)).toNat=m9 ns:=by omega
    have hiN:i < N.length:=by omega
    have hjN:j < N.length:=by omega
    refine ⟨_,rfl,_,rfl,by omega,by omega,fun bk st hst => ?_⟩
    rw [em]
    refine comp_rangeA (Pv:=fun i ys σ H' => ∃ v,σ = [v]∧ys.length=i∧Same H1 H') ⟨_,rfl,rfl,same_new hst _⟩ ?_ ?_
    · rintro i ys σ H' hi hDi ⟨v,rfl,hys,(s:Same _ _)⟩
      have ei:(0:Int) + (i:Int)=(i:Int):=by omega
      rw [ei]
      refine ⟨_,rfl,_,rfl,small_log (by omega),hDi,by rw [hys]; exact small1000 (by omega),⟨_,rfl,by simp [hys],sameUpd s hst _⟩⟩
    rintro ss σ H4 hD4 ⟨v,rfl,_,(s4:Same _ _)⟩
    refine ⟨_,rfl,r,rfl,⟨_,SqL.of (s4 _ _ e1)⟩,fun bk rl hrl => ?_⟩
    obtain ⟨vss,hvl,hvs⟩:=rows_lists hR1.hm
    refine comp_listA (K:=K) (xs:=qs.map V.ref) (Pv:=fun i ys σ H' => ∃ v ps,σ = [v]∧ys=ps.map V.ref∧Same H4 H'∧ListsAt H' ps (vss.take i)∧∀ p∈ps,p≠rl) ⟨_,[],rfl,rfl,same_new hrl _,by rw [List.take_zero]; exact Z.nil,fun p hp => by simp at hp⟩ ?_ ?_ ?_
    · rintro i ys σ H' hi hDi ⟨v,ps,rfl,rfl,(s:Same _ _),_,_⟩
      exact SqL.of (s _ _ (s4 _ _ e1))
    · rintro i x ys σ H' hx hDi ⟨v,ps,rfl,rfl,(s:Same _ _),hL,hps⟩
      obtain ⟨qa,hqa,rfl⟩ : ∃ qa,qs[i]? = some qa∧V.ref qa=x:=by
        rw [List.getElem?_map] at hx
        cases z:qs[i]? with
        | none => rw [z] at hx; simp at hx
        | some p => rw [z] at hx; exact ⟨p,rfl,by simpa using hx⟩
      have hi:i < vss.length:=by rw [← hvl]; exact (List.getElem?_eq_some_iff.mp hqa).1
      have hvi:vss[i]? = some vss[i]:=List.getElem?_eq_getElem hi
      obtain ⟨b1,_⟩:=hvs H' (s4.trans s) i qa _ hqa hvi
      refine ⟨_,rfl,qa,_,rfl,.inl (SqL.of b1),fun l hl => ?_⟩
      have nDl:rl≠l:=ne_of_none hDi hl
      refine ⟨by rw [upd_ne nDl]; exact hDi,?_,⟨_,ps ++ [l],rfl,by rw [List.map_append]; rfl,sameUpd (sameUpd s (s.free hl) _) hrl _,?_,fun p hp => ?_⟩⟩
      · have z:=hL.1
        rw [List.length_take] at z
        rw [List.length_map]
        exact small1000 (by omega)
      · rw [List.take_succ,hvi]
        refine Z.snoc (hL.monoM fun p vs hp e => ?_) ?_
        · show (upd (upd H' l (.lst _)) rl _) p=_
          rw [upd_ne (hps p hp),upd_ne (ne_of_none e hl)]; exact e
        · show (upd (upd H' l (.lst _)) rl _) l=_
          rw [upd_ne nDl.symm,upd_same]
      · rcases List.mem_append.mp hp with z | z
        · exact hps p z
        · have z':p=l:=by simpa using z
          subst z'
          exact nDl.symm
    rintro ys σ H5 hD5 ⟨v,ps5,rfl,rfl,(s5:Same _ _),hL5,hps5⟩
    rw [List.length_map,hvl,List.take_length] at hL5
    have s35:=s4.trans s5
    refine ⟨_,rfl,r,rfl,⟨_,SqL.of (s35 _ _ e1)⟩,fun bk wl hwl => ?_⟩
    refine comp_listA (K:=K) (xs:=qs.map V.ref) (Pv:=fun i ys σ H' => ∃ v,σ = [v]∧ys.length=i∧Same H5 H') ⟨_,rfl,rfl,same_new hwl _⟩ ?_ ?_ ?_
    · rintro i ys σ H' hi hDi ⟨v,rfl,_,(s:Same _ _)⟩
      exact SqL.of (s _ _ (s35 _ _ e1))
    · rintro i x ys σ H' hx hDi ⟨v,rfl,hys,(s:Same _ _)⟩
      have hi:i < qs.length:=by
        have z:=(List.getElem?_eq_some_iff.mp hx).1
        rw [List.length_map] at z; exact z
      refine ⟨(by show 0≤sizeLine; decide),fun t ht => ?_⟩
      exact ⟨by rw [upd_ne (ne_of_none hDi ht)]; exact hDi,by rw [hys]; exact small1000 (by omega),⟨_,rfl,by simp [hys],sameUpd (sameUpd s (s.free ht) _) hwl _⟩⟩
    rintro ws σ H6 hD6 ⟨v,rfl,_,(s6:Same _ _)⟩
    have s16:=s35.trans s6
    intro c dx hc hdx ncd
    have kc:∀ x o,H6 x=some o→(upd (upd H6 dx (.own c)) c (.ins C dx [])) x=some o:=fun x o e => by
      rw [upd_ne (ne_of_none e hc),upd_ne (ne_of_none e hdx)]; exact e
    have lps:ps5.length=m9 ns:=by rw [hL5.1,← hvl,hq30]
    refine ⟨c,dx,st,rl,wl,ps5,ss,vss,ws,rfl,upd_same,kc _ _ (s6 _ _ (s5 _ _ hD4)),kc _ _ (s6 _ _ hD5),hL5.mono fun _ _ e => kc _ _ (s6 _ _ e),kc _ _ hD6,by omega,fun sa ra ya ps H7 k7 o7 _ h7s _ h7r h7L _ _ h7w => ⟨rfl,?_⟩⟩
    have s67:Same H6 H7:=fun x o e => k7 x o (kc x o e) (ne_of_none e hc)
    have s17:=s16.trans s67
    have hM7:RowsAt H7 ps N:=by
      refine ⟨by rw [h7L.1,← hvl,hq30,hNl],fun i p ro a1 a2 => ?_⟩
      obtain ⟨vs,b1,b2⟩:=h7L.at1 a1
      have hi:i < qs.length:=by rw [hvl]; exact (List.getElem?_eq_some_iff.mp b1).1
      obtain ⟨_,ro',c1,c2⟩:=hvs H7 s17 i _ vs (List.getElem?_eq_getElem hi) b1
      rw [a2] at c1
      cases c1
      exact ⟨vs,b2,c2⟩
    have hF7:FlatIs C H7 c sa ra ya ps ss N ws:=⟨⟨dx,o7⟩,h7s,h7r,hM7,h7w⟩
    have hR7:=hR1.same s17
    have hR7:=hR1.same s17
    have hpw:=fun (t:Nat) (st:Fm.Stable (mcOf N) t) => pfold_word ok (show (mcOf N).n≤30 by show N.length≤30; omega) st (show i < (mcOf N).n from hiN) (show j < (mcOf N).n from hjN)
    refine ⟨_,rfl,_,rfl,_,rfl,c,sa,ra,ya,ps,ss,ws,N,i,j,rfl,hF7,hG,hiN,hjN,fun wd tf H8 s8 hwd htf => ?_,fun H8 s8 hwd => ?_⟩
    ·
      refine ⟨_,rfl,r,qs,N,rfl,hR7.same s8,hG,fun t g gs H9 s9 hst9 hT9 => ?_⟩
      have s79:=s8.trans s9
      obtain ⟨⟨dx',o9⟩,_,hFr,hFm,_⟩:=hF7.same s79
      have sh:=shape_rows N
      refine ⟨_,rfl,c,C,dx',_,_,rfl,o9,T.cl,T.nR,fflds_rows sa ra ya,_,rfl,_,_,RowsAt.rd hFr hFm,RowsAt.rd (hR7.same s79).hr (hR7.same s79).hm,shaped_of sh (by decide),shaped_of sh (by decide),_,rfl,?_⟩
      rw [show (if (true:Bool)=true then !PyData.eqv (rowsD N) (rowsD N) else PyData.eqv (rowsD N) (rowsD N))=false by rw [if_pos rfl,sh.2.2]; rfl]
      refine iteF ?_
      obtain ⟨pl,l1,l2⟩:=hT9.line hiN
      refine ⟨_,rfl,_,rfl,g,_,_,_,rfl,rfl,SqL.of hT9.1,l1,_,rfl,pl,_,_,_,rfl,rfl,SqL.of l2,nV_get (tabL_get hjN),rfl,_,rfl,?_⟩
      have hpw9:=hpw t hst9
      rw [hwd] at hpw9
      by_cases hz:Fm.far (mcOf N) t i j=0
      · rw [if_pos hz] at hpw9; cases hpw9
      rw [if_neg hz] at hpw9
      refine ite2 (fun y => absurd (of_decide_eq_true y) (fun e => hz (by injection e with e; omega))) (fun _ => ?_)
      have hwd':wd=wordW (mcOf N) t (Fm.far (mcOf N) t i j) i j:=Option.some.inj hpw9
      refine ⟨_,rfl,_,rfl,_,rfl,_,rfl,_,rfl,r,g,qs,gs,N,t,i,j,rfl,hR7.same s79,hG,hT9,hiN,hjN,fun tw H10 s10 htw => ?_⟩
      refine ⟨tf,tw,_,rfl,s10 _ _ (s9 _ _ htf),(by rw [hwd']; exact htw),?_,q H10⟩
      rw [hwd',word_len]
      have:=far_few (t:=t) ok (show i < (mcOf N).n from hiN) (show j < (mcOf N).n from hjN)
      have h30:(mcOf N).n≤30:=by show N.length≤30; omega
      omega
    ·
      refine ⟨_,rfl,r,qs,N,rfl,hR7.same s8,hG,fun t g gs H9 s9 hst9 hT9 => ?_⟩
      have s79:=s8.trans s9
      obtain ⟨⟨dx',o9⟩,_,hFr,hFm,_⟩:=hF7.same s79
      have sh:=shape_rows N
      refine ⟨_,rfl,c,C,dx',_,_,rfl,o9,T.cl,T.nR,fflds_rows sa ra ya,_,rfl,_,_,RowsAt.rd hFr hFm,RowsAt.rd (hR7.same s79).hr (hR7.same s79).hm,shaped_of sh (by decide),shaped_of sh (by decide),_,rfl,?_⟩
      rw [show (if (true:Bool)=true then !PyData.eqv (rowsD N) (rowsD N) else PyData.eqv (rowsD N) (rowsD N))=false by rw [if_pos rfl,sh.2.2]; rfl]
      refine iteF ?_
      obtain ⟨pl,l1,l2⟩:=hT9.line hiN
      refine ⟨_,rfl,_,rfl,g,_,_,_,rfl,rfl,SqL.of hT9.1,l1,_,rfl,pl,_,_,_,rfl,rfl,SqL.of l2,nV_get (tabL_get hjN),rfl,_,rfl,?_⟩
      have hpw9:=hpw t hst9
      rw [hwd] at hpw9
      by_cases hz:Fm.far (mcOf N) t i j=0
      · refine ite2 (fun _ => ?_) (fun y => absurd (decide_eq_true (by rw [hz]; rfl)) y)
        refine ⟨_,rfl,rfl,?_⟩
        exact q H9
      · rw [if_neg hz] at hpw9; cases hpw9
  obtain ⟨t2,p2,r2⟩ : ∃ t,PSs (cxOf CX0 P w K mg base ["script", "many", "rows", "one", "other", "flat", "found", "far"] "law" (defScope sLaw) f cdv A outer s H E).nox ((defBody sLaw).drop 2) t ∧
      t { nx:=fun _ H' => Q .non H',rt:=Q } [some (.ref a),some (.int (m9 ns)),Option.none,Option.none,Option.none,Option.none,Option.none,Option.none] H:=by
    refine ⟨_,pss_cons (ps_set (i := 2) scLaw.nd rfl (Or.inl rfl) (pe_call Gm hr2 rfl Dm.mg Dm.fn.kp Dm.bd .nil pass0 (pa_cons (pv 0) (pa_cons (pv 1) pa_nil))))
      (pss_cons (ps_set (i := 3) scLaw.nd rfl (Or.inl rfl) (pe_op op_mod (pe_call Gc hr1 rfl Dc.mg Dc.fn.kp Dc.bd .nil pass0 (pa_cons (pv 0) (pa_cons pe_int pa_nil))) (pv 1)))
      (pss_cons (ps_set (i := 4) scLaw.nd rfl (Or.inl rfl) (pe_op op_mod (pe_call Gc hr1 rfl Dc.mg Dc.fn.kp Dc.bd .nil pass0 (pa_cons (pv 0) (pa_cons pe_int pa_nil))) (pv 1)))
      (pss_cons (ps_if (pt_cmpR op_eq (pe_op op_mod (pe_op op_fdiv (pe_call Gc hr1 rfl Dc.mg Dc.fn.kp Dc.bd .nil pass0 (pa_cons (pv 0) (pa_cons pe_int pa_nil))) pe_int) pe_int) pe_int (nomark _))
        (pss_one (ps_set (i := 4) scLaw.nd rfl (Or.inl rfl) (pe_op op_mod (pe_op op_add (pv 3) pe_int) (pv 1)))) pss_nil) p6))),?_⟩
    have hG:=mach_good ns (g10 ns) m0 m30
    refine ⟨_,rfl,_,rfl,a,ns,m9 ns,rfl,hS,m0,m30,fun r qs H1 hr0 hqs s1 e1 hR1 => ?_⟩
    have hl:(machL ns (m9 ns) (g10 ns)).length=m9 ns:=machL_len _ _ _
    have md:∀ x:Int,∃ k:Nat,x % ((m9 ns:Nat):Int)=(k:Int)∧k < m9 ns:=fun x => by
      have i1:=Int.emod_nonneg x (show ((m9 ns:Nat):Int)≠0 by omega)
      have i2:=Int.emod_lt_of_pos x (show (0:Int) < ((m9 ns:Nat):Int) by omega)
      exact ⟨(x % ((m9 ns:Nat):Int)).toNat,by omega,by omega⟩
    obtain ⟨i,ei,hi⟩:=md (Rm.cell ns 58)
    obtain ⟨j,ej,hj⟩:=md (Rm.cell ns 59)
    obtain ⟨k,ek,hk⟩:=md ((i:Int) + 1)
    refine ⟨_,rfl,a,ns,58,rfl,s1.seq hS,_,rfl,_,_,rfl,rfl,by omega,?_⟩
    refine ⟨_,rfl,a,ns,59,rfl,s1.seq hS,_,rfl,_,_,rfl,rfl,by omega,?_⟩
    refine ⟨_,rfl,a,ns,1,rfl,s1.seq hS,_,_,rfl,rfl,⟨by decide,by decide⟩,_,_,rfl,rfl,(by show (0:Int) < _; decide),rfl,_,rfl,?_⟩
    refine ite2 (fun z => ?_) (fun z => ?_)
    · refine ⟨_,rfl,_,_,rfl,rfl,_,rfl,_,_,rfl,rfl,by omega,?_⟩
      have z:=r6 r qs _ i k H1 ⟨e1,hR1⟩ hG hl hi hk
      rw [← ek,← ei] at z
      exact z
    · have z:=r6 r qs _ i j H1 ⟨e1,hR1⟩ hG hl hi hj
      rw [← ej,← ei] at z
      exact z
  refine ⟨_,pss_cons (ps_set (i := 1) scLaw.nd rfl (Or.inl rfl) (pe_op op_add pe_int (pe_op op_mod (pe_call Gc hr1 rfl Dc.mg Dc.fn.kp Dc.bd .nil pass0 (pa_cons (pv 0) (pa_cons pe_int pa_nil))) pe_int)))
    (pss_cons (ps_if (pt_cmpR op_eq (pe_op op_mod (pe_call Gc hr1 rfl Dc.mg Dc.fn.kp Dc.bd .nil pass0 (pa_cons (pv 0) (pa_cons pe_int pa_nil))) pe_int) pe_int (nomark _)) (pss_one (ps_set (i := 1) scLaw.nd rfl (Or.inl rfl) pe_int)) pss_nil) p2),?_⟩
  refine ⟨_,rfl,a,ns,0,rfl,hS,_,_,rfl,rfl,(by show (0:Int) < _; decide),_,_,rfl,rfl,?_⟩
  refine ⟨_,rfl,a,ns,1,rfl,hS,_,_,rfl,rfl,(by show (0:Int) < _; decide),rfl,_,rfl,?_⟩
  refine ite2 (fun z => ?_) (fun z => ?_)
  · have z':Rm.cell ns 1 % 16=1:=by simpa using z
    have e:((m9 ns:Nat):Int)=30:=by unfold m9; rw [if_pos z']; rfl
    rw [e] at r2
    exact r2
  · have z':¬ Rm.cell ns 1 % 16=1:=by simpa using z
    have e:((m9 ns:Nat):Int)=1 + Rm.cell ns 0 % 8:=by unfold m9; rw [if_neg z']; omega
    rw [e] at r2
    exact r2
end
end Toy
namespace Toy
open PySem L2
seal PySem.wpAny
theorem all_mk {l:PySem.W.OpenLaw} {w:World} {K:PySem.W.Frag} {h:Heap} {mg:Str→Option Value} {fa C:Addr} (X:K.In h) (G:h.Ns mainGlobals mg) (hfa:mg "law" = some (.ref fa))
    {f1:Addr} {od1 an1:Option Addr} {sl1:Array (Option Value)} {oc1 kV1 dc1 pm1 cd1 ct1:Value}
    {f2:Addr} {od2 an2:Option Addr} {sl2:Array (Option Value)} {oc2 kV2 dc2 pm2 cd2 ct2:Value}
    {f3:Addr} {od3 an3:Option Addr} {sl3:Array (Option Value)} {oc3 kV3 dc3 pm3 cd3 ct3:Value}
    {f4:Addr} {od4 an4:Option Addr} {sl4:Array (Option Value)} {oc4 kV4 dc4 pm4 cd4 ct4:Value}
    {f5:Addr} {od5 an5:Option Addr} {sl5:Array (Option Value)} {oc5 kV5 dc5 pm5 cd5 ct5:Value}
    {f6:Addr} {od6 an6:Option Addr} {sl6:Array (Option Value)} {oc6 kV6 dc6 pm6 cd6 ct6:Value}
    {f7:Addr} {od7 an7:Option Addr} {sl7:Array (Option Value)} {oc7 kV7 dc7 pm7 cd7 ct7:Value}
    {f8:Addr} {od8 an8:Option Addr} {sl8:Array (Option Value)} {oc8 kV8 dc8 pm8 cd8 ct8:Value}
    {f9:Addr} {od9 an9:Option Addr} {sl9:Array (Option Value)} {oc9 kV9 dc9 pm9 cd9 ct9:Value}
    {f10:Addr} {od10 an10:Option Addr} {sl10:Array (Option Value)} {oc10 kV10 dc10 pm10 cd10 ct10:Value}
    {f11:Addr} {od11 an11:Option Addr} {sl11:Array (Option Value)} {oc11 kV11 dc11 pm11 cd11 ct11:Value}
    {f12:Addr} {od12 an12:Option Addr} {sl12:Array (Option Value)} {oc12 kV12 dc12 pm12 cd12 ct12:Value}
    {t_BEHIND:Tok}
    {t_DEEDS:Tok}
    (aC_Flat:PySem.W.nsIn K mainGlobals "Flat" = some (some (.ref C))) (pg_Flat:PySem.W.plainGet K C Str.empty=true) (hd_Flat:PySem.W.hasDictIn K C=true) (po_Flat:PySem.W.plainOver K C=true) (sa_Flat:PySem.W.findIn K (.ref C) "__setattr__" = some (some (.builtin "object.__setattr__"))) (mk_Flat:PySem.W.makesIn K C=true) (kc_Flat:PySem.W.keepIn K (.ref C)=true)
    (n_Flat_states:PySem.W.findIn K (.ref C) "states" = some none)
    (n_Flat_rows:PySem.W.findIn K (.ref C) "rows" = some none)
    (n_Flat_ways:PySem.W.findIn K (.ref C) "ways" = some none)
    (a1:PySem.W.findIn K (.ref C) "__init__" = some (some (.ref f1))) (i1:PySem.W.isFn K (.ref f1)=true)
    (l1:K.lookup f1=some ⟨oc1,od1,.func (PySem.W.fnOf "__init__" "Flat.__init__" (defArgs sInit) (defBody sInit) (defScope sInit) .none kV1 dc1 pm1 an1 cd1 ct1),sl1⟩) (c1:PySem.W.codeIn K cd1 "Flat.__init__" = true) (k1:PySem.W.keepIn K (.ref f1)=true)
    (a2:PySem.W.nsIn K mainGlobals "parted" = some (some (.ref f2)))
    (l2:K.lookup f2=some ⟨oc2,od2,.func (PySem.W.fnOf "parted" "parted" (defArgs sParted) (defBody sParted) (defScope sParted) .none kV2 dc2 pm2 an2 cd2 ct2),sl2⟩) (c2:PySem.W.codeIn K cd2 "parted" = true) (k2:PySem.W.keepIn K (.ref f2)=true)
    (a3:PySem.W.nsIn K mainGlobals "first_difference" = some (some (.ref f3)))
    (l3:K.lookup f3=some ⟨oc3,od3,.func (PySem.W.fnOf "first_difference" "first_difference" (defArgs sFirst) (defBody sFirst) (defScope sFirst) .none kV3 dc3 pm3 an3 cd3 ct3),sl3⟩) (c3:PySem.W.codeIn K cd3 "first_difference" = true) (k3:PySem.W.keepIn K (.ref f3)=true)
    (a4:PySem.W.nsIn K mainGlobals "pairs_behind" = some (some (.ref f4)))
    (l4:K.lookup f4=some ⟨oc4,od4,.func (PySem.W.fnOf "pairs_behind" "pairs_behind" (defArgs sBehind) (defBody sBehind) (defScope sBehind) .none kV4 dc4 pm4 an4 cd4 ct4),sl4⟩) (c4:PySem.W.codeIn K cd4 "pairs_behind" = true) (k4:PySem.W.keepIn K (.ref f4)=true)
    (a5:PySem.W.nsIn K mainGlobals "entries_of" = some (some (.ref f5)))
    (l5:K.lookup f5=some ⟨oc5,od5,.func (PySem.W.fnOf "entries_of" "entries_of" (defArgs sEntries) (defBody sEntries) (defScope sEntries) .none kV5 dc5 pm5 an5 cd5 ct5),sl5⟩) (c5:PySem.W.codeIn K cd5 "entries_of" = true) (k5:PySem.W.keepIn K (.ref f5)=true)
    (a6:PySem.W.nsIn K mainGlobals "_law_cell_at" = some (some (.ref f6)))
    (l6:K.lookup f6=some ⟨oc6,od6,.func (PySem.W.fnOf "_law_cell_at" "_law_cell_at" (defArgs sCell) (defBody sCell) (defScope sCell) .none kV6 dc6 pm6 an6 cd6 ct6),sl6⟩) (c6:PySem.W.codeIn K cd6 "_law_cell_at" = true) (k6:PySem.W.keepIn K (.ref f6)=true)
    (a7:PySem.W.nsIn K mainGlobals "_law_machine" = some (some (.ref f7)))
    (l7:K.lookup f7=some ⟨oc7,od7,.func (PySem.W.fnOf "_law_machine" "_law_machine" (defArgs sMach) (defBody sMach) (defScope sMach) .none kV7 dc7 pm7 an7 cd7 ct7),sl7⟩) (c7:PySem.W.codeIn K cd7 "_law_machine" = true) (k7:PySem.W.keepIn K (.ref f7)=true)
    (a8:PySem.W.nsIn K mainGlobals "_law_far_round" = some (some (.ref f8)))
    (l8:K.lookup f8=some ⟨oc8,od8,.func (PySem.W.fnOf "_law_far_round" "_law_far_round" (defArgs sRound) (defBody sRound) (defScope sRound) .none kV8 dc8 pm8 an8 cd8 ct8),sl8⟩) (c8:PySem.W.codeIn K cd8 "_law_far_round" = true) (k8:PySem.W.keepIn K (.ref f8)=true)
    (a9:PySem.W.nsIn K mainGlobals "_law_far" = some (some (.ref f9)))
    (l9:K.lookup f9=some ⟨oc9,od9,.func (PySem.W.fnOf "_law_far" "_law_far" (defArgs sFar) (defBody sFar) (defScope sFar) .none kV9 dc9 pm9 an9 cd9 ct9),sl9⟩) (c9:PySem.W.codeIn K cd9 "_law_far" = true) (k9:PySem.W.keepIn K (.ref f9)=true)
    (a10:PySem.W.nsIn K mainGlobals "_law_row" = some (some (.ref f10)))
    (l10:K.lookup f10=some ⟨oc10,od10,.func (PySem.W.fnOf "_law_row" "_law_row" (defArgs sRow) (defBody sRow) (defScope sRow) .none kV10 dc10 pm10 an10 cd10 ct10),sl10⟩) (c10:PySem.W.codeIn K cd10 "_law_row" = true) (k10:PySem.W.keepIn K (.ref f10)=true)
    (a11:PySem.W.nsIn K mainGlobals "_law_word" = some (some (.ref f11)))
    (l11:K.lookup f11=some ⟨oc11,od11,.func (PySem.W.fnOf "_law_word" "_law_word" (defArgs sWord) (defBody sWord) (defScope sWord) .none kV11 dc11 pm11 an11 cd11 ct11),sl11⟩) (c11:PySem.W.codeIn K cd11 "_law_word" = true) (k11:PySem.W.keepIn K (.ref f11)=true)
    (a12:PySem.W.nsIn K mainGlobals "law" = some (some (.ref f12)))
    (l12:K.lookup f12=some ⟨oc12,od12,.func (PySem.W.fnOf "law" "law" (defArgs sLaw) (defBody sLaw) (defScope sLaw) .none kV12 dc12 pm12 an12 cd12 ct12),sl12⟩) (c12:PySem.W.codeIn K cd12 "law" = true) (k12:PySem.W.keepIn K (.ref f12)=true)
    (z_len:PySem.W.nsIn K mainGlobals "len" = some none)
    (z_range:PySem.W.nsIn K mainGlobals "range" = some none)
    (z_list:PySem.W.nsIn K mainGlobals "list" = some none)
    (z_isinstance:PySem.W.nsIn K mainGlobals "isinstance" = some none)
    (z_bool:PySem.W.nsIn K mainGlobals "bool" = some none)
    (z_int:PySem.W.nsIn K mainGlobals "int" = some none)
    (z_tuple:PySem.W.nsIn K mainGlobals "tuple" = some none)
    (z_str:PySem.W.nsIn K mainGlobals "str" = some none)
    (z_enumerate:PySem.W.nsIn K mainGlobals "enumerate" = some none)
    (z_zip:PySem.W.nsIn K mainGlobals "zip" = some none)
    (g_BEHIND:PySem.W.nsIn K mainGlobals "BEHIND" = some (some (.int (0) t_BEHIND)))
    (g_DEEDS:PySem.W.nsIn K mainGlobals "DEEDS" = some (some (.int (1) t_DEEDS)))
    (kt_list_list:PySem.W.kitOne K (.type "list") (.type "list")=some true)
    (kt_bool_bool:PySem.W.kitOne K (.type "bool") (.type "bool")=some true)
    (kt_int_int:PySem.W.kitOne K (.type "int") (.type "int")=some true)
    (kt_int_bool:PySem.W.kitOne K (.type "int") (.type "bool")=some false)
    (kt_tuple_tuple:PySem.W.kitOne K (.type "tuple") (.type "tuple")=some true)
    : ∃ fd:FuncData,(∀ (s:Shared) (v:Value),BindsTo s fd ⟨[v],[]⟩ [("script",v)])∧∀ base:Heap,K.In base→base.Ns mainGlobals mg→FnOk l.prog w K mg base CX0 6 fa fd ["script"] (spLaw K):=by
  have e:=hfa.symm.trans (PySem.W.mg_of X G a12)
  cases e
  have F1:=fun_mk (st:=sInit) l1 c1 k1
  have b1:=F1.binds (ps:=["self", "states", "rows", "ways"]) fun _ _ _ _ _ _ us hl => match us,hl with | [_,_,_,_],_ => rfl
  have F2:=fun_mk (st:=sParted) l2 c2 k2
  have b2:=F2.binds (ps:=["flat", "one", "other"]) fun _ _ _ _ _ _ us hl => match us,hl with | [_,_,_],_ => rfl
  have D2:DefAt K mg "parted" sParted ["flat", "one", "other"] _ _:=⟨F2,b2,PySem.W.mg_of X G a2⟩
  have F3:=fun_mk (st:=sFirst) l3 c3 k3
  have b3:=F3.binds (ps:=["flat", "pair"]) fun _ _ _ _ _ _ us hl => match us,hl with | [_,_],_ => rfl
  have D3:DefAt K mg "first_difference" sFirst ["flat", "pair"] _ _:=⟨F3,b3,PySem.W.mg_of X G a3⟩
  have F4:=fun_mk (st:=sBehind) l4 c4 k4
  have b4:=F4.binds (ps:=["flat", "pair"]) fun _ _ _ _ _ _ us hl => match us,hl with | [_,_],_ => rfl
  have D4:DefAt K mg "pairs_behind" sBehind ["flat", "pair"] _ _:=⟨F4,b4,PySem.W.mg_of X G a4⟩
  have F5:=fun_mk (st:=sEntries) l5 c5 k5
  have b5:=F5.binds (ps:=["flat", "pair"]) fun _ _ _ _ _ _ us hl => match us,hl with | [_,_],_ => rfl
  have D5:DefAt K mg "entries_of" sEntries ["flat", "pair"] _ _:=⟨F5,b5,PySem.W.mg_of X G a5⟩
  have F6:=fun_mk (st:=sCell) l6 c6 k6
  have b6:=F6.binds (ps:=["script", "k"]) fun _ _ _ _ _ _ us hl => match us,hl with | [_,_],_ => rfl
  have D6:DefAt K mg "_law_cell_at" sCell ["script", "k"] _ _:=⟨F6,b6,PySem.W.mg_of X G a6⟩
  have F7:=fun_mk (st:=sMach) l7 c7 k7
  have b7:=F7.binds (ps:=["script", "many"]) fun _ _ _ _ _ _ us hl => match us,hl with | [_,_],_ => rfl
  have D7:DefAt K mg "_law_machine" sMach ["script", "many"] _ _:=⟨F7,b7,PySem.W.mg_of X G a7⟩
  have F8:=fun_mk (st:=sRound) l8 c8 k8
  have b8:=F8.binds (ps:=["rows", "far", "turn"]) fun _ _ _ _ _ _ us hl => match us,hl with | [_,_,_],_ => rfl
  have D8:DefAt K mg "_law_far_round" sRound ["rows", "far", "turn"] _ _:=⟨F8,b8,PySem.W.mg_of X G a8⟩
  have F9:=fun_mk (st:=sFar) l9 c9 k9
  have b9:=F9.binds (ps:=["rows"]) fun _ _ _ _ _ _ us hl => match us,hl with | [_],_ => rfl
  have D9:DefAt K mg "_law_far" sFar ["rows"] _ _:=⟨F9,b9,PySem.W.mg_of X G a9⟩
  have F10:=fun_mk (st:=sRow) l10 c10 k10
  have b10:=F10.binds (ps:=["found", "due"]) fun _ _ _ _ _ _ us hl => match us,hl with | [_,_],_ => rfl
  have D10:DefAt K mg "_law_row" sRow ["found", "due"] _ _:=⟨F10,b10,PySem.W.mg_of X G a10⟩
  have F11:=fun_mk (st:=sWord) l11 c11 k11
  have b11:=F11.binds (ps:=["rows", "far", "one", "other"]) fun _ _ _ _ _ _ us hl => match us,hl with | [_,_,_,_],_ => rfl
  have D11:DefAt K mg "_law_word" sWord ["rows", "far", "one", "other"] _ _:=⟨F11,b11,PySem.W.mg_of X G a11⟩
  have F12:=fun_mk (st:=sLaw) l12 c12 k12
  have b12:=F12.binds (ps:=["script"]) fun _ _ _ _ _ _ us hl => match us,hl with | [_],_ => rfl
  have D12:DefAt K mg "law" sLaw ["script"] _ _:=⟨F12,b12,PySem.W.mg_of X G a12⟩
  have T:FTxt K mg C:=⟨⟨pg_Flat,hd_Flat,po_Flat,sa_Flat⟩,n_Flat_states,n_Flat_rows,n_Flat_ways,PySem.W.mg_of X G aC_Flat,PySem.W.mg_none_of X G z_len,PySem.W.mg_none_of X G z_range,PySem.W.mg_none_of X G z_list,PySem.W.mg_none_of X G z_isinstance,PySem.W.mg_none_of X G z_bool,PySem.W.mg_none_of X G z_int,PySem.W.mg_none_of X G z_tuple,PySem.W.mg_none_of X G z_str,PySem.W.mg_none_of X G z_enumerate,PySem.W.mg_none_of X G z_zip,⟨_,PySem.W.mg_of X G g_BEHIND⟩,⟨_,PySem.W.mg_of X G g_DEEDS⟩,kt_list_list,kt_bool_bool,kt_int_int,kt_int_bool,kt_tuple_tuple⟩
  refine ⟨PySem.W.fnOf "law" "law" (defArgs sLaw) (defBody sLaw) (defScope sLaw) .none kV12 dc12 pm12 an12 cd12 ct12,fun s v => .of_eq rfl,fun base _ _ => ?_⟩
  exact ok_law D12 T ⟨mk_Flat,a1,i1,kc_Flat⟩ b1 (ok_finit F1 T) D6 D7 D9 (ok_far D9 T D8) D2 (ok_parted D2 T D5 D3 D4) D10 D11
theorem walk {l:PySem.W.OpenLaw} {q:Program} {loose:List Str} {XP:(Str→Option Value)→Heap→Prop} {YP:World→Heap→Prop} {d:DefRec} {K:Params→PySem.W.Frag} (hn:l.most=some 63) (hdf:d.params.defaults=[])
    (hY:∀ (w:World) (h:Heap),YP w h→(K w.params).In h)
    (F:∀ (w:World) (mg:Str→Option Value) (fa:Addr) (h:Heap),(K w.params).In h→h.Ns mainGlobals mg→mg d.name=some (.ref fa) →
      ∃ fd:FuncData,(∀ (s:Shared) (u:Value),BindsTo s fd ⟨[u],[]⟩ [("script",u)])∧∀ base:Heap,(K w.params).In base→base.Ns mainGlobals mg→FnOk l.prog w (K w.params) mg base CX0 6 fa fd ["script"] (spLaw (K w.params))) :
    PySem.W.WalkO q loose XP YP l.row.toRowW d [] (fun f vs => PySem.call f vs) :=
  L2.walk_of (n := 63) (k := 6) (x := "script") (CX:=fun _ => CX0) (sp:=fun w => spLaw (K w.params)) hn (by decide) hdf ⟨rfl,by decide,by decide⟩ hY F (fun _ _ a ns hl _ hS => ⟨a,ns,rfl,hS,hl,fun _ => rfl⟩) fun _ _ _ _ _ z => z
end Toy
open PySem PySem.W PyProof.Rows
set_option maxRecDepth 100000 in
set_option maxHeartbeats 0 in
theorem PySem.Challenge.cw_chartfold_k10_states_parted_holds : PySem.Challenge.rw_chartfold_k10_states_parted.Holds := by
  w_on; o_law; k_head; (case hw => w_witness2)
  k_fill
  refine Toy.walk (l := PySem.Challenge.rw_chartfold_k10_states_parted) rfl rfl (fun w h Y => PySem.W.kIn_of Y) ?F
  case F =>
    intro w mg fa h KX G hmg
    refine' Toy.all_mk KX G hmg ?aC_Flat ?pg_Flat ?hd_Flat ?po_Flat ?sa_Flat ?mk_Flat ?kc_Flat ?n_Flat_states ?n_Flat_rows ?n_Flat_ways ?a1 ?i1 ?l1 ?c1 ?k1 ?a2 ?l2 ?c2 ?k2 ?a3 ?l3 ?c3 ?k3 ?a4 ?l4 ?c4 ?k4 ?a5 ?l5 ?c5 ?k5 ?a6 ?l6 ?c6 ?k6 ?a7 ?l7 ?c7 ?k7 ?a8 ?l8 ?c8 ?k8 ?a9 ?l9 ?c9 ?k9 ?a10 ?l10 ?c10 ?k10 ?a11 ?l11 ?c11 ?k11 ?a12 ?l12 ?c12 ?k12 ?z_len ?z_range ?z_list ?z_isinstance ?z_bool ?z_int ?z_tuple ?z_str ?z_enumerate ?z_zip ?g_BEHIND ?g_DEEDS ?kt_list_list ?kt_bool_bool ?kt_int_int ?kt_int_bool ?kt_tuple_tuple
    (case aC_Flat => k_is)
    (case pg_Flat => k_is)
    (case hd_Flat => k_is)
    (case po_Flat => k_is)
    (case sa_Flat => k_is)
    (case mk_Flat => k_is)
    (case kc_Flat => k_is)
    (case n_Flat_states => k_is)
    (case n_Flat_rows => k_is)
    (case n_Flat_ways => k_is)
    (case a1 => k_is)
    (case i1 => k_is)
    (case l1 => k_is)
    (case c1 => k_is)
    (case k1 => k_is)
    (case a2 => k_is)
    (case l2 => k_is)
    (case c2 => k_is)
    (case k2 => k_is)
    (case a3 => k_is)
    (case l3 => k_is)
    (case c3 => k_is)
    (case k3 => k_is)
    (case a4 => k_is)
    (case l4 => k_is)
    (case c4 => k_is)
    (case k4 => k_is)
    (case a5 => k_is)
    (case l5 => k_is)
    (case c5 => k_is)
    (case k5 => k_is)
    (case a6 => k_is)
    (case l6 => k_is)
    (case c6 => k_is)
    (case k6 => k_is)
    (case a7 => k_is)
    (case l7 => k_is)
    (case c7 => k_is)
    (case k7 => k_is)
    (case a8 => k_is)
    (case l8 => k_is)
    (case c8 => k_is)
    (case k8 => k_is)
    (case a9 => k_is)
    (case l9 => k_is)
    (case c9 => k_is)
    (case k9 => k_is)
    (case a10 => k_is)
    (case l10 => k_is)
    (case c10 => k_is)
    (case k10 => k_is)
    (case a11 => k_is)
    (case l11 => k_is)
    (case c11 => k_is)
    (case k11 => k_is)
    (case a12 => k_is)
    (case l12 => k_is)
    (case c12 => k_is)
    (case k12 => k_is)
    (case z_len => k_is)
    (case z_range => k_is)
    (case z_list => k_is)
    (case z_isinstance => k_is)
    (case z_bool => k_is)
    (case z_int => k_is)
    (case z_tuple => k_is)
    (case z_str => k_is)
    (case z_enumerate => k_is)
    (case z_zip => k_is)
    (case g_BEHIND => k_is)
    (case g_DEEDS => k_is)
    (case kt_list_list => kit_is)
    (case kt_bool_bool => kit_is)
    (case kt_int_int => kit_is)
    (case kt_int_bool => kit_is)
    (case kt_tuple_tuple => kit_is)
#print axioms PySem.Challenge.cw_chartfold_k10_states_parted_holds
