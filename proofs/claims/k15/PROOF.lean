import PyProof.Rows.All
import Wide.All
import OpenK.AllK
import Wide.FinOn
import Lean
import PyProof.EqAt
import PyProof.EqKinds
import PyProof.TupleCall
import PySem.Challenge.RW_chartfold_k15_whole_flat_machine
set_option Elab.async false
set_option linter.all false
set_option maxRecDepth 100000
namespace L2
open PySem PySem.Spec PyProof.Rows
abbrev K8:=Sum Int Str
def keyIs:K8→Value→Bool
  | .inl k,v => Value.isInt k v
  | .inr x,v => Value.isStrOf x v
def keyH (w:World):K8→Int
  | .inl k => hashInt k
  | .inr x => hashStr w x
theorem BM:∀ {k:K8} {v:Value},keyIs k v=true→(∃ i t,k=Sum.inl i∧v=Value.int i t)∨(∃ x t,k=Sum.inr x∧v=Value.str x t)
  | .inl i,v,h => by
    obtain ⟨t,e⟩:=Value.isInt_shape (k:=i) (v:=v) h
    exact .inl ⟨i,t,rfl,e⟩
  | .inr x,v,h => by
    obtain ⟨t,e⟩:=Value.isStrOf_shape (x:=x) (v:=v) h
    exact .inr ⟨x,t,rfl,e⟩
theorem key_ll (a b:Int):decide ((Sum.inl a:K8)=Sum.inl b)=(a == b):=by
  by_cases e:a=b
  · subst e; simp
  · have h:¬ (Sum.inl a:K8)=Sum.inl b:=fun q => e (Sum.inl.inj q)
    rw [decide_eq_false h]
    exact (beq_eq_false_iff_ne.mpr e).symm
theorem key_rr (a b:Str):decide ((Sum.inr a:K8)=Sum.inr b)=decide (a=b):=by
  by_cases e:a=b
  · subst e; simp
  · have h:¬ (Sum.inr a:K8)=Sum.inr b:=fun q => e (Sum.inr.inj q)
    rw [decide_eq_false h,decide_eq_false e]
theorem key_lr (a:Int) (b:Str):decide ((Sum.inl a:K8)=Sum.inr b)=false:=decide_eq_false (fun q => nomatch q)
theorem key_rl (a:Str) (b:Int):decide ((Sum.inr a:K8)=Sum.inl b)=false:=decide_eq_false (fun q => nomatch q)
def MW (prog:Program) (w:World):PySem.KeyKind prog w K8 where
  is:=keyIs
  hash:=keyH w
  inj:=fun v a b ha hb => by
    rcases BM ha with ⟨i,t,rfl,rfl⟩ | ⟨x,t,rfl,rfl⟩
    · rcases BM hb with ⟨j,u,rfl,e⟩ | ⟨y,u,rfl,e⟩
      · injection e with e1 _; rw [e1]
      · exact nomatch e
    · rcases BM hb with ⟨j,u,rfl,e⟩ | ⟨y,u,rfl,e⟩
      · exact nomatch e
      · injection e with e1 _; rw [e1]
  byValue:=fun k v h => by
    rcases BM h with ⟨i,t,rfl,rfl⟩ | ⟨x,t,rfl,rfl⟩ <;> rfl
  pyHash:=fun hv h => by
    rcases BM hv with ⟨i,t,rfl,rfl⟩ | ⟨x,t,rfl,rfl⟩
    · exact wpAny_pyHash_int h
    · exact wpAny_pyHash_str h
  eqBool:=fun hu hv h => by
    rcases BM hu with ⟨i,t,rfl,rfl⟩ | ⟨x,t,rfl,rfl⟩
    · rcases BM hv with ⟨j,u,rfl,rfl⟩ | ⟨y,u,rfl,rfl⟩
      · rw [key_ll] at h; exact wpAny_eqBool_int h
      · rw [key_lr] at h; exact SeqAt.EqAt.int_str i t y u _ _ _ _ h
    · rcases BM hv with ⟨j,u,rfl,rfl⟩ | ⟨y,u,rfl,rfl⟩
      · rw [key_rl] at h; exact SeqAt.EqAt.str_int x t j u _ _ _ _ h
      · rw [key_rr] at h; exact wpAny_eqBool_str h
  «strs»:=fun k x t v h => by
    rcases BM h with ⟨i,u,rfl,e⟩ | ⟨y,u,rfl,e⟩
    · exact nomatch e
    · injection e with e1 _
      subst e1
      cases v <;> rfl
end L2
namespace L2
open PySem PySem.Spec PyProof.Rows
inductive V where
  | non | bl (b:Bool) | int (i:Int) | str (x:Str) | byt (b:Array UInt8) | flt (b:UInt64) | ref (a:Addr) | ty (n:String)
  deriving DecidableEq
def Bx:V→Value→Prop
  | .non,u => u=Value.none
  | .bl b,u => u=Value.bool b
  | .int i,u => ∃ t,u=Value.int i t
  | .str x,u => ∃ t,u=Value.str x t
  | .byt b,u => ∃ t,u=Value.bytes b t
  | .flt b,u => ∃ t,u=Value.float b t
  | .ref a,u => u=Value.ref a
  | .ty n,u => u=Value.type n
abbrev A5:List V→List Value→Prop:=Paired Bx
theorem A5.length {xs:List V} {us:List Value} (r:A5 xs us):xs.length=us.length:=Paired.length r
theorem A5.get:∀ {xs:List V} {us:List Value} {i:Nat} {x:V},A5 xs us→xs[i]? = some x→∃ u,us[i]? = some u∧Bx x u
  | _,_,_,_,.nil,e => by simp at e
  | _,_,0,_,.cons r _,e => by simp at e; subst e; exact ⟨_,rfl,r⟩
  | _,_,i + 1,x,.cons _ t,e => by
    obtain ⟨u,h1,h2⟩:=A5.get (i:=i) (x:=x) t (by simpa using e)
    exact ⟨u,by simpa using h1,h2⟩
theorem A5.set {x:V} {u:Value} (r:Bx x u):∀ {xs:List V} {us:List Value} (i:Nat),A5 xs us→A5 (xs.set i x) (us.set i u)
  | _,_,_,.nil => .nil
  | _,_,0,.cons _ t => .cons r t
  | _,_,i + 1,.cons q t => .cons q (A5.set r i t)
theorem A5.append:∀ {xs ys:List V} {us ws:List Value},A5 xs us→A5 ys ws→A5 (xs ++ ys) (us ++ ws)
  | _,_,_,_,.nil,s => s
  | _,_,_,_,.cons r t,s => .cons r (A5.append t s)
theorem A5.take:∀ {xs:List V} {us:List Value} (n:Nat),A5 xs us→A5 (xs.take n) (us.take n)
  | _,_,0,_ => .nil
  | _,_,_ + 1,.nil => .nil
  | _,_,n + 1,.cons r t => .cons r (A5.take n t)
theorem A5.drop:∀ {xs:List V} {us:List Value} (n:Nat),A5 xs us→A5 (xs.drop n) (us.drop n)
  | _,_,0,r => r
  | _,_,_ + 1,.nil => .nil
  | _,_,n + 1,.cons _ t => A5.drop n t
def Jk:Option V→Option Value→Prop
  | some v,some u => Bx v u
  | none,none => True
  | _,_ => False
def KV {κ : Type}:List (κ×V)→List (κ×Value)→Prop:=Paired fun (p : κ×V) (q : κ×Value) => p.1=q.1∧Bx p.2 q.2
def kV:K8→V
  | .inl i => .int i
  | .inr x => .str x
inductive HO where
  | lst (xs:List V)
  | tup (xs:List V)
  | dK (kvs:List (K8×V)) | dT (kvs:List (List K8×V))
  | set (S:Int→Bool) (n:Nat)
  | ins (C dx:Addr) (fs:List (Str×V))
  | own (x:Addr)
  | xd (fs:List (Str×V))
  | met (f x:Addr)
  | rng (lo hi:Int)
  | frz (o:Obj) (u:HO)
  | tbl (ps:Array Value)
  | ext (φ : Heap→Prop)
abbrev Hp:=Addr→Option HO
def upd (H:Hp) (a:Addr) (o:HO):Hp:=fun b => if b=a then some o else H b
theorem Ac {H:Hp} {a:Addr} {o:HO}:upd H a o a=some o:=by unfold upd; rw [if_pos rfl]
theorem Ak {H:Hp} {a b:Addr} {o:HO} (h:b≠a):upd H a o b=H b:=by unfold upd; rw [if_neg h]
theorem Hu {H:Hp} {a:Addr} {o u:HO}:upd (upd H a o) a u=upd H a u:=by
  funext b; unfold upd; split <;> rfl
theorem F0 {H:Hp} {a b:Addr} {o u:HO} (h:H a=some o) (h':H b=some u) (d:o≠u):a≠b:=by
  intro e; subst e; rw [h] at h'; exact d (Option.some.inj h')
theorem Al {H:Hp} {a b:Addr} {o:HO} (h:H a=some o) (h':H b=none):a≠b:=by
  intro e; subst e; rw [h] at h'; cases h'
section
variable (P:Program) (w:World)
def Bl (H:Hp) (h:Heap) (a:Addr):HO→Prop
  | .lst xs => xs.length≤sizeLine∧∃ (its:List Value) (n:Nat),A5 xs its∧h.get? a=some { cls:=.type "list",data:=.seq its.toArray n }
  | .tup xs => xs.length≤sizeLine∧∃ its:List Value,A5 xs its∧IsTup h a its.toArray
  | .dK kvs => kvs.length≤sizeLine∧(a == sysModules)=false∧∃ vs,KV kvs vs∧h.DictOf (MW P w) a vs
  | .dT kvs => kvs.length≤sizeLine∧(a == sysModules)=false∧∃ xs:List (List K8×Addr×Value),
      Paired (fun (p:List K8×V) (q:List K8×Addr×Value) => p.1=q.1∧H q.2.1=some (.tup (p.1.map kV))∧Bx p.2 q.2.2) kvs xs ∧
      ∃ o es ep,h.get? a=some o∧o.ExactDict∧o.data = .dict es ep∧es.toList=xs.map (entryOfKey (tupleKind (MW P w)))∧(xs.map (·.1)).Nodup
  | .set S n => h.SetOf (intKind P w) a S n
  | .ins C dx fs => H dx=some (.own a)∧fs.length≤1000∧dx≠a∧h.get? a=some (PySem.W.instObj C dx) ∧
      ∃ mA,h.Ns1 dx mA∧(∀ f,Jk (fs.lookup f) (mA f))∧PySem.Within mA (fs.map (·.1))
  | .own _ => ∃ o,h.get? a=some o
  | .xd fs => ∃ mA,h.Ns1 a mA∧∀ f,Jk (fs.lookup f) (mA f)
  | .rng lo hi => ∃ t u v,h.get? a=some { cls:=.type "range",data:=.fields #[.int lo t,.int hi u,.int 1 v] }
  | .frz o u => h.get? a=some o∧Bl H h a u
  | .tbl ps => h.get? a=some { cls:=.none,data:=.fields ps }
  | .met f x => h.get? a=some (PySem.W.methodObj (.ref f) (.ref x))
  | .ext φ => φ h∧(∃ o,h.get? a=some o)∧∀ h1 h2:Heap,φ h1→(∀ o,h1.get? a=some o→h2.get? a=some o)→φ h2
def Hr (H:Hp) (h:Heap):Prop := ∀ a o,H a=some o→Bl P w H h a o
end
section
variable {P:Program} {w:World} {H H':Hp} {h h':Heap} {a:Addr} {o:HO}
theorem Bl.lt (x:Bl P w H h a o):a < h.objs.size:=by
  cases o with
  | lst xs => obtain ⟨_,_,_,_,e⟩:=x; exact Heap.lt_size e
  | tup xs => obtain ⟨_,_,_,p⟩:=x; exact p.lt
  | dK kvs => obtain ⟨_,_,_,_,o,_,_,e,_⟩:=x; exact Heap.lt_size e
  | dT kvs => obtain ⟨_,_,_,_,o,_,_,e,_⟩:=x; exact Heap.lt_size e
  | set S n => obtain ⟨o,_,_,_,e,_⟩:=x; exact Heap.lt_size e
  | ins C dx fs => obtain ⟨_,_,_,e,_⟩:=x; exact Heap.lt_size e
  | own y => obtain ⟨_,e⟩:=x; exact Heap.lt_size e
  | xd fs => obtain ⟨_,⟨_,_,_,e,_⟩,_⟩:=x; exact Heap.lt_size e
  | rng lo hi => obtain ⟨_,_,_,e⟩:=x; exact Heap.lt_size e
  | frz ob u => obtain ⟨e,_⟩:=x; exact Heap.lt_size e
  | tbl ps => exact Heap.lt_size (show h.get? a=some _ from x)
  | met f y => exact Heap.lt_size (show h.get? a=some _ from x)
  | ext φ => obtain ⟨_,⟨_,e⟩,_⟩:=x; exact Heap.lt_size e
theorem Paired.mapP {α β : Type} {F G : α→β→Prop}:∀ {l₁:List α} {l₂:List β},Paired F l₁ l₂→(∀ a b,F a b→G a b)→Paired G l₁ l₂
  | _,_,.nil,_ => .nil
  | _,_,.cons r t,f => .cons (f _ _ r) (Paired.mapP t f)
theorem Bl.stay (x:Bl P w H h a o) (k:∀ b u,(b=a∨H b=some (.own a))→h.get? b=some u→h'.get? b=some u)
    (ho:∀ b,H b=some (.own a)→H' b=some (.own a)) (ht:∀ b xs,H b=some (.tup xs)→H' b=some (.tup xs)):Bl P w H' h' a o:=by
  induction o with
  | lst xs => obtain ⟨z,its,n,r,e⟩:=x; exact ⟨z,its,n,r,k _ _ (.inl rfl) e⟩
  | tup xs => obtain ⟨z,its,r,ob,e,c⟩:=x; exact ⟨z,its,r,ob,k _ _ (.inl rfl) e,c⟩
  | dK kvs => obtain ⟨z,y,vs,r,ob,es,ep,e,c⟩:=x; exact ⟨z,y,vs,r,ob,es,ep,k _ _ (.inl rfl) e,c⟩
  | dT kvs =>
    obtain ⟨z,y,xs,r,ob,es,ep,e,c⟩:=x
    exact ⟨z,y,xs,Paired.mapP r fun p q z => ⟨z.1,ht _ _ z.2.1,z.2.2⟩,ob,es,ep,k _ _ (.inl rfl) e,c⟩
  | set S n => obtain ⟨ob,es,ep,t,e,c⟩:=x; exact ⟨ob,es,ep,t,k _ _ (.inl rfl) e,c⟩
  | ins C dx fs =>
    obtain ⟨d,z,ne,e,mA,⟨od,es,ep,e2,c⟩,r⟩:=x
    exact ⟨ho _ d,z,ne,k _ _ (.inl rfl) e,mA,⟨od,es,ep,k _ _ (.inr d) e2,c⟩,r⟩
  | own y => obtain ⟨ob,e⟩:=x; exact ⟨ob,k _ _ (.inl rfl) e⟩
  | xd fs => obtain ⟨mA,⟨od,es,ep,e,c⟩,r⟩:=x; exact ⟨mA,⟨od,es,ep,k _ _ (.inl rfl) e,c⟩,r⟩
  | rng lo hi => obtain ⟨t,u,v,e⟩:=x; exact ⟨t,u,v,k _ _ (.inl rfl) e⟩
  | frz ob u ih => obtain ⟨e,q⟩:=x; exact ⟨k _ _ (.inl rfl) e,ih q⟩
  | tbl ps =>
    have e:h.get? a=some { cls:=.none,data:=.fields ps }:=x
    show h'.get? a=some { cls:=.none,data:=.fields ps }
    exact k a _ (.inl rfl) e
  | met f y =>
    have e:h.get? a=some (PySem.W.methodObj (.ref f) (.ref y)):=x
    show h'.get? a=some (PySem.W.methodObj (.ref f) (.ref y))
    exact k a _ (.inl rfl) e
  | ext φ => obtain ⟨p,⟨o,e⟩,st⟩:=x; exact ⟨st _ _ p fun o q => k _ _ (.inl rfl) q,⟨o,k _ _ (.inl rfl) e⟩,st⟩
theorem Hr.lt (x:Hr P w H h) (e:H a=some o):a < h.objs.size:=(x a o e).lt
theorem Hr.fresh (x:Hr P w H h) (e:h.objs.size≤a):H a=none:=by
  cases q:H a with
  | none => rfl
  | some u => exact absurd (Nat.lt_of_lt_of_le (x.lt q) e) (Nat.lt_irrefl _)
theorem Hr.kept (x:Hr P w H h) (k:∀ b u,h.get? b=some u→h'.get? b=some u):Hr P w H h':=fun a o e =>
  (x a o e).stay (fun b u _ q => k b u q) (fun _ q => q) fun _ _ q => q
theorem Hr.laid (x:Hr P w H h) (k:∀ b u,h.get? b=some u→h'.get? b=some u) (hp:h.objs.size≤a) (new:Bl P w (upd H a o) h' a o):Hr P w (upd H a o) h':=fun b u e => by
  have hn:=x.fresh hp
  by_cases hb:b=a
  · subst hb; rw [Ac] at e; cases e; exact new
  · rw [Ak hb] at e
    exact (x b u e).stay (fun c v _ q => k c v q) (fun c q => by rw [Ak (Al q hn)]; exact q) fun c xs q => by rw [Ak (Al q hn)]; exact q
end
def Rd (H:Hp) (a:Addr) (u:HO):Prop:=H a=some u∨∃ o,H a=some (.frz o u)
theorem Rd.ok {P:Program} {w:World} {H:Hp} {h:Heap} {a:Addr} {u:HO} (r:Rd H a u) (x:Hr P w H h):Bl P w H h a u:=by
  rcases r with r | ⟨o,r⟩
  · exact x a u r
  · obtain ⟨_,q⟩:=x a _ r
    exact q
def Mut:Option HO→Prop
  | some (.lst _) => True
  | some (.dK _) => True
  | some (.dT _) => True
  | some (.set _ _) => True
  | some (.ins _ _ _) => True
  | some (.ext _) => True
  | _ => False
section
variable {P:Program} {w:World} {H:Hp} {h h':Heap} {x e:Addr} {o':HO}
theorem Hr.write (ok:Hr P w H h) (mu:Mut (H x)) (he:e=x∨H e=some (.own x)) (k:∀ b u,b≠e→h.get? b=some u→h'.get? b=some u) (heo:∃ u,h'.get? e=some u)
    (new:Bl P w (upd H x o') h' x o'):Hr P w (upd H x o') h':=fun b u q => by
  have nown:∀ c y,H c=some (.own y)→c≠x:=fun c y r z => by subst z; rw [r] at mu; exact mu
  have ntup:∀ c xs,H c=some (.tup xs)→c≠x:=fun c xs r z => by subst z; rw [r] at mu; exact mu
  by_cases hb:b=x
  · subst hb; rw [Ac] at q; cases q; exact new
  · rw [Ak hb] at q
    by_cases hbe:b=e
    · have q':H b=some (.own x):=by
        rcases he with z | z
        · exact absurd (hbe.trans z) hb
        · rw [hbe]; exact z
      rw [q] at q'; cases q'
      obtain ⟨v,hv⟩:=heo
      exact ⟨v,by rw [hbe]; exact hv⟩
    · refine (ok b u q).stay (fun c v hc r => k c v ?_ r) (fun c r => by rw [Ak (nown c b r)]; exact r) fun c xs r => by rw [Ak (ntup c xs r)]; exact r
      rcases hc with rfl | hc
      · exact hbe
      · rintro rfl
        rcases he with z | z
        · exact nown c b hc z
        · rw [hc] at z; cases z; exact hb rfl
end
structure Un (fs ex:List Addr) (H H':Hp) (h h':Heap):Prop where
  keep:∀ b o,h.get? b=some o→H b=none→b ∉ fs→b ∉ ex→h'.get? b=some o
  slot:∀ b o,h.get? b=some o→H b=none→b∈fs→b ∉ ex→∃ sl,h'.get? b=some { o with slots:=sl }
  free:∀ b o,h.get? b=some o→H b=none→b ∉ ex→H' b=none
  there:∀ b o,h.get? b=some o→b ∉ ex→∃ o',h'.get? b=some o'
  tups:∀ b xs,H b=some (.tup xs)→H' b=some (.tup xs)
  frzs:∀ b o u,H b=some (.frz o u)→H' b=some (.frz o u)
  tbls:∀ b ps,H b=some (.tbl ps)→∃ more,H' b=some (.tbl (ps ++ more))
section
variable {fs fs' ex ex':List Addr} {H H1 H2:Hp} {h h1 h2 h':Heap} {a x e:Addr} {o:HO}
theorem Un.any (u:Un fs ex H H1 h h1) {b:Addr} {ob:Obj} (q:h.get? b=some ob) (n:H b=none) (hx:b ∉ ex):∃ sl,h1.get? b=some { ob with slots:=sl }:=by
  by_cases hb:b∈fs
  · exact u.slot b ob q n hb hx
  · exact ⟨ob.slots,u.keep b ob q n hb hx⟩
theorem Un.kept (k:∀ b u,h.get? b=some u→h'.get? b=some u):Un fs ex H H h h' :=
  ⟨fun b ob q _ _ _ => k b ob q,fun b ob q _ _ _ => ⟨ob.slots,k b ob q⟩,fun _ _ _ n _ => n,fun b ob q _ => ⟨ob,k b ob q⟩,fun _ _ q => q,fun _ _ _ q => q,fun _ ps q => ⟨#[],by rw [q]; simp⟩⟩
theorem Un.refl:Un fs ex H H h h:=Un.kept fun _ _ q => q
theorem Un.laid (k:∀ b u,h.get? b=some u→h'.get? b=some u) (hp:h.objs.size≤a) (hn:H a=none):Un fs ex H (upd H a o) h h' where
  keep:=fun b u q _ _ _ => k b u q
  slot:=fun b u q _ _ _ => ⟨u.slots,k b u q⟩
  free:=fun b u q n _ => by rw [Ak (Nat.ne_of_lt (Nat.lt_of_lt_of_le (Heap.lt_size q) hp))]; exact n
  there:=fun b u q _ => ⟨u,k b u q⟩
  tups:=fun b xs q => by rw [Ak (Al q hn)]; exact q
  frzs:=fun b u xs q => by rw [Ak (Al q hn)]; exact q
  tbls:=fun b ps q => ⟨#[],by rw [Ak (Al q hn),q]; simp⟩
theorem Un.write (mu:Mut (H x)) (he:e=x∨H e=some (.own x)) (k:∀ b u,b≠e→h.get? b=some u→h'.get? b=some u) (heo:∃ u,h'.get? e=some u):Un fs ex H (upd H x o) h h':=by
  have hx:∀ b,H b=none→b≠x:=fun b n z => by subst z; rw [n] at mu; exact mu
  have hb:∀ b,H b=none→b≠e:=fun b n z => by
    subst z
    rcases he with r | r
    · exact hx b n r
    · rw [n] at r; cases r
  have hm:∀ b u,H b=some u→¬ Mut (some u)→b≠x:=fun b u q nm z => by subst z; rw [q] at mu; exact nm mu
  refine ⟨fun b u q n _ _ => k b u (hb b n) q,fun b u q n _ _ => ⟨u.slots,k b u (hb b n) q⟩,fun b u q n _ => by rw [Ak (hx b n)]; exact n,fun b u q _ => ?_,
    fun b xs q => by rw [Ak (hm b _ q fun z => z)]; exact q,fun b u xs q => by rw [Ak (hm b _ q fun z => z)]; exact q,fun b ps q => ⟨#[],by rw [Ak (hm b _ q fun z => z),q]; simp⟩⟩
  by_cases hbe:b=e
  · subst hbe; exact heo
  · exact ⟨u,k b u hbe q⟩
end
def trk (h:Heap) (H:Hp):List Addr:=(List.range h.objs.size).filter fun a => (H a).isSome
def KP (h:Heap) (H:Hp):Heap:=PySem.W.hideAll h (trk h H)
theorem NO (h:Heap) (H:Hp):(KP h H).objs.size=h.objs.size:=PySem.W.hideAll_size _ _
theorem O2 {h:Heap} {H:Hp} {b:Addr} {o:Obj} (e:h.get? b=some o) (n:H b=none):(KP h H).get? b=some o :=
  PySem.W.hideAll_get _ e fun hm => by
    have q:(H b).isSome=true:=(List.mem_filter.mp hm).2
    rw [n] at q; simp at q
theorem of_hidT {h:Heap} {H:Hp} {b:Addr} {o:Obj} (e:(KP h H).get? b=some o):h.get? b=some o∧H b=none:=by
  have e':h.get? b=some o:=PySem.W.of_hideAll (trk h H) e
  refine ⟨e',?_⟩
  cases q:H b with
  | none => rfl
  | some x =>
    have hm:b∈trk h H:=List.mem_filter.mpr ⟨List.mem_range.mpr (Heap.lt_size e'),by simp [q]⟩
    have z:(KP h H).get? b=none:=PySem.W.hideAll_none (trk h H) hm
    rw [z] at e; cases e
def allNews (g h:Heap) (L:Addr):List (Addr×Obj):=(List.range h.objs.size).filterMap fun a => if a=L∨(g.get? a).isSome=true then none else (h.get? a).map fun o => (a,o)
def B7 (g h:Heap) (L d:Addr):List (Addr×Obj):=(allNews g h L).filter fun p => decide (p.1≠d)
end L2
namespace L2
open PySem PySem.Spec PyProof.Rows
structure Mod (K:PySem.W.Frag) (mg:Str→Option Value) (base:Heap):Prop where
  kin:K.In base
  glob:base.Ns mainGlobals mg
  blt:∃ mb,base.Ns builtinsNs mb∧∀ x:Str,x≠"__name__"→mb x=bootBuiltins x
  nolimit:base.NoLimit
structure Cx where
  prog:Program
  w:World
  K:PySem.W.Frag
  mg:Str→Option Value
  base:Heap
  A:Around
  N:List Str
  s₀:Shared
  H₀:Hp
  env:Env
  outer:List Env
  stack:List Env
  ex:List Addr
  fn:Str→Bool
  calm:Bool
  pn:List (Addr×Obj)
  xe:Value→Shared→Prop
def GC (l:List Env):List Addr:=l.filterMap (·.frame)
abbrev Cx.fs (X:Cx):List Addr:=GC X.outer
def Vis (sc:Scope) (x:Str):Prop:=sc.names.lookup x=some .local∨sc.names.lookup x=some .cell∨sc.names.lookup x=some .free
def Loc (sc:Scope) (x:Str):Prop:=sc.names.lookup x=some .local∨sc.names.lookup x=some .cell
def Look (env:Env) (h:Heap) (m:Str→Option Value) (x:Str) (u:Value):Prop :=
  (env.kindOf x=some .local∧m x=some u)∨((env.kindOf x=some .cell∨env.kindOf x=some .free)∧∃ c,env.cells.lookup x=some c∧h.IsCell c (some u))
structure Cx.Ok (X:Cx):Prop where
  mod:Mod X.K X.mg X.base
  kind:X.env.scope.kind = .function
  glob:X.env.globals=mainGlobals
  blt:X.env.builtins=builtinsNs
  above:X.s₀.heap.objs.size≤X.env.locals
  inj:∀ x y c,X.env.cells.lookup x=some c→X.env.cells.lookup y=some c→x=y
  has:∀ x,(X.env.kindOf x=some .cell∨X.env.kindOf x=some .free)→∃ c,X.env.cells.lookup x=some c
  cab:∀ x c,X.fn x=true→X.env.cells.lookup x=some c→X.s₀.heap.objs.size≤c
  hd:X.calm=true→X.A.handled=none
  frames:X.A.frames=some X.stack
  stk:X.stack=X.outer∨(X.stack=X.env :: X.outer∧X.env.frame=some X.env.locals)
  exf:∀ b∈X.ex,b≠X.env.locals∧∀ x c,X.env.cells.lookup x=some c→c≠b
  bs:∀ b o,X.base.get? b=some o→X.s₀.heap.get? b=some o∧X.H₀ b=none
  bsz:X.base.objs.size≤X.s₀.heap.objs.size
  noex:∀ b o,X.base.get? b=some o→b ∉ X.ex
  exfs:∀ b∈X.ex,b ∉ X.fs
  funs:X.s₀.heap.FunFrames X.base X.outer
  frf:∀ b∈X.fs,X.H₀ b=none
structure AL (X:Cx) (pins:List (Addr×Obj)) (σ : List (Option V)) (H:Hp) (s:Shared):Prop where
  ok:X.Ok
  os:s.os=X.s₀.os
  bare:AllBare s.gens
  base:Un X.fs X.ex X.H₀ H X.s₀.heap s.heap
  loc:∃ m,s.heap.Ns X.env.locals m∧∀ (i:Nat) (x:Str) (v:V),X.N[i]? = some x→σ[i]? = some (some v)→Vis X.env.scope x→∃ u,Bx v u∧Look X.env s.heap m x u
  cell:∀ x c,X.env.cells.lookup x=some c→∃ v,s.heap.IsCell c v
  free:H X.env.locals=none
  freeC:∀ x c,X.env.cells.lookup x=some c→H c=none
  pin:∀ p∈X.pn ++ pins,s.heap.get? p.1=some p.2∧H p.1=none∧p.1≠X.env.locals∧p.1 ∉ X.fs∧∀ v,p.2.data≠.cell v
  hok:Hr X.prog X.w H s.heap
  len : σ.length=X.N.length
section
variable {X:Cx} {pins:List (Addr×Obj)} {σ : List (Option V)} {H H':Hp} {s:Shared} {h':Heap}
theorem Cx.Ok.nofr (ok:X.Ok) {b:Addr} {o:Obj} (e:X.base.get? b=some o):b ∉ X.fs:=fun hb => by
  have:=(ok.funs.mem hb).1
  rw [e] at this; cases this
theorem AL.bs (I:AL X pins σ H s):∀ b o,X.base.get? b=some o→s.heap.get? b=some o∧H b=none:=fun b o e =>
  ⟨I.base.keep b o (I.ok.bs b o e).1 (I.ok.bs b o e).2 (I.ok.nofr e) (I.ok.noex b o e),I.base.free b o (I.ok.bs b o e).1 (I.ok.bs b o e).2 (I.ok.noex b o e)⟩
theorem AL.bk (I:AL X pins σ H s):∀ b o,X.base.get? b=some o→s.heap.get? b=some o:=fun b o e => (I.bs b o e).1
theorem AL.mod (I:AL X pins σ H s):Mod X.K X.mg X.base:=I.ok.mod
theorem AL.kIn (I:AL X pins σ H s):X.K.In s.heap:=I.ok.mod.kin.keeps I.bk
theorem AL.lt (I:AL X pins σ H s):X.env.locals < s.heap.objs.size:=let ⟨_,hn,_⟩:=I.loc; hn.lt
theorem AL.sz (I:AL X pins σ H s):X.s₀.heap.objs.size≤s.heap.objs.size:=Nat.le_trans I.ok.above (Nat.le_of_lt I.lt)
theorem AL.nofs (I:AL X pins σ H s) {a:Addr} (h:s.heap.objs.size≤a):a ∉ X.fs:=fun hb => by
  obtain ⟨_,o,ho,_⟩:=I.ok.funs.mem hb
  exact absurd (Nat.lt_of_lt_of_le (Heap.lt_size ho) (Nat.le_trans I.sz h)) (Nat.lt_irrefl _)
theorem AL.cne (I:AL X pins σ H s):∀ x c,X.env.cells.lookup x=some c→c≠X.env.locals:=fun x c e z => by
  obtain ⟨v,o,ho,hd⟩:=I.cell x c e
  obtain ⟨m,⟨o',es,ep,ho',hd',_⟩,_⟩:=I.loc
  rw [z,ho'] at ho; cases ho; rw [hd'] at hd; cases hd
theorem AL.funs (I:AL X pins σ H s):s.heap.FunFrames X.base X.outer:=by
  have all:∀ (l:List Env),(∀ b∈GC l,b∈X.fs)→X.s₀.heap.FunFrames X.base l→s.heap.FunFrames X.base l:=by
    intro l
    induction l with
    | nil => intro _ _; trivial
    | cons env r ih =>
      intro hs hl
      obtain ⟨hk,⟨L,o,hf,hn,ho,hd⟩,hr⟩:=hl
      have hL:L∈X.fs:=hs L (by unfold GC; rw [List.filterMap_cons,hf]; exact List.mem_cons_self)
      obtain ⟨sl,e⟩:=I.base.slot L o ho (I.ok.frf L hL) hL fun z => I.ok.exfs L z hL
      exact ⟨hk,⟨L,_,hf,hn,e,hd⟩,ih (fun b hb => hs b (by unfold GC; rw [List.filterMap_cons,hf]; exact List.mem_cons_of_mem _ hb)) hr⟩
  exact all X.outer (fun _ hb => hb) I.ok.funs
theorem AL.stack (I:AL X pins σ H s):s.heap.FunFrames X.base X.stack:=by
  rcases I.ok.stk with e | ⟨e,hf⟩
  · rw [e]; exact I.funs
  · rw [e]
    obtain ⟨m,hn,_⟩:=I.loc
    refine .cons (by rw [I.ok.kind]; decide) hf hn ?_ I.funs
    exact Heap.get?_none_of_le (Nat.le_trans I.ok.bsz I.ok.above)
theorem AL.stkSub (I:AL X pins σ H s):∀ b∈GC X.stack,b∈X.env.locals :: X.fs:=fun b hb => by
  rcases I.ok.stk with e | ⟨e,hf⟩
  · rw [e] at hb; exact List.mem_cons_of_mem _ hb
  · rw [e] at hb
    unfold GC at hb
    rw [List.filterMap_cons,hf] at hb
    exact hb
theorem AL.stkFree (I:AL X pins σ H s):∀ b∈GC X.stack,H b=none:=fun b hb => by
  rcases List.mem_cons.mp (I.stkSub b hb) with e | hb
  · rw [e]; exact I.free
  · obtain ⟨_,o,ho,_⟩:=I.ok.funs.mem hb
    exact I.base.free b o ho (I.ok.frf b hb) fun z => I.ok.exfs b z hb
theorem AL.step {g':Array GenState} {t':Nat} {d':Drawn} {ch:List Addr} (I:AL X pins σ H s)
    (hch:∀ b∈ch,(b∈X.ex∨X.s₀.heap.objs.size≤b)∧b≠X.env.locals∧(∀ x c,X.env.cells.lookup x=some c→c≠b)∧∀ p∈X.pn ++ pins,p.1≠b)
    (keep:∀ b o,b≠X.env.locals→b ∉ X.fs→b ∉ ch→s.heap.get? b=some o→H b=none→h'.get? b=some o)
    (slot:∀ b o,b≠X.env.locals→b∈X.fs→b ∉ ch→s.heap.get? b=some o→H b=none→∃ sl,h'.get? b=some { o with slots:=sl }) (free:∀ b o,b ∉ ch→s.heap.get? b=some o→H b=none→H' b=none)
    (there:∀ b o,b ∉ ch→s.heap.get? b=some o→∃ o',h'.get? b=some o')
    (tups:∀ b xs,H b=some (.tup xs)→H' b=some (.tup xs)) (frzs:∀ b o u,H b=some (.frz o u)→H' b=some (.frz o u)) (tbls:∀ b ps,H b=some (.tbl ps)→∃ more,H' b=some (.tbl (ps ++ more)))
    (ns:∀ m,s.heap.Ns X.env.locals m→h'.Ns X.env.locals m) (hok:Hr X.prog X.w H' h') (hg:AllBare g') :
    AL X pins σ H' { s with heap:=h',gens:=g',drawn:=d',toks:=t' }:=by
  have neL:∀ b o,X.s₀.heap.get? b=some o→b≠X.env.locals:=fun b o e => Nat.ne_of_lt (Nat.lt_of_lt_of_le (Heap.lt_size e) I.ok.above)
  have neC:∀ b o,X.s₀.heap.get? b=some o→b ∉ X.ex→b ∉ ch:=fun b o e hx hb => by
    rcases (hch b hb).1 with z | z
    · exact hx z
    · exact absurd (Nat.lt_of_lt_of_le (Heap.lt_size e) z) (Nat.lt_irrefl _)
  have cellK:∀ x c,X.env.cells.lookup x=some c→∀ v,s.heap.IsCell c v→h'.IsCell c v:=fun x c e v ⟨o,ho,hd⟩ => by
    have nch:c ∉ ch:=fun z => (hch c z).2.2.1 x c e rfl
    by_cases hc:c∈X.fs
    · obtain ⟨sl,q⟩:=slot c o (I.cne x c e) hc nch ho (I.freeC x c e)
      exact ⟨_,q,hd⟩
    · exact ⟨o,keep c o (I.cne x c e) hc nch ho (I.freeC x c e),hd⟩
  refine ⟨I.ok,I.os,hg,⟨fun b o e n hb hx => ?_,fun b o e n hb hx => ?_,fun b o e n hx => ?_,fun b o e hx => ?_,fun b xs e => tups b xs (I.base.tups b xs e),fun b o xs e => frzs b o xs (I.base.frzs b o xs e),fun b ps e => ?_⟩,?_,fun x c e => ?_,?_,fun x c e => ?_,fun p hp => ?_,hok,I.len⟩
  · exact keep b o (neL b o e) hb (neC b o e hx) (I.base.keep b o e n hb hx) (I.base.free b o e n hx)
  · obtain ⟨sl,e1⟩:=I.base.slot b o e n hb hx
    obtain ⟨sl',e2⟩:=slot b _ (neL b o e) hb (neC b o e hx) e1 (I.base.free b o e n hx)
    exact ⟨sl',e2⟩
  · obtain ⟨o',e1⟩:=I.base.there b o e hx
    exact free b o' (neC b o e hx) e1 (I.base.free b o e n hx)
  · obtain ⟨o',e1⟩:=I.base.there b o e hx
    exact there b o' (neC b o e hx) e1
  · obtain ⟨m1,e1⟩:=I.base.tbls b ps e
    obtain ⟨m2,e2⟩:=tbls b _ e1
    exact ⟨m1 ++ m2,by rw [e2,Array.append_assoc]⟩
  · obtain ⟨m,hn,hl⟩:=I.loc
    refine ⟨m,ns m hn,fun i x v e1 e2 e3 => ?_⟩
    obtain ⟨u,r,l⟩:=hl i x v e1 e2 e3
    refine ⟨u,r,?_⟩
    rcases l with l | ⟨k,c,e,z⟩
    · exact .inl l
    · exact .inr ⟨k,c,e,cellK x c e _ z⟩
  · obtain ⟨v,z⟩:=I.cell x c e
    exact ⟨v,cellK x c e v z⟩
  · obtain ⟨m,⟨o,_,_,ho,_⟩,_⟩:=I.loc
    exact free _ o (fun z => (hch _ z).2.1 rfl) ho I.free
  · obtain ⟨v,o,ho,hd⟩:=I.cell x c e
    exact free c o (fun z => (hch c z).2.2.1 x c e rfl) ho (I.freeC x c e)
  · obtain ⟨e,n,ne,nf,d⟩:=I.pin p hp
    have nch:p.1 ∉ ch:=fun z => (hch p.1 z).2.2.2 p hp rfl
    exact ⟨keep p.1 p.2 ne nf nch e n,free p.1 p.2 nch e n,ne,nf,d⟩
theorem AL.un {t':Nat} (I:AL X pins σ H s) (u:Un X.fs [] H H' s.heap h') (hok:Hr X.prog X.w H' h'):AL X pins σ H' { s with heap:=h',toks:=t' }:=by
  obtain ⟨m,⟨o,es,ep,ho,r⟩,_⟩:=id I.loc
  obtain ⟨sl,hL⟩:=u.any ho I.free (by simp)
  exact I.step (g':=s.gens) (d':=s.drawn) (ch:=[]) (fun _ z => nomatch z) (fun b o _ hb _ e n => u.keep b o e n hb (by simp)) (fun b o _ hb _ e n => u.slot b o e n hb (by simp)) (fun b o _ e n => u.free b o e n (by simp)) (fun b o _ e => u.there b o e (by simp)) u.tups u.frzs u.tbls (fun m' hm => by
    obtain ⟨o',es',ep',ho',r'⟩:=hm
    rw [ho] at ho'; cases ho'
    exact ⟨_,es',ep',hL,r'⟩) hok I.bare
theorem AL.call {g':Array GenState} {t':Nat} {d':Drawn} {ch:List Addr} (I:AL X pins σ H s) (u:Un (GC X.stack) ch H H' s.heap h') (hok:Hr X.prog X.w H' h') (hg:AllBare g')
    (hch:∀ b∈ch,(b∈X.ex∨X.s₀.heap.objs.size≤b)∧b≠X.env.locals∧(∀ x c,X.env.cells.lookup x=some c→c≠b)∧∀ p∈X.pn ++ pins,p.1≠b) :
    AL X pins σ H' { s with heap:=h',gens:=g',drawn:=d',toks:=t' }:=by
  obtain ⟨m,⟨o,es,ep,ho,r⟩,_⟩:=id I.loc
  obtain ⟨sl,hL⟩:=u.any ho I.free fun z => (hch _ z).2.1 rfl
  exact I.step (ch:=ch) hch (fun b o hL hb hc e n => u.keep b o e n (fun z => (List.mem_cons.mp (I.stkSub b z)).elim hL hb) hc) (fun b o _ _ hc e n => u.any e n hc) (fun b o hc e n => u.free b o e n hc) (fun b o hc e => u.there b o e hc) u.tups u.frzs u.tbls (fun m' hm => by
    obtain ⟨o',es',ep',ho',r'⟩:=hm
    rw [ho] at ho'; cases ho'
    exact ⟨_,es',ep',hL,r'⟩) hok hg
theorem AL.turned {t':Nat} {it:Addr} (I:AL X pins σ H s) (k:∀ b o,b≠it→s.heap.get? b=some o→h'.get? b=some o) (hn:H it=none) (hL:it≠X.env.locals)
    (h1:it∈X.ex∨X.s₀.heap.objs.size≤it) (h2:∀ x c,X.env.cells.lookup x=some c→c≠it) (h3:∀ p∈X.pn ++ pins,p.1≠it):AL X pins σ H { s with heap:=h',toks:=t' }:=by
  have nit:∀ b u,H b=some u→b≠it:=fun b u e z => by rw [z,hn] at e; cases e
  refine I.step (g':=s.gens) (d':=s.drawn) (ch:=[it]) (fun b hb => ?_) (fun b o _ _ hc e _ => k b o (fun z => hc (by simp [z])) e) (fun b o _ _ hc e _ => ⟨o.slots,k b o (fun z => hc (by simp [z])) e⟩) (fun _ _ _ _ n => n)
    (fun b o hc e => ⟨o,k b o (fun z => hc (by simp [z])) e⟩) (fun _ _ e => e) (fun _ _ _ e => e) (fun b ps e => ⟨#[],by rw [e]; simp⟩) (fun m hm => ?_) (fun b u e => ?_) I.bare
  · have e:b=it:=by simpa using hb
    subst e
    exact ⟨h1,hL,h2,h3⟩
  · obtain ⟨o,es,ep,ho,r⟩:=hm
    exact ⟨o,es,ep,k _ o (Ne.symm hL) ho,r⟩
  · refine (I.hok b u e).stay (fun c v hc q => k c v ?_ q) (fun _ q => q) fun _ _ q => q
    rcases hc with z | z
    · rw [z]; exact nit b u e
    · exact nit c _ z
theorem AL.tok (I:AL X pins σ H s) (t:Nat):AL X pins σ H { s with toks:=t }:=I.un (h':=s.heap) (t':=t) Un.refl I.hok
theorem AL.kept {t':Nat} (I:AL X pins σ H s) (k:∀ b u,s.heap.get? b=some u→h'.get? b=some u):AL X pins σ H { s with heap:=h',toks:=t' }:=I.un (Un.kept k) (I.hok.kept k)
theorem AL.laid {a:Addr} {o:HO} {t':Nat} (I:AL X pins σ H s) (k:∀ b u,s.heap.get? b=some u→h'.get? b=some u) (hp:s.heap.objs.size≤a) (new:Bl X.prog X.w (upd H a o) h' a o) :
    AL X pins σ (upd H a o) { s with heap:=h',toks:=t' }:=I.un (Un.laid k hp (I.hok.fresh hp)) (I.hok.laid k hp new)
theorem AL.write {x e:Addr} {o:HO} {t':Nat} (I:AL X pins σ H s) (mu:Mut (H x)) (he:e=x∨H e=some (.own x)) (k:∀ b u,b≠e→s.heap.get? b=some u→h'.get? b=some u) (heo:∃ u,h'.get? e=some u)
    (new:Bl X.prog X.w (upd H x o) h' x o):AL X pins σ (upd H x o) { s with heap:=h',toks:=t' }:=I.un (Un.write mu he k heo) (I.hok.write mu he k heo new)
theorem AL.pins_of {pins':List (Addr×Obj)} (I:AL X pins σ H s) (h:∀ p∈pins',s.heap.get? p.1=some p.2∧H p.1=none∧p.1≠X.env.locals∧p.1 ∉ X.fs∧∀ v,p.2.data≠.cell v):AL X pins' σ H s :=
  ⟨I.ok,I.os,I.bare,I.base,I.loc,I.cell,I.free,I.freeC,fun p hp => (List.mem_append.mp hp).elim (fun z => I.pin p (List.mem_append_left _ z)) (h p),I.hok,I.len⟩
theorem IE {N:List Str} (hN:N.Nodup) {i j:Nat} {x:Str} (a:N[i]? = some x) (b:N[j]? = some x):i=j:=by
  obtain ⟨h1,e1⟩:=List.getElem?_eq_some_iff.mp a
  obtain ⟨h2,e2⟩:=List.getElem?_eq_some_iff.mp b
  exact (List.getElem_inj hN).mp (e1.trans e2.symm)
theorem JF {M:Model} {A:Around} {E:Value→Shared→Prop} {i:Nat} {x:Str} {v:V} {u:Value} {Q:Unit→Shared→Prop} (I:AL X pins σ H s) (hN:X.N.Nodup) (hi:X.N[i]? = some x) (hx:Loc X.env.scope x) (r:Bx v u)
    (h:∀ s',AL X pins (σ.set i (some v)) H s'→(∃ a,Heap.SameBut a s.heap s'.heap∧(a=X.env.locals∨X.env.cells.lookup x=some a))→Q () s') (hf:X.fn x=true∨X.env.scope.names.lookup x=some .local:=by first | exact .inl rfl | exact .inr rfl | assumption):wpAny M A (storeName X.env x u) Q E s:=by
  obtain ⟨m,hn,hl⟩:=id I.loc
  have hcls:(X.env.scope.kind == .class || (X.env.scope.kind == .module && X.env.locals != X.env.globals))=false:=by rw [I.ok.kind]; rfl
  have hiσ : i < σ.length:=by rw [I.len]; exact (List.getElem?_eq_some_iff.mp hi).1
  have cne:=I.cne
  have tracked:∀ {a:Addr} {h':Heap},(∃ o,s.heap.get? a=some o∧H a=none)→Heap.SameBut a s.heap h'→Hr X.prog X.w H h':=fun {a h'} ha hs b ob e => by
    obtain ⟨_,_,hfree⟩:=ha
    refine (I.hok b ob e).stay (fun c w' hc q => (hs.2 c ?_).trans q) (fun _ q => q) fun _ _ q => q
    rintro rfl
    rcases hc with rfl | hc
    · rw [hfree] at e; cases e
    · rw [hfree] at hc; cases hc
  rcases hx with hk | hk
  · refine wpAny_storeName_local hk hn (fun h' hn' hs => ?_) hcls
    obtain ⟨oL,_,_,hoL,_⟩:=id hn
    refine h _ ⟨I.ok,I.os,I.bare,⟨fun b o e n hb hx => ?_,fun b o e n hb hx => ?_,I.base.free,fun b o e hx => ?_,I.base.tups,I.base.frzs,I.base.tbls⟩,⟨_,hn',fun j y v' e1 e2 e3 => ?_⟩,fun y c e => ?_,I.free,I.freeC,fun p hp => ?_,tracked ⟨oL,hoL,I.free⟩ hs,by simpa using I.len⟩ ⟨_,hs,.inl rfl⟩
    · exact (hs.2 b (Nat.ne_of_lt (Nat.lt_of_lt_of_le (Heap.lt_size e) I.ok.above))).trans (I.base.keep b o e n hb hx)
    · obtain ⟨sl,e1⟩:=I.base.slot b o e n hb hx
      exact ⟨sl,(hs.2 b (Nat.ne_of_lt (Nat.lt_of_lt_of_le (Heap.lt_size e) I.ok.above))).trans e1⟩
    · obtain ⟨o',e1⟩:=I.base.there b o e hx
      exact ⟨o',(hs.2 b (Nat.ne_of_lt (Nat.lt_of_lt_of_le (Heap.lt_size e) I.ok.above))).trans e1⟩
    · by_cases hj:j=i
      · subst hj
        rw [hi] at e1; cases e1
        rw [List.getElem?_set_self hiσ] at e2
        cases e2
        exact ⟨u,r,.inl ⟨hk,by simp⟩⟩
      · rw [List.getElem?_set_ne (Ne.symm hj)] at e2
        obtain ⟨u',r',q⟩:=hl j y v' e1 e2 e3
        refine ⟨u',r',?_⟩
        rcases q with ⟨k,e⟩ | ⟨k,c,e,z⟩
        · refine .inl ⟨k,?_⟩
          have:y≠x:=fun e => hj (IE hN e1 (e ▸ hi))
          simp [this,e]
        · exact .inr ⟨k,c,e,z.sameBut hs (cne y c e)⟩
    · obtain ⟨w',z⟩:=I.cell y c e
      exact ⟨w',z.sameBut hs (cne y c e)⟩
    · obtain ⟨e,n,ne,nf,d⟩:=I.pin p hp
      exact ⟨(hs.2 p.1 ne).trans e,n,ne,nf,d⟩
  · have hfn:X.fn x=true:=by
      rcases hf with z | z
      · exact z
      · rw [z] at hk; cases hk
    obtain ⟨c,hc⟩:=I.ok.has x (.inl hk)
    obtain ⟨w',z⟩:=I.cell x c hc
    refine wpAny_storeName_cell I.ok.kind hk hc z (fun h' hc' hs => ?_)
    obtain ⟨oc,hoc,hocd⟩:=id z
    refine h { s with heap:=h' } ⟨I.ok,I.os,I.bare,⟨fun b o e n hb hx => ?_,fun b o e n hb hx => ?_,I.base.free,fun b o e hx => ?_,I.base.tups,I.base.frzs,I.base.tbls⟩,⟨m,hn.sameBut hs (Ne.symm (cne x c hc)),fun j y v' e1 e2 e3 => ?_⟩,fun y c' e => ?_,I.free,I.freeC,fun p hp => ?_,tracked ⟨oc,hoc,I.freeC x c hc⟩ hs,by simpa using I.len⟩ ⟨c,hs,.inr hc⟩
    · exact (hs.2 b (Nat.ne_of_lt (Nat.lt_of_lt_of_le (Heap.lt_size e) (I.ok.cab x c hfn hc)))).trans (I.base.keep b o e n hb hx)
    · obtain ⟨sl,e1⟩:=I.base.slot b o e n hb hx
      exact ⟨sl,(hs.2 b (Nat.ne_of_lt (Nat.lt_of_lt_of_le (Heap.lt_size e) (I.ok.cab x c hfn hc)))).trans e1⟩
    · obtain ⟨o',e1⟩:=I.base.there b o e hx
      exact ⟨o',(hs.2 b (Nat.ne_of_lt (Nat.lt_of_lt_of_le (Heap.lt_size e) (I.ok.cab x c hfn hc)))).trans e1⟩
    · by_cases hj:j=i
      · subst hj
        rw [hi] at e1; cases e1
        rw [List.getElem?_set_self hiσ] at e2
        cases e2
        exact ⟨u,r,.inr ⟨.inl hk,c,hc,hc'⟩⟩
      · rw [List.getElem?_set_ne (Ne.symm hj)] at e2
        obtain ⟨u',r',q⟩:=hl j y v' e1 e2 e3
        refine ⟨u',r',?_⟩
        rcases q with q | ⟨k,c',e,z'⟩
        · exact .inl q
        · refine .inr ⟨k,c',e,z'.sameBut hs ?_⟩
          rintro rfl
          exact hj (IE hN e1 (I.ok.inj _ _ _ e hc ▸ hi))
    · by_cases hcc:c'=c
      · subst hcc; exact ⟨_,hc'⟩
      · obtain ⟨w2,z2⟩:=I.cell y c' e
        exact ⟨w2,z2.sameBut hs hcc⟩
    · obtain ⟨e,n,ne,nf,d⟩:=I.pin p hp
      refine ⟨(hs.2 p.1 ?_).trans e,n,ne,nf,d⟩
      intro q
      rw [q,hoc] at e
      have q':oc=p.2:=Option.some.inj e
      exact d w' (by rw [← q']; exact hocd)
theorem EI {M:Model} {A:Around} {E:Value→Shared→Prop} {i:Nat} {x:Str} {v:V} {u:Value} {Q:Unit→Shared→Prop} (I:AL X pins σ H s) (hN:X.N.Nodup) (hi:X.N[i]? = some x) (hx:Loc X.env.scope x) (r:Bx v u)
    (h:∀ s',AL X pins (σ.set i (some v)) H s'→Q () s') (hf:X.fn x=true∨X.env.scope.names.lookup x=some .local:=by first | exact .inl rfl | exact .inr rfl | assumption):wpAny M A (storeName X.env x u) Q E s :=
  JF I hN hi hx r (fun s' I' _ => h s' I') hf
theorem AL.call' {s':Shared} {ch:List Addr} (I:AL X pins σ H s) (ho:s'.os=s.os) (u:Un (GC X.stack) ch H H' s.heap s'.heap) (hok:Hr X.prog X.w H' s'.heap) (hg:AllBare s'.gens)
    (hch:∀ b∈ch,(b∈X.ex∨X.s₀.heap.objs.size≤b)∧b≠X.env.locals∧(∀ x c,X.env.cells.lookup x=some c→c≠b)∧∀ p∈X.pn ++ pins,p.1≠b):AL X pins σ H' s':=by
  obtain ⟨h',g',d',t',o'⟩:=s'
  have e:o'=s.os:=ho
  subst e
  exact I.call (g':=g') (t':=t') (d':=d') u hok hg hch
end
abbrev XK:=Value→Option Addr→Hp→Prop
abbrev St:=List (Option V)
abbrev VK:=V→Hp→Prop
abbrev TE:=St→Hp→VK→Prop
abbrev TT:=St→Hp→(Bool→Hp→Prop)→Prop
abbrev TA:=St→Hp→(List V→Hp→Prop)→Prop
structure Ht where
  nx:St→Hp→Prop
  rt:VK
  bk:St→Hp→Prop:=fun _ _ => False
  ct:St→Hp→Prop:=fun _ _ => False
abbrev TS:=Ht→St→Hp→Prop
def EP (X:Cx) (pins:List (Addr×Obj)) (σ : St) (Q:VK) (u:Value) (s':Shared):Prop := ∃ v H',AL X pins σ H' s'∧Bx v u∧Q v H'
def TP (X:Cx) (pins:List (Addr×Obj)) (σ : St) (Q:Bool→Hp→Prop) (b:Bool) (s':Shared):Prop := ∃ H',AL X pins σ H' s'∧Q b H'
def AP (X:Cx) (pins:List (Addr×Obj)) (σ : St) (Q:List V→Hp→Prop) (us:List Value) (s':Shared):Prop := ∃ vs H',AL X pins σ H' s'∧A5 vs us∧Q vs H'
def SP (X:Cx) (pins:List (Addr×Obj)) (D:Ht) (f:Flow) (s':Shared):Prop :=
  match f with
  | .next => ∃ σ' H',AL X pins σ' H' s'∧D.nx σ' H'
  | .brk => ∃ σ' H',AL X pins σ' H' s'∧D.bk σ' H'
  | .cont => ∃ σ' H',AL X pins σ' H' s'∧D.ct σ' H'
  | .ret u => ∃ v σ' H',AL X pins σ' H' s'∧Bx v u∧D.rt v H'
def PE (X:Cx) (e:Expr) (t:TE):Prop :=
  ∀ (pins:List (Addr×Obj)) (s:Shared) (σ : St) (H:Hp) (Q:VK),AL X pins σ H s→t σ H Q→wpAny (model X.prog X.w) X.A (eval e X.env) (EP X pins σ Q) X.xe s
def PT (X:Cx) (e:Expr) (t:TT):Prop :=
  ∀ (pins:List (Addr×Obj)) (s:Shared) (σ : St) (H:Hp) (Q:Bool→Hp→Prop),AL X pins σ H s→t σ H Q→wpAny (model X.prog X.w) X.A (isTrue e X.env (eval e X.env)) (TP X pins σ Q) X.xe s
def PW (X:Cx) (e:Expr) (t:TT):Prop :=
  ∀ (whole:Sem Value) (pins:List (Addr×Obj)) (s:Shared) (σ : St) (H:Hp) (Q:Bool→Hp→Prop),AL X pins σ H s→t σ H Q→wpAny (model X.prog X.w) X.A (isTrue e X.env whole) (TP X pins σ Q) X.xe s
theorem PW.pt {X:Cx} {e:Expr} {t:TT} (h:PW X e t):PT X e t:=h _
def PA (X:Cx) (es:List Expr) (t:TA):Prop :=
  ∀ (pos:Pos) (pins:List (Addr×Obj)) (s:Shared) (σ : St) (H:Hp) (Q:List V→Hp→Prop),AL X pins σ H s→t σ H Q→wpAny (model X.prog X.w) X.A (spliced (backTo pos (starEach es X.env))) (AP X pins σ Q) X.xe s
def PS (X:Cx) (st:Stmt) (t:TS):Prop :=
  ∀ (pins:List (Addr×Obj)) (s:Shared) (σ : St) (H:Hp) (D:Ht),AL X pins σ H s→t D σ H→wpAny (model X.prog X.w) X.A (exec st X.env) (SP X pins D) X.xe s
def Jm (X:Cx) (st:List Stmt) (t:TS):Prop :=
  ∀ (pins:List (Addr×Obj)) (s:Shared) (σ : St) (H:Hp) (D:Ht),AL X pins σ H s→t D σ H→wpAny (model X.prog X.w) X.A (execs st X.env) (SP X pins D) X.xe s
theorem B0 {α : Type} {t:Sem α} {Q Q' : α→Shared→Prop} {M:Model} {A:Around} {E:Value→Shared→Prop} {s:Shared} (h:wpAny M A t Q E s) (hQ:∀ a s,Q a s→Q' a s):wpAny M A t Q' E s:=wpAny_mono h hQ fun _ _ x => x
end L2
namespace L2
open PySem PySem.Spec PyProof.Rows
section
variable {X:Cx}
def DT (i:Nat):TE:=fun σ H Q => ∃ v,σ[i]? = some (some v)∧Q v H
def tC (v:V):TE:=fun _ H Q => Q v H
theorem pe_var {i:Nat} {x:Str} {pos:Pos} (hN:X.N[i]? = some x) (hv:Vis X.env.scope x) (hd:(x == ("__debug__" : Str))=false:=by decide) (hcd:(x == ("__classdict__" : Str))=false:=by decide):PE X (.Name x pos) (DT i):=by
  intro pins s σ H Q I h
  obtain ⟨v,e,h⟩:=h
  obtain ⟨m,hn,hl⟩:=I.loc
  obtain ⟨u,r,l⟩:=hl i x v hN e hv
  have fin:EP X pins σ Q u s:=⟨v,H,I,r,h⟩
  rcases l with ⟨hk,hm⟩ | ⟨hk,c,hc,hcell⟩
  · exact wpAny_Name (wpAny_loadName_local I.ok.kind hk hn hm fin) hd
  · rcases hk with hk | hk
    · exact wpAny_Name (wpAny_loadName_cell I.ok.kind hk hc hcell fin) hd
    · exact wpAny_Name (wpAny_loadName_free I.ok.kind hk hc hcell fin hcd) hd
theorem Ah {i j pos}:PE X (.Constant (.int i) j pos) (tC (.int i)):=fun _ _ _ H _ I h => wpAny_Constant_int ⟨.int i,H,I.tok _,⟨_,rfl⟩,h⟩
theorem Ir {b j pos}:PE X (.Constant (.bool b) j pos) (tC (.bl b)):=fun _ _ _ H _ I h => Constant_bool ⟨.bl b,H,I,rfl,h⟩
theorem Cj {j pos}:PE X (.Constant .none j pos) (tC .non):=fun _ _ _ H _ I h => Constant_none ⟨.non,H,I,rfl,h⟩
theorem Be {x j pos}:PE X (.Constant (.str x) j pos) (tC (.str x)):=fun _ _ _ H _ I h => Calls.Constant_str ⟨.str x,H,I.tok _,⟨_,rfl⟩,h⟩
def Gl (X:Cx) (x:Str):Prop:=X.env.kindOf x=some .globalImplicit
theorem C1 {E:Value→Shared→Prop} {pins:List (Addr×Obj)} {s:Shared} {σ : St} {H:Hp} {x:Str} {u:Value} {pos:Pos} {Q:Value→Shared→Prop} (I:AL X pins σ H s) (hg:Gl X x) (hm:X.mg x=some u) (h:Q u s)
    (hd:(x == ("__debug__" : Str))=false:=by decide):wpAny (model X.prog X.w) X.A (eval (.Name x pos) X.env) Q E s :=
  Calls.Name_function_global I.ok.kind hg (Calls.loadGlobal_global (by rw [I.ok.glob]; exact I.mod.glob.keeps I.bk) hm h) hd
theorem GR {E:Value→Shared→Prop} {pins:List (Addr×Obj)} {s:Shared} {σ : St} {H:Hp} {x:Str} {u:Value} {pos:Pos} {Q:Value→Shared→Prop} (I:AL X pins σ H s) (hg:Gl X x) (hm:X.mg x=none) (hv:bootBuiltins x=some u) (h:Q u s)
    (hn:x≠"__name__" := by decide) (hd:(x == ("__debug__" : Str))=false:=by decide):wpAny (model X.prog X.w) X.A (eval (.Name x pos) X.env) Q E s:=by
  obtain ⟨mb,h1,h2⟩:=I.mod.blt
  exact Calls.Name_function_global I.ok.kind hg (Calls.loadGlobal_builtin (by rw [I.ok.glob]; exact I.mod.glob.keeps I.bk) hm (by rw [I.ok.blt]; exact h1.keeps I.bk) ((h2 x hn).trans hv) h) hd
theorem HI {x:Str} {v:V} {u:Value} {pos:Pos} (hg:Gl X x) (hm:X.mg x=some u) (r:Bx v u) (hd:(x == ("__debug__" : Str))=false:=by decide):PE X (.Name x pos) (tC v) :=
  fun _ _ _ H _ I h => C1 I hg hm ⟨v,H,I,r,h⟩ hd
theorem Fh {x:Str} {v:V} {u:Value} {pos:Pos} (hg:Gl X x) (hm:X.mg x=none) (hv:bootBuiltins x=some u) (r:Bx v u) (hn:x≠"__name__" := by decide) (hd:(x == ("__debug__" : Str))=false:=by decide):PE X (.Name x pos) (tC v) :=
  fun _ _ _ H _ I h => GR I hg hm hv ⟨v,H,I,r,h⟩ hn hd
variable {a b:Expr} {ta tb:TE} {pos:Pos}
def PC (X:Cx) (op:CmpOp) (a b:Expr) (t:TE):Prop :=
  ∀ (pins:List (Addr×Obj)) (s:Shared) (σ : St) (H:Hp) (Q:VK),AL X pins σ H s→t σ H Q →
    wpAny (model X.prog X.w) X.A (eval a X.env) (fun v s₁ => wpAny (model X.prog X.w) X.A (eval b X.env) (fun u s₂ => wpAny (model X.prog X.w) X.A (compareOp op v u) (EP X pins σ Q) X.xe s₂) X.xe s₁) X.xe s
theorem OQ (b:Expr) {op:CmpOp} (h:op≠.In) (h2:op≠.NotIn):behindInMarks op b=false:=by
  have e1:(op == CmpOp.In)=false:=by cases op <;> first | rfl | exact absurd rfl h
  have e2:(op == CmpOp.NotIn)=false:=by cases op <;> first | rfl | exact absurd rfl h2
  cases b <;> simp [behindInMarks,e1,e2]
def tIsN (ta:TE):TE:=fun σ H Q => ta σ H fun x H1 => Q (.bl (decide (x = .non))) H1
def tNotN (ta:TE):TE:=fun σ H Q => ta σ H fun x H1 => Q (.bl (!decide (x = .non))) H1
theorem Bx.none_iff {x:V} {v:Value} (r:Bx x v):(v == Value.none)=decide (x = .non):=by
  cases x with
  | non => cases r; rfl
  | bl _ => cases r; rfl
  | int _ => obtain ⟨t,rfl⟩:=r; rfl
  | str _ => obtain ⟨t,rfl⟩:=r; rfl
  | byt _ => obtain ⟨t,rfl⟩:=r; rfl
  | flt _ => obtain ⟨t,rfl⟩:=r; rfl
  | ref _ => cases r; rfl
  | ty _ => cases r; rfl
theorem pc_isN {j pos'} (ha:PE X a ta):PC X .Is a (.Constant .none j pos') (tIsN ta):=by
  intro pins s σ H Q I h
  refine B0 (ha pins s σ H _ I h) fun v s1 ⟨x,H1,I1,r1,q1⟩ => ?_
  exact Constant_none (is_none_gen ⟨.bl _,H1,I1,by rw [r1.none_iff]; rfl,q1⟩)
theorem pc_notN {j pos'} (ha:PE X a ta):PC X .IsNot a (.Constant .none j pos') (tNotN ta):=by
  intro pins s σ H Q I h
  refine B0 (ha pins s σ H _ I h) fun v s1 ⟨x,H1,I1,r1,q1⟩ => ?_
  exact Constant_none (isnot_none_gen ⟨.bl _,H1,I1,by rw [r1.none_iff]; rfl,q1⟩)
def tB (t:TE):TT:=fun σ H Q => t σ H fun x H1 => ∃ c,x = .bl c∧Q c H1
theorem Os {op:CmpOp} {t:TE} (h:PC X op a b t) (h1:behindInMarks op b=false:=by first | exact OQ _ (by decide) (by decide) | rfl):PT X (.Compare a [op] [b] pos) (tB t):=by
  intro pins s σ H Q I hw
  refine wpAny_isTrue_Compare1 (B0 (h pins s σ H _ I hw) fun v s1 h1 => B0 h1 fun u s2 h2 => B0 h2 fun c s3 ⟨x,H1,I1,r1,q1⟩ => ?_) h1
  obtain ⟨d,rfl,q⟩:=q1
  cases r1
  exact wpAny_truthy_bool ⟨H1,I1,q⟩
theorem B8 {e:Expr} {t:TE} (h:PE X e t) (he:∀ whole,isTrue e X.env whole=(do let v ← whole; standAt e.pos; holding [v] (truthy v)):=by intro _; rfl):PT X e (tB t):=by
  intro pins s σ H Q I hw
  refine isTrue_plain (B0 (h pins s σ H _ I hw) fun v s1 ⟨x,H1,I1,r1,q1⟩ => ?_) (he _)
  obtain ⟨d,rfl,q⟩:=q1
  cases r1
  exact wpAny_truthy_bool ⟨H1,I1,q⟩
variable {tA tB':TT} {B7:List Expr}
def tAnd (t u:TT):TT:=fun σ H Q => t σ H fun c H1 => if c=true then u σ H1 Q else Q false H1
def tOr (t u:TT):TT:=fun σ H Q => t σ H fun c H1 => if c=true then Q true H1 else u σ H1 Q
def tNot (t:TT):TT:=fun σ H Q => t σ H fun c H1 => Q (!c) H1
theorem CZ (ha:PT X a tA):PW X (.BoolOp .And [a] pos) tA:=by
  intro wh pins s σ H Q I h
  refine isTrue_and (B0 (ha pins s σ H Q I h) fun c s1 e => ?_)
  cases c with
  | true => exact isTrue_and_nil e
  | false => exact e
theorem EW (ha:PT X a tA):PW X (.BoolOp .Or [a] pos) tA:=by
  intro wh pins s σ H Q I h
  refine isTrue_or (B0 (ha pins s σ H Q I h) fun c s1 e => ?_)
  cases c with
  | false => exact isTrue_or_nil e
  | true => exact e
theorem DF (ha:PT X a tA) (hb:PW X (.BoolOp .And (b :: B7) pos) tB'):PW X (.BoolOp .And (a :: b :: B7) pos) (tAnd tA tB'):=by
  intro wh pins s σ H Q I h
  refine isTrue_and (B0 (ha pins s σ H _ I h) fun c s1 ⟨H1,I1,q1⟩ => ?_)
  cases c with
  | true => exact hb wh pins s1 σ H1 Q I1 q1
  | false => exact ⟨H1,I1,q1⟩
theorem Fq (ha:PT X a tA) (hb:PW X (.BoolOp .Or (b :: B7) pos) tB'):PW X (.BoolOp .Or (a :: b :: B7) pos) (tOr tA tB'):=by
  intro wh pins s σ H Q I h
  refine isTrue_or (B0 (ha pins s σ H _ I h) fun c s1 ⟨H1,I1,q1⟩ => ?_)
  cases c with
  | true => exact ⟨H1,I1,q1⟩
  | false => exact hb wh pins s1 σ H1 Q I1 q1
theorem Di (ha:PT X a tA):PT X (.UnaryOp .Not a pos) (tNot tA):=by
  intro pins s σ H Q I h
  exact isTrue_not (ha pins s σ H (fun c H1 => Q (!c) H1) I h)
def tAndV (ta tb:TE):TE:=fun σ H Q => ta σ H fun x H1 => ∃ c,x = .bl c∧if c=true then tb σ H1 Q else Q (.bl false) H1
def tOrV (ta tb:TE):TE:=fun σ H Q => ta σ H fun x H1 => ∃ c,x = .bl c∧if c=true then Q (.bl true) H1 else tb σ H1 Q
theorem GO {op} {t:TE} (h:PE X a t):PE X (.BoolOp op [a] pos) t:=fun pins s σ H Q I hw => BoolOp_one (h pins s σ H Q I hw)
theorem Mg (ha:PE X a ta) (hb:PE X (.BoolOp .And (b :: B7) pos) tb):PE X (.BoolOp .And (a :: b :: B7) pos) (tAndV ta tb):=by
  intro pins s σ H Q I h
  refine BoolOp_and (B0 (ha pins s σ H _ I h) fun v s1 ⟨x,H1,I1,r1,q1⟩ => ?_)
  obtain ⟨c,rfl,q1⟩:=q1
  cases r1
  refine wpAny_truthy_bool ?_
  cases c with
  | true => exact hb pins s1 σ H1 Q I1 q1
  | false => exact ⟨.bl false,H1,I1,rfl,q1⟩
theorem Oy (ha:PE X a ta) (hb:PE X (.BoolOp .Or (b :: B7) pos) tb):PE X (.BoolOp .Or (a :: b :: B7) pos) (tOrV ta tb):=by
  intro pins s σ H Q I h
  refine BoolOp_or (B0 (ha pins s σ H _ I h) fun v s1 ⟨x,H1,I1,r1,q1⟩ => ?_)
  obtain ⟨c,rfl,q1⟩:=q1
  cases r1
  refine wpAny_truthy_bool ?_
  cases c with
  | false => exact hb pins s1 σ H1 Q I1 q1
  | true => exact ⟨.bl true,H1,I1,rfl,q1⟩
end
end L2
namespace L2
open PySem PySem.Spec PyProof.Rows
def AE (K:PySem.W.Frag) (H:Hp) (a:Addr) (xs:List V):Prop :=
  Rd H a (.lst xs) ∨
    ∃ (o:Obj) (its:Array Value) (n:Nat),K.lookup a=some o∧o.cls = .type "list"∧o.dict=none∧o.data = .seq its n∧its.size≤sizeLine∧A5 xs its.toList
def A2 (K:PySem.W.Frag) (H:Hp) (a:Addr) (xs:List V):Prop :=
  Rd H a (.tup xs) ∨
    ∃ (o:Obj) (its:Array Value) (n:Nat),K.lookup a=some o∧o.cls = .type "tuple"∧o.data = .seq its n∧its.size≤sizeLine∧A5 xs its.toList
def absV:Value→Option V
  | .none => some .non
  | .bool b => some (.bl b)
  | .int i _ => some (.int i)
  | .str x _ => some (.str x)
  | .bytes b _ => some (.byt b)
  | .float b _ => some (.flt b)
  | .ref a => some (.ref a)
  | .type n => some (.ty n)
  | _ => none
theorem Bx.abs {x:V} {u:Value} (r:Bx x u):absV u=some x:=by
  cases x with
  | non => cases r; rfl
  | bl _ => cases r; rfl
  | int _ => obtain ⟨t,rfl⟩:=r; rfl
  | str _ => obtain ⟨t,rfl⟩:=r; rfl
  | byt _ => obtain ⟨t,rfl⟩:=r; rfl
  | flt _ => obtain ⟨t,rfl⟩:=r; rfl
  | ref _ => cases r; rfl
  | ty _ => cases r; rfl
theorem Bx.inj {x y:V} {u:Value} (r:Bx x u) (q:Bx y u):x=y:=Option.some.inj (r.abs.symm.trans q.abs)
theorem A5.inj:∀ {xs ys:List V} {us:List Value},A5 xs us→A5 ys us→xs=ys
  | _,_,_,.nil,.nil => rfl
  | _,_,_,.cons r t,.cons r' t' => by rw [r.inj r',A5.inj t t']
section
variable {X:Cx} {pins:List (Addr×Obj)} {σ : St} {H:Hp} {s:Shared} {a:Addr} {xs ys:List V}
theorem AE.of {K:PySem.W.Frag} (h:H a=some (.lst xs)):AE K H a xs:=.inl (.inl h)
theorem A2.of {K:PySem.W.Frag} (h:H a=some (.tup xs)):A2 K H a xs:=.inl (.inl h)
theorem AL.list (I:AL X pins σ H s) (h:AE X.K H a xs):∃ its:List Value,A5 xs its∧PlainL s.heap a its.toArray∧xs.length≤sizeLine:=by
  rcases h with h | ⟨o,its,n,hk,hc,hd,hs,hz,r⟩
  · obtain ⟨z,its,n,r,e⟩:=h.ok I.hok
    exact ⟨its,r,⟨_,n,e,rfl,rfl,rfl⟩,z⟩
  · refine ⟨its.toList,r,⟨o,n,I.kIn a o hk,hc,hd,by simpa using hs⟩,?_⟩
    have e:=r.length
    simp only [Array.length_toList] at e
    omega
theorem AL.tuple (I:AL X pins σ H s) (h:A2 X.K H a xs):∃ its:List Value,A5 xs its∧IsTup s.heap a its.toArray∧xs.length≤sizeLine:=by
  rcases h with h | ⟨o,its,n,hk,hc,hs,hz,r⟩
  · obtain ⟨z,its,r,p⟩:=h.ok I.hok
    exact ⟨its,r,p,z⟩
  · refine ⟨its.toList,r,⟨o,I.kIn a o hk,hc,n,by simpa using hs⟩,?_⟩
    have e:=r.length
    simp only [Array.length_toList] at e
    omega
theorem AL.list_inj (I:AL X pins σ H s) (h:AE X.K H a xs) (h':AE X.K H a ys):xs=ys:=by
  obtain ⟨its,r,⟨o,n,e,_,_,d⟩,_⟩:=I.list h
  obtain ⟨its',r',⟨o',n',e',_,_,d'⟩,_⟩:=I.list h'
  rw [e] at e'; cases e'
  rw [d] at d'
  injection d' with d1 _
  have:its=its':=by simpa using congrArg Array.toList d1
  subst this
  exact r.inj r'
theorem AL.tuple_inj (I:AL X pins σ H s) (h:A2 X.K H a xs) (h':A2 X.K H a ys):xs=ys:=by
  obtain ⟨its,r,⟨o,e,_,n,d⟩,_⟩:=I.tuple h
  obtain ⟨its',r',⟨o',e',_,n',d'⟩,_⟩:=I.tuple h'
  rw [e] at e'; cases e'
  rw [d] at d'
  injection d' with d1 _
  have:its=its':=by simpa using congrArg Array.toList d1
  subst this
  exact r.inj r'
end
abbrev Cx.wish (X:Cx) (E:Value→Shared→Prop):Cx:={ X with xe:=E }
abbrev Cx.nox (X:Cx):Cx:=X.wish fun _ _ => False
theorem Cx.Ok.wish {X:Cx} (ok:X.Ok) (E:Value→Shared→Prop):(X.wish E).Ok :=
  ⟨ok.mod,ok.kind,ok.glob,ok.blt,ok.above,ok.inj,ok.has,ok.cab,ok.hd,ok.frames,ok.stk,ok.exf,ok.bs,ok.bsz,ok.noex,ok.exfs,ok.funs,ok.frf⟩
theorem Cx.Ok.unwish {X:Cx} {E:Value→Shared→Prop} (ok:(X.wish E).Ok):X.Ok :=
  ⟨ok.mod,ok.kind,ok.glob,ok.blt,ok.above,ok.inj,ok.has,ok.cab,ok.hd,ok.frames,ok.stk,ok.exf,ok.bs,ok.bsz,ok.noex,ok.exfs,ok.funs,ok.frf⟩
section
variable {X:Cx} {pins:List (Addr×Obj)} {σ : St} {H:Hp} {s:Shared} {E:Value→Shared→Prop}
theorem AL.wish (I:AL X pins σ H s) (E:Value→Shared→Prop):AL (X.wish E) pins σ H s:=⟨I.ok.wish E,I.os,I.bare,I.base,I.loc,I.cell,I.free,I.freeC,I.pin,I.hok,I.len⟩
theorem AL.unwish (I:AL (X.wish E) pins σ H s):AL X pins σ H s:=⟨I.ok.unwish,I.os,I.bare,I.base,I.loc,I.cell,I.free,I.freeC,I.pin,I.hok,I.len⟩
theorem SP.unwish {D:Ht} {f:Flow} {s':Shared} (h:SP (X.wish E) pins D f s'):SP X pins D f s':=by
  cases f with
  | next => obtain ⟨σ',H',I,q⟩:=h; exact ⟨σ',H',I.unwish,q⟩
  | brk => obtain ⟨σ',H',I,q⟩:=h; exact ⟨σ',H',I.unwish,q⟩
  | cont => obtain ⟨σ',H',I,q⟩:=h; exact ⟨σ',H',I.unwish,q⟩
  | ret u => obtain ⟨v,σ',H',I,r,q⟩:=h; exact ⟨v,σ',H',I.unwish,r,q⟩
theorem Jm.nox {st:List Stmt} {t:TS} (h:Jm X.nox st t):Jm X st t:=fun pins s σ H D I hw =>
  wpAny_mono (h pins s σ H D (I.wish _) hw) (fun _ _ q => q.unwish) fun _ _ z => False.elim z
end
section
variable {X:Cx} {st:Stmt} {B7:List Stmt} {t u:TS} {e:Expr} {te:TE} {pos:Pos}
def tNext:TS:=fun D σ H => D.nx σ H
def tSeq (t u:TS):TS:=fun D σ H => t { D with nx:=u D } σ H
theorem AJ:Jm X [] tNext:=fun _ _ σ H _ I h => wpAny_execs_nil ⟨σ,H,I,h⟩
theorem Ad (h1:PS X st t) (h2:Jm X B7 u):Jm X (st :: B7) (tSeq t u):=by
  intro pins s σ H D I h
  refine wpAny_execs_cons (B0 (h1 pins s σ H { D with nx:=u D } I h) fun f s1 q => ?_)
  cases f with
  | next =>
    obtain ⟨σ',H',I',q⟩:=q
    exact h2 pins s1 σ' H' D I' q
  | ret v => exact q
  | brk => exact q
  | cont => exact q
theorem Aj (h1:PS X st t):Jm X [st] t:=by
  intro pins s σ H D I h
  refine wpAny_execs_cons (B0 (h1 pins s σ H D I h) fun f s1 q => ?_)
  cases f with
  | next => exact wpAny_execs_nil q
  | ret v => exact q
  | brk => exact q
  | cont => exact q
theorem AL.quiet {pins:List (Addr×Obj)} {σ : St} {H:Hp} {s:Shared} (I:AL X pins σ H s):interactive X.env=false:=by simp [interactive,I.ok.kind]
def MA (te:TE):TS:=fun D σ H => te σ H fun _ H1 => D.nx σ H1
theorem AS (he:PE X e te) (hs:swapsWith e none pos.line X.env=pure false:=by rfl):PS X (.Expr e pos) (MA te):=by
  intro pins s σ H D I h
  exact wpAny_Expr_any (B0 (he pins s σ H _ I h) fun v s1 ⟨x,H1,I1,r1,q1⟩ => ⟨σ,H1,I1,q1⟩) I.quiet hs
def tRet (te:TE):TS:=fun D σ H => te σ H D.rt
theorem AM (he:PE X e te):PS X (.Return (some e) pos) (tRet te):=by
  intro pins s σ H D I h
  exact wpAny_Return_some (B0 (he pins s σ H _ I h) fun v s1 ⟨x,H1,I1,r1,q1⟩ => ⟨x,σ,H1,I1,r1,q1⟩)
def tRetN:TS:=fun D _ H => D.rt .non H
theorem P8:PS X (.Return none pos) tRetN:=fun _ _ σ H _ I h => wpAny_Return_none ⟨.non,σ,H,I,rfl,h⟩
def tIfS (c:TT) (t u:TS):TS:=fun D σ H => c σ H fun b H1 => if b=true then t D σ H1 else u D σ H1
theorem A0 {c:Expr} {a b:List Stmt} {tc:TT} (hc:PT X c tc) (ha:Jm X a t) (hb:Jm X b u):PS X (.If c a b pos) (tIfS tc t u):=by
  intro pins s σ H D I h
  refine wpAny_If (B0 (hc pins s σ H _ I h) fun d s1 ⟨H1,I1,q1⟩ => ?_)
  cases d with
  | true => exact ha pins s1 σ H1 D I1 q1
  | false => exact hb pins s1 σ H1 D I1 q1
def tNever:TS:=fun _ _ _ => False
theorem Bh {sts:List Stmt}:Jm X sts tNever:=fun _ _ _ _ _ _ h => h.elim
end
abbrev TG:=V→St→Hp→(St→Hp→Prop)→Prop
abbrev TGs:=List V→St→Hp→(St→Hp→Prop)→Prop
def PG (X:Cx) (target:Expr) (t:TG):Prop :=
  ∀ (pins:List (Addr×Obj)) (s:Shared) (σ : St) (H:Hp) (v:V) (u:Value) (Q:St→Hp→Prop),AL X pins σ H s→Bx v u→t v σ H Q →
    wpAny (model X.prog X.w) X.A (assign target X.env u) (fun _ s' => ∃ σ' H',AL X pins σ' H' s'∧Q σ' H') X.xe s
def PGs (X:Cx) (ts:List Expr) (t:TGs):Prop :=
  ∀ (pins:List (Addr×Obj)) (s:Shared) (σ : St) (H:Hp) (vs:List V) (us:List Value) (Q:St→Hp→Prop),AL X pins σ H s→A5 vs us→t vs σ H Q →
    wpAny (model X.prog X.w) X.A (assignInOrder ((assignEach ts X.env).map (·.2)) us) (fun _ s' => ∃ σ' H',AL X pins σ' H' s'∧Q σ' H') X.xe s
abbrev TSet:=V→V→V→Hp→(Hp→Prop)→Prop
def PSet (X:Cx) (t:TSet):Prop :=
  ∀ (pins:List (Addr×Obj)) (s:Shared) (σ : St) (H:Hp) (o i v:V) (ov iv u:Value) (Q:Hp→Prop),AL X pins σ H s→Bx o ov→Bx i iv→Bx v u→t o i v H Q →
    wpAny (model X.prog X.w) X.A (setItem ov iv u) (fun _ s' => ∃ H',AL X pins σ H' s'∧Q H') X.xe s
section
variable {X:Cx} {pos:Pos}
def IN (i:Nat):TG:=fun v σ H Q => Q (σ.set i (some v)) H
theorem AI {i:Nat} {x:Str} (hN:X.N.Nodup) (hi:X.N[i]? = some x) (hx:Loc X.env.scope x) (hf:X.fn x=true∨X.env.scope.names.lookup x=some .local:=by first | exact .inl rfl | exact .inr rfl | assumption):PG X (.Name x pos) (IN i):=by
  intro pins s σ H v u Q I r h
  exact wpAny_assign_Name (EI I hN hi hx r (fun s' I' => ⟨_,H,I',h⟩) hf)
def gNil:TGs:=fun vs σ H Q => vs=[]∧Q σ H
def gCons (t:TG) (u:TGs):TGs:=fun vs σ H Q => ∃ v r,vs=v :: r∧t v σ H fun σ' H' => u r σ' H' Q
theorem pgs_nil:PGs X [] gNil:=by
  intro pins s σ H vs us Q I r h
  obtain ⟨e,h⟩:=h
  subst e
  cases r
  exact assignInOrder_nil ⟨σ,H,I,h⟩
theorem Lm {e:Expr} {es:List Expr} {t:TG} {u:TGs} (h1:PG X e t) (h2:PGs X es u)
    (hs:(assignEach (e :: es) X.env).map (·.2)=assign e X.env :: (assignEach es X.env).map (·.2):=by rfl):PGs X (e :: es) (gCons t u):=by
  intro pins s σ H vs us Q I r h
  obtain ⟨v,vr,e1,h⟩:=h
  subst e1
  cases r with
  | cons r rr =>
    rw [hs]
    refine assignInOrder_cons (B0 (h1 pins s σ H _ _ _ I r h) fun _ s1 ⟨σ1,H1,I1,q1⟩ => ?_)
    exact h2 pins s1 σ1 H1 _ _ Q I1 rr q1
def gTup (K:PySem.W.Frag) (n:Nat) (t:TGs):TG:=fun v σ H Q => ∃ a xs,v = .ref a∧A2 K H a xs∧xs.length=n∧t xs σ H Q
theorem pg_tup {es:List Expr} {k:Nat} {t:TGs} {n:Nat} (hc:X.calm=true) (h:PGs X es t)
    (hn:(assignEach es X.env).length=n:=by rfl) (hst:(assignEach es X.env).findIdx? (·.1)=none:=by rfl):PG X (.Tuple es k pos) (gTup X.K n t):=by
  intro pins s σ H v u Q I r hw
  obtain ⟨a,xs,e1,hq,hl,hw⟩:=hw
  subst e1
  cases r
  obtain ⟨its,rv,ht,hz⟩:=I.tuple hq
  refine assign_Tuple_tuple (I.ok.hd hc) ht (by simp [hn,← hl,rv.length]) hst fun h' hx => ?_
  have I1:AL X pins σ H { s with heap:=h' }:=I.kept (t':=s.toks) fun b o e => hx b o (Nat.ne_of_lt (Heap.lt_size e)) e
  exact h pins _ σ H xs _ Q I1 (by simpa using rv) hw
def gSub (to ti:TE) (t:TSet):TG:=fun v σ H Q => to σ H fun o H1 => ti σ H1 fun i H2 => t o i v H2 fun H3 => Q σ H3
theorem Mf {o i:Expr} {to ti:TE} {t:TSet} (ho:PE X o to) (hi:PE X i ti) (hs:PSet X t)
    (ha:∀ v,assign (.Subscript o i pos) X.env v=(do
      let ov ← holding [v] (eval o X.env)
      let iv ← holding [v,ov] (eval i X.env)
      standAt pos
      holding [v,ov,iv] (setItem ov iv v)
      release [v,ov,iv] []):=by intro _; rfl):PG X (.Subscript o i pos) (gSub to ti t):=by
  intro pins s σ H v u Q I r h
  rw [ha]
  refine wpAny_bind (wpAny_holding (B0 (ho pins s σ H _ I h) fun ov s1 ⟨x,H1,I1,r1,q1⟩ => ?_))
  refine wpAny_bind (wpAny_holding (B0 (hi pins s1 σ H1 _ I1 q1) fun iv s2 ⟨y,H2,I2,r2,q2⟩ => ?_))
  refine wpAny_bind (wpAny_standAt (wpAny_bind (wpAny_holding (B0 (hs pins s2 σ H2 x y v ov iv u _ I2 r1 r2 r q2) fun _ s3 ⟨H3,I3,q3⟩ => ?_))))
  exact wpAny_release ⟨σ,H3,I3,q3⟩
def PU (te:TE) (g:TG):TS:=fun D σ H => te σ H fun x H1 => g x σ H1 D.nx
theorem Me {tg e:Expr} {te:TE} {g:TG} (he:PE X e te) (hg:PG X tg g) (hs:swapsWithSole [tg] e pos.line X.env=pure false:=by rfl) (hw:swappedStores [tg] e X.env=pure none:=by rfl)
    (h1:(assignEach [tg] X.env).map (·.2)=[assign tg X.env]:=by rfl):PS X (.Assign [tg] e pos) (PU te g):=by
  intro pins s σ H D I h
  refine wpAny_Assign_stores (B0 (he pins s σ H _ I h) fun v s1 ⟨x,H1,I1,r1,q1⟩ => ?_) hs hw
  rw [h1]
  exact B0 (hg pins s1 σ H1 x v _ I1 r1 q1) fun _ s2 q => q
theorem Ar {i:Nat} {x:Str} {e:Expr} {te:TE} {pos':Pos} (hN:X.N.Nodup) (hi:X.N[i]? = some x) (hx:Loc X.env.scope x) (he:PE X e te) (hs:swapsWith e (some (.Name x pos')) pos.line X.env=pure false:=by rfl) (hf:X.fn x=true∨X.env.scope.names.lookup x=some .local:=by first | exact .inl rfl | exact .inr rfl | assumption) :
    PS X (.Assign [.Name x pos'] e pos) (PU te (IN i)):=by
  intro pins s σ H D I h
  refine wpAny_Assign_Name (B0 (he pins s σ H _ I h) fun v s1 ⟨y,H1,I1,r1,q1⟩ => ?_) hs
  exact EI I1 hN hi hx r1 (fun s2 I2 => ⟨_,H1,I2,q1⟩) hf
end
section
variable {X:Cx} {pos:Pos}
def tWhile (c:TT) (tb:TS):TS:=fun D σ H => ∃ W:Nat→St→Hp→Prop,(∃ m,W m σ H)∧∀ m σ H,W m σ H →
  c σ H fun b H1 => if b=true then ∃ N:St→Hp→Prop,(∀ σ' H',N σ' H'→∃ m',m' < m∧W m' σ' H')∧tb { D with nx:=N,ct:=N,bk:=D.nx } σ H1 else D.nx σ H1
theorem EX {c:Expr} {body:List Stmt} {tc:TT} {tb:TS} (hp:PassesOwn (model X.prog X.w) X.A X.env X.xe) (hc:PT X c tc) (hb:Jm X body tb):PS X (.While c body [] pos) (tWhile tc tb):=by
  intro pins s σ H D I h
  obtain ⟨W,⟨m0,w0⟩,turn⟩:=h
  refine wpAny_While (codeAny_whileLoop (fun n s' => ∃ σ' H',AL X pins σ' H' s'∧W n σ' H') ?_ m0 ⟨σ,H,I,w0⟩)
  rintro n s1 ⟨σ1,H1,I1,w1⟩
  refine wpAny_passesOwn hp (B0 (hc pins s1 σ1 H1 _ I1 (turn n σ1 H1 w1)) fun b s2 ⟨H2,I2,q2⟩ => ?_)
  cases b with
  | true =>
    obtain ⟨N,hN,q2⟩:=q2
    rw [if_pos rfl]
    refine wpAny_passesOwn hp (B0 (hb pins s2 σ1 H2 _ I2 q2) fun f s3 q3 => ?_)
    cases f with
    | next =>
      obtain ⟨σ3,H3,I3,n3⟩:=q3
      obtain ⟨m',hm,w3⟩:=hN σ3 H3 n3
      exact ⟨m',hm,σ3,H3,I3,w3⟩
    | cont =>
      obtain ⟨σ3,H3,I3,n3⟩:=q3
      obtain ⟨m',hm,w3⟩:=hN σ3 H3 n3
      exact ⟨m',hm,σ3,H3,I3,w3⟩
    | brk => exact q3
    | ret v => exact q3
  | false =>
    rw [if_neg Bool.false_ne_true]
    exact wpAny_execs_nil ⟨σ1,H2,I2,q2⟩
end
structure It where
  go:Nat→Hp→Prop
  yld:Nat→Hp→V→Hp→Prop
  stop:Nat→Hp→Prop
def LX (X:Cx) (pins:List (Addr×Obj)) (H:Hp) (b:Addr):Prop :=
  H b=none∧b≠X.env.locals∧b ∉ X.fs∧(b∈X.ex∨X.s₀.heap.objs.size≤b)∧(∀ x c,X.env.cells.lookup x=some c→c≠b)∧∀ p∈X.pn ++ pins,p.1≠b
theorem AL.fpOk {X:Cx} {pins:List (Addr×Obj)} {σ : St} {H H':Hp} {s:Shared} {b:Addr} (I:AL X pins σ H s) (hb:s.heap.objs.size≤b) (hn:H' b=none):LX X pins H' b:=by
  refine ⟨hn,Nat.ne_of_gt (Nat.lt_of_lt_of_le I.lt hb),I.nofs hb,.inr (Nat.le_trans I.sz hb),fun x c e z => ?_,fun p hp z => ?_⟩
  · obtain ⟨v,q⟩:=I.cell x c e
    exact absurd (Nat.lt_of_lt_of_le q.lt (by rw [z]; exact hb)) (Nat.lt_irrefl _)
  · exact absurd (Nat.lt_of_lt_of_le (Heap.lt_size (I.pin p hp).1) (by rw [z]; exact hb)) (Nat.lt_irrefl _)
structure NW (P:Program) (w:World) (K:PySem.W.Frag) (tg:Expr) (J:It) (fp:List Addr) (it:Addr) (tn:Nat→Heap→Prop):Prop where
  mem:it∈fp
  obj:∀ i h,tn i h→∀ b∈fp,∃ o,h.get? b=some o∧∀ v,o.data≠.cell v
  keep:∀ i h h',tn i h→(∀ b∈fp,∀ o,h.get? b=some o→h'.get? b=some o)→tn i h'
  item:∀ (X:Cx),X.prog=P→X.w=w→X.K=K→X.calm=true→∀ (i:Nat) (pins:List (Addr×Obj)) (s:Shared) (σ : St) (H:Hp) (E:Value→Shared→Prop),AL X pins σ H s→(∀ b∈fp,LX X pins H b)→tn i s.heap→J.go i H →
    wpAny (model P w) X.A (pyNext (.ref it)) (fun r s1 => ∃ u,r=some u ∧
      wpAny (model P w) X.A (letOwnedTupleGo tg (.ref it) u) (fun _ s2 => ∃ x H',AL X pins σ H' s2∧Bx x u∧J.yld i H x H'∧tn (i + 1) s2.heap∧∀ b∈fp,H' b=none) E s1) E s
  done:∀ (X:Cx),X.prog=P→X.w=w→X.K=K→X.calm=true→∀ (i:Nat) (pins:List (Addr×Obj)) (s:Shared) (σ : St) (H:Hp) (E:Value→Shared→Prop),AL X pins σ H s→(∀ b∈fp,LX X pins H b)→tn i s.heap→J.stop i H →
    wpAny (model P w) X.A (pyNext (.ref it)) (fun r s1 => r=none∧AL X pins σ H s1) E s
  self:∀ (A:Around) (i:Nat) (s:Shared) (Q:Value→Shared→Prop) (E:Value→Shared→Prop),tn i s.heap→Q (.ref it) s→wpAny (model P w) A (pyIter (.ref it)) Q E s
abbrev TI:=St→Hp→(It→Hp→Prop)→Prop
def PIE (X:Cx) (pins:List (Addr×Obj)) (σ : St) (tg:Expr) (R:It→Hp→Prop) (itv:Value) (s2:Shared):Prop :=
  ∃ (it:Addr) (fp:List Addr) (tn:Nat→Heap→Prop) (J:It) (H':Hp),itv = .ref it∧AL X pins σ H' s2∧NW X.prog X.w X.K tg J fp it tn∧tn 0 s2.heap∧(∀ b∈fp,LX X pins H' b)∧R J H'
def PI (X:Cx) (tg iter:Expr) (wi:TI):Prop :=
  ∀ (pins:List (Addr×Obj)) (s:Shared) (σ : St) (H:Hp) (R:It→Hp→Prop),AL X pins σ H s→wi σ H R →
    wpAny (model X.prog X.w) X.A (eval iter X.env) (fun v s1 => wpAny (model X.prog X.w) X.A (pyIter v) (PIE X pins σ tg R) X.xe s1) X.xe s
theorem O7 {M:Model} {A:Around} {E:Value→Shared→Prop} {s:Shared} {tg:Expr} {it:Addr} {u:Value} {o:Obj} {n:String} {vs:Array Value} {Q:Unit→Shared→Prop} (ho:s.heap.get? it=some o) (hc:o.cls = .type n) (hd:o.data = .fields vs)
    (hn:["enumerate", "zip", "dict_itemiterator", "dict_reverseitemiterator", "odict_iterator", "itertools.zip_longest", "itertools.pairwise"].contains n=false) (hQ:Q () s):wpAny M A (letOwnedTupleGo tg (.ref it) u) Q E s:=by
  unfold letOwnedTupleGo
  cases tg <;> first
    | exact wpAny_pure hQ
    | (cases u <;> first
        | exact wpAny_pure hQ
        | (refine wpAny_bind (wpAny_load ho ?_)
           rw [hc,hd]
           show wpAny M A (if (["enumerate", "zip", "dict_itemiterator", "dict_reverseitemiterator", "odict_iterator", "itertools.zip_longest", "itertools.pairwise"].contains n && vs[0]? == some (rawInt _))=true then _ else _) Q E s
           rw [if_neg (by intro h; rw [hn,Bool.false_and] at h; cases h)]
           exact wpAny_pure hQ))
def Itl (K:PySem.W.Frag) (a:Addr):It :=
  ⟨fun i H => ∃ xs x,AE K H a xs∧xs[i]? = some x,fun i H x H' => H'=H∧∀ xs,AE K H a xs→xs[i]? = some x,fun i H => ∃ xs,AE K H a xs∧xs.length≤i⟩
def Itt (K:PySem.W.Frag) (a:Addr):It :=
  ⟨fun i H => ∃ xs x,A2 K H a xs∧xs[i]? = some x,fun i H x H' => H'=H∧∀ xs,A2 K H a xs→xs[i]? = some x,fun i H => ∃ xs,A2 K H a xs∧xs.length≤i⟩
def PK (lo:Int) (n:Nat):It:=⟨fun i _ => i < n,fun i H x H' => H'=H∧x = .int (lo + i),fun i _ => n≤i⟩
theorem Nn {P:Program} {w:World} {K:PySem.W.Frag} {tg:Expr} (a it:Addr):NW P w K tg (Itl K a) [it] it (fun i h => h.IsListIter it a i) where
  mem:=by simp
  obj:=fun i h st b hb => by
    have e:b=it:=by simpa using hb
    subst e
    obtain ⟨o,e,c,d⟩:=st
    exact ⟨o,e,fun v z => by rw [d] at z; cases z⟩
  keep:=fun i h h' st k => st.at fun o e => k it (by simp) o e
  item:=by
    intro X hP hw hK hc i pins s σ H E I hf st hg
    subst hP hw hK
    obtain ⟨xs,x,hq,hx⟩:=hg
    obtain ⟨its,rv,p,hz⟩:=I.list hq
    obtain ⟨u,hu,ru⟩:=rv.get hx
    obtain ⟨f0,f1,f2,f3,f4,f5⟩:=hf it (by simp)
    refine wpAny_pyNext_list_item st p.isList (x:=u) (by simpa using hu) fun h' st' sb => ?_
    have I1:AL X pins σ H { s with heap:=h' }:=I.turned (t':=s.toks) (fun b o hb e => (sb.2 b hb).trans e) f0 f1 f3 f4 f5
    obtain ⟨o,e,c,d⟩:=id st'
    exact ⟨u,rfl,O7 (s:={ s with heap:=h' }) e c d (by decide) ⟨x,H,I1,ru,⟨rfl,fun ys hy => by rw [I.list_inj hy hq]; exact hx⟩,st',fun b hb => (hf b hb).1⟩⟩
  done:=by
    intro X hP hw hK hc i pins s σ H E I hf st hg
    subst hP hw hK
    obtain ⟨xs,hq,hx⟩:=hg
    obtain ⟨its,rv,p,hz⟩:=I.list hq
    obtain ⟨f0,f1,f2,f3,f4,f5⟩:=hf it (by simp)
    have hl:=rv.length
    exact wpAny_pyNext_list_end (I.ok.hd hc) st p.isList (by simp; omega) fun h' eb => ⟨rfl,I.turned (t':=s.toks) (fun b o hb e => eb b o hb e) f0 f1 f3 f4 f5⟩
  self:=fun _ _ _ _ _ st h => wpAny_pyIter_listiter st h
theorem L5 {P:Program} {w:World} {K:PySem.W.Frag} {tg:Expr} (a it:Addr):NW P w K tg (Itt K a) [it] it (fun i h => h.IsTupleIter it a i) where
  mem:=by simp
  obj:=fun i h st b hb => by
    have e:b=it:=by simpa using hb
    subst e
    obtain ⟨o,e,c,d⟩:=st
    exact ⟨o,e,fun v z => by rw [d] at z; cases z⟩
  keep:=fun i h h' st k => st.at fun o e => k it (by simp) o e
  item:=by
    intro X hP hw hK hc i pins s σ H E I hf st hg
    subst hP hw hK
    obtain ⟨xs,x,hq,hx⟩:=hg
    obtain ⟨its,rv,p,hz⟩:=I.tuple hq
    obtain ⟨u,hu,ru⟩:=rv.get hx
    obtain ⟨f0,f1,f2,f3,f4,f5⟩:=hf it (by simp)
    refine wpAny_pyNext_tuple_item st (show s.heap.IsTuple a its.toArray from p) (x:=u) (by simpa using hu) fun h' st' sb => ?_
    have I1:AL X pins σ H { s with heap:=h' }:=I.turned (t':=s.toks) (fun b o hb e => (sb.2 b hb).trans e) f0 f1 f3 f4 f5
    obtain ⟨o,e,c,d⟩:=id st'
    exact ⟨u,rfl,O7 (s:={ s with heap:=h' }) e c d (by decide) ⟨x,H,I1,ru,⟨rfl,fun ys hy => by rw [I.tuple_inj hy hq]; exact hx⟩,st',fun b hb => (hf b hb).1⟩⟩
  done:=by
    intro X hP hw hK hc i pins s σ H E I hf st hg
    subst hP hw hK
    obtain ⟨xs,hq,hx⟩:=hg
    obtain ⟨its,rv,p,hz⟩:=I.tuple hq
    obtain ⟨f0,f1,f2,f3,f4,f5⟩:=hf it (by simp)
    have hl:=rv.length
    exact wpAny_pyNext_tuple_end (I.ok.hd hc) st (show s.heap.IsTuple a its.toArray from p) (by simp; omega) fun h' eb => ⟨rfl,I.turned (t':=s.toks) (fun b o hb e => eb b o hb e) f0 f1 f3 f4 f5⟩
  self:=fun _ _ _ _ _ st h => wpAny_pyIter_tupleiter st h
theorem L6 {P:Program} {w:World} {K:PySem.W.Frag} {tg:Expr} (it:Addr) (lo:Int) (n:Nat):NW P w K tg (PK lo n) [it] it (fun i h => IsRangeIter h it (lo + (i:Nat) * 1) ((n:Int) - (i:Nat)) 1) where
  mem:=by simp
  obj:=fun i h st b hb => by
    have e:b=it:=by simpa using hb
    subst e
    exact ⟨_,st,fun v z => by
      have z':Data.fields _=Data.cell v:=z
      cases z'⟩
  keep:=fun i h h' st k => k it (by simp) _ st
  item:=by
    intro X hP hw hK hc i pins s σ H E I hf st hg
    subst hP hw hK
    obtain ⟨f0,f1,f2,f3,f4,f5⟩:=hf it (by simp)
    have W:=Walks.range (prog:=X.prog) (w:=X.w) (I.ok.hd hc) it lo 1 n
    refine W.item i s _ _ hg st fun v h' tk hv st' kk => ?_
    obtain ⟨t,rfl⟩:=hv
    have I1:AL X pins σ H { s with heap:=h',toks:=tk }:=I.turned (fun b o hb e => kk b o (by simpa using hb) e) f0 f1 f3 f4 f5
    refine ⟨_,rfl,O7 (s:={ s with heap:=h',toks:=tk }) (n := "range_iterator") st' rfl rfl (by decide) ⟨.int (lo + i),H,I1,⟨t,?_⟩,⟨rfl,rfl⟩,st',fun b hb => (hf b hb).1⟩⟩
    rw [Int.mul_one]
  done:=by
    intro X hP hw hK hc i pins s σ H E I hf st hg
    subst hP hw hK
    obtain ⟨f0,f1,f2,f3,f4,f5⟩:=hf it (by simp)
    exact wpAny_pyNext_range_end (I.ok.hd hc) st (by have:n≤i:=hg; omega) fun h' eb => ⟨rfl,I.turned (t':=s.toks) (fun b o hb e => eb b o hb e) f0 f1 f3 f4 f5⟩
  self:=fun _ _ _ _ _ st h => wpAny_pyIter_rangeiter st h
end L2
namespace L2
open PySem PySem.Spec PyProof.Rows
section
variable {X:Cx} {tg:Expr}
def iList (K:PySem.W.Frag) (tl:TE):TI:=fun σ H R => tl σ H fun x H1 => ∃ a,x = .ref a∧(∃ xs,AE K H1 a xs)∧R (Itl K a) H1
def iTup (K:PySem.W.Frag) (tl:TE):TI:=fun σ H R => tl σ H fun x H1 => ∃ a,x = .ref a∧(∃ xs,A2 K H1 a xs)∧R (Itt K a) H1
theorem Bu {l:Expr} {tl:TE} (hl:PE X l tl):PI X tg l (iList X.K tl):=by
  intro pins s σ H R I h
  refine B0 (hl pins s σ H _ I h) fun v s1 ⟨x,H1,I1,r1,q1⟩ => ?_
  obtain ⟨a,e,⟨xs,hq⟩,q⟩:=q1
  subst e
  cases r1
  obtain ⟨its,rv,p,hz⟩:=I1.list hq
  refine wpAny_pyIter_list p.isList ?_
  refine ⟨s1.heap.objs.size,[s1.heap.objs.size],_,_,H1,rfl,I1.kept (t':=s1.toks) fun b o e => Heap.get?_push_of_some _ e,Nn a _,⟨_,Heap.get?_push_size _ rfl,rfl,rfl⟩,fun b hb => ?_,q⟩
  have e:b=s1.heap.objs.size:=by simpa using hb
  subst e
  exact I1.fpOk (Nat.le_refl _) (I1.hok.fresh (Nat.le_refl _))
theorem Ov {l:Expr} {tl:TE} (hl:PE X l tl):PI X tg l (iTup X.K tl):=by
  intro pins s σ H R I h
  refine B0 (hl pins s σ H _ I h) fun v s1 ⟨x,H1,I1,r1,q1⟩ => ?_
  obtain ⟨a,e,⟨xs,hq⟩,q⟩:=q1
  subst e
  cases r1
  obtain ⟨its,rv,p,hz⟩:=I1.tuple hq
  refine wpAny_pyIter_tuple (show s1.heap.IsTuple a its.toArray from p) ?_
  refine ⟨s1.heap.objs.size,[s1.heap.objs.size],_,_,H1,rfl,I1.kept (t':=s1.toks) fun b o e => Heap.get?_push_of_some _ e,L5 a _,⟨_,Heap.get?_push_size _ rfl,rfl,rfl⟩,fun b hb => ?_,q⟩
  have e:b=s1.heap.objs.size:=by simpa using hb
  subst e
  exact I1.fpOk (Nat.le_refl _) (I1.hok.fresh (Nat.le_refl _))
theorem Ll {pins:List (Addr×Obj)} {σ : St} {H:Hp} {s:Shared} {R:It→Hp→Prop} {E:Value→Shared→Prop} {lo hi:Int} {t u v:Tok} {tk:Nat} (I:AL X pins σ H s) (h1 : -(2 ^ 62)≤lo) (h2:lo < 2 ^ 62) (h3 : -(2 ^ 62)≤hi) (h4:hi < 2 ^ 62)
    (q:R (PK lo (hi - lo).toNat) H):wpAny (model X.prog X.w) X.A (pyIter (.ref s.heap.objs.size)) (PIE X pins σ tg R) E { s with heap:=s.heap.push { cls:=.type "range",data:=.fields #[.int lo t,.int hi u,.int 1 v] },toks:=tk }:=by
  refine wpAny_pyIter_range (IsRange.new ..) (small_one h1 h2 h3 h4) ?_
  have I1:AL X pins σ H { s with heap:=s.heap.push { cls:=.type "range",data:=.fields #[.int lo t,.int hi u,.int 1 v] },toks:=tk }:=I.kept fun b o e => Heap.get?_push_of_some _ e
  refine ⟨(s.heap.push { cls:=.type "range",data:=.fields #[.int lo t,.int hi u,.int 1 v] }).objs.size,[(s.heap.push { cls:=.type "range",data:=.fields #[.int lo t,.int hi u,.int 1 v] }).objs.size],_,_,H,rfl,
    I1.kept (t':=tk) fun b o e => Heap.get?_push_of_some _ e,L6 _ lo (hi - lo).toNat,?_,fun b hb => ?_,q⟩
  · have e1:lo + ((0:Nat):Int) * 1=lo:=by simp
    have e2:(((hi - lo).toNat:Nat):Int) - ((0:Nat):Int)=Builtin.Range.rangeSize lo hi 1:=by rw [rangeSize_one]; split <;> omega
    show IsRangeIter _ _ (lo + ((0:Nat):Int) * 1) ((((hi - lo).toNat:Nat):Int) - ((0:Nat):Int)) 1
    rw [e1,e2]
    exact Heap.get?_push_size _ rfl
  · have e:b=(s.heap.push { cls:=.type "range",data:=.fields #[.int lo t,.int hi u,.int 1 v] }).objs.size:=by simpa using hb
    subst e
    exact I1.fpOk (Nat.le_refl _) (I1.hok.fresh (Nat.le_refl _))
def iRng1 (ta:TA):TI:=fun σ H R => ta σ H fun vs H1 => ∃ j:Int,vs=[.int j]∧-(2 ^ 62)≤j∧j < 2 ^ 62∧R (PK 0 j.toNat) H1
def iRng2 (ta:TA):TI:=fun σ H R => ta σ H fun vs H1 => ∃ i j:Int,vs=[.int i,.int j]∧(-(2 ^ 62)≤i∧i < 2 ^ 62∧-(2 ^ 62)≤j∧j < 2 ^ 62)∧R (PK i (j - i).toNat) H1
theorem AZ {a:Expr} {ta:TA} {p pos:Pos} (hg:Gl X "range") (hm:X.mg "range" = none) (ha:PA X [a] ta) (hs:starEach [a] X.env=[(false,eval a X.env)]:=by rfl):PI X tg (.Call (.Name "range" p) [a] [] pos) (iRng1 ta):=by
  intro pins s σ H R I h
  refine Call_ (GR I hg hm boot_range (PyProof.Rows.callWith_type1 (B0 (ha pos pins s σ H _ I h) fun us s1 ⟨vs,H1,I1,r1,q1⟩ => ?_) hs rfl))
  obtain ⟨j,e,q1,q2,q⟩:=q1
  subst e
  cases r1 with
  | cons r rr =>
    cases rr
    obtain ⟨t,rfl⟩:=r
    exact call_range_1 (Ll I1 (by omega) (by omega) q1 q2 (by simpa using q))
theorem JS {a b:Expr} {ta:TA} {p pos:Pos} (hg:Gl X "range") (hm:X.mg "range" = none) (ha:PA X [a,b] ta) (hs:starEach [a,b] X.env=[(false,eval a X.env),(false,eval b X.env)]:=by rfl) (hs2:starEach [b] X.env=[(false,eval b X.env)]:=by rfl) :
    PI X tg (.Call (.Name "range" p) [a,b] [] pos) (iRng2 ta):=by
  intro pins s σ H R I h
  refine Call_ (GR I hg hm boot_range (PyProof.Rows.callWith_type1 (B0 (ha pos pins s σ H _ I h) fun us s1 ⟨vs,H1,I1,r1,q1⟩ => ?_) (by rw [hs,hs2]) (by rw [hs2]; rfl)))
  obtain ⟨i,j,e,⟨q1,q2,q3,q4⟩,q⟩:=q1
  subst e
  cases r1 with
  | cons r rr =>
    cases rr with
    | cons r' rr =>
      cases rr
      obtain ⟨t,rfl⟩:=r
      obtain ⟨t',rfl⟩:=r'
      exact call_range_2 (Ll I1 q1 q2 q3 q4 q)
def tFor (wi:TI) (g:TG) (tb:TS):TS:=fun D σ H => wi σ H fun J H1 => ∃ W:Nat→Nat→St→Hp→Prop,(∃ m,W 0 m σ H1)∧∀ i m σ H,W i m σ H →
  (J.stop i H∧D.nx σ H)∨(J.go i H∧∃ N:St→Hp→Prop,(∀ σ' H',N σ' H'→∃ m',m' < m∧W (i + 1) m' σ' H')∧∀ x H',J.yld i H x H'→g x σ H' fun σ2 H2 => tb { D with nx:=N,ct:=N,bk:=D.nx } σ2 H2)
def Ip (fp:List Addr) (h:Heap):List (Addr×Obj):=fp.filterMap fun b => (h.get? b).map fun o => (b,o)
theorem FB {fp:List Addr} {h:Heap} {b:Addr} {o:Obj} (hb:b∈fp) (e:h.get? b=some o):(b,o)∈Ip fp h:=List.mem_filterMap.mpr ⟨b,hb,by rw [e]; rfl⟩
theorem NF {fp:List Addr} {h:Heap} {p:Addr×Obj} (hp:p∈Ip fp h):p.1∈fp∧h.get? p.1=some p.2:=by
  obtain ⟨b,hb,e⟩:=List.mem_filterMap.mp hp
  cases q:h.get? b with
  | none => rw [q] at e; cases e
  | some o =>
    rw [q] at e
    have e':(b,o)=p:=Option.some.inj e
    subst e'
    exact ⟨hb,q⟩
theorem AL.pinned {pins:List (Addr×Obj)} {σ : St} {H:Hp} {s:Shared} {fp:List Addr} (I:AL X pins σ H s) (hf:∀ b∈fp,LX X pins H b) (ho:∀ b∈fp,∃ o,s.heap.get? b=some o∧∀ v,o.data≠.cell v):AL X (pins ++ Ip fp s.heap) σ H s :=
  I.pins_of fun p hp => (List.mem_append.mp hp).elim (fun z => I.pin p (List.mem_append_right _ z)) fun z => by
    obtain ⟨hb,e⟩:=NF z
    obtain ⟨f0,f1,f2,_⟩:=hf p.1 hb
    obtain ⟨o,e',d⟩:=ho p.1 hb
    rw [e] at e'; cases e'
    exact ⟨e,f0,f1,f2,d⟩
theorem AL.unpinned {pins pl:List (Addr×Obj)} {σ : St} {H:Hp} {s:Shared} (I:AL X (pins ++ pl) σ H s):AL X pins σ H s:=I.pins_of fun p hp => I.pin p (List.mem_append_right _ (List.mem_append_left _ hp))
theorem Bj {iter:Expr} {body:List Stmt} {wi:TI} {g:TG} {tb:TS} {pos:Pos} (hp:PassesOwn (model X.prog X.w) X.A X.env X.xe) (hc:X.calm=true) (hi:PI X tg iter wi) (hg:PG X tg g) (hb:Jm X body tb)
    (hs:∀ x,foldedSetIterable iter X.env x=pure x:=by intro _; rfl):PS X (.For tg iter body [] pos) (tFor wi g tb):=by
  intro pins s σ H D I h
  refine wpAny_For (B0 (hi pins s σ H _ I h) fun v s1 h1 => B0 h1 fun itv s2 h2 => ?_) hs
  obtain ⟨it,fp,tn,J,H2,e,I2,T,st2,f2,W,⟨m0,w0⟩,turn⟩:=h2
  subst e
  have stat:∀ {H':Hp},(∀ b∈fp,H' b=none)→∀ b∈fp,LX X pins H' b:=fun hn b hb => ⟨hn b hb,(f2 b hb).2⟩
  refine codeAny_forLoop_any (fun n s' => ∃ i σ' H',AL X pins σ' H' s'∧tn i s'.heap∧(∀ b∈fp,H' b=none)∧W i n σ' H') ?_ m0 ⟨0,σ,H2,I2,st2,fun b hb => (f2 b hb).1,w0⟩
  rintro n s3 ⟨i,σ3,H3,I3,st3,fr3,w3⟩
  rcases turn i n σ3 H3 w3 with ⟨stop,qn⟩ | ⟨go,N,hN,step⟩
  · refine wpAny_passesOwn hp (B0 (T.done X rfl rfl rfl hc i pins s3 σ3 H3 X.xe I3 (stat fr3) st3 stop) fun r s4 ⟨hr,I4⟩ => ?_)
    subst hr
    exact wpAny_execs_nil ⟨σ3,H3,I4,qn⟩
  · refine wpAny_passesOwn hp (B0 (T.item X rfl rfl rfl hc i pins s3 σ3 H3 X.xe I3 (stat fr3) st3 go) fun r s4 ⟨u,hr,h4⟩ => ?_)
    subst hr
    refine wpAny_passesOwn hp (B0 h4 fun _ s5 ⟨x,H5,I5,r5,y5,st5,fr5⟩ => ?_)
    have I5':=I5.pinned (stat fr5) (T.obj _ _ st5)
    refine wpAny_passesOwn hp (B0 (hg _ s5 σ3 H5 x u _ I5' r5 (step x H5 y5)) fun _ s6 ⟨σ6,H6,I6,q6⟩ => ?_)
    refine wpAny_passesOwn hp (B0 (hb _ s6 σ6 H6 _ I6 q6) fun f s7 q7 => ?_)
    have again:∀ {σ7:St} {H7:Hp},AL X (pins ++ Ip fp s5.heap) σ7 H7 s7→N σ7 H7→∃ m,m < n∧∃ i σ' H',AL X pins σ' H' s7∧tn i s7.heap∧(∀ b∈fp,H' b=none)∧W i m σ' H':=fun {σ7 H7} I7 n7 => by
      obtain ⟨m',hm,w7⟩:=hN σ7 H7 n7
      refine ⟨m',hm,i + 1,σ7,H7,I7.unpinned,T.keep _ _ _ st5 fun b hb o e => (I7.pin (b,o) (List.mem_append_right _ (List.mem_append_right _ (FB hb e)))).1,fun b hb => ?_,w7⟩
      obtain ⟨o,e,d⟩:=T.obj _ _ st5 b hb
      exact (I7.pin (b,o) (List.mem_append_right _ (List.mem_append_right _ (FB hb e)))).2.1
    cases f with
    | next => obtain ⟨σ7,H7,I7,n7⟩:=q7; exact again I7 n7
    | cont => obtain ⟨σ7,H7,I7,n7⟩:=q7; exact again I7 n7
    | brk => obtain ⟨σ7,H7,I7,q7⟩:=q7; exact ⟨σ7,H7,I7.unpinned,q7⟩
    | ret v => obtain ⟨x7,σ7,H7,I7,r7,q7⟩:=q7; exact ⟨x7,σ7,H7,I7.unpinned,r7,q7⟩
end
theorem B6 {K:PySem.W.Frag} {a:Addr} {xs:List V} {g:TG} {tb:TS} {D:Ht} {σ : St} {H:Hp} (Pv:Nat→St→Hp→Prop) (h0:Pv 0 σ H) (hl:∀ i σ H,i≤xs.length→Pv i σ H→AE K H a xs)
    (hs:∀ i x σ H,xs[i]? = some x→Pv i σ H→g x σ H fun σ2 H2 => tb { D with nx:=Pv (i + 1),ct:=Pv (i + 1),bk:=D.nx } σ2 H2) (hd:∀ σ H,Pv xs.length σ H→D.nx σ H) :
    ∃ W:Nat→Nat→St→Hp→Prop,(∃ m,W 0 m σ H)∧∀ i m σ H,W i m σ H →
      ((Itl K a).stop i H∧D.nx σ H)∨((Itl K a).go i H∧∃ N:St→Hp→Prop,(∀ σ' H',N σ' H'→∃ m',m' < m∧W (i + 1) m' σ' H')∧∀ x H',(Itl K a).yld i H x H'→g x σ H' fun σ2 H2 => tb { D with nx:=N,ct:=N,bk:=D.nx } σ2 H2):=by
  refine ⟨fun i m σ H => m=xs.length - i∧i≤xs.length∧Pv i σ H,⟨xs.length,by simp,Nat.zero_le _,h0⟩,?_⟩
  rintro i m σ H ⟨rfl,hi,p⟩
  have q:=hl i σ H hi p
  by_cases hlt:i < xs.length
  · refine .inr ⟨⟨xs,xs[i],q,by simp [hlt]⟩,Pv (i + 1),fun σ' H' p' => ⟨xs.length - (i + 1),by omega,rfl,hlt,p'⟩,fun x H' y => ?_⟩
    obtain ⟨e,y⟩:=y
    subst e
    exact hs i x σ _ (y xs q) p
  · have e:i=xs.length:=by omega
    subst e
    exact .inl ⟨⟨xs,q,Nat.le_refl _⟩,hd σ H p⟩
theorem for_tup {K:PySem.W.Frag} {a:Addr} {xs:List V} {g:TG} {tb:TS} {D:Ht} {σ : St} {H:Hp} (Pv:Nat→St→Hp→Prop) (h0:Pv 0 σ H) (hl:∀ i σ H,i≤xs.length→Pv i σ H→A2 K H a xs)
    (hs:∀ i x σ H,xs[i]? = some x→Pv i σ H→g x σ H fun σ2 H2 => tb { D with nx:=Pv (i + 1),ct:=Pv (i + 1),bk:=D.nx } σ2 H2) (hd:∀ σ H,Pv xs.length σ H→D.nx σ H) :
    ∃ W:Nat→Nat→St→Hp→Prop,(∃ m,W 0 m σ H)∧∀ i m σ H,W i m σ H →
      ((Itt K a).stop i H∧D.nx σ H)∨((Itt K a).go i H∧∃ N:St→Hp→Prop,(∀ σ' H',N σ' H'→∃ m',m' < m∧W (i + 1) m' σ' H')∧∀ x H',(Itt K a).yld i H x H'→g x σ H' fun σ2 H2 => tb { D with nx:=N,ct:=N,bk:=D.nx } σ2 H2):=by
  refine ⟨fun i m σ H => m=xs.length - i∧i≤xs.length∧Pv i σ H,⟨xs.length,by simp,Nat.zero_le _,h0⟩,?_⟩
  rintro i m σ H ⟨rfl,hi,p⟩
  have q:=hl i σ H hi p
  by_cases hlt:i < xs.length
  · refine .inr ⟨⟨xs,xs[i],q,by simp [hlt]⟩,Pv (i + 1),fun σ' H' p' => ⟨xs.length - (i + 1),by omega,rfl,hlt,p'⟩,fun x H' y => ?_⟩
    obtain ⟨e,y⟩:=y
    subst e
    exact hs i x σ _ (y xs q) p
  · have e:i=xs.length:=by omega
    subst e
    exact .inl ⟨⟨xs,q,Nat.le_refl _⟩,hd σ H p⟩
theorem Br {lo:Int} {n:Nat} {g:TG} {tb:TS} {D:Ht} {σ : St} {H:Hp} (Pv:Nat→St→Hp→Prop) (h0:Pv 0 σ H)
    (hs:∀ i σ H,i < n→Pv i σ H→g (.int (lo + i)) σ H fun σ2 H2 => tb { D with nx:=Pv (i + 1),ct:=Pv (i + 1),bk:=D.nx } σ2 H2) (hd:∀ σ H,Pv n σ H→D.nx σ H) :
    ∃ W:Nat→Nat→St→Hp→Prop,(∃ m,W 0 m σ H)∧∀ i m σ H,W i m σ H →
      ((PK lo n).stop i H∧D.nx σ H)∨((PK lo n).go i H∧∃ N:St→Hp→Prop,(∀ σ' H',N σ' H'→∃ m',m' < m∧W (i + 1) m' σ' H')∧∀ x H',(PK lo n).yld i H x H'→g x σ H' fun σ2 H2 => tb { D with nx:=N,ct:=N,bk:=D.nx } σ2 H2):=by
  refine ⟨fun i m σ H => m=n - i∧i≤n∧Pv i σ H,⟨n,by simp,Nat.zero_le _,h0⟩,?_⟩
  rintro i m σ H ⟨rfl,hi,p⟩
  by_cases hlt:i < n
  · refine .inr ⟨hlt,Pv (i + 1),fun σ' H' p' => ⟨n - (i + 1),by omega,rfl,hlt,p'⟩,fun x H' y => ?_⟩
    obtain ⟨e,y⟩:=y
    subst e y
    exact hs i σ _ hlt p
  · have e:i=n:=by omega
    subst e
    exact .inl ⟨Nat.le_refl _,hd σ H p⟩
end L2
namespace L2
open PySem PySem.Spec PyProof.Rows
abbrev R2:=V→V→Hp→VK→Prop
def Gz (X:Cx) (f:Value→Value→Sem Value) (r:R2):Prop :=
  ∀ (pins:List (Addr×Obj)) (s:Shared) (σ : St) (H:Hp) (x y:V) (v u:Value) (Q:VK),AL X pins σ H s→Bx x v→Bx y u→r x y H Q →
    wpAny (model X.prog X.w) X.A (f v u) (EP X pins σ Q) X.xe s
def UnR (X:Cx) (f:Value→Sem Value) (r:V→Hp→VK→Prop):Prop :=
  ∀ (pins:List (Addr×Obj)) (s:Shared) (σ : St) (H:Hp) (x:V) (v:Value) (Q:VK),AL X pins σ H s→Bx x v→r x H Q →
    wpAny (model X.prog X.w) X.A (f v) (EP X pins σ Q) X.xe s
def Hj (X:Cx) (f:Value) (r:List V→Hp→VK→Prop):Prop :=
  ∀ (pins:List (Addr×Obj)) (s:Shared) (σ : St) (H:Hp) (xs:List V) (us:List Value) (Q:VK),AL X pins σ H s→A5 xs us→r xs H Q →
    wpAny (model X.prog X.w) X.A (call f us) (EP X pins σ Q) X.xe s
def tOp (r:R2) (ta tb:TE):TE:=fun σ H Q => ta σ H fun x H1 => tb σ H1 fun y H2 => r x y H2 Q
def tUn (r:V→Hp→VK→Prop) (ta:TE):TE:=fun σ H Q => ta σ H fun x H1 => r x H1 Q
def rI (C:Int→Int→Prop) (g:Int→Int→V):R2:=fun x y H Q => ∃ i j,x = .int i∧y = .int j∧C i j∧Q (g i j) H
def P6 (g:Int→Int→V):R2:=fun x y H Q => ∃ i j,x = .int i∧y = .int j∧Q (g i j) H
def rU (g:Int→V):V→Hp→VK→Prop:=fun x H Q => ∃ i,x = .int i∧Q (g i) H
section
variable {X:Cx} {a b c:Expr} {ta tb tc:TE} {pos:Pos}
theorem binT (ha:PE X a ta) (hb:PE X b tb) {pins:List (Addr×Obj)} {s:Shared} {σ : St} {H:Hp} {R:V→V→Hp→Prop} (I:AL X pins σ H s)
    (h:ta σ H fun x H1 => tb σ H1 fun y H2 => R x y H2) {Q:Value→Shared→Prop} {f:Value→Value→Sem Value}
    (hf:∀ v u s2 x y H2,AL X pins σ H2 s2→Bx x v→Bx y u→R x y H2→wpAny (model X.prog X.w) X.A (f v u) Q X.xe s2) :
    wpAny (model X.prog X.w) X.A (eval a X.env) (fun v s₁ => wpAny (model X.prog X.w) X.A (eval b X.env) (fun u s₂ => wpAny (model X.prog X.w) X.A (f v u) Q X.xe s₂) X.xe s₁) X.xe s:=by
  refine B0 (ha pins s σ H _ I h) fun v s1 ⟨x,H1,I1,r1,q1⟩ => ?_
  refine B0 (hb pins s1 σ H1 _ I1 q1) fun u s2 ⟨y,H2,I2,r2,q2⟩ => ?_
  exact hf v u s2 x y H2 I2 r1 r2 q2
theorem AH {op:Operator} {r:R2} (ho:Gz X (binaryOp op) r) (ha:PE X a ta) (hb:PE X b tb):PE X (.BinOp a op b pos) (tOp r ta tb):=by
  intro pins s σ H Q I h
  exact wpAny_BinOp (binT ha hb I h fun v u s2 x y H2 I2 rx ry q => ho pins s2 σ H2 x y v u Q I2 rx ry q)
theorem EF {op:UnaryOp} {r:V→Hp→VK→Prop} (ho:UnR X (unaryOp op) r) (ha:PE X a ta):PE X (.UnaryOp op a pos) (tUn r ta):=by
  intro pins s σ H Q I h
  exact UnaryOp_ (B0 (ha pins s σ H _ I h) fun v s1 ⟨x,H1,I1,r1,q1⟩ => ho pins s1 σ H1 x v Q I1 r1 q1)
theorem opI {f:Value→Value→Sem Value} {C:Int→Int→Prop} {g:Int→Int→Int}
    (rule:∀ (i j:Int) (t u:Tok) (s:Shared) (Q:Value→Shared→Prop) (E:Value→Shared→Prop),C i j→Q (.int (g i j) s.toks) { s with toks:=s.toks + 1 }→wpAny (model X.prog X.w) X.A (f (.int i t) (.int j u)) Q E s) :
    Gz X f (rI C fun i j => .int (g i j)):=by
  intro pins s σ H x y v u Q I rx ry h
  obtain ⟨i,j,rfl,rfl,hc,q⟩:=h
  obtain ⟨t,rfl⟩:=rx
  obtain ⟨t',rfl⟩:=ry
  exact rule i j t t' s _ _ hc ⟨.int (g i j),H,I.tok _,⟨_,rfl⟩,q⟩
theorem opI0 {f:Value→Value→Sem Value} {g:Int→Int→Int}
    (rule:∀ (i j:Int) (t u:Tok) (s:Shared) (Q:Value→Shared→Prop) (E:Value→Shared→Prop),Q (.int (g i j) s.toks) { s with toks:=s.toks + 1 }→wpAny (model X.prog X.w) X.A (f (.int i t) (.int j u)) Q E s) :
    Gz X f (P6 fun i j => .int (g i j)):=by
  intro pins s σ H x y v u Q I rx ry h
  obtain ⟨i,j,rfl,rfl,q⟩:=h
  obtain ⟨t,rfl⟩:=rx
  obtain ⟨t',rfl⟩:=ry
  exact rule i j t t' s _ _ ⟨.int (g i j),H,I.tok _,⟨_,rfl⟩,q⟩
theorem opB0 {f:Value→Value→Sem Value} {g:Int→Int→Bool}
    (rule:∀ (i j:Int) (t u:Tok) (s:Shared) (Q:Value→Shared→Prop) (E:Value→Shared→Prop),Q (.bool (g i j)) s→wpAny (model X.prog X.w) X.A (f (.int i t) (.int j u)) Q E s) :
    Gz X f (P6 fun i j => .bl (g i j)):=by
  intro pins s σ H x y v u Q I rx ry h
  obtain ⟨i,j,rfl,rfl,q⟩:=h
  obtain ⟨t,rfl⟩:=rx
  obtain ⟨t',rfl⟩:=ry
  exact rule i j t t' s _ _ ⟨.bl (g i j),H,I,rfl,q⟩
def CDiv (i j:Int):Prop := 0 < j∧j < 1073741824
def CMul (i j:Int):Prop:=(-(2 ^ 64) < i∧i < 2 ^ 64)∨(-(2 ^ 64) < j∧j < 2 ^ 64)
theorem CMul.ok {i j:Int} (h:CMul i j):IntMulOk i j:=by
  rcases h with ⟨h1,h2⟩ | ⟨h1,h2⟩
  · exact .of_left (intBits_le_64 h1 h2)
  · exact .of_right (intBits_le_64 h1 h2)
theorem BE:Gz X (binaryOp .Add) (P6 fun i j => .int (i + j)):=opI0 fun _ _ _ _ _ _ _ q => add_int q
theorem Oz:Gz X (binaryOp .Sub) (P6 fun i j => .int (i - j)):=opI0 fun _ _ _ _ _ _ _ q => sub_int q
theorem Iw:Gz X (binaryOp .Mult) (rI CMul fun i j => .int (i * j)):=opI fun _ _ _ _ _ _ _ hc q => mul_int q hc.ok
theorem BS:Gz X (binaryOp .FloorDiv) (rI CDiv fun i j => .int (i / j)):=opI fun i j _ _ _ _ _ hc q => by
  have h1:(0:Int) < j:=hc.1
  have h2:j < 1073741824:=hc.2
  exact floordiv_int (by omega) (by rw [Int.fdiv_eq_ediv_of_nonneg i (by omega)]; exact q) (.inl (PyProof.noPylong_small (by omega)))
theorem Bp:Gz X (binaryOp .Mod) (rI (fun _ j => 0 < j) fun i j => .int (i % j)):=opI fun i j _ _ _ _ _ hc q => by
  have h1:(0:Int) < j:=hc
  exact mod_int' (by omega) (by rw [Int.fmod_eq_emod_of_nonneg i (by omega)]; exact q)
theorem unI {f:Value→Sem Value} {g:Int→Int}
    (rule:∀ (i:Int) (t:Tok) (s:Shared) (Q:Value→Shared→Prop) (E:Value→Shared→Prop),Q (.int (g i) s.toks) { s with toks:=s.toks + 1 }→wpAny (model X.prog X.w) X.A (f (.int i t)) Q E s) :
    UnR X f (rU fun i => .int (g i)):=by
  intro pins s σ H x v Q I rx h
  obtain ⟨i,rfl,q⟩:=h
  obtain ⟨t,rfl⟩:=rx
  exact rule i t s _ _ ⟨.int (g i),H,I.tok _,⟨_,rfl⟩,q⟩
theorem C9:UnR X (unaryOp .USub) (rU fun i => .int (-i)):=unI fun _ _ _ _ _ q => neg_int q
end
def scal:V→V→Bool
  | .non,.non => true | .non,.int _ => true | .int _,.non => true | .non,.bl _ => true | .bl _,.non => true | .non,.str _ => true | .str _,.non => true
  | .int _,.int _ => true | .bl _,.bl _ => true | .str _,.str _ => true | .byt _,.byt _ => true
  | .int _,.str _ => true | .str _,.int _ => true | .bl _,.str _ => true | .str _,.bl _ => true
  | _,_ => false
def rEq:R2:=fun x y H Q => scal x y=true∧Q (.bl (decide (x=y))) H
def rNe:R2:=fun x y H Q => scal x y=true∧Q (.bl (!decide (x=y))) H
theorem Nb {i j:Int}:decide (V.int i=V.int j)=(i == j):=by
  rw [Bool.eq_iff_iff]
  simp
theorem Pp {i j:Bool}:decide (V.bl i=V.bl j)=(i == j):=by
  rw [Bool.eq_iff_iff]
  simp
theorem Na {i j:Str}:decide (V.str i=V.str j)=(i == j):=by
  rw [Bool.eq_iff_iff]
  simp
theorem Nc {i j:Array UInt8}:decide (V.byt i=V.byt j)=(i.toList == j.toList):=by
  rw [Bool.eq_iff_iff]
  cases i
  cases j
  simp
section
variable {X:Cx} {a b c:Expr} {ta tb tc:TE} {pos:Pos}
theorem Bg {pins:List (Addr×Obj)} {σ : St} {H:Hp} {s:Shared} {Q:VK} {k k':Bool} (I:AL X pins σ H s) (q:Q (.bl k) H) (e:k=k'):EP X pins σ Q (.bool k') s:=by
  subst e
  exact ⟨.bl k,H,I,rfl,q⟩
theorem Cz:Gz X (compareOp .Eq) rEq:=by
  intro pins s σ H x y v u Q I rx ry h
  obtain ⟨hs,q⟩:=h
  cases x with
  | non =>
    cases rx
    cases y with
    | non => cases ry; exact PySem.EqNone.eq_none_none (Bg I q (by simp))
    | bl j => cases ry; exact PySem.EqNone.eq_none_bool (Bg I q (by simp))
    | int j => obtain ⟨t',rfl⟩:=ry; exact PySem.EqNone.eq_none_int (Bg I q (by simp))
    | str j => obtain ⟨t',rfl⟩:=ry; exact PySem.EqNone.eq_none_str (Bg I q (by simp))
    | _ => exact absurd (show false=true from hs) Bool.false_ne_true
  | bl i =>
    cases rx
    cases y with
    | non => cases ry; exact PySem.EqNone.eq_bool_none (Bg I q (by simp))
    | bl j => cases ry; exact eq_bool (Bg I q Pp)
    | str j => obtain ⟨t',rfl⟩:=ry; exact PySem.EqMixed.eq_bool_str (Bg I q (by simp))
    | _ => exact absurd (show false=true from hs) Bool.false_ne_true
  | int i =>
    obtain ⟨t,rfl⟩:=rx
    cases y with
    | non => cases ry; exact PySem.EqNone.eq_int_none (Bg I q (by simp))
    | int j => obtain ⟨t',rfl⟩:=ry; exact eq_int (Bg I q Nb)
    | str j => obtain ⟨t',rfl⟩:=ry; exact PySem.EqMixed.eq_int_str (Bg I q (by simp))
    | _ => exact absurd (show false=true from hs) Bool.false_ne_true
  | str i =>
    obtain ⟨t,rfl⟩:=rx
    cases y with
    | non => cases ry; exact PySem.EqNone.eq_str_none (Bg I q (by simp))
    | bl j => cases ry; exact PySem.EqMixed.eq_str_bool (Bg I q (by simp))
    | int j => obtain ⟨t',rfl⟩:=ry; exact PySem.EqMixed.eq_str_int (Bg I q (by simp))
    | str j => obtain ⟨t',rfl⟩:=ry; exact eq_str (Bg I q Na)
    | _ => exact absurd (show false=true from hs) Bool.false_ne_true
  | byt i =>
    obtain ⟨t,rfl⟩:=rx
    cases y with
    | byt j => obtain ⟨t',rfl⟩:=ry; exact PySem.W.eq_bytes (Bg I q Nc)
    | _ => exact absurd (show false=true from hs) Bool.false_ne_true
  | _ => cases y <;> exact absurd (show false=true from hs) Bool.false_ne_true
theorem EG:Gz X (compareOp .NotEq) rNe:=by
  intro pins s σ H x y v u Q I rx ry h
  obtain ⟨hs,q⟩:=h
  cases x with
  | non =>
    cases rx
    cases y with
    | non => cases ry; exact PySem.EqNone.ne_none_none (Bg I q (by simp))
    | bl j => cases ry; exact PySem.EqNone.ne_none_bool (Bg I q (by simp))
    | int j => obtain ⟨t',rfl⟩:=ry; exact PySem.EqNone.ne_none_int (Bg I q (by simp))
    | str j => obtain ⟨t',rfl⟩:=ry; exact PySem.EqNone.ne_none_str (Bg I q (by simp))
    | _ => exact absurd (show false=true from hs) Bool.false_ne_true
  | bl i =>
    cases rx
    cases y with
    | non => cases ry; exact PySem.EqNone.ne_bool_none (Bg I q (by simp))
    | bl j => cases ry; exact ne_bool (Bg I q (congrArg not Pp))
    | str j => obtain ⟨t',rfl⟩:=ry; exact PySem.EqMixed.ne_bool_str (Bg I q (by simp))
    | _ => exact absurd (show false=true from hs) Bool.false_ne_true
  | int i =>
    obtain ⟨t,rfl⟩:=rx
    cases y with
    | non => cases ry; exact PySem.EqNone.ne_int_none (Bg I q (by simp))
    | int j => obtain ⟨t',rfl⟩:=ry; exact ne_int (Bg I q (congrArg not Nb))
    | str j => obtain ⟨t',rfl⟩:=ry; exact PySem.EqMixed.ne_int_str (Bg I q (by simp))
    | _ => exact absurd (show false=true from hs) Bool.false_ne_true
  | str i =>
    obtain ⟨t,rfl⟩:=rx
    cases y with
    | non => cases ry; exact PySem.EqNone.ne_str_none (Bg I q (by simp))
    | bl j => cases ry; exact PySem.EqMixed.ne_str_bool (Bg I q (by simp))
    | int j => obtain ⟨t',rfl⟩:=ry; exact PySem.EqMixed.ne_str_int (Bg I q (by simp))
    | str j => obtain ⟨t',rfl⟩:=ry; exact ne_str (Bg I q (congrArg not Na))
    | _ => exact absurd (show false=true from hs) Bool.false_ne_true
  | byt i =>
    obtain ⟨t,rfl⟩:=rx
    cases y with
    | byt j => obtain ⟨t',rfl⟩:=ry; exact PySem.W.ne_bytes (Bg I q (congrArg not Nc))
    | _ => exact absurd (show false=true from hs) Bool.false_ne_true
  | _ => cases y <;> exact absurd (show false=true from hs) Bool.false_ne_true
theorem Lp:Gz X (compareOp .Lt) (P6 fun i j => .bl (decide (i < j))):=opB0 fun _ _ _ _ _ _ _ q => lt_int q
theorem JV:Gz X (compareOp .LtE) (P6 fun i j => .bl (decide (i≤j))):=opB0 fun _ _ _ _ _ _ _ q => le_int q
theorem Lq:Gz X (compareOp .Gt) (P6 fun i j => .bl (decide (j < i))):=opB0 fun _ _ _ _ _ _ _ q => gt_int q
theorem op_ge:Gz X (compareOp .GtE) (P6 fun i j => .bl (decide (j≤i))):=opB0 fun _ _ _ _ _ _ _ q => ge_int q
theorem OA:Gz X (compareOp .Is) (fun x y H Q => y = .non∧Q (.bl (decide (x = .non))) H):=by
  intro pins s σ H x y v u Q I rx ry h
  obtain ⟨rfl,q⟩:=h
  cases ry
  refine is_none_gen (Bg I q ?_)
  cases x <;> first
    | (cases rx; rfl)
    | (obtain ⟨t,rfl⟩:=rx; rfl)
theorem FY:Gz X (compareOp .IsNot) (fun x y H Q => y = .non∧Q (.bl (!decide (x = .non))) H):=by
  intro pins s σ H x y v u Q I rx ry h
  obtain ⟨rfl,q⟩:=h
  cases ry
  refine isnot_none_gen (Bg I q ?_)
  cases x <;> first
    | (cases rx; rfl)
    | (obtain ⟨t,rfl⟩:=rx; rfl)
theorem AT (b:Expr) {op:CmpOp} (h:op≠.In:=by decide) (h2:op≠.NotIn:=by decide):behindInMarks op b=false:=by
  have e1:(op == CmpOp.In)=false:=by cases op <;> first | rfl | exact absurd rfl h
  have e2:(op == CmpOp.NotIn)=false:=by cases op <;> first | rfl | exact absurd rfl h2
  cases b <;> simp [behindInMarks,e1,e2]
theorem DR {op:CmpOp} {r:R2} (ho:Gz X (compareOp op) r) (ha:PE X a ta) (hb:PE X b tb) (hm:behindInMarks op b=false):PE X (.Compare a [op] [b] pos) (tOp r ta tb):=by
  intro pins s σ H Q I h
  exact wpAny_Compare1 (binT ha hb I h fun v u s2 x y H2 I2 rx ry q => ho pins s2 σ H2 x y v u Q I2 rx ry q) hm
def N9 (t:TE):TT:=fun σ H Q => t σ H fun x H' => ∃ k,x = .bl k∧Q k H'
theorem AB {op:CmpOp} {r:R2} (ho:Gz X (compareOp op) r) (ha:PE X a ta) (hb:PE X b tb) (hm:behindInMarks op b=false):PT X (.Compare a [op] [b] pos) (N9 (tOp r ta tb)):=by
  intro pins s σ H Q I h
  refine wpAny_isTrue_Compare1 (B0 (ha pins s σ H _ I h) fun v s1 ⟨x,H1,I1,r1,q1⟩ => B0 (hb pins s1 σ H1 _ I1 q1) fun u s2 ⟨y,H2,I2,r2,q2⟩ =>
    B0 (ho pins s2 σ H2 x y v u _ I2 r1 r2 q2) fun c s3 ⟨z,H3,I3,r3,k,e,q3⟩ => ?_) hm
  subst e
  cases r3
  exact wpAny_truthy_bool ⟨H3,I3,q3⟩
def tChain (r r':R2) (ta tb tc:TE):TE:=fun σ H Q => ta σ H fun x H1 => tb σ H1 fun y H2 => r x y H2 fun z H3 => ∃ k,z = .bl k ∧
  (if k=true then tc σ H3 fun w' H4 => r' y w' H4 Q else Q (.bl false) H3)
theorem FX {op op':CmpOp} {r r':R2} (ho:Gz X (compareOp op) r) (ho':Gz X (compareOp op') r') (ha:PE X a ta) (hb:PE X b tb) (hc:PE X c tc)
    (hm:lastMarks [op,op'] [b,c] = false:=by with_unfolding_all rfl):PT X (.Compare a [op,op'] [b,c] pos) (N9 (tChain r r' ta tb tc)):=by
  intro pins s σ H Q I h
  refine isTrue_chain (B0 (ha pins s σ H _ I h) fun v s1 ⟨x,H1,I1,r1,q1⟩ => test_link (B0 (hb pins s1 σ H1 _ I1 q1) fun u s2 ⟨y,H2,I2,r2,q2⟩ =>
    B0 (ho pins s2 σ H2 x y v u _ I2 r1 r2 q2) fun d s3 ⟨z,H3,I3,r3,k,e,q3⟩ => ?_)) hm
  subst e
  cases r3
  refine wpAny_truthy_bool ?_
  cases k with
  | false =>
    obtain ⟨k',e',q'⟩:=q3
    cases e'
    exact ite_ff ⟨H3,I3,q'⟩
  | true =>
    refine ite_tt (test_last (B0 (hc pins s3 σ H3 _ I3 q3) fun w' s4 ⟨z',H4,I4,r4,q4⟩ => B0 (ho' pins s4 σ H4 y z' u w' _ I4 r2 r4 q4) fun d' s5 ⟨z2,H5,I5,r5,k2,e2,q5⟩ => ?_))
    subst e2
    cases r5
    exact wpAny_truthy_bool ⟨H5,I5,q5⟩
theorem KK:(sizeLine:Nat) < 2 ^ 63:=by rw [sizeLine_eq]; decide
theorem N6 {x:V} {us:List Value} (r:A5 [x] us):∃ u,us=[u]∧Bx x u:=by
  cases r with
  | cons r1 r2 => cases r2; exact ⟨_,rfl,r1⟩
end
end L2
namespace L2
open PySem PySem.Spec PyProof.Rows
structure NZ (h:Heap) (x dx C:Addr) (mA:Str→Option Value):Prop where
  obj:h.get? x=some (PySem.W.instObj C dx)
  ns:h.Ns1 dx mA
  ne:dx≠x
theorem Fj {h:Heap} {dx:Addr} {mA:Str→Option Value} (n:h.Ns1 dx mA):∃ od,h.get? dx=some od∧∀ name,PySem.W.lookIn name od=some (mA name):=by
  obtain ⟨o,es,ep,ho,hd,hk,_,hm⟩:=n
  refine ⟨o,ho,fun name => ?_⟩
  have e:=hm name
  unfold nsFind findBy at e
  rw [← Array.find?_toList] at e
  unfold PySem.W.lookIn
  rw [hd]
  dsimp only
  split
  · rename_i y q
    rw [q] at e
    exact congrArg some e
  · rename_i q
    rw [q] at e
    have a:es.toList.any (·.refKey)=false:=by
      rw [List.any_eq_false]
      intro y hy
      obtain ⟨z,t,hkey⟩:=hk y (Array.mem_toList_iff.mp hy)
      simp [DictEntry.refKey,hkey]
    have a':¬ es.toList.any (·.refKey)=true:=by rw [a]; exact Bool.false_ne_true
    rw [if_neg a']
    exact congrArg some e
theorem NZ.look {h:Heap} {x dx C:Addr} {mA:Str→Option Value} (I:NZ h x dx C mA):∃ od,PySem.W.InstAt h x (PySem.W.instObj C dx) C (some od)∧∀ name,PySem.W.lookIn name od=some (mA name) :=
  let ⟨od,ho,hl⟩:=Fj I.ns
  ⟨od,⟨I.obj,rfl,rfl,ho⟩,hl⟩
section
variable {prog:Program} {w:World} {A:Around} {E:Value→Shared→Prop} {s:Shared} {K:PySem.W.Frag} {x dx C f:Addr} {mA:Str→Option Value} {name:Str} {v:Value}
theorem get_map {expr:Bool} {Q:Value→Shared→Prop} (X:K.In s.heap) (I:NZ s.heap x dx C mA) (hg:PySem.W.plainGet K C name=true) (hh:PySem.W.hasDictIn K C=true)
    (ha:PySem.W.findIn K (.ref C) name=some none) (hv:mA name=some v) (hv':PySem.W.handedIn v=true) (h:Q v { s with toks:=s.toks + 1 }) :
    wpAny (model prog w) A (getAttr (.ref x) name expr) Q E s:=by
  obtain ⟨od,J,hl⟩:=I.look
  exact PySem.W.get_value X J (PySem.W.plainGet_of hg).1 (PySem.W.findObj_own hh ha rfl (by rw [hl,hv])) hv' h
theorem PY {ns:List Str} {Q:Unit→Shared→Prop} (X:K.In s.heap) (I:NZ s.heap x dx C mA)
    (hs:PySem.W.findIn K (.ref C) "__setattr__" = some (some (.builtin "object.__setattr__"))) (hp:PySem.W.plainOver K C=true) (ht:PySem.W.takerIn K C name=some none) (hh:PySem.W.hasDictIn K C=true)
    (hw:PySem.Within mA ns) (hsz:ns.length≤sizeLine)
    (h:∀ h',NZ h' x dx C (fun y => if y=name then some v else mA y)→Heap.SameBut dx s.heap h'→Q () { s with heap:=h',toks:=s.toks + 2 }) :
    wpAny (model prog w) A (setAttr (.ref x) name v) Q E s:=by
  obtain ⟨od,J,hl⟩:=I.look
  refine PySem.W.set_plain X J hs (PySem.W.osa_open (s:={ s with toks:=s.toks + 1 }) (r:=none) X J hp ht fun b => ?_)
  obtain ⟨cd,hc,hd'⟩:=PySem.W.any_some hh
  have hx:s.heap.get? x=some ⟨.ref C,some dx,.plain,#[]⟩:=I.obj
  refine wpAny_bind (wpAny_pure (wpAny_bind (wpAny_bind (wpAny_loadPart hx (wpAny_bind (PySem.W.Looks.here (s:={ s with toks:=s.toks + 1 }) (PySem.W.looks_clsIn X hc) ?_))))))
  rw [hd']
  refine wpAny_pure (a:=some dx) (wpAny_bind (wpAny_pure (wpAny_bind ?_)))
  refine wpAny_nsSet1 (s:={ s with toks:=s.toks + 1 }) I.ns fun h' hn2 hs2 => ?_
  obtain ⟨oD,esD,epD,hoD,hdD,hcD⟩:=hn2.count (PySem.Within.cons name v hw)
  refine wpAny_bind (wpAny_lookBehind hoD (by rw [hdD]; exact pastItsLine_dict (Nat.le_trans hcD (by rw [List.length_cons]; omega))) ?_)
  exact wpAny_pure (h _ ⟨(hs2.2 _ (Ne.symm I.ne)).trans I.obj,hn2,I.ne⟩ hs2)
theorem OU {R:Result→Shared→Prop} {vs:List Value} {kw:List (Str×Value)} (X:K.In s.heap) (hm:PySem.W.makesIn K C=true)
    (hi:PySem.W.findIn K (.ref C) "__init__" = some (some (.ref f))) (hf:PySem.W.typeIn K (.ref f)=some (.type "function"))
    (h:codeAny (model prog w) (A.under (.builtin "type.__call__" ⟨.ref C :: vs,kw⟩)) (.call (.ref f) ⟨.ref (s.heap.objs.size + 1) :: vs,kw⟩) (PySem.W.InitBack (s.heap.objs.size + 1) R)
      { s with heap:=(s.heap.push PySem.W.emptyDict).push (PySem.W.instObj C s.heap.objs.size) }) :
    codeAny (model prog w) A (.call (.ref C) ⟨vs,kw⟩) R s:=by
  obtain ⟨hh,g,d,t,os⟩:=s
  exact PySem.W.make_core (PySem.W.makes_of X hm) (PySem.W.looks_findIn X hi) (fun self => PySem.W.bind_fn X self hf) (.inl rfl) h
end
def Bm (f:Str) (v:V):List (Str×V)→List (Str×V)
  | [] => [(f,v)]
  | (g,x) :: r => if g=f then (g,v) :: r else (g,x) :: Bm f v r
theorem A3 (f g:Str) (v:V):∀ fs:List (Str×V),(Bm f v fs).lookup g=if g=f then some v else fs.lookup g
  | [] => by
    show List.lookup g [(f,v)] = _
    by_cases h:g=f
    · have hb:(g == f)=true:=beq_iff_eq.mpr h
      simp only [List.lookup,hb,if_pos h]
    · have hb:(g == f)=false:=beq_eq_false_iff_ne.mpr h
      simp only [List.lookup,hb,if_neg h]
  | (k,x) :: r => by
    have ih:=A3 f g v r
    rw [show Bm f v ((k,x) :: r)=(if k=f then (k,v) :: r else (k,x) :: Bm f v r) from rfl]
    by_cases hk:k=f
    · rw [if_pos hk]
      by_cases h:g=k
      · have hb:(g == k)=true:=beq_iff_eq.mpr h
        simp only [List.lookup,hb,if_pos (h.trans hk)]
      · have hb:(g == k)=false:=beq_eq_false_iff_ne.mpr h
        simp only [List.lookup,hb,if_neg (fun e:g=f => h (e.trans hk.symm))]
    · rw [if_neg hk]
      by_cases h:g=k
      · have hb:(g == k)=true:=beq_iff_eq.mpr h
        simp only [List.lookup,hb,if_neg (fun e:g=f => hk (h.symm.trans e))]
      · have hb:(g == k)=false:=beq_eq_false_iff_ne.mpr h
        simp only [List.lookup,hb]
        exact ih
theorem DZ (f:Str) (v:V):∀ fs:List (Str×V),f∈(Bm f v fs).map (·.1)∧∀ g,g∈fs.map (·.1)→g∈(Bm f v fs).map (·.1)
  | [] => ⟨by simp [Bm],fun g h => by simp at h⟩
  | (k,x) :: r => by
    obtain ⟨i1,i2⟩:=DZ f v r
    rw [show Bm f v ((k,x) :: r)=(if k=f then (k,v) :: r else (k,x) :: Bm f v r) from rfl]
    by_cases hk:k=f
    · rw [if_pos hk]
      subst hk
      exact ⟨by simp,fun g h => by simpa using h⟩
    · rw [if_neg hk]
      refine ⟨?_,fun g h => ?_⟩
      · rw [List.map_cons]
        exact List.mem_cons_of_mem _ i1
      · rw [List.map_cons] at h ⊢
        rcases List.mem_cons.mp h with e | e
        · exact List.mem_cons.mpr (.inl e)
        · exact List.mem_cons_of_mem _ (i2 g e)
theorem C7 (f:Str) (v:V):∀ fs:List (Str×V),(Bm f v fs).length≤fs.length + 1
  | [] => by simp [Bm]
  | (k,x) :: r => by
    have ih:=C7 f v r
    rw [show Bm f v ((k,x) :: r)=(if k=f then (k,v) :: r else (k,x) :: Bm f v r) from rfl]
    by_cases hk:k=f
    · rw [if_pos hk,List.length_cons,List.length_cons]; omega
    · rw [if_neg hk,List.length_cons,List.length_cons]; omega
theorem Jk.some_of {v:V} {o:Option Value} (r:Jk (some v) o):∃ u,o=some u∧Bx v u:=by
  cases o with
  | none => exact (show False from r).elim
  | some u => exact ⟨u,rfl,r⟩
theorem GT {v:V} {u:Value} (r:Bx v u):PySem.W.handedIn u=true:=by
  cases v with
  | non => cases (show u=Value.none from r); rfl
  | bl b => cases (show u=Value.bool b from r); rfl
  | int i => obtain ⟨t,e⟩:=(show ∃ t,u=Value.int i t from r); cases e; rfl
  | str x => obtain ⟨t,e⟩:=(show ∃ t,u=Value.str x t from r); cases e; rfl
  | byt b => obtain ⟨t,e⟩:=(show ∃ t,u=Value.bytes b t from r); cases e; rfl
  | flt b => obtain ⟨t,e⟩:=(show ∃ t,u=Value.float b t from r); cases e; rfl
  | ref a => cases (show u=Value.ref a from r); rfl
  | ty n => cases (show u=Value.type n from r); rfl
section
variable {P:Program} {w:World} {H H':Hp} {h h':Heap} {a C dx:Addr} {fs fs':List (Str×V)}
theorem KM (hok:Hr P w H h) (e:H a=some (.ins C dx fs)):∃ mA,NZ h a dx C mA∧(∀ f,Jk (fs.lookup f) (mA f))∧PySem.Within mA (fs.map (·.1))∧fs.length≤1000∧H dx=some (.own a):=by
  obtain ⟨d,z,ne,ob,mA,n,r,q⟩:=(show Bl P w H h a (.ins C dx fs) from hok a _ e)
  exact ⟨mA,⟨ob,n,ne⟩,r,q,z,d⟩
end
structure Cls (K:PySem.W.Frag) (C:Addr):Prop where
  pg:PySem.W.plainGet K C Str.empty=true
  hd:PySem.W.hasDictIn K C=true
  po:PySem.W.plainOver K C=true
  sa:PySem.W.findIn K (.ref C) "__setattr__" = some (some (.builtin "object.__setattr__"))
theorem Cls.get {K:PySem.W.Frag} {C:Addr} (c:Cls K C) (f:Str):PySem.W.plainGet K C f=true:=c.pg
def DL (K:PySem.W.Frag) (C:Addr) (f:Str):Prop:=PySem.W.findIn K (.ref C) f=some none
theorem DL.taker {K:PySem.W.Frag} {C:Addr} {f:Str} (n:DL K C f):PySem.W.takerIn K C f=some none:=by
  unfold PySem.W.takerIn
  rw [show PySem.W.findIn K (.ref C) f=some none from n]
  rfl
section
variable {X:Cx} {pins:List (Addr×Obj)} {σ : St} {H:Hp} {s:Shared} {a C dx:Addr} {fs:List (Str×V)} {f:Str} {v:V} {A:Around} {E:Value→Shared→Prop}
theorem Mt {b:Bool} {Q:Value→Shared→Prop} (I:AL X pins σ H s) (e:H a=some (.ins C dx fs)) (c:Cls X.K C) (n:DL X.K C f) (l:fs.lookup f=some v)
    (h:∀ u s',AL X pins σ H s'→Bx v u→Q u s'):wpAny (model X.prog X.w) A (getAttr (.ref a) f b) Q E s:=by
  obtain ⟨mA,O,r,_,_,_⟩:=KM I.hok e
  obtain ⟨u,hu,ru⟩:=Jk.some_of (v:=v) (o:=mA f) (by rw [← l]; exact r f)
  exact get_map I.kIn O (c.get f) c.hd n hu (GT ru) (h u _ (I.tok _) ru)
theorem L9 {y:V} {u:Value} {Q:Unit→Shared→Prop} (I:AL X pins σ H s) (e:H a=some (.ins C dx fs)) (c:Cls X.K C) (n:DL X.K C f) (hl:fs.length < 1000) (ry:Bx y u)
    (h:∀ s',AL X pins σ (upd H a (.ins C dx (Bm f y fs))) s'→Q () s'):wpAny (model X.prog X.w) A (setAttr (.ref a) f u) Q E s:=by
  obtain ⟨mA,O,r,wi,_,ho⟩:=KM I.hok e
  have hz:(fs.map (·.1)).length≤sizeLine:=by rw [List.length_map,sizeLine_eq]; omega
  refine PY I.kIn O c.sa c.po n.taker c.hd wi hz fun h' O' sb => h _ ?_
  have hd:∃ o,h'.get? dx=some o:=let ⟨o,_,_,e',_⟩:=O'.ns; ⟨o,e'⟩
  refine I.write (x:=a) (e:=dx) (by rw [e]; exact True.intro) (.inr ho) (fun b q hb z => (sb.2 b hb).trans z) hd ?_
  refine ⟨by rw [Ak O.ne]; exact ho,?_,O.ne,O'.obj,_,O'.ns,fun g => ?_,fun g hg => ?_⟩
  · have:=C7 f y fs; omega
  · show Jk ((Bm f y fs).lookup g) (if g=f then some u else mA g)
    rw [A3]
    by_cases q:g=f
    · rw [if_pos q,if_pos q]; exact ry
    · rw [if_neg q,if_neg q]; exact r g
  · by_cases q:g=f
    · rw [q]; exact (DZ f y fs).1
    · refine (DZ f y fs).2 g (wi g fun z => hg ?_)
      show (if g=f then some u else mA g)=none
      rw [if_neg q]; exact z
theorem AL.made (I:AL X pins σ H s):AL X pins σ (upd (upd H s.heap.objs.size (.own (s.heap.objs.size + 1))) (s.heap.objs.size + 1) (.ins C s.heap.objs.size []))
    { s with heap:=(s.heap.push PySem.W.emptyDict).push (PySem.W.instObj C s.heap.objs.size) }:=by
  have e1:(s.heap.push PySem.W.emptyDict).get? s.heap.objs.size=some PySem.W.emptyDict:=Heap.get?_push_size s.heap rfl
  have e2:((s.heap.push PySem.W.emptyDict).push (PySem.W.instObj C s.heap.objs.size)).get? (s.heap.objs.size + 1)=some (PySem.W.instObj C s.heap.objs.size):=by
    have:=Heap.get?_push_size (s.heap.push PySem.W.emptyDict) (o:=PySem.W.instObj C s.heap.objs.size) rfl
    rwa [Heap.size_push] at this
  have e3:(s.heap.push PySem.W.emptyDict).Ns s.heap.objs.size (fun _ => none):=⟨PySem.W.emptyDict,#[],_,e1,rfl,(fun e he => absurd he (by simp)),fun _ => rfl⟩
  have I1:=I.laid (a:=s.heap.objs.size) (o:=.own (s.heap.objs.size + 1)) (h':=s.heap.push PySem.W.emptyDict) (t':=s.toks) (fun b u q => Heap.get?_push_of_some _ q) (Nat.le_refl _) ⟨_,e1⟩
  refine I1.laid (a:=s.heap.objs.size + 1) (o:=.ins C s.heap.objs.size []) (t':=s.toks) (fun b u q => Heap.get?_push_of_some _ q) (Nat.le_of_eq (Heap.size_push _ _)) ?_
  have ne:s.heap.objs.size≠s.heap.objs.size + 1:=Nat.ne_of_lt (Nat.lt_succ_self _)
  refine ⟨by rw [Ak ne,Ac],Nat.zero_le _,ne,e2,fun _ => none,(Heap.Ns1.of_empty e3).at fun o q => Heap.get?_push_of_some _ q,fun _ => True.intro,fun y hy => absurd rfl hy⟩
theorem K3 {prog:Program} {w:World} {env:Env} {e:Expr} {f:Str} {pos:Pos} {s:Shared} {Q:Value→Shared→Prop} (hb:attributeBase e f env (eval e env)=eval e env)
    (h:wpAny (model prog w) A (eval e env) (fun o s₁ => wpAny (model prog w) A (getAttr o f true) Q E s₁) E s):wpAny (model prog w) A (eval (.Attribute e f pos) env) Q E s :=
  Attribute_any_ h (by rw [arm_eval_Attribute,hb])
end
def tFld (K:PySem.W.Frag) (ta:TE) (f:Str):TE:=fun σ H Q => ta σ H fun x H1 => ∃ a C dx fs v,x = .ref a∧H1 a=some (.ins C dx fs)∧Cls K C∧DL K C f∧fs.lookup f=some v∧Q v H1
def sFld (K:PySem.W.Frag) (ta tv:TE) (f:Str):TS:=fun D σ H => tv σ H fun y H1 => ta σ H1 fun x H2 => ∃ a C dx fs,x = .ref a∧H2 a=some (.ins C dx fs)∧Cls K C∧DL K C f∧fs.length < 1000 ∧
  D.nx σ (upd H2 a (.ins C dx (Bm f y fs)))
section
variable {X:Cx} {o e value:Expr} {f:Str} {pos pos' tpos:Pos} {ta tv:TE}
theorem Bn (he:PE X e ta) (hb:attributeBase e f X.env (eval e X.env)=eval e X.env):PE X (.Attribute e f pos) (tFld X.K ta f):=by
  intro pins s σ H Q I h
  refine K3 hb (B0 (he pins s σ H _ I h) fun u s1 ⟨x,H1,I1,rx,a,C,dx,fs,v,ex,ea,c,n,l,q⟩ => ?_)
  subst ex
  obtain rfl:u=Value.ref a:=rx
  exact Mt I1 ea c n l fun u' s2 I2 ru => ⟨v,H1,I2,ru,q⟩
theorem Io (ha:PE X o ta) (hv:PE X value tv) (hs:swapsWith value (some (.Attribute o f pos')) pos.line X.env=pure false):PS X (.Assign [.Attribute o f pos'] value pos) (sFld X.K ta tv f):=by
  intro pins s σ H D I h
  refine plainObj_wpAny_Assign_Attribute (B0 (hv pins s σ H _ I h) fun u s1 ⟨y,H1,I1,ry,q⟩ => B0 (ha pins s1 σ H1 _ I1 q) fun ov s2 ⟨x,H2,I2,rx,a,C,dx,fs,ex,ea,c,n,l,q2⟩ => ?_) hs
  subst ex
  obtain rfl:ov=Value.ref a:=rx
  exact L9 I2 ea c n l ry fun s3 I3 => ⟨σ,_,I3,q2⟩
end
section
variable {X:Cx} {pins:List (Addr×Obj)} {σ : St} {H:Hp} {s:Shared} {A:Around} {E:Value→Shared→Prop} {Q:Value→Shared→Prop} {c:Value} {b:Bool}
inductive GY (K:PySem.W.Frag) (H:Hp):V→Value→Prop where
  | non:GY K H .non (.type "NoneType")
  | bl (x:Bool):GY K H (.bl x) (.type "bool")
  | int (i:Int):GY K H (.int i) (.type "int")
  | str (x:Str):GY K H (.str x) (.type "str")
  | flt (x:UInt64):GY K H (.flt x) (.type "float")
  | lst {a:Addr} {xs:List V} (e:H a=some (.lst xs)):GY K H (.ref a) (.type "list")
  | frz {a:Addr} {o:Obj} {xs:List V} (e:H a=some (.frz o (.lst xs))):GY K H (.ref a) (.type "list")
  | tup {a:Addr} {xs:List V} (e:H a=some (.tup xs)):GY K H (.ref a) (.type "tuple")
  | dK {a:Addr} {kvs:List (K8×V)} (e:H a=some (.dK kvs)):GY K H (.ref a) (.type "dict")
  | dT {a:Addr} {kvs:List (List K8×V)} (e:H a=some (.dT kvs)):GY K H (.ref a) (.type "dict")
  | ins {a C dx:Addr} {fs:List (Str×V)} (e:H a=some (.ins C dx fs)) (cl:Cls K C) (ha:PySem.W.findIn K (.ref C) "__class__" = some (some (.builtin "object.__class__")))
      (hn:PySem.W.specialIn K (.builtin "object.__class__") "__get__" = some (some (.builtin "getset_descriptor.__get__"))) (htk:PySem.W.takesIn K (.builtin "object.__class__")=some true)
      (hm:PySem.W.mroIn K C (.type "object")=some true):GY K H (.ref a) (.ref C)
theorem NK {x:V} {u t:Value} (I:AL X pins σ H s) (rx:Bx x u) (ty:GY X.K H x t) (e:PySem.W.kitOne X.K t c=some b) (h:∀ tk,Q (.bool b) { s with toks:=tk }) :
    wpAny (model X.prog X.w) A (call (.builtin "isinstance") [u,c]) Q E s:=by
  cases ty with
  | non => cases (show u=Value.none from rx); exact PySem.W.kia_one PySem.W.kitx_none I.kIn True.intro e (fun z => nomatch z) h
  | bl y => cases (show u=Value.bool y from rx); exact PySem.W.kia_one PySem.W.kitx_bool I.kIn True.intro e (fun z => nomatch z) h
  | int i => obtain ⟨t,q⟩:=(show ∃ t,u=Value.int i t from rx); cases q; exact PySem.W.kia_one PySem.W.kitx_int I.kIn True.intro e (fun z => nomatch z) h
  | str y => obtain ⟨t,q⟩:=(show ∃ t,u=Value.str y t from rx); cases q; exact PySem.W.kia_one PySem.W.kitx_str I.kIn True.intro e (fun z => nomatch z) h
  | flt y => obtain ⟨t,q⟩:=(show ∃ t,u=Value.float y t from rx); cases q; exact PySem.W.kia_one PySem.W.kitx_float I.kIn True.intro e (fun z => nomatch z) h
  | @lst a xs ea =>
    cases (show u=Value.ref a from rx)
    obtain ⟨_,_,n,_,h1⟩:=(show Bl X.prog X.w H s.heap a (.lst xs) from I.hok a _ ea)
    exact PySem.W.kia_one PySem.W.kitx_list I.kIn ⟨_,h1,rfl⟩ e (fun z => nomatch z) h
  | @frz a ob xs ea =>
    cases (show u=Value.ref a from rx)
    obtain ⟨_,_,_,n,_,h1⟩:=(show Bl X.prog X.w H s.heap a (.frz ob (.lst xs)) from I.hok a _ ea)
    exact PySem.W.kia_one PySem.W.kitx_list I.kIn ⟨_,h1,rfl⟩ e (fun z => nomatch z) h
  | @tup a xs ea =>
    cases (show u=Value.ref a from rx)
    obtain ⟨_,_,_,p⟩:=(show Bl X.prog X.w H s.heap a (.tup xs) from I.hok a _ ea)
    obtain ⟨o,h1,h2,_⟩:=p
    exact PySem.W.kia_one PySem.W.kitx_tuple I.kIn ⟨o,h1,h2⟩ e (fun z => nomatch z) h
  | @dK a kvs ea =>
    cases (show u=Value.ref a from rx)
    obtain ⟨_,_,vs,_,p⟩:=(show Bl X.prog X.w H s.heap a (.dK kvs) from I.hok a _ ea)
    obtain ⟨o,es,ep,h1,h2,_⟩:=p
    exact PySem.W.kia_one PySem.W.kitx_dict I.kIn ⟨o,h1,h2.1⟩ e (fun z => nomatch z) h
  | @dT a kvs ea =>
    cases (show u=Value.ref a from rx)
    obtain ⟨_,_,xs,_,o,es,ep,h1,h2,_⟩:=(show Bl X.prog X.w H s.heap a (.dT kvs) from I.hok a _ ea)
    exact PySem.W.kia_one PySem.W.kitx_dict I.kIn ⟨o,h1,h2.1⟩ e (fun z => nomatch z) h
  | @ins a C dx fs ea cl ha hn htk hm =>
    cases (show u=Value.ref a from rx)
    obtain ⟨mA,O,_⟩:=KM I.hok ea
    obtain ⟨od,J,_⟩:=O.look
    exact PySem.W.kia_one (PySem.W.kitx_own (cl.get _) cl.hd ha hn htk hm) I.kIn J e (fun z => nomatch z) h
end
end L2
namespace L2
open PySem PySem.Spec PyProof.Rows
structure Ca (k:Nat) (A:Around):Prop where
  hd:A.handled=none
  dp:A.depth + 3 * k + 5 < recursionLimit
  un:A.units + 16 * k + 200 < cLine
theorem Ca.mono {j k:Nat} {A:Around} (r:Ca k A) (h:j≤k):Ca j A:=⟨r.hd,by have:=r.dp; omega,by have:=r.un; omega⟩
theorem Ca.deeper {k:Nat} {A:Around} (r:Ca (k + 1) A) (env:Env):Ca k (A.deeper env) :=
  ⟨r.hd,by have:=r.dp; show A.depth + 1 + 3 * k + 5 < _; omega,by have:=r.un; show A.units + 3 + 16 * k + 200 < _; omega⟩
theorem IG {A:Around} {C:Addr} {us:List Value} {kw:List (Str×Value)}:(A.under (.builtin "type.__call__" ⟨.ref C :: us,kw⟩)).depth=A.depth + 1:=by
  first | rfl | simp [Around.under,Code.weight,Code.isCreation,Code.isGuard,Code.isCaller,Code.frames,Code.isFrame,guardIds]
theorem IF {A:Around} {C:Addr} {us:List Value} {kw:List (Str×Value)}:(A.under (.builtin "type.__call__" ⟨.ref C :: us,kw⟩)).units=A.units + 1:=by
  first | rfl | simp [Around.under,Code.cUnits,Code.frames,Code.isFrame]
theorem Ca.make {k:Nat} {A:Around} (r:Ca (k + 1) A) (C:Addr) (us:List Value) (kw:List (Str×Value)):Ca k (A.under (.builtin "type.__call__" ⟨.ref C :: us,kw⟩)) :=
  ⟨r.hd,by have:=r.dp; rw [IG]; omega,by have:=r.un; rw [IF]; omega⟩
theorem Ca.depth {k:Nat} {A:Around} (r:Ca k A):A.depth < recursionLimit:=by have:=r.dp; omega
theorem Ca.units {k:Nat} {A:Around} (r:Ca k A):A.units + 64 < cLine:=by have:=r.un; omega
def Lb:TA:=fun _ H Q => Q [] H
def ED (ta:TE) (tr:TA):TA:=fun σ H Q => ta σ H fun x H1 => tr σ H1 fun xs H2 => Q (x :: xs) H2
section
variable {X:Cx} {e:Expr} {es:List Expr} {te:TE} {t:TA} {pos:Pos}
theorem Ab:PA X [] Lb:=fun _ _ _ _ H Q I h => Calls.spliced_nil ⟨[],H,I,.nil,h⟩
theorem Aa (ha:PE X e te) (hr:PA X es t) (hs:starEach (e :: es) X.env=(false,eval e X.env) :: starEach es X.env:=by rfl):PA X (e :: es) (ED te t):=by
  intro pos pins s σ H Q I h
  rw [hs]
  show wpAny _ _ (spliced ((false,eval e X.env) :: backTo pos (starEach es X.env))) _ _ s
  refine Calls.spliced_cons (B0 (ha pins s σ H _ I h) fun u s1 ⟨x,H1,I1,r1,q1⟩ => ?_)
  exact B0 (hr pos pins s1 σ H1 _ I1 q1) fun us s2 ⟨xs,H2,I2,r2,q2⟩ => ⟨x :: xs,H2,I2,.cons r1 r2,q2⟩
def PL (t:TA):TE:=fun σ H Q => t σ H fun xs H1 => xs.length≤sizeLine∧∀ p,H1 p=none→Q (.ref p) (upd H1 p (.tup xs))
def tLst (t:TA):TE:=fun σ H Q => t σ H fun xs H1 => xs.length≤sizeLine∧∀ p,H1 p=none→Q (.ref p) (upd H1 p (.lst xs))
theorem AX {x1} (h:PA X es t):PE X (.Tuple es x1 pos) (PL t):=by
  intro pins s σ H Q I hq
  refine wpAny_Tuple_spliced (B0 (h pos pins s σ H _ I hq) fun us s1 ⟨xs,H1,I1,r,z,q⟩ => ⟨by rw [← r.length]; exact z,?_⟩)
  have hf:H1 s1.heap.objs.size=none:=I1.hok.fresh (Nat.le_refl _)
  refine ⟨.ref s1.heap.objs.size,upd H1 s1.heap.objs.size (.tup xs),I1.laid (t':=s1.toks) (fun b u e => Heap.get?_push_of_some _ e) (Nat.le_refl _) ?_,rfl,q _ hf⟩
  exact ⟨z,us,r,⟨_,Heap.get?_push_size _ rfl,rfl,_,rfl⟩⟩
theorem Bf (h:PA X es t):PE X (.List es pos) (tLst t):=by
  intro pins s σ H Q I hq
  refine wpAny_List_spliced (B0 (h pos pins s σ H _ I hq) fun us s1 ⟨xs,H1,I1,r,z,q⟩ => ⟨by rw [← r.length]; exact z,?_⟩)
  have hf:H1 s1.heap.objs.size=none:=I1.hok.fresh (Nat.le_refl _)
  refine ⟨.ref s1.heap.objs.size,upd H1 s1.heap.objs.size (.lst xs),I1.laid (t':=s1.toks) (fun b u e => Heap.get?_push_of_some _ e) (Nat.le_refl _) ?_,rfl,q _ hf⟩
  exact ⟨z,us,0,r,Heap.get?_push_size _ rfl⟩
end
abbrev Sp:=List V→Hp→VK→XK→Prop
abbrev JA:=List Env→Hp→Shared→XK→Value→Shared→Prop
structure Jz (P:Program) (w:World) (K:PySem.W.Frag) (mg:Str→Option Value) (base:Heap) (A:Around) (outer:List Env) (s:Shared) (H:Hp):Prop where
  frames:A.frames=some outer
  mod:Mod K mg base
  bs:∀ b o,base.get? b=some o→s.heap.get? b=some o∧H b=none
  bsz:base.objs.size≤s.heap.objs.size
  funs:s.heap.FunFrames base outer
  frf:∀ b∈GC outer,H b=none
  hok:Hr P w H s.heap
  bare:AllBare s.gens
def CE (outer:List Env) (P:Program) (w:World) (H:Hp) (s:Shared) (Q:VK) (u:Value) (s':Shared):Prop :=
  ∃ v H',s'.os=s.os∧AllBare s'.gens∧Un (GC outer) [] H H' s.heap s'.heap∧Hr P w H' s'.heap∧Bx v u∧Q v H'
def CR (CX:JA) (outer:List Env) (P:Program) (w:World) (H:Hp) (s:Shared) (Q:VK) (E:XK) (r:Result) (s':Shared):Prop :=
  match r with
  | .ok (.ret u) => CE outer P w H s Q u s'
  | .ok _ => False
  | .error e => CX outer H s E e s'
structure AD (P:Program) (w:World) (K:PySem.W.Frag) (mg:Str→Option Value) (base:Heap) (CX:JA) (k:Nat) (f:Addr) (fd:FuncData) (ps:List Str) (sp:Sp):Prop where
  len:∀ vs H Q E,sp vs H Q E→vs.length=ps.length
  run:∀ (A:Around) (outer:List Env) (s:Shared) (H:Hp) (args:Args) (us:List Value) (vs:List V) (Q:VK) (E:XK),Ca k A→Jz P w K mg base A outer s H→BindsTo s fd args (ps.zip us)→A5 vs us→sp vs H Q E →
    codeAny (model P w) A (.call (.ref f) args) (CR CX outer P w H s Q E) s
theorem Jz.make {P:Program} {w:World} {K:PySem.W.Frag} {mg:Str→Option Value} {base:Heap} {A:Around} {outer:List Env} {s:Shared} {H:Hp} (e:Jz P w K mg base A outer s H) (C:Addr) (us:List Value) (kw:List (Str×Value)) :
    Jz P w K mg base (A.under (.builtin "type.__call__" ⟨.ref C :: us,kw⟩)) outer s H:=⟨by first | exact e.frames | (simpa [Around.under,Code.envs,Code.isFrame,pushEnvs] using e.frames),e.mod,e.bs,e.bsz,e.funs,e.frf,e.hok,e.bare⟩
section
variable {X:Cx} {pins:List (Addr×Obj)} {σ : St} {H:Hp} {s s':Shared}
theorem AL.env0 (I:AL X pins σ H s):Jz X.prog X.w X.K X.mg X.base X.A X.stack s H :=
  ⟨I.ok.frames,I.ok.mod,I.bs,Nat.le_trans I.ok.bsz I.sz,I.stack,I.stkFree,I.hok,I.bare⟩
theorem AL.after {Q:VK} {u:Value} (I:AL X pins σ H s) (h:CE X.stack X.prog X.w H s Q u s'):EP X pins σ Q u s':=by
  obtain ⟨v,H',os,bare,un,hok,r,q⟩:=h
  obtain ⟨hh,g,d,t,os'⟩:=s'
  obtain rfl:os'=s.os:=os
  exact ⟨v,H',I.call (h':=hh) (g':=g) (d':=d) (t':=t) (ch:=[]) un hok bare (fun b z => absurd z (by simp)),r,q⟩
end
def tCall (sp:Sp) (dvs:List V) (E:XK) (t:TA):TE:=fun σ H Q => t σ H fun vs H1 => sp (vs ++ dvs) H1 Q E
def tMake (C:Addr) (sp:Sp) (dvs:List V) (E:XK) (t:TA):TE:=fun σ H Q => t σ H fun vs H1 => ∀ x dx,H1 x=none→H1 dx=none→dx≠x →
  sp (.ref x :: (vs ++ dvs)) (upd (upd H1 dx (.own x)) x (.ins C dx [])) (fun v H2 => v = .non∧Q (.ref x) H2) E
def C8 (K:PySem.W.Frag) (fd:FuncData) (ps:List Str) (ds:List Value):Prop :=
  ∀ (s:Shared) (us:List Value),K.In s.heap→(us ++ ds).length=ps.length→BindsTo s fd ⟨us,[]⟩ (ps.zip (us ++ ds))
theorem C8.all {K:PySem.W.Frag} {fd:FuncData} {ps:List Str} (h:∀ us:List Value,us.length=ps.length→bindArgs fd ⟨us,[]⟩ = pure (ps.zip us)):C8 K fd ps []:=fun s us _ hl => by
  rw [List.append_nil] at hl ⊢
  exact .of_eq (h us hl)
def GZ (CX:JA) (X:Cx) (E:XK):Prop := ∀ (pins:List (Addr×Obj)) (σ : St) (H:Hp) (s:Shared) (e:Value) (s':Shared),AL X pins σ H s→CX X.stack H s E e s'→X.xe e s'
section
variable {X:Cx} {CX:JA} {k:Nat} {f C:Addr} {fd:FuncData} {ps:List Str} {sp:Sp} {dvs:List V} {ds:List Value} {E:XK} {x m:Str} {p pos apos:Pos} {e o:Expr} {es:List Expr} {ta:TE} {t:TA}
theorem run_fn {pins:List (Addr×Obj)} {σ : St} {H:Hp} {s:Shared} {Q:VK} {us:List Value} {vs:List V} (F:AD X.prog X.w X.K X.mg X.base CX k f fd ps sp) (hr:Ca k X.A) (hb:C8 X.K fd ps ds) (hd:A5 dvs ds) (hx:GZ CX X E)
    (I:AL X pins σ H s) (r:A5 vs us) (h:sp (vs ++ dvs) H Q E):wpAny (model X.prog X.w) X.A (call (.ref f) us) (EP X pins σ Q) X.xe s:=by
  have r2:A5 (vs ++ dvs) (us ++ ds):=r.append hd
  have hl:(us ++ ds).length=ps.length:=by rw [← r2.length]; exact F.len _ _ _ _ h
  refine wpAny_call (codeAny_mono (F.run X.A X.stack s H ⟨us,[]⟩ (us ++ ds) (vs ++ dvs) Q E hr I.env0 (hb s us I.kIn hl) r2 h) fun r s' hq => ?_)
  cases r with
  | error e => exact hx pins σ H s e s' I hq
  | ok fl =>
    cases fl with
    | ret u => exact I.after hq
    | next => exact False.elim hq
    | brk => exact False.elim hq
    | cont => exact False.elim hq
theorem Ap (F:AD X.prog X.w X.K X.mg X.base CX k f fd ps sp) (hr:Ca k X.A) (hg:Gl X x) (hm:X.mg x=some (.ref f)) (hk:PySem.W.keepIn X.K (.ref f)=true) (hb:C8 X.K fd ps ds) (hd:A5 dvs ds) (hx:GZ CX X E)
    (ha:PA X (e :: es) t) (hdb:(x == ("__debug__" : Str))=false:=by decide) (he:starEach (e :: es) X.env=(false,eval e X.env) :: starEach es X.env:=by rfl) (hpl:(backTo pos (starEach es X.env)).any (·.1)=false:=by rfl) :
    PE X (.Call (.Name x p) (e :: es) [] pos) (tCall sp dvs E t):=by
  intro pins s σ H Q I h
  refine wpAny_Call_Name_kw (C1 I hg hm ?_ hdb)
  refine PySem.W.callWith_K (h₀:=X.base) I.ok.mod.kin hk (B0 (ha pos pins s σ H _ I h) fun us s1 ⟨vs,H1,I1,r,q⟩ => ⟨I1.kIn,?_⟩) he hpl
  exact run_fn F hr hb hd hx I1 r q
structure Mk (K:PySem.W.Frag) (C f:Addr):Prop where
  makes:PySem.W.makesIn K C=true
  init:PySem.W.findIn K (.ref C) "__init__" = some (some (.ref f))
  fn:PySem.W.isFn K (.ref f)=true
  kp:PySem.W.keepIn K (.ref C)=true
theorem Op {pins:List (Addr×Obj)} {σ : St} {H:Hp} {s:Shared} {Q:VK} {us:List Value} {vs:List V} (M:Mk X.K C f) (F:AD X.prog X.w X.K X.mg X.base CX k f fd ps sp) (hr:Ca (k + 1) X.A) (hb:C8 X.K fd ps ds) (hd:A5 dvs ds)
    (hx:GZ CX X E) (I:AL X pins σ H s) (r:A5 vs us)
    (h:∀ x dx,H x=none→H dx=none→dx≠x→sp (.ref x :: (vs ++ dvs)) (upd (upd H dx (.own x)) x (.ins C dx [])) (fun v H2 => v = .non∧Q (.ref x) H2) E) :
    wpAny (model X.prog X.w) X.A (call (.ref C) us) (EP X pins σ Q) X.xe s:=by
  have hq:=h (s.heap.objs.size + 1) s.heap.objs.size (I.hok.fresh (Nat.le_succ _)) (I.hok.fresh (Nat.le_refl _)) (Nat.ne_of_lt (Nat.lt_succ_self _))
  have I2:=AL.made (C:=C) I
  have r2:A5 (V.ref (s.heap.objs.size + 1) :: (vs ++ dvs)) (Value.ref (s.heap.objs.size + 1) :: (us ++ ds)):=.cons rfl (r.append hd)
  have hl:(Value.ref (s.heap.objs.size + 1) :: us ++ ds).length=ps.length:=by
    have e:=r2.length
    rw [F.len _ _ _ _ hq] at e
    exact e.symm
  refine wpAny_call (OU (f:=f) I.kIn M.makes M.init (beq_iff_eq.mp M.fn) (codeAny_mono (F.run _ X.stack _ _ ⟨Value.ref (s.heap.objs.size + 1) :: us,[]⟩ (Value.ref (s.heap.objs.size + 1) :: (us ++ ds)) _ _ E (hr.make C us [])
    (I2.env0.make C us []) (hb _ (Value.ref (s.heap.objs.size + 1) :: us) I2.kIn hl) r2 hq) fun r s' hq' => ?_))
  cases r with
  | error e => exact hx pins σ _ _ e s' I2 hq'
  | ok fl =>
    cases fl with
    | ret u =>
      obtain ⟨v,H',I3,rv,ev,q3⟩:=I2.after hq'
      subst ev
      exact ⟨rv,⟨V.ref (s.heap.objs.size + 1),H',I3,rfl,q3⟩⟩
    | next => exact False.elim hq'
    | brk => exact False.elim hq'
    | cont => exact False.elim hq'
theorem MT (M:Mk X.K C f) (F:AD X.prog X.w X.K X.mg X.base CX k f fd ps sp) (hr:Ca (k + 1) X.A) (hg:Gl X x) (hm:X.mg x=some (.ref C)) (hb:C8 X.K fd ps ds) (hd:A5 dvs ds) (hx:GZ CX X E)
    (ha:PA X (e :: es) t) (hdb:(x == ("__debug__" : Str))=false:=by decide) (he:starEach (e :: es) X.env=(false,eval e X.env) :: starEach es X.env:=by rfl) (hpl:(backTo pos (starEach es X.env)).any (·.1)=false:=by rfl) :
    PE X (.Call (.Name x p) (e :: es) [] pos) (tMake C sp dvs E t):=by
  intro pins s σ H Q I h
  refine wpAny_Call_Name_kw (C1 I hg hm ?_ hdb)
  refine PySem.W.callWith_K (h₀:=X.base) I.ok.mod.kin M.kp (B0 (ha pos pins s σ H _ I h) fun us s1 ⟨vs,H1,I1,r,q⟩ => ⟨I1.kIn,?_⟩) he hpl
  exact Op M F hr hb hd hx I1 r q
end
section
variable {X:Cx} {CX:JA} {k:Nat} {f C:Addr} {fd:FuncData} {ps ks:List Str} {sp:Sp} {E:XK} {x m:Str} {p pos apos kpos:Pos} {e o:Expr} {es:List Expr} {kws:List Keyword} {te ta:TE} {t tk:TA} {nm:Option Str}
variable {g:List Value→List Value→List Value} {gV:List V→List V→List V}
end
structure AA (N P:List Str) (sc:Scope):Prop where
  kind:sc.kind = .function
  co:sc.isCoroutine=false
  gen:sc.isGenerator=false
  nd:N.Nodup
  pre:N.take P.length=P
  par:∀ x∈P,sc.names.lookup x=some .local∨sc.names.lookup x=some .cell
  nofree:∀ y∈sc.names,y.2≠.free
theorem Kd {kindOf:Str→Option NameKind} {x:Str}:∀ {binds:List (Str×Value)} {m:Str→Option Value},(∀ v,(x,v) ∉ binds)→bindL kindOf binds m x=m x
  | [],_,_ => rfl
  | (n,v) :: r,m,h => by
    unfold bindL
    rw [Kd fun w hw => h w (List.mem_cons_of_mem _ hw)]
    split
    · have:x≠n:=by rintro rfl; exact h v List.mem_cons_self
      simp [this]
    · rfl
theorem Kf {kindOf:Str→Option NameKind} {x:Str}:∀ {binds:List (Str×Value)} {m:Str→Option Value},(∀ v,(x,v) ∉ binds)→bindC kindOf binds m x=m x
  | [],_,_ => rfl
  | (n,v) :: r,m,h => by
    unfold bindC
    rw [Kf fun w hw => h w (List.mem_cons_of_mem _ hw)]
    split
    · rfl
    · have:x≠n:=by rintro rfl; exact h v List.mem_cons_self
      simp [this]
theorem Ke {kindOf:Str→Option NameKind} {x:Str} {v:Value}:∀ {P:List Str} {vs:List Value} {i:Nat} {m:Str→Option Value},P.Nodup→P[i]? = some x→vs[i]? = some v→kindOf x=some .local →
    bindL kindOf (P.zip vs) m x=some v
  | [],_,_,_,_,h,_,_ => by simp at h
  | _ :: _,[],_,_,_,_,h,_ => by simp at h
  | p :: P,w :: vs,0,m,nd,h1,h2,hk => by
    simp at h1 h2; subst h1; subst h2
    show bindL kindOf ((p,w) :: P.zip vs) m p=_
    unfold bindL
    rw [Kd fun v hv => (List.nodup_cons.mp nd).1 (List.of_mem_zip hv).1,if_pos hk]
    simp
  | p :: P,w :: vs,i + 1,m,nd,h1,h2,hk => by
    show bindL kindOf ((p,w) :: P.zip vs) m x=_
    unfold bindL
    exact Ke (i:=i) (List.nodup_cons.mp nd).2 (by simpa using h1) (by simpa using h2) hk
theorem Kg {kindOf:Str→Option NameKind} {x:Str} {v:Value}:∀ {P:List Str} {vs:List Value} {i:Nat} {m:Str→Option Value},P.Nodup→P[i]? = some x→vs[i]? = some v→kindOf x≠some .local →
    bindC kindOf (P.zip vs) m x=some v
  | [],_,_,_,_,h,_,_ => by simp at h
  | _ :: _,[],_,_,_,_,h,_ => by simp at h
  | p :: P,w :: vs,0,m,nd,h1,h2,hk => by
    simp at h1 h2; subst h1; subst h2
    show bindC kindOf ((p,w) :: P.zip vs) m p=_
    unfold bindC
    rw [Kf fun v hv => (List.nodup_cons.mp nd).1 (List.of_mem_zip hv).1,if_neg hk]
    simp
  | p :: P,w :: vs,i + 1,m,nd,h1,h2,hk => by
    show bindC kindOf ((p,w) :: P.zip vs) m x=_
    unfold bindC
    exact Kg (i:=i) (List.nodup_cons.mp nd).2 (by simpa using h1) (by simpa using h2) hk
def start (N:List Str) (vs:List V):St:=vs.map some ++ List.replicate (N.length - vs.length) none
def DW (CX:JA) (P:Program) (w:World) (K:PySem.W.Frag) (mg:Str→Option Value) (base:Heap) (N:List Str) (qual:Str) (scope:Scope) (f:Addr) (cd:Value) (A:Around) (outer:List Env) (s:Shared) (H:Hp) (E:XK):Cx where
  prog:=P
  w:=w
  K:=K
  mg:=mg
  base:=base
  A:=A.deeper (envOfC qual scope s.heap.objs.size f cd)
  N:=N
  s₀:=s
  H₀:=H
  env:=envOfC qual scope s.heap.objs.size f cd
  outer:=outer
  stack:=envOfC qual scope s.heap.objs.size f cd :: outer
  ex:=[]
  calm:=true
  fn:=fun _ => true
  pn:=[]
  xe:=fun e s' => wpAny (model P w) (A.deeper (envOfC qual scope s.heap.objs.size f cd)) (leaving (envOfC qual scope s.heap.objs.size f cd) e) (fun _ s'' => CX outer H s E e s'') (fun e' s'' => CX outer H s E e' s'') s'
theorem LU {sc:Scope} {n:Nat} {x:Str} (h:sc.names.lookup x=some .cell):∃ c,(cellsFrom n sc.names []).lookup x=some c:=by
  have q:=PySem.W.cellsFrom_some sc.names n [] (.inl h)
  exact Option.isSome_iff_exists.mp q
theorem JZ {CX:JA} {P:Program} {w:World} {K:PySem.W.Frag} {mg:Str→Option Value} {base:Heap} {N ps:List Str} {qual:Str} {scope:Scope} {f:Addr} {cd:Value} {A:Around} {outer:List Env} {s s1:Shared} {H:Hp} {E:XK} {us:List Value} {vs:List V}
    (S:AA N ps scope) (hd:A.handled=none) (e0:Jz P w K mg base A outer s H) (hl:vs.length=ps.length) (r:A5 vs us)
    (x:InCallC s s.heap.objs.size (bindL (envOfC qual scope s.heap.objs.size f cd).kindOf (ps.zip us) fun _ => none) (cellsFrom (s.heap.objs.size + 1) scope.names []) (bindC (envOfC qual scope s.heap.objs.size f cd).kindOf (ps.zip us) fun _ => none) s1) :
    AL (DW CX P w K mg base N qual scope f cd A outer s H E) [] (start N vs) H s1:=by
  have hpl:ps.length≤N.length:=by have:=congrArg List.length S.pre; rw [List.length_take] at this; omega
  obtain ⟨h1,tk,rfl,hk⟩:=x.done
  have noA:∀ b:Addr,b ∉ (DW CX P w K mg base N qual scope f cd A outer s H E).ex:=fun b z => absurd (show b∈([]:List Addr) from z) (by simp)
  refine ⟨⟨e0.mod,S.kind,rfl,rfl,Nat.le_refl _,fun y z c h1 h2 => ?_,fun y hy => ?_,fun y c _ h => ?_,fun _ => hd,Around.frames_deeper e0.frames,.inr ⟨rfl,rfl⟩,fun b z => absurd z (noA b),e0.bs,e0.bsz,fun b _ _ => noA b,fun b z => absurd z (noA b),e0.funs,e0.frf⟩,
    rfl,e0.bare,Un.kept hk,⟨_,x.toInCall.ns,fun i y v h1 h2 h3 => ?_⟩,fun y c h => ⟨_,x.cell y c h⟩,e0.hok.fresh (Nat.le_refl _),fun y c h => ?_,fun p hp => absurd (show p∈([]:List (Addr×Obj)) from hp) (by simp),e0.hok.kept hk,?_⟩
  · exact name_of_addr x.apart (PySem.mem_of_lookup h1) (PySem.mem_of_lookup h2)
  · have hy:scope.names.lookup y=some .cell∨scope.names.lookup y=some .free:=hy
    rcases hy with hy | hy
    · exact LU hy
    · exact absurd rfl (S.nofree _ (PySem.mem_of_lookup hy))
  · exact Nat.le_of_lt (x.above y c (PySem.mem_of_lookup h))
  · have hi:i < vs.length:=by
      unfold start at h2
      by_cases hi:i < vs.length
      · exact hi
      · rw [List.getElem?_append_right (by simpa using hi)] at h2
        rw [List.getElem?_replicate] at h2
        split at h2 <;> cases h2
    have ha:vs[i]? = some v:=by
      unfold start at h2
      rw [List.getElem?_append_left (by simpa using hi),List.getElem?_map] at h2
      cases e:vs[i]? with
      | none => rw [e] at h2; cases h2
      | some a => rw [e] at h2; cases h2; rfl
    obtain ⟨u,hu,rv⟩:=r.get ha
    have hp:ps[i]? = some y:=by
      rw [← S.pre,List.getElem?_take_of_lt (by omega)]; exact h1
    have ndP:ps.Nodup:=by rw [← S.pre]; exact S.nd.sublist (List.take_sublist _ _)
    refine ⟨u,rv,?_⟩
    rcases S.par y (List.mem_of_getElem? hp) with k | k
    · exact .inl ⟨k,Ke ndP hp hu k⟩
    · obtain ⟨c,e⟩:=LU (n:=s.heap.objs.size + 1) k
      refine .inr ⟨.inl k,c,e,?_⟩
      have q:=x.cell y c e
      rw [Kg ndP hp hu (by show scope.names.lookup y≠_; rw [k]; decide)] at q
      exact q
  · exact e0.hok.fresh (Nat.le_of_lt (x.above y c (PySem.mem_of_lookup h)))
  · unfold start
    show _=N.length
    rw [List.length_append,List.length_map,List.length_replicate]
    omega
theorem fn_of {CX:JA} {P:Program} {w:World} {K:PySem.W.Frag} {mg:Str→Option Value} {base:Heap} {k:Nat} {f:Addr} {name qual:Str} {params:Arguments} {body:List Stmt} {scope:Scope} {dV kV doc pm cdv ct oc:Value} {an od:Option Addr}
    {osl:Array (Option Value)} {N ps:List Str} {sp:Sp} (lk:K.lookup f=some ⟨oc,od,.func (PySem.W.fnOf name qual params body scope dV kV doc pm an cdv ct),osl⟩) (hcd:PySem.W.codeIn K cdv qual=true) (S:AA N ps scope)
    (len:∀ vs H Q E,sp vs H Q E→vs.length=ps.length)
    (hbody:∀ (A:Around) (outer:List Env) (s:Shared) (H:Hp) (vs:List V) (Q:VK) (E:XK),Ca k (A.deeper (envOfC qual scope s.heap.objs.size f cdv))→sp vs H Q E →
      ∃ t,Jm (DW CX P w K mg base N qual scope f cdv A outer s H E) body t∧t { nx:=fun _ H' => Q .non H',rt:=Q } (start N vs) H) :
    AD P w K mg base CX (k + 1) f (PySem.W.fnOf name qual params body scope dV kV doc pm an cdv ct) ps sp:=by
  refine ⟨len,fun A outer s H args us vs Q E hr e0 hb r hsp => ?_⟩
  have hl:=len _ _ _ _ hsp
  have KX:K.In s.heap:=e0.mod.kin.keeps fun b o e => (e0.bs b o e).1
  have lim:s.heap.NoLimit:=e0.mod.nolimit.keeps fun b o e => (e0.bs b o e).1
  have hkind:∀ y∈ps.zip us,scope.names.lookup y.1=some .local∨(scope.names.lookup y.1=some .cell∧((cellsFrom (s.heap.objs.size + 1) scope.names []).lookup y.1).isSome=true):=fun ⟨n,v⟩ hy => by
    rcases S.par n (List.of_mem_zip hy).1 with q | q
    · exact .inl q
    · exact .inr ⟨q,PySem.W.cellsFrom_some _ _ _ (.inl q)⟩
  refine codeAny_call_function hr.depth (KX _ _ lk) rfl S.co S.gen rfl (PySem.W.codeRec_of KX hcd) (hb _ _ _ _ ?_)
  refine wpAny_newFunctionEnv_cells S.kind hkind fun env he s1 x => ?_
  subst he
  refine ⟨lim.keeps x.toInCall.keep,codeAny_func ?_⟩
  obtain ⟨t,ht,hq⟩:=hbody A outer s H vs Q E (hr.deeper _) hsp
  have I:AL (DW CX P w K mg base N qual scope f cdv A outer s H E) [] (start N vs) H s1:=JZ S hr.hd e0 hl r x
  refine wpAny_mono (ht [] s1 (start N vs) H _ I hq) (fun fl s' hs => ?_) fun e s' hs => hs
  have fin:∀ {σ':St} {H':Hp} {v:V} {u:Value},AL (DW CX P w K mg base N qual scope f cdv A outer s H E) [] σ' H' s'→Bx v u→Q v H'→CE outer P w H s Q u s' :=
    fun {σ' H' v u} J rv q => ⟨v,H',J.os,J.bare,J.base,J.hok,rv,q⟩
  cases fl with
  | ret u =>
    obtain ⟨v,σ',H',J,rv,q⟩:=hs
    exact fin J rv q
  | next =>
    obtain ⟨σ',H',J,q⟩:=hs
    exact fin (v:=V.non) (u:=Value.none) J rfl q
  | brk =>
    obtain ⟨_,_,_,q⟩:=hs
    exact False.elim q
  | cont =>
    obtain ⟨_,_,_,q⟩:=hs
    exact False.elim q
end L2
namespace L2
open PySem PySem.Spec PyProof.Rows
section
variable {X:Cx} {x:Str} {p pos:Pos} {e:Expr} {es:List Expr} {t:TA} {id T:String} {r:List V→Hp→VK→Prop}
def tCB (r:List V→Hp→VK→Prop) (t:TA):TE:=fun σ H Q => t σ H fun vs H1 => r vs H1 Q
theorem AG (hc:Hj X (.builtin id) r) (hg:Gl X x) (hm:X.mg x=none) (hv:bootBuiltins x=some (.builtin id)) (ha:PA X (e :: es) t) (hn:x≠"__name__" := by decide) (hdb:(x == ("__debug__" : Str))=false:=by decide)
    (he:starEach (e :: es) X.env=(false,eval e X.env) :: starEach es X.env:=by rfl) (hpl:(backTo pos (starEach es X.env)).any (·.1)=false:=by rfl):PE X (.Call (.Name x p) (e :: es) [] pos) (tCB r t):=by
  intro pins s σ H Q I h
  refine wpAny_Call_Name_kw (GR I hg hm hv ?_ hn hdb)
  exact PyProof.Rows.callWith_builtin1 (B0 (ha pos pins s σ H _ I h) fun us s1 ⟨vs,H1,I1,r1,q1⟩ => hc pins s1 σ H1 vs us Q I1 r1 q1) he hpl
theorem Ba (hc:Hj X (.type T) r) (hg:Gl X x) (hm:X.mg x=none) (hv:bootBuiltins x=some (.type T)) (ha:PA X (e :: es) t) (hn:x≠"__name__" := by decide) (hdb:(x == ("__debug__" : Str))=false:=by decide)
    (he:starEach (e :: es) X.env=(false,eval e X.env) :: starEach es X.env:=by rfl) (hpl:(backTo pos (starEach es X.env)).any (·.1)=false:=by rfl):PE X (.Call (.Name x p) (e :: es) [] pos) (tCB r t):=by
  intro pins s σ H Q I h
  refine wpAny_Call_Name_kw (GR I hg hm hv ?_ hn hdb)
  exact PyProof.Rows.callWith_type1 (B0 (ha pos pins s σ H _ I h) fun us s1 ⟨vs,H1,I1,r1,q1⟩ => hc pins s1 σ H1 vs us Q I1 r1 q1) he hpl
end
end L2
namespace HT
open PySem PyProof.Rows
section
open PySem.SeqAt
open PySem.AutoSeq1 (wpAny_loadPart')
open PySem.MeetsSeq PySem.MeetsSeq2 PySem.MeetsSeq3
end
section
variable {prog:Program} {w:World} {A:Around} {E:Value→Shared→Prop} {s:Shared}
theorem cat_tup {t b:Addr} {vs ws:List Value} {Q:Value→Shared→Prop} (ht:IsTup s.heap t vs.toArray) (hb:IsTup s.heap b ws.toArray) (hv:vs≠[])
    (h1:ws=[]→Q (.ref t) s) (h2:ws≠[]→Q (.ref s.heap.objs.size) { s with heap:=s.heap.push { cls:=.type "tuple",data:=.seq (vs ++ ws).toArray } })
    (hsz:vs.length + ws.length≤sizeLine):wpAny (model prog w) A (binaryOp .Add (.ref t) (.ref b)) Q E s:=by
  obtain ⟨⟨cls,dd,data,sl⟩,ho,hc,n,hd⟩:=id ht
  obtain ⟨⟨cls2,dd2,data2,sl2⟩,ho2,hc2,n2,hd2⟩:=id hb
  simp only at hc hd hc2 hd2
  subst hc hd hc2 hd2
  have e:vs.toArray ++ ws.toArray=(vs ++ ws).toArray:=by simp
  by_cases hw:ws=[]
  · exact concat_meets ⟨_,ho,rfl⟩ ⟨_,ho2,rfl⟩ noFill_tuple_add seq_tuple_add PySem.F.slot_tuple_add PySem.F.entry_tuple_add (PySem.F.args_tuple_add_2 _ _)
      (tuple_addW1 t b vs.toArray ws.toArray n n2 dd dd2 sl sl2 (by simpa using hv) (by simp [hw])) ⟨ho,ho2,h1 hw⟩
  · refine concat_meets ⟨_,ho,rfl⟩ ⟨_,ho2,rfl⟩ noFill_tuple_add seq_tuple_add PySem.F.slot_tuple_add PySem.F.entry_tuple_add (PySem.F.args_tuple_add_2 _ _)
      (tuple_addW2 t b vs.toArray ws.toArray n n2 dd dd2 sl sl2 (by simpa using hv) (by simpa using hw) (by rw [List.size_toArray,List.size_toArray]; exact hsz)) ⟨ho,ho2,?_⟩
    rw [e]
    exact h2 hw
def sIx (n d:Nat):Option Int→Nat
  | none => d
  | some v => if v < 0 then (v + (n:Int)).toNat else min v.toNat n
theorem sIx_none (n d:Nat):sIx n d none=d:=rfl
theorem sIx_nat (n d k:Nat):sIx n d (some (k:Int))=min k n:=by
  show (if (k:Int) < 0 then ((k:Int) + (n:Int)).toNat else min (k:Int).toNat n)=min k n
  rw [if_neg (by omega),Int.toNat_natCast]
end
end HT
namespace L2
open PySem PySem.Spec PyProof.Rows
abbrev TO:=St→Hp→(Option Int→Hp→Prop)→Prop
def PO (X:Cx) (e:Option Expr) (t:TO):Prop :=
  ∀ (pins:List (Addr×Obj)) (s:Shared) (σ : St) (H:Hp) (Q:Option Int→Hp→Prop),AL X pins σ H s→t σ H Q →
    wpAny (model X.prog X.w) X.A (evalPart e X.env) (fun u s' => ∃ o H',AL X pins σ H' s'∧IsPart u o∧Q o H') X.xe s
def PQ:TO:=fun _ H Q => Q none H
def tPart (t:TE):TO:=fun σ H Q => t σ H fun x H1 => ∃ i,x = .int i∧Q (some i) H1
theorem II {ns:List Int}:∀ {us:List Value},A5 (ns.map V.int) us→IntsAre us ns:=by
  induction ns with
  | nil => intro us r; rw [List.map_nil] at r; cases r; exact .nil
  | cons n ns ih =>
    intro us r
    rw [List.map_cons] at r
    cases r with
    | cons r1 r2 =>
      obtain ⟨t,e⟩:=r1
      subst e
      exact .cons n t (ih r2)
section
variable {X:Cx} {e:Expr} {te:TE} {lo hi:Option Expr} {tl th:TO} {pos p2:Pos}
theorem Eu:PO X none PQ:=by
  intro pins s σ H Q I h
  rw [evalPart_none]
  exact wpAny_pure ⟨none,H,I,.none,h⟩
theorem Et (h:PE X e te):PO X (some e) (tPart te):=by
  intro pins s σ H Q I hw
  rw [evalPart_some]
  refine B0 (h pins s σ H _ I hw) fun u s1 ⟨x,H1,I1,r1,q1⟩ => ?_
  obtain ⟨i,rfl,q⟩:=q1
  obtain ⟨t,rfl⟩:=r1
  exact ⟨some i,H1,I1,.int i t,q⟩
def SlR (X:Cx) (r:V→Option Int→Option Int→Hp→VK→Prop):Prop :=
  ∀ (pins:List (Addr×Obj)) (s:Shared) (σ : St) (H:Hp) (x:V) (v vl vu:Value) (lo hi:Option Int) (sl:Addr) (Q:VK),AL X pins σ H s→Bx x v→s.heap.IsSliceOf sl vl vu .none→IsPart vl lo→IsPart vu hi→r x lo hi H Q →
    ∃ T id,typeLookup (.type T) "__getitem__" = pure (some (.builtin id))∧s.TypeIs v T∧wpAny (model X.prog X.w) X.A (getItem v (.ref sl)) (EP X pins σ Q) X.xe s
def tSl (r:V→Option Int→Option Int→Hp→VK→Prop) (te:TE) (tl th:TO):TE:=fun σ H Q => te σ H fun x H1 => tl σ H1 fun l H2 => th σ H2 fun u H3 => r x l u H3 Q
theorem DG {r:V→Option Int→Option Int→Hp→VK→Prop} (hr:SlR X r) (he:PE X e te) (hl:PO X lo tl) (hu:PO X hi th):PE X (.Subscript e (.Slice lo hi none p2) pos) (tSl r te tl th):=by
  intro pins s σ H Q I h
  refine Subscript_ (B0 (he pins s σ H _ I h) fun v s1 ⟨x,H1,I1,r1,q1⟩ => ?_)
  refine wpAny_Slice (B0 (hl pins s1 σ H1 _ I1 q1) fun vl s2 ⟨l,H2,I2,pl,q2⟩ => B0 (hu pins s2 σ H2 _ I2 q2) fun vu s3 ⟨u,H3,I3,pu,q3⟩ => ?_)
  rw [evalPart_none]
  refine wpAny_pure ?_
  have I4:AL X pins σ H3 { s3 with heap:=s3.heap.push { cls:=.type "slice",data:=.fields #[vl,vu,.none] } }:=I3.kept (t':=s3.toks) fun b ob q => Heap.get?_push_of_some _ q
  obtain ⟨T,id,hT,ht,hg⟩:=hr pins { s3 with heap:=s3.heap.push { cls:=.type "slice",data:=.fields #[vl,vu,.none] } } σ H3 x v vl vu l u s3.heap.objs.size Q I4 r1 (Heap.IsSliceOf.new ..) pl pu q3
  show wpAny (model X.prog X.w) X.A (subscriptTail e (.Slice lo hi none p2) v (.ref s3.heap.objs.size)) (EP X pins σ Q) X.xe { s3 with heap:=s3.heap.push { cls:=.type "slice",data:=.fields #[vl,vu,.none] } }
  exact tail_any (ops:=[.ref s3.heap.objs.size,v]) ht hT hg (by with_unfolding_all rfl)
def Cs (xs:List V) (lo hi:Option Int):List V:=(xs.drop (HT.sIx xs.length 0 lo)).take (HT.sIx xs.length xs.length hi - HT.sIx xs.length 0 lo)
theorem LQ (xs:List V) (lo hi:Option Int):(Cs xs lo hi).length≤xs.length:=by
  unfold Cs
  rw [List.length_take,List.length_drop]
  omega
def rCatT (K:PySem.W.Frag):R2:=fun x y H Q => ∃ a b xs ys,x = .ref a∧y = .ref b∧A2 K H a xs∧A2 K H b ys∧xs≠[]∧xs.length + ys.length≤sizeLine ∧
  (ys=[]→Q (.ref a) H)∧(ys≠[]→∀ p,H p=none→Q (.ref p) (upd H p (.tup (xs ++ ys))))
theorem A5.nil_iff {xs:List V} {us:List Value} (r:A5 xs us):us=[] ↔ xs=[]:=by
  cases r with
  | nil => simp
  | cons _ _ => simp
theorem op_catT:Gz X (binaryOp .Add) (rCatT X.K):=by
  intro pins s σ H x y v u Q I rx ry h
  obtain ⟨a,b,xs,ys,rfl,rfl,ha,hb,hx,hz,q1,q2⟩:=h
  cases rx
  cases ry
  obtain ⟨its,r1,p1,_⟩:=I.tuple ha
  obtain ⟨its2,r2,p2,_⟩:=I.tuple hb
  refine HT.cat_tup p1 p2 (fun z => hx (r1.nil_iff.mp z)) (fun z => ⟨.ref a,H,I,rfl,q1 (r2.nil_iff.mp z)⟩) (fun z => ?_) (by rw [← r1.length,← r2.length]; exact hz)
  refine ⟨.ref s.heap.objs.size,_,I.laid (t':=s.toks) (o:=.tup (xs ++ ys)) (fun b ob q => Heap.get?_push_of_some _ q) (Nat.le_refl _) ?_,rfl,q2 (fun w => z (r2.nil_iff.mpr w)) _ (I.hok.fresh (Nat.le_refl _))⟩
  exact ⟨by rw [List.length_append]; exact hz,_,r1.append r2,IsTup.new _ _⟩
end
end L2
namespace L2
open PySem PySem.Spec PyProof.Rows
def O0 (n:Nat) (i:Int):Option Nat:=if 0≤i then (if i < n then some i.toNat else none) else if -(n:Int)≤i then some (i + n).toNat else none
def Jl {α : Type} (xs:List α) (i:Int):Option α:=(O0 xs.length i).bind fun j => xs[j]?
theorem MZ {n:Nat} {i:Int} {j:Nat} (h:O0 n i=some j):seqIndex? i n=some j∧j < n∧-(n:Int)≤i∧i < n:=by
  unfold O0 at h
  by_cases h0 : 0≤i
  · rw [if_pos h0] at h
    by_cases h1:i < n
    · rw [if_pos h1] at h
      have e:i.toNat=j:=Option.some.inj h
      exact ⟨by rw [seqIndex_of h0 h1,e],by omega,by omega,h1⟩
    · rw [if_neg h1] at h; cases h
  · rw [if_neg h0] at h
    by_cases h1 : -(n:Int)≤i
    · rw [if_pos h1] at h
      have e:(i + n).toNat=j:=Option.some.inj h
      exact ⟨by rw [seqIndex_neg (by omega) h1,e],by omega,h1,by omega⟩
    · rw [if_neg h1] at h; cases h
theorem Ni {α : Type} {xs:List α} {i:Int} {v : α} (h:Jl xs i=some v):∃ j,seqIndex? i xs.length=some j∧xs[j]? = some v∧j < xs.length∧-(xs.length:Int)≤i∧i < xs.length:=by
  unfold Jl at h
  cases e:O0 xs.length i with
  | none => rw [e] at h; cases h
  | some j =>
    rw [e] at h
    obtain ⟨h1,h2,h3,h4⟩:=MZ e
    exact ⟨j,h1,h,h2,h3,h4⟩
theorem BN {α : Type} {xs:List α} {j:Nat} {v : α} (h:xs[j]? = some v):Jl xs (j:Int)=some v:=by
  have hj:j < xs.length:=(List.getElem?_eq_some_iff.mp h).1
  have e:O0 xs.length (j:Int)=some j:=by
    unfold O0
    rw [if_pos (by omega),if_pos (by omega)]; simp
  unfold Jl; rw [e]; exact h
def PlainIx (b:Expr):Prop := ∀ o i,subscripted b false o i=operate [o,i] (getItem o i)
def IxR (X:Cx) (r:R2):Prop :=
  ∀ (value slice:Expr) (pins:List (Addr×Obj)) (s:Shared) (σ : St) (H:Hp) (x y:V) (v u:Value) (Q:VK),AL X pins σ H s→Bx x v→Bx y u→r x y H Q →
    subscripted slice false v u=operate [v,u] (getItem v u)→wpAny (model X.prog X.w) X.A (subscriptTail value slice v u) (EP X pins σ Q) X.xe s
def MtR (X:Cx) (id:String) (r:V→List V→Hp→VK→Prop):Prop :=
  ∀ (pins:List (Addr×Obj)) (s:Shared) (σ : St) (H:Hp) (x:V) (xs:List V) (v:Value) (us:List Value) (Q:VK),AL X pins σ H s→Bx x v→A5 xs us→r x xs H Q →
    wpAny (model X.prog X.w) X.A (call (.builtin id) (v :: us)) (EP X pins σ Q) X.xe s
section
variable {X:Cx} {a b:Expr} {ta tb:TE} {pos:Pos}
theorem An {r:R2} (hr:IxR X r) (ha:PE X a ta) (hb:PE X b tb) (hs:PlainIx b):PE X (.Subscript a b pos) (tOp r ta tb):=by
  intro pins s σ H Q I h
  exact Subscript_ (binT ha hb I h fun v u s2 x y H2 I2 rx ry q => hr a b pins s2 σ H2 x y v u Q I2 rx ry q (hs _ _))
def rIxL (K:PySem.W.Frag):R2:=fun x y H Q => ∃ p xs i v,x = .ref p∧y = .int i∧AE K H p xs∧Jl xs i=some v∧Q v H
def rIxT (K:PySem.W.Frag):R2:=fun x y H Q => ∃ p xs i v,x = .ref p∧y = .int i∧A2 K H p xs∧Jl xs i=some v∧Q v H
theorem Au:IxR X (rIxL X.K):=by
  intro value slice pins s σ H x y v u Q I rx ry h hs
  obtain ⟨p,xs,i,z,rfl,rfl,hq,he,q⟩:=h
  cases rx
  obtain ⟨t,rfl⟩:=ry
  obtain ⟨its,r,pl,hz⟩:=I.list hq
  obtain ⟨j,h1,h2,h3,h4,h5⟩:=Ni he
  obtain ⟨w,ew,rw'⟩:=r.get h2
  have hl:=r.length
  have hn:=KK
  have fin:EP X pins σ Q w s:=⟨z,H,I,rw',q⟩
  by_cases h0 : 0≤i
  · have hj:i.toNat=j:=by
      rw [seqIndex_of h0 h5] at h1
      exact Option.some.inj h1
    exact item_listR pl.isList h0 (by omega) (by rw [hj]; simpa using ew) fin hs
  · have hj:(i + (its.toArray.size:Int)).toNat=j:=by
      rw [seqIndex_neg (by omega) h4] at h1
      rw [List.size_toArray,← hl]
      exact Option.some.inj h1
    exact subscriptTail_builtinR (x:=w) pl.isList.typeIs slot_list_getitem.lookup
      (wpAny_getItem_list_neg (Q:=fun r s' => r=w∧EP X pins σ Q r s') pl.isList (by omega) (by rw [List.size_toArray] <;> omega) (by omega) (by rw [hj]; simpa using ew) ⟨rfl,fin⟩) hs
theorem Aw:IxR X (rIxT X.K):=by
  intro value slice pins s σ H x y v u Q I rx ry h hs
  obtain ⟨p,xs,i,z,rfl,rfl,hq,he,q⟩:=h
  cases rx
  obtain ⟨t,rfl⟩:=ry
  obtain ⟨its,r,pl,hz⟩:=I.tuple hq
  obtain ⟨j,h1,h2,h3,h4,h5⟩:=Ni he
  obtain ⟨w,ew,rw'⟩:=r.get h2
  have hl:=r.length
  have hn:=KK
  have fin:EP X pins σ Q w s:=⟨z,H,I,rw',q⟩
  exact subscriptTail_builtinR (x:=w) pl.typeIs slot_tuple_getitem.lookup
    (getItem_tuple (j:=j) (Q:=fun r s' => r=w∧EP X pins σ Q r s') pl (by omega) (by omega) (by rw [List.size_toArray,← hl]; exact h1) (by simpa using ew) ⟨rfl,fin⟩) hs
theorem Mn (its:List Value) (n j:Nat) (u:Value):Obj.mapSeq (·.setIfInBounds j u) { cls:=.type "list",data:=.seq its.toArray n } = { cls:=.type "list",data:=.seq (its.set j u).toArray n }:=by
  simp [Obj.mapSeq]
theorem AL.lst {pins:List (Addr×Obj)} {σ : St} {H:Hp} {s:Shared} {p:Addr} {xs:List V} (I:AL X pins σ H s) (h:H p=some (.lst xs)) :
    ∃ (its:List Value) (n:Nat),A5 xs its∧s.heap.get? p=some { cls:=.type "list",data:=.seq its.toArray n }∧xs.length≤sizeLine:=by
  obtain ⟨z,its,n,r,e⟩:=I.hok p _ h
  exact ⟨its,n,r,e,z⟩
theorem AL.lstUpd {pins:List (Addr×Obj)} {σ : St} {H:Hp} {s:Shared} {p:Addr} {xs ys:List V} {its its':List Value} {n n':Nat} {f:Obj→Obj} (I:AL X pins σ H s) (h:H p=some (.lst xs))
    (ho:s.heap.get? p=some { cls:=.type "list",data:=.seq its.toArray n }) (hf:f { cls:=.type "list",data:=.seq its.toArray n } = { cls:=.type "list",data:=.seq its'.toArray n' }) (r:A5 ys its') (hz:ys.length≤sizeLine) (t:Nat) :
    AL X pins σ (upd H p (.lst ys)) { s with heap:=s.heap.update p f,toks:=t }:=by
  have e:(s.heap.update p f).get? p=some { cls:=.type "list",data:=.seq its'.toArray n' }:=by
    rw [Heap.get?_update_self f ho (by rw [hf] <;> rfl),hf]
  refine I.write (x:=p) (e:=p) (by rw [h]; trivial) (.inl rfl) (fun b u hb q => (Heap.get?_update_other _ _ (Ne.symm hb)).trans q) ⟨_,e⟩ ?_
  exact ⟨hz,its',n',r,e⟩
def rSetL:V→V→V→Hp→(Hp→Prop)→Prop:=fun o i v H Q => ∃ p xs k j,o = .ref p∧i = .int k∧H p=some (.lst xs)∧O0 xs.length k=some j∧Q (upd H p (.lst (xs.set j v)))
theorem Ia:PSet X rSetL:=by
  intro pins s σ H o i v ov iv u Q I ro ri rv h
  obtain ⟨p,xs,k,j,rfl,rfl,hp,hj,q⟩:=h
  cases ro
  obtain ⟨t,rfl⟩:=ri
  obtain ⟨its,n,r,ho,hz⟩:=I.lst hp
  obtain ⟨h1,h2,h3,h4⟩:=MZ hj
  have hl:=r.length
  have hn:=KK
  have I':AL X pins σ (upd H p (.lst (xs.set j v))) { s with heap:=s.heap.update p (Obj.mapSeq (·.setIfInBounds j u)) } :=
    I.lstUpd hp ho (Mn its n j u) (r.set rv j) (by rw [List.length_set]; exact hz) s.toks
  by_cases h0 : 0≤k
  · have hk:k.toNat=j:=by
      rw [seqIndex_of h0 h4] at h1
      exact Option.some.inj h1
    exact PySem.W.ki_setAt ho h0 (by omega) (by rw [List.size_toArray,← hl]; exact h4) (by rw [hk]; exact ⟨_,I',q⟩)
  · have hk:(k + (its.toArray.size:Int)).toNat=j:=by
      rw [seqIndex_neg (by omega) h3] at h1
      rw [List.size_toArray,← hl]
      exact Option.some.inj h1
    exact PySem.W.ki_setBack ho (by omega) (by rw [List.size_toArray,← hl]; exact h3) (by omega) (by rw [hk]; exact ⟨_,I',q⟩)
theorem Ku (lo hi:Option Int) (n:Nat):(sliceBounds lo hi none n).1=((HT.sIx n 0 lo:Nat):Int)∧(sliceBounds lo hi none n).2.1=((HT.sIx n n hi:Nat):Int)∧(sliceBounds lo hi none n).2.2=1:=by
  refine ⟨?_,?_,rfl⟩
  · cases lo with
    | none => simp [sliceBounds,HT.sIx]
    | some i =>
      simp only [sliceBounds,HT.sIx,Option.getD_none,show (1:Int) > 0 by decide,if_true]
      by_cases h:i < 0
      · simp only [h,if_true] <;> omega
      · simp only [h,if_false] <;> omega
  · cases hi with
    | none => simp [sliceBounds,HT.sIx]
    | some i =>
      simp only [sliceBounds,HT.sIx,Option.getD_none,show (1:Int) > 0 by decide,if_true]
      by_cases h:i < 0
      · simp only [h,if_true] <;> omega
      · simp only [h,if_false] <;> omega
theorem Jo (its:List Value) (lo hi:Option Int):slicePick its.toArray lo hi none=((its.drop (HT.sIx its.length 0 lo)).take (HT.sIx its.length its.length hi - HT.sIx its.length 0 lo)).toArray:=by
  obtain ⟨h1,h2,h3⟩:=Ku lo hi its.toArray.size
  unfold slicePick
  rw [h1,h2,h3]
  simp only [sliceRange_one,pick_run,List.size_toArray] <;> rfl
def rSlL (K:PySem.W.Frag):V→Option Int→Option Int→Hp→VK→Prop:=fun x lo hi H Q => ∃ a xs,x = .ref a∧AE K H a xs∧∀ p,H p=none→Q (.ref p) (upd H p (.lst (Cs xs lo hi)))
theorem Eh:SlR X (rSlL X.K):=by
  intro pins s σ H x v vl vu lo hi sl Q I rx hs pl pu h
  obtain ⟨a,xs,rfl,hx,q⟩:=h
  cases rx
  obtain ⟨its,r,ht,hz⟩:=I.list hx
  have hlen:=r.length
  refine ⟨"list",_,slot_list_getitem.lookup,ht.isList.typeIs,?_⟩
  refine wpAny_getItem_list_slice ht.isList hs pl pu .none (by simp) ?_ (by rw [List.size_toArray] <;> omega)
  rw [Jo,← hlen]
  refine ⟨.ref s.heap.objs.size,_,I.laid (t':=s.toks) (o:=.lst (Cs xs lo hi)) (fun b ob q => Heap.get?_push_of_some _ q) (Nat.le_refl _) ?_,rfl,q _ (I.hok.fresh (Nat.le_refl _))⟩
  exact ⟨Nat.le_trans (LQ xs lo hi) hz,_,0,(r.drop (HT.sIx xs.length 0 lo)).take (HT.sIx xs.length xs.length hi - HT.sIx xs.length 0 lo),Heap.get?_push_size _ rfl⟩
def Gu:V→Bool
  | .non => true
  | .bl _ => true
  | .int _ => true
  | .str _ => true
  | _ => false
def eqV:V→V→Bool
  | .non,.non => true
  | .bl a,.bl b => a == b
  | .bl a,.int b => (if a then 1 else 0) == b
  | .int a,.bl b => a == (if b then 1 else 0)
  | .int a,.int b => a == b
  | .str a,.str b => a == b
  | _,_ => false
theorem eqAt_V {A:Around} {s:Shared} {y x:V} {u v:Value} (ry:Bx y u) (rx:Bx x v) (fy:Gu y=true) (fx:Gu x=true):SeqAt.EqAt A s u v (eqV y x):=by
  cases y with
  | non =>
    cases ry
    cases x with
    | non => cases rx; exact SeqAt.EqAt.same _
    | bl b => cases rx; exact SeqAt.EqAt.none_bool b
    | int b => obtain ⟨t,rfl⟩:=rx; exact SeqAt.EqAt.none_int b t
    | str b => obtain ⟨t,rfl⟩:=rx; exact SeqAt.EqAt.none_str b t
    | _ => exact absurd (show false=true from fx) Bool.false_ne_true
  | bl a =>
    cases ry
    cases x with
    | non => cases rx; exact SeqAt.EqAt.bool_none a
    | bl b => cases rx; exact SeqAt.EqAt.bool_bool a b
    | int b => obtain ⟨t,rfl⟩:=rx; exact SeqAt.EqAt.bool_int a b t
    | str b => obtain ⟨t,rfl⟩:=rx; exact SeqAt.EqAt.bool_str a b t
    | _ => exact absurd (show false=true from fx) Bool.false_ne_true
  | int a =>
    obtain ⟨t',rfl⟩:=ry
    cases x with
    | non => cases rx; exact SeqAt.EqAt.int_none a t'
    | bl b => cases rx; exact SeqAt.EqAt.int_bool a t' b
    | int b => obtain ⟨t,rfl⟩:=rx; exact SeqAt.EqAt.int_int a t' b t
    | str b => obtain ⟨t,rfl⟩:=rx; exact SeqAt.EqAt.int_str a t' b t
    | _ => exact absurd (show false=true from fx) Bool.false_ne_true
  | str a =>
    obtain ⟨t',rfl⟩:=ry
    cases x with
    | non => cases rx; exact SeqAt.EqAt.str_none a t'
    | bl b => cases rx; exact SeqAt.EqAt.str_bool a t' b
    | int b => obtain ⟨t,rfl⟩:=rx; exact SeqAt.EqAt.str_int a t' b t
    | str b => obtain ⟨t,rfl⟩:=rx; exact SeqAt.EqAt.str_str a t' b t
    | _ => exact absurd (show false=true from fx) Bool.false_ne_true
  | _ => exact absurd (show false=true from fy) Bool.false_ne_true
def Mv (x:V) (u:Value):Bool:=match u with
  | .none => eqV .non x
  | .bool b => eqV (.bl b) x
  | .int i _ => eqV (.int i) x
  | .str z _ => eqV (.str z) x
  | _ => false
theorem Pm {x y:V} {u:Value} (r:Bx y u) (f:Gu y=true):Mv x u=eqV y x:=by
  cases y with
  | non => cases r; rfl
  | bl b => cases r; rfl
  | int i => obtain ⟨t,rfl⟩:=r; rfl
  | str z => obtain ⟨t,rfl⟩:=r; rfl
  | _ => exact absurd (show false=true from f) Bool.false_ne_true
theorem Gy {x:V}:∀ {xs:List V} {us:List Value},A5 xs us→xs.all Gu=true→us.any (Mv x)=xs.any fun y => eqV y x
  | _,_,.nil,_ => rfl
  | y :: xs,u :: us,.cons r t,f => by
    rw [List.all_cons,Bool.and_eq_true] at f
    rw [List.any_cons,List.any_cons,Pm r f.1,Gy t f.2]
theorem E1 {A:Around} {s:Shared} {x:V} {v:Value} (rx:Bx x v) (fx:Gu x=true):∀ {xs:List V} {us:List Value},A5 xs us→xs.all Gu=true→∀ u∈us,SeqAt.EqAt A s u v (Mv x u)
  | _,_,.nil,_ => fun u hu => by cases hu
  | y :: xs,u :: us,.cons r t,f => fun u' hu => by
    rw [List.all_cons,Bool.and_eq_true] at f
    rcases List.mem_cons.mp hu with rfl | hu
    · rw [Pm r f.1]; exact eqAt_V r rx f.1 fx
    · exact E1 rx fx t f.2 u' hu
def Hc (x:V) (xs:List V):Bool:=xs.any fun y => eqV y x
def rIn (K:PySem.W.Frag) (neg:Bool):R2:=fun x y H Q => ∃ p xs,y = .ref p∧(AE K H p xs∨A2 K H p xs)∧Gu x=true∧xs.all Gu=true∧Q (.bl (if neg then !Hc x xs else Hc x xs)) H
theorem BB:Gz X (compareOp .In) (rIn X.K false):=by
  intro pins s σ H x y v u Q I rx ry h
  obtain ⟨p,xs,rfl,hq,fx,fs,q⟩:=h
  cases ry
  rcases hq with hq | hq
  · obtain ⟨its,r,pl,hz⟩:=I.list hq
    refine SeqAt.in_listAt (Mv x) pl.isList (fun w hw => E1 rx fx r fs w (by simpa using hw)) ⟨.bl _,H,I,rfl,?_⟩
    rw [show its.toArray.any (Mv x)=its.any (Mv x) by simp,Gy r fs]
    exact q
  · obtain ⟨its,r,pl,hz⟩:=I.tuple hq
    refine SeqAt.in_tupleAt (Mv x) pl (fun w hw => E1 rx fx r fs w (by simpa using hw)) ⟨.bl _,H,I,rfl,?_⟩
    rw [show its.toArray.any (Mv x)=its.any (Mv x) by simp,Gy r fs]
    exact q
theorem Ew:Gz X (compareOp .NotIn) (rIn X.K true):=by
  intro pins s σ H x y v u Q I rx ry h
  obtain ⟨p,xs,rfl,hq,fx,fs,q⟩:=h
  cases ry
  rcases hq with hq | hq
  · obtain ⟨its,r,pl,hz⟩:=I.list hq
    refine SeqAt.notIn_listAt (Mv x) pl.isList (fun w hw => E1 rx fx r fs w (by simpa using hw)) ⟨.bl _,H,I,rfl,?_⟩
    rw [show its.toArray.any (Mv x)=its.any (Mv x) by simp,Gy r fs]
    exact q
  · obtain ⟨its,r,pl,hz⟩:=I.tuple hq
    refine SeqAt.notIn_tupleAt (Mv x) pl (fun w hw => E1 rx fx r fs w (by simpa using hw)) ⟨.bl _,H,I,rfl,?_⟩
    rw [show its.toArray.any (Mv x)=its.any (Mv x) by simp,Gy r fs]
    exact q
theorem At:Hj X (.builtin "len") (fun xs H Q => ∃ p ys,xs=[.ref p]∧(AE X.K H p ys∨A2 X.K H p ys)∧Q (.int ys.length) H):=by
  intro pins s σ H xs us Q I r h
  obtain ⟨p,ys,rfl,hq,q⟩:=h
  obtain ⟨u,rfl,rx⟩:=N6 r
  cases rx
  have hn:=KK
  rcases hq with hq | hq
  · obtain ⟨its,r',pl,hz⟩:=I.list hq
    have hlen:=r'.length
    exact Calls.call_len_list pl.isList (by simp only [List.size_toArray] <;> omega) ⟨.int ys.length,H,I.tok _,⟨s.toks + 1,by rw [List.size_toArray,hlen]⟩,q⟩
  · obtain ⟨its,r',pl,hz⟩:=I.tuple hq
    have hlen:=r'.length
    exact len_tuple pl (by simp only [List.size_toArray] <;> omega) ⟨.int ys.length,H,I.tok _,⟨s.toks + 1,by rw [List.size_toArray,hlen]⟩,q⟩
theorem Bw:Hj X (.type "list") (fun xs H Q => ∃ p ys,xs=[.ref p]∧(AE X.K H p ys∨A2 X.K H p ys)∧∀ l,H l=none→Q (.ref l) (upd H l (.lst ys))):=by
  intro pins s σ H xs us Q I r h
  obtain ⟨p,ys,rfl,hq,q⟩:=h
  obtain ⟨u,rfl,rx⟩:=N6 r
  cases rx
  have fin:∀ (its:List Value),A5 ys its→ys.length≤sizeLine→∀ (h':Heap) (c':Nat),(∀ b o',s.heap.get? b=some o'→h'.get? b=some o') →
      h'.get? s.heap.objs.size=some { cls:=.type "list",dict:=none,data:=.seq its.toArray c',slots := #[] }→EP X pins σ Q (.ref s.heap.objs.size) { s with heap:=h' }:=fun its r' hz h' c' kp e =>
    ⟨.ref s.heap.objs.size,_,I.laid (t':=s.toks) kp (Nat.le_refl _) (show Bl X.prog X.w _ h' _ (.lst ys) from ⟨hz,its,c',r',e⟩),rfl,q _ (I.hok.fresh (Nat.le_refl _))⟩
  rcases hq with hq | hq
  · obtain ⟨its,r',pl,hz⟩:=I.list hq
    have hlen:=r'.length
    obtain ⟨o,ho,hc,n,hd⟩:=pl.isList
    exact call_list_seq p (.inl rfl) ho hc hd (fun h' c' kp e => fin its r' hz h' c' kp e) (by simp only [List.size_toArray] <;> omega)
  · obtain ⟨its,r',pl,hz⟩:=I.tuple hq
    have hlen:=r'.length
    obtain ⟨o,ho,hc,n,hd⟩:=pl
    exact call_list_seq p (.inr rfl) ho hc hd (fun h' c' kp e => fin its r' hz h' c' kp e) (by simp only [List.size_toArray] <;> omega)
theorem Bv:Hj X (.type "tuple") (fun xs H Q => ∃ p ys,xs=[.ref p]∧((AE X.K H p ys∧∀ l,H l=none→Q (.ref l) (upd H l (.tup ys)))∨(A2 X.K H p ys∧Q (.ref p) H))):=by
  intro pins s σ H xs us Q I r h
  obtain ⟨p,ys,rfl,h⟩:=h
  obtain ⟨u,rfl,rx⟩:=N6 r
  cases rx
  rcases h with ⟨hq,q⟩ | ⟨hq,q⟩
  · obtain ⟨its,r',pl,hz⟩:=I.list hq
    have hlen:=r'.length
    refine call_tuple_list pl.isList (fun h' kp => ?_) (by simp only [List.size_toArray] <;> omega)
    have I1:AL X pins σ H { s with heap:=h' }:=I.kept (t':=s.toks) kp
    have I2:AL X pins σ (upd H h'.objs.size (.tup ys)) { s with heap:=h'.push { cls:=.type "tuple",data:=.seq its.toArray } } :=
      I1.laid (t':=s.toks) (fun b o e => Heap.get?_push_of_some _ e) (Nat.le_refl _) (show Bl X.prog X.w _ _ _ (.tup ys) from ⟨hz,its,r',IsTup.new _ _⟩)
    exact ⟨.ref h'.objs.size,_,I2,rfl,q _ (I1.hok.fresh (Nat.le_refl _))⟩
  · obtain ⟨its,r',pl,hz⟩:=I.tuple hq
    exact call_tuple_same pl ⟨.ref p,H,I,rfl,q⟩
def tyV (K:PySem.W.Frag) (T:String) (x:V) (H:Hp):Prop:=match x with
  | .str _ => T = "str"
  | .int _ => T = "int"
  | .ref p => (T = "list"∧∃ xs,AE K H p xs)∨(T = "tuple"∧∃ o,K.lookup p=some o∧o.cls = .type "tuple"∧o.dict=none) ∨
      (T = "dict"∧((∃ kvs,H p=some (.dK kvs))∨∃ kvs,H p=some (.dT kvs)))∨(T = "set"∧∃ S n,H p=some (.set S n))
  | _ => False
theorem tyV_is {pins:List (Addr×Obj)} {σ : St} {H:Hp} {s:Shared} {T:String} {x:V} {v:Value} (I:AL X pins σ H s) (r:Bx x v) (ty:tyV X.K T x H) :
    s.TypeIs v T∧∀ a,v = .ref a→∃ ob,s.heap.get? a=some ob∧ob.dict=none:=by
  cases x with
  | str z =>
    obtain ⟨t,rfl⟩:=r
    cases (show T = "str" from ty)
    exact ⟨typeIs_str s z t,fun _ e => nomatch e⟩
  | int i =>
    obtain ⟨t,rfl⟩:=r
    cases (show T = "int" from ty)
    exact ⟨typeIs_int s i t,fun _ e => nomatch e⟩
  | ref p =>
    cases r
    rcases ty with ⟨rfl,xs,hq⟩ | ⟨rfl,o,hk,hc,hd⟩ | ⟨rfl,hk⟩ | ⟨rfl,S,n,hk⟩
    · obtain ⟨its,_,pl,_⟩:=I.list hq
      refine ⟨pl.isList.typeIs,fun a e => ?_⟩
      cases e
      obtain ⟨o,n,e,c,hd,_⟩:=pl
      exact ⟨o,e,hd⟩
    · refine ⟨⟨o,I.kIn p o hk,hc⟩,fun a e => ?_⟩
      cases e
      exact ⟨o,I.kIn _ o hk,hd⟩
    · have z:∃ o,s.heap.get? p=some o∧o.ExactDict:=by
        rcases hk with ⟨kvs,hk⟩ | ⟨kvs,hk⟩
        · obtain ⟨_,_,_,_,o,_,_,e,ex,_⟩:=I.hok p _ hk
          exact ⟨o,e,ex⟩
        · obtain ⟨_,_,_,_,o,_,_,e,ex,_⟩:=I.hok p _ hk
          exact ⟨o,e,ex⟩
      obtain ⟨o,e,ex⟩:=z
      refine ⟨⟨o,e,ex.1⟩,fun a e2 => ?_⟩
      cases e2
      exact ⟨o,e,ex.2.1⟩
    · obtain ⟨o,_,_,_,e,ex,_⟩:=I.hok p _ hk
      refine ⟨⟨o,e,ex.1⟩,fun a e2 => ?_⟩
      cases e2
      exact ⟨o,e,ex.2.1⟩
  | _ => exact False.elim ty
def tBM (K:PySem.W.Frag) (T:String) (r:V→List V→Hp→VK→Prop) (to:TE) (t:TA):TE:=fun σ H Q => to σ H fun x H1 => tyV K T x H1∧t σ H1 fun xs H2 => r x xs H2 Q
variable {o e:Expr} {es:List Expr} {to:TE} {t:TA} {name:Str} {apos cpos:Pos} {T id:String} {r:V→List V→Hp→VK→Prop}
theorem BC (pa:PlainAttrs T) (slot:Slot T name id) (hty:typeOf (.builtin id)=pure (.type "method_descriptor")) (hm:MtR X id r) (ho:PE X o to) (ha:PA X (e :: es) t)
    (hbase:attributeBase o name X.env (eval o X.env)=eval o X.env:=by rfl)
    (hfew:((backTo cpos (starEach (e :: es) X.env)).all (fun x => !x.1) && (backToKw cpos (keywordEach [] X.env)).all (fun x => x.1.isSome)
      && decide ((e :: es).length + ([]:List Keyword).length + (if ([]:List Keyword).isEmpty then 0 else 1) < 30))=true:=by rfl)
    (hline:(apos.endLine == cpos.line)=true:=by rfl) (hs:starEach (e :: es) X.env=(false,eval e X.env) :: starEach es X.env:=by rfl) (hplain:(backTo cpos (starEach es X.env)).any (·.1)=false:=by rfl) :
    PE X (.Call (.Attribute o name apos) (e :: es) [] cpos) (tBM X.K T r to t):=by
  intro pins s σ H Q I h
  refine wpAny_Call_method_late hbase hfew hline rfl (B0 (ho pins s σ H _ I h) fun v s1 ⟨x,H1,I1,r1,ty,q1⟩ => ?_)
  obtain ⟨h1,h2⟩:=tyV_is I1 r1 ty
  refine ⟨T,id,pa,slot,hty,h1,h2,?_⟩
  have hA:=ha cpos pins s1 σ H1 _ I1 q1
  rw [hs] at hA ⊢
  refine Calls.callWith_builtin (by show (false || (backTo cpos (starEach es X.env)).any (·.1))=false; rw [hplain] <;> rfl) (Calls.evalArgs_plain ?_)
  exact B0 hA fun us s2 ⟨vs,H2,I2,r2,q2⟩ => hm pins s2 σ H2 x vs v us Q I2 r1 r2 q2
end
end L2
namespace L2
open PySem PySem.Spec PyProof.Rows
def MtM (X:Cx) (id:String) (r:V→List V→Hp→VK→Prop):Prop :=
  ∀ (pins:List (Addr×Obj)) (s:Shared) (σ : St) (H:Hp) (x:V) (xs:List V) (v:Value) (us:List Value) (Q:VK),AL X pins σ H s→Bx x v→A5 xs us→r x xs H Q →
    wpAny (model X.prog X.w) X.A (call (.builtin id) (v :: us)) (EP X pins σ Q) X.xe s
theorem A5.one:∀ {x:V} {us:List Value},A5 [x] us→∃ u,us=[u]∧Bx x u
  | _,_,.cons r .nil => ⟨_,rfl,r⟩
theorem A5.two:∀ {x y:V} {us:List Value},A5 [x,y] us→∃ u v,us=[u,v]∧Bx x u∧Bx y v
  | _,_,_,.cons r (.cons q .nil) => ⟨_,_,rfl,r,q⟩
section
variable {X:Cx} {pins:List (Addr×Obj)} {σ : St} {H:Hp} {s:Shared} {l b:Addr} {xs ys zs:List V}
theorem AL.lset {its its':List Value} {n:Nat} {f:Array Value→Array Value} {t':Nat} (I:AL X pins σ H s) (hH:H l=some (.lst xs))
    (e:s.heap.get? l=some { cls:=.type "list",data:=.seq its.toArray n }) (hf:f its.toArray=its'.toArray) (hv:A5 ys its') (hz:ys.length≤sizeLine) :
    AL X pins σ (upd H l (.lst ys)) { s with heap:=s.heap.update l (Obj.mapSeq f),toks:=t' }:=by
  have q:=PySem.IsL.update e f
  rw [hf] at q
  refine I.write (x:=l) (e:=l) (by rw [hH]; exact trivial) (.inl rfl) (fun b' u hb hu => (Heap.get?_update_other s.heap (Obj.mapSeq f) (Ne.symm hb)).trans hu) ⟨_,q⟩ ?_
  exact ⟨hz,its',_,hv,q⟩
theorem AL.lnew {its:List Value} {t':Nat} (I:AL X pins σ H s) (hv:A5 ys its) (hz:ys.length≤sizeLine) :
    AL X pins σ (upd H s.heap.objs.size (.lst ys)) { s with heap:=s.heap.push { cls:=.type "list",data:=.seq its.toArray },toks:=t' } :=
  I.laid (fun _ _ q => Heap.get?_push_of_some _ q) (Nat.le_refl _) ⟨hz,its,0,hv,Heap.get?_push_size _ rfl⟩
theorem AL.fresh (I:AL X pins σ H s):H s.heap.objs.size=none:=I.hok.fresh (Nat.le_refl _)
theorem AL.lstM (I:AL X pins σ H s) (hH:H l=some (.lst xs)):xs.length≤sizeLine∧∃ (its:List Value) (n:Nat),A5 xs its∧xs.length=its.length∧s.heap.get? l=some { cls:=.type "list",data:=.seq its.toArray n }:=by
  obtain ⟨z,its,n,r,e⟩:=I.hok l _ hH
  exact ⟨z,its,n,r,r.length,e⟩
theorem OP {n:Nat} (h:n≤sizeLine):Builtin.List.listTooLong n=false:=by
  unfold Builtin.List.listTooLong
  exact decide_eq_false (by omega)
end
section
variable {X:Cx}
def Hz:V→List V→Hp→VK→Prop:=fun x vs H Q => ∃ l xs y,x = .ref l∧vs=[y]∧H l=some (.lst xs)∧xs.length < sizeLine∧Q .non (upd H l (.lst (xs ++ [y])))
theorem AU:MtM X "list.append" Hz:=by
  intro pins s σ H x vs v us Q I rx rv h
  obtain ⟨l,xs,y,rfl,rfl,hH,hz,q⟩:=h
  cases rx
  obtain ⟨u,rfl,ru⟩:=rv.one
  obtain ⟨z,its,n,r,hl,e⟩:=I.lstM hH
  refine call_meets F.slot_list_append ⟨_,e,rfl⟩ F.entry_list_append (F.args_list_append_2 _ _) (PySem.list_append l its.toArray n u (by rw [List.size_toArray]; omega)) ⟨e,?_⟩
  refine ⟨.non,_,I.lset (its':=its ++ [u]) hH e (by simp) (r.append (.cons ru .nil)) ?_,rfl,q⟩
  rw [List.length_append,List.length_singleton]
  omega
def P7:V→List V→Hp→VK→Prop:=fun x vs H Q => ∃ l b xs zs,x = .ref l∧vs=[.ref b]∧H l=some (.lst xs)∧H b=some (.lst zs)∧xs.length + zs.length≤sizeLine∧Q .non (upd H l (.lst (xs ++ zs)))
theorem NH:MtM X "list.extend" P7:=by
  intro pins s σ H x vs v us Q I rx rv h
  obtain ⟨l,b,xs,zs,rfl,rfl,hH,hB,hz,q⟩:=h
  cases rx
  obtain ⟨u,rfl,ru⟩:=rv.one
  cases ru
  obtain ⟨z,its,n,r,hl,e⟩:=I.lstM hH
  obtain ⟨z2,its2,n2,r2,hl2,e2⟩:=I.lstM hB
  have hsz:its.toArray.size + its2.toArray.size≤sizeLine:=by rw [List.size_toArray,List.size_toArray]; omega
  have hlong:¬ (!its.toArray.isEmpty && Builtin.List.listTooLong (its.toArray.size + its2.toArray.size))=true:=by
    rw [OP hsz,Bool.and_false]
    exact Bool.false_ne_true
  refine call_meets F.slot_list_extend ⟨_,e,rfl⟩ F.entry_list_extend (F.args_list_extend_2 _ _)
    (AutoSeq1.list_extend_list_list_0 l its.toArray n b its2.toArray n2 hlong (by rw [List.size_toArray]; omega) (by omega)) ⟨e,e2,?_⟩
  refine ⟨.non,_,I.lset (its':=its ++ its2) hH e (by simp) (r.append r2) ?_,rfl,q⟩
  rw [List.length_append]
  omega
def rCat:R2:=fun x y H Q => ∃ l b xs zs,x = .ref l∧y = .ref b∧H l=some (.lst xs)∧H b=some (.lst zs)∧xs.length + zs.length≤sizeLine∧∀ p,H p=none→Q (.ref p) (upd H p (.lst (xs ++ zs)))
theorem Ix:Gz X (binaryOp .Add) rCat:=by
  intro pins s σ H x y v u Q I rx ry h
  obtain ⟨l,b,xs,zs,rfl,rfl,hH,hB,hz,q⟩:=h
  cases rx
  cases ry
  obtain ⟨z,its,n,r,hl,e⟩:=I.lstM hH
  obtain ⟨z2,its2,n2,r2,hl2,e2⟩:=I.lstM hB
  refine PySem.P.add_list e e2 ?_ (by rw [List.size_toArray,List.size_toArray]; omega)
  have ea:its.toArray ++ its2.toArray=(its ++ its2).toArray:=by simp
  rw [ea]
  exact ⟨.ref _,_,I.lnew (t':=s.toks) (r.append r2) (by rw [List.length_append]; omega),rfl,q _ I.fresh⟩
end
section
variable {prog:Program} {w:World} {A:Around} {E:Value→Shared→Prop} {s:Shared}
end
section
variable {X:Cx}
end
end L2
namespace Att
open PySem PySem.W PySem.Calls PyProof.Rows
theorem Hn {P:Params} {h:Heap}:∀ (ns:List Int) (vs:List Value),WellAll P h vs (ns.map WData.int)→IntsAre vs ns:=by
  intro ns
  induction ns with
  | nil =>
    intro vs w
    rw [List.map_nil] at w
    cases w
    exact .nil
  | cons n ns ih =>
    intro vs w
    rw [List.map_cons] at w
    cases w with
    | cons a b =>
      cases a
      exact .cons _ _ (ih _ b)
theorem Nt {l:OpenLaw} {n:Nat} (hn:l.most=some n) {P:Params} {h:Heap} {args:List WData} {vals:List Value}
    (hpre:l.row.toRowW.claim.pre args=true) (hwl:WellAll P h vals args) :
    ∃ a vs ns,vals=[Value.ref a]∧args=[WData.list (ns.map WData.int)]∧h.get? a=some { cls:=.type "list",data:=.seq vs.toArray }∧IntsAre vs ns∧ns.length≤n:=by
  have hsh:WShape.hasAll [] args [.list .int] = true:=(pre_splitW hpre).1
  have hc:l.pre.holds [] { args:=args } = true:=(pre_splitW hpre).2
  obtain ⟨d,r,rfl,h1,h2⟩:=hasAllW_cons hsh
  obtain rfl:=hasAllW_nil h2
  obtain ⟨xs,rfl,h3⟩:=hasW_list h1
  obtain ⟨ns,rfl⟩:=items_int h3
  have hlen:ns.length≤n:=by
    unfold OpenLaw.pre at hc
    have h4:(WTm.not (.lt (.lit (.int (n:Int))) (.len (.arg 0)))).holds [] { args:=[.list (ns.map .int)] } = true:=by
      have h4:=(holds_andW hc).1
      rw [hn] at h4
      exact h4
    have h5:=condW_of h4 (w_not (w_lt w_lit (w_len_list (w_arg rfl))))
    rw [List.length_map] at h5
    refine Nat.le_of_not_lt fun q => ?_
    have q':(n:Int) < ((ns.length:Nat):Int):=by omega
    first
      | (rw [decide_eq_true q'] at h5; exact absurd h5 (by decide))
      | (simp at h5; omega)
  cases hwl with
  | cons w1 w2 =>
    cases w2
    cases w1 with
    | list ho hall => exact ⟨_,_,ns,rfl,rfl,ho,Hn ns _ hall,hlen⟩
theorem Nx (l:OpenLaw) (args:List WData):l.row.toRowW.claim.post args (.bool true) args=true :=
  postW_of (r:=l.row.toRowW) (X:=(true == true))
    (show WShape.has [] (.bool true) .bool=true by first | rfl | decide | simp [WShape.has,WShape.arms,WShape.armsAll])
    (show (WTm.eq .res (.lit (.bool true))).value [] { args:=args,res:=some (.bool true),after:=args } = some (.bool (true == true)) from w_eq_bool (w_res rfl) w_lit) rfl
theorem attach_call {l:OpenLaw} {n:Nat} {q:Program} {loose:List Str} {XP:(Str→Option Value)→Heap→Prop} {YP:World→Heap→Prop} {d:DefRec}
    (hn:l.most=some n) (hdf:d.params.defaults=[])
    (call:∀ (w:World) (s₀ s₁:Shared) (mg mb:Str→Option Value) (fa:Addr) (o:Obj) (pm cd doc:Value) (a:Addr) (vs:List Value) (ns:List Int),
      Ground q loose [] XP w s₀ mg mb s₁.heap→YP w s₁.heap →
      s₁.heap.get? fa=some o→o.data = .func (docDef d.name d.params d.body d.scope pm cd doc)→s₁.heap.CodeRec cd d.name→mg d.name=some (.ref fa) →
      s₁.heap.get? a=some { cls:=.type "list",data:=.seq vs.toArray }→IntsAre vs ns→ns.length≤n→s₁.gens = #[] →
      codeAny (model l.prog w) callerA (.call (.ref fa) ⟨[.ref a],[]⟩) (fun r s' => r = .ok (.ret (.bool true))∧OldK s₁.heap s'.heap∧s'.os=s₁.os∧AllBare s'.gens) s₁) :
    WalkO q loose XP YP l.row.toRowW d [] (fun f vs => PySem.call f vs):=by
  intro w s₀ s₁ mg mb G Y fa o pm cd doc dV kV ho hd hcd hD hmg hg args vals as hpre hlay hrd hwl hlo
  obtain rfl:dV = .none:=Dflts.none hD hdf
  obtain rfl:kV = .none:=Dflts.noKw hD
  obtain ⟨a,vs,ns,rfl,rfl,hobj,hints,hlen⟩:=Nt hn hpre hwl
  refine enter_call (codeAny_mono (call w s₀ s₁ mg mb fa o pm cd doc a vs ns G Y ho (fd_plain hd) hcd hmg hobj hints hlen hg) fun r s' hq => ?_)
  obtain ⟨rfl,h2,h3,h4⟩:=hq
  exact ⟨.inl ⟨.bool true,.bool true,[],rfl,fun _ => rfl,.bool true,Nx l _,fun _ => ⟨List.Pairwise.nil,fun _ hm => (nomatch hm)⟩⟩,h2,h3,h4⟩
section
variable {prog:Program} {w:World} {A:Around} {E:Value→Shared→Prop} {s:Shared} {K:Frag}
end
end Att
namespace L2
open PySem PySem.Spec PyProof.Rows
theorem GE:∀ {vs:List Value} {ns:List Int},IntsAre vs ns→A5 (ns.map V.int) vs
  | _,_,.nil => .nil
  | _,_,.cons n t h => .cons ⟨t,rfl⟩ (GE h)
def Only (H:Hp):Prop := ∀ b,H b=none∨∃ o xs,H b=some (.frz o (.lst xs))
theorem OW {P:Program} {w:World} {K:PySem.W.Frag} {mg mb:Str→Option Value} {CX:JA} {k:Nat} {fa a:Addr} {fd:FuncData} {x:Str} {sp:Sp} {s₁:Shared} {vs:List Value} {ns:List Int}
    (KX:K.In s₁.heap) (hns:s₁.heap.Ns mainGlobals mg) (hb:s₁.heap.Ns builtinsNs mb) (hbb:∀ x:Str,x≠"__name__"→mb x=bootBuiltins x) (hlim:s₁.heap.NoLimit) (hg:s₁.gens = #[])
    (ha:s₁.heap.get? a=some { cls:=.type "list",data:=.seq vs.toArray }) (hi:IntsAre vs ns) (hl:ns.length≤sizeLine) (hr:Ca k callerA)
    (F:∀ base:Heap,K.In base→base.Ns mainGlobals mg→AD P w K mg base CX k fa fd [x] sp) (hbind:∀ (s:Shared) (u:Value),BindsTo s fd ⟨[u],[]⟩ [(x,u)])
    (hsp:∀ H:Hp,Only H→AE K H a (ns.map V.int)→sp [.ref a] H (fun v _ => v = .bl true) fun _ _ _ => False)
    (hCX:∀ H e s',CX [] H s₁ (fun _ _ _ => False) e s'→False) :
    codeAny (model P w) callerA (.call (.ref fa) ⟨[.ref a],[]⟩) (fun r s' => r = .ok (.ret (.bool true))∧OldK s₁.heap s'.heap∧s'.os=s₁.os∧AllBare s'.gens) s₁:=by
  have rv:=GE hi
  have lenV:=hi.length
  have core:∀ H:Hp,Only H→AE K H a (ns.map V.int)→Hr P w H s₁.heap→(∀ b,H b≠none→b=a)→(H a≠none→K.lookup a=none) →
      codeAny (model P w) callerA (.call (.ref fa) ⟨[.ref a],[]⟩) (fun r s' => r = .ok (.ret (.bool true))∧OldK s₁.heap s'.heap∧s'.os=s₁.os∧AllBare s'.gens) s₁:=by
    intro H hO hS hok hA hK
    have base_of:∀ {b:Addr} {o:Obj},s₁.heap.get? b=some o→H b=none→(KP s₁.heap H).get? b=some o:=fun e n => O2 e n
    have noA:∀ {b:Addr} {o:Obj} {es:Array DictEntry} {ep:Nat},s₁.heap.get? b=some o→o.data = .dict es ep→H b=none:=fun {b o es ep} e d => by
      cases q:H b with
      | none => rfl
      | some u =>
        have e':b=a:=hA b (by rw [q]; simp)
        subst e'
        rw [ha] at e; cases e
        have d':Data.seq vs.toArray _=Data.dict es ep:=d
        cases d'
    have nsK:∀ {b:Addr} {m:Str→Option Value},s₁.heap.Ns b m→(KP s₁.heap H).Ns b m:=fun {b m} ⟨o,es,ep,e,d,r⟩ => ⟨o,es,ep,base_of e (noA e d),d,r⟩
    have hKb:K.In (KP s₁.heap H):=fun b o e => base_of (KX b o e) (by
      cases q:H b with
      | none => rfl
      | some u =>
        have e':b=a:=hA b (by rw [q]; simp)
        subst e'
        rw [hK (by rw [q]; simp)] at e; cases e)
    have hM:Mod K mg (KP s₁.heap H):=⟨hKb,nsK hns,⟨mb,nsK hb,hbb⟩,let ⟨mc,h1,h2⟩:=hlim; ⟨mc,nsK h1,h2⟩⟩
    have e0:Jz P w K mg (KP s₁.heap H) callerA [] s₁ H:=⟨rfl,hM,fun b o e => of_hidT e,Nat.le_of_eq (NO _ _),trivial,fun b hb => absurd (show b∈([]:List Addr) from hb) (by simp),hok,.of_eq hg⟩
    refine codeAny_mono ((F _ hKb (nsK hns)).run callerA [] s₁ H ⟨[.ref a],[]⟩ [.ref a] [.ref a] _ _ hr e0 (hbind s₁ (.ref a)) (.cons rfl .nil) (hsp H hO hS)) fun r s' h => ?_
    cases r with
    | error e => exact (hCX H e s' h).elim
    | ok fl =>
      cases fl with
      | next => exact False.elim h
      | brk => exact False.elim h
      | cont => exact False.elim h
      | ret u =>
        obtain ⟨v,H',os,bare,un,hok',r',q⟩:=h
        have q':v = .bl true:=q
        subst q'
        obtain rfl:u=Value.bool true:=r'
        refine ⟨rfl,OldK.of_keep fun b o e => ?_,os,bare⟩
        cases q:H b with
        | none => exact un.keep b o e q (by intro z; exact absurd (show b∈([]:List Addr) from z) (by simp)) (by simp)
        | some u =>
          rcases hO b with z | ⟨ob,xs,z⟩
          · rw [q] at z; cases z
          · have z2:=un.frzs b ob _ z
            obtain ⟨e1,_⟩:=hok b _ z
            obtain ⟨e2,_⟩:=hok' b _ z2
            rw [e] at e1; cases e1
            exact e2
  cases hk:K.lookup a with
  | some o =>
    have e:=KX a o hk
    rw [ha] at e
    cases e
    refine core (fun _ => none) (fun _ => .inl rfl) (.inr ⟨_,vs.toArray,_,hk,rfl,rfl,rfl,by rw [List.size_toArray,lenV]; exact hl,by simpa using rv⟩) (fun b u z => by have z':(none:Option HO)=some u:=z; cases z') (fun b z => absurd rfl z) fun z => absurd rfl z
  | none =>
    refine core (fun b => if b=a then some (.frz { cls:=.type "list",data:=.seq vs.toArray } (.lst (ns.map V.int))) else none) (fun b => ?_) (.inl (.inr ⟨{ cls:=.type "list",data:=.seq vs.toArray },if_pos rfl⟩)) (fun b u z => ?_) (fun b z => ?_) fun _ => hk
    · by_cases hb:b=a
      · exact .inr ⟨_,_,if_pos hb⟩
      · exact .inl (if_neg hb)
    · by_cases hb:b=a
      · have z':=(if_pos hb).symm.trans z
        cases z'
        subst hb
        exact ⟨ha,by rw [List.length_map]; exact hl,vs,_,rv,ha⟩
      · have z':=(if_neg hb).symm.trans z
        cases z'
    · by_cases hb:b=a
      · exact hb
      · exact absurd (if_neg hb) z
end L2
namespace L2
open PySem PySem.Spec PyProof.Rows
theorem walk_of {l:PySem.W.OpenLaw} {n k:Nat} {q:Program} {loose:List Str} {XP:(Str→Option Value)→Heap→Prop} {YP:World→Heap→Prop} {d:DefRec} {K:Params→PySem.W.Frag} {CX:World→JA} {sp:World→Sp} {x:Str}
    (hn:l.most=some n) (hn2:n≤sizeLine) (hdf:d.params.defaults=[]) (hr:Ca k callerA)
    (hY:∀ (w:World) (h:Heap),YP w h→(K w.params).In h)
    (F:∀ (w:World) (mg:Str→Option Value) (fa:Addr) (h:Heap),(K w.params).In h→h.Ns mainGlobals mg→mg d.name=some (.ref fa) →
      ∃ fd:FuncData,(∀ (s:Shared) (u:Value),BindsTo s fd ⟨[u],[]⟩ [(x,u)]) ∧
        ∀ base:Heap,(K w.params).In base→base.Ns mainGlobals mg→AD l.prog w (K w.params) mg base (CX w) k fa fd [x] (sp w))
    (hsp:∀ (w:World) (H:Hp) (a:Addr) (ns:List Int),ns.length≤n→Only H→AE (K w.params) H a (ns.map V.int)→sp w [.ref a] H (fun v _ => v = .bl true) fun _ _ _ => False)
    (hCX:∀ (w:World) (H:Hp) (s:Shared) (e:Value) (s':Shared),CX w [] H s (fun _ _ _ => False) e s'→False) :
    PySem.W.WalkO q loose XP YP l.row.toRowW d [] (fun f vs => PySem.call f vs):=by
  refine Att.attach_call hn hdf fun w s₀ s₁ mg mb fa o pm cd doc a vs ns G Y ho hd hcd hmg hobj hints hlen hg => ?_
  have KX:=hY w _ Y
  obtain ⟨fd,hb,hF⟩:=F w mg fa _ KX G.T.g hmg
  exact OW KX G.T.g G.T.b G.T.builtins G.T.nolimit hg hobj hints (Nat.le_trans hlen hn2) hr hF hb (fun H hO hS => hsp w H a ns hlen hO hS) fun H e s' => hCX w H s₁ e s'
end L2
namespace L2
open PySem PySem.Spec PyProof.Rows
def KO (s:Stmt) (j:Nat):Stmt:=match s with
  | .ClassDef _ _ _ body _ _ _ _ _ _ _ => body.getD j (.Pass ⟨0,0,0,0⟩)
  | _ => .Pass ⟨0,0,0,0⟩
def AC (s:Stmt):Arguments:=match s with
  | .FunctionDef _ a _ _ _ _ _ _ _ _ => a
  | _ => { posonlyargs:=[],args:=[],vararg:=none,kwonlyargs:=[],kw_defaults:=[],kwarg:=none,defaults:=[] }
def Az (s:Stmt):List Stmt:=match s with
  | .FunctionDef _ _ b _ _ _ _ _ _ _ => b
  | _ => []
def Ae (s:Stmt):Scope:=match s with
  | .FunctionDef _ _ _ _ _ _ sc _ _ _ => sc
  | _ => { kind:=.function,names:=[],isGenerator:=false,isCoroutine:=false }
abbrev A9:JA:=fun _ _ _ _ _ _ => False
abbrev E0:XK:=fun _ _ _ => False
theorem AF {X:Cx}:GZ A9 X E0:=fun _ _ _ _ _ _ _ h => h.elim
structure Nk (K:PySem.W.Frag) (x qual:Str) (st:Stmt) (f:Addr) (fd:FuncData):Prop where
  ex:∃ (oc:Value) (od:Option Addr) (kV doc pm:Value) (an:Option Addr) (cdv ct:Value) (osl:Array (Option Value)),
    fd=PySem.W.fnOf x qual (AC st) (Az st) (Ae st) .none kV doc pm an cdv ct∧K.lookup f=some ⟨oc,od,.func fd,osl⟩∧PySem.W.codeIn K cdv qual=true
  kp:PySem.W.keepIn K (.ref f)=true
section
variable {P:Program} {w:World} {K:PySem.W.Frag} {mg:Str→Option Value} {base:Heap}
theorem Nk.ok {x qual:Str} {st:Stmt} {f:Addr} {fd:FuncData} {N ps:List Str} {k:Nat} {sp:Sp} (F:Nk K x qual st f fd) (S:AA N ps (Ae st)) (len:∀ vs H Q E,sp vs H Q E→vs.length=ps.length)
    (hbody:∀ (cdv:Value) (A:Around) (outer:List Env) (s:Shared) (H:Hp) (vs:List V) (Q:VK) (E:XK),Ca k (A.deeper (envOfC qual (Ae st) s.heap.objs.size f cdv))→sp vs H Q E →
      ∃ t,Jm (DW A9 P w K mg base N qual (Ae st) f cdv A outer s H E).nox (Az st) t∧t { nx:=fun _ H' => Q .non H',rt:=Q } (start N vs) H):AD P w K mg base A9 (k + 1) f fd ps sp:=by
  obtain ⟨oc,od,kV,doc,pm,an,cdv,ct,osl,rfl,lk,hcd⟩:=F.ex
  refine fn_of lk hcd S len fun A outer s H vs Q E hr hsp => ?_
  obtain ⟨t,h,q⟩:=hbody cdv A outer s H vs Q E hr hsp
  exact ⟨t,h.nox,q⟩
theorem Nk.binds {x qual:Str} {st:Stmt} {f:Addr} {fd:FuncData} {ps:List Str} (F:Nk K x qual st f fd)
    (h:∀ (kV doc pm:Value) (an:Option Addr) (cdv ct:Value) (us:List Value),us.length=ps.length→bindArgs (PySem.W.fnOf x qual (AC st) (Az st) (Ae st) .none kV doc pm an cdv ct) ⟨us,[]⟩ = pure (ps.zip us)):C8 K fd ps []:=by
  obtain ⟨oc,od,kV,doc,pm,an,cdv,ct,osl,rfl,lk,hcd⟩:=F.ex
  exact .all (h kV doc pm an cdv ct)
theorem AQ {x qual:Str} {st:Stmt} {f:Addr} {oc:Value} {od an:Option Addr} {osl:Array (Option Value)} {kV doc pm cdv ct:Value} (l:K.lookup f=some ⟨oc,od,.func (PySem.W.fnOf x qual (AC st) (Az st) (Ae st) .none kV doc pm an cdv ct),osl⟩)
    (c:PySem.W.codeIn K cdv qual=true) (k:PySem.W.keepIn K (.ref f)=true):Nk K x qual st f (PySem.W.fnOf x qual (AC st) (Az st) (Ae st) .none kV doc pm an cdv ct):=⟨⟨oc,od,kV,doc,pm,an,cdv,ct,osl,rfl,l,c⟩,k⟩
end
theorem Av {n:Nat} (h:n≤1000):n < sizeLine:=Nat.lt_of_le_of_lt h (by decide)
section
variable {X:Cx}
theorem pv (i:Nat) {x:Str} {pos:Pos} (hN:X.N[i]? = some x:=by rfl) (hv:Vis X.env.scope x:=by first | exact Or.inl rfl | exact Or.inr (Or.inl rfl) | exact Or.inr (Or.inr rfl)) (hd:(x == ("__debug__" : Str))=false:=by decide)
    (hcd:(x == ("__classdict__" : Str))=false:=by decide):PE X (.Name x pos) (DT i):=pe_var hN hv hd hcd
end
theorem A1 {A B:Prop} (h:B):if false=true then A else B:=by
  rw [if_neg Bool.false_ne_true]
  exact h
theorem Bi {A B:Prop} (h:A):if true=true then A else B:=by
  rw [if_pos rfl]
  exact h
theorem GS {c A B:Prop} [Decidable c] (h1:c→A) (h2:¬ c→B):if c then A else B:=by
  by_cases h:c
  · rw [if_pos h]
    exact h1 h
  · rw [if_neg h]
    exact h2 h
theorem Gj {c A B:Prop} [Decidable c] (hc:c) (h:B):if (!decide c)=true then A else B:=by
  rw [decide_eq_true hc]
  exact A1 h
def Ao (H H':Hp):Prop := ∀ b o,H b=some o→H' b=some o
theorem Ao.refl (H:Hp):Ao H H:=fun _ _ h => h
theorem Ao.trans {H H1 H2:Hp} (a:Ao H H1) (b:Ao H1 H2):Ao H H2:=fun c o h => b c o (a c o h)
theorem Ao.free {H H':Hp} (e:Ao H H') {l:Addr} (h:H' l=Option.none):H l=Option.none:=by
  cases q:H l with
  | none => rfl
  | some o =>
    rw [e l o q] at h
    cases h
theorem Ao.seq {K:PySem.W.Frag} {H H':Hp} {a:Addr} {xs:List V} (e:Ao H H') (h:AE K H a xs):AE K H' a xs:=by
  rcases h with (h | ⟨o,h⟩) | h
  · exact .inl (.inl (e _ _ h))
  · exact .inl (.inr ⟨o,e _ _ h⟩)
  · exact .inr h
end L2
set_option linter.all false
namespace Rm
def hold (hs:List Int) (i:Nat):Int:=hs.getD i (-1)
structure Tree (hs:List Int):Prop where
  pos : 0 < hs.length
  root:hold hs 0 = -1
  up:∀ i:Nat,0 < i→i < hs.length→0≤hold hs i∧hold hs i < (i:Int)
def kids (hs:List Int) (k:Int):List Int:=((List.range hs.length).filter fun j => decide (hold hs j=k)).map fun (j:Nat) => (j:Int)
def chain (hs:List Int) (i:Nat):List Nat :=
  if h : 0≤hold hs i∧hold hs i < (i:Int) then i :: chain hs (hold hs i).toNat else [i]
termination_by i
decreasing_by omega
theorem chain_up {hs:List Int} {i:Nat} (h : 0≤hold hs i∧hold hs i < (i:Int)):chain hs i=i :: chain hs (hold hs i).toNat:=by
  rw [chain,dif_pos h]
theorem chain_top {hs:List Int} {i:Nat} (h:¬ 0≤hold hs i):chain hs i=[i]:=by
  rw [chain,dif_neg fun z => h z.1]
theorem chain_self (hs:List Int) (i:Nat):i∈chain hs i:=by
  rw [chain]; split <;> exact List.mem_cons_self
theorem chain_le {hs:List Int} {j:Nat}:∀ i:Nat,j∈chain hs i→j≤i:=by
  intro i
  induction i using Nat.strongRecOn with
  | ind i ih =>
    intro h
    by_cases z : 0≤hold hs i∧hold hs i < (i:Int)
    · rw [chain_up z] at h
      rcases List.mem_cons.mp h with h | h
      · omega
      · have:=ih (hold hs i).toNat (by omega) h
        omega
    · rw [chain,dif_neg z] at h
      have:=List.mem_singleton.mp h
      omega
def wi (hs:List Int) (i j:Nat):Bool:=decide (j∈chain hs i)
theorem wi_step {hs:List Int} {p j:Nat} (h : 0≤hold hs p∧hold hs p < (p:Int)) (hj:j < p):wi hs p j=wi hs (hold hs p).toNat j:=by
  unfold wi
  rw [chain_up h]
  refine decide_eq_decide.mpr ⟨fun z => ?_,fun z => List.mem_cons_of_mem _ z⟩
  rcases List.mem_cons.mp z with z | z
  · omega
  · exact z
theorem wi_end {hs:List Int} {p j:Nat} (hj:p≤j):wi hs p j=decide (p=j):=by
  unfold wi
  refine decide_eq_decide.mpr ⟨fun z => ?_,fun z => z ▸ chain_self hs p⟩
  have:=chain_le p z
  omega
theorem hold_lt {hs:List Int} (T:Tree hs) {i:Nat} (hi:i < hs.length):hold hs i < (i:Int):=by
  by_cases h:i=0
  · subst h; rw [T.root]; decide
  · exact (T.up i (by omega) hi).2
theorem hold_get {hs:List Int} {i:Nat} (hi:i < hs.length):hs[i]? = some (hold hs i):=by
  unfold hold
  rw [List.getD_eq_getElem?_getD,List.getElem?_eq_getElem hi]; rfl
theorem OX {hs:List Int} {k:Int}:kids hs k=[] ↔ ∀ j:Nat,j < hs.length→hold hs j≠k:=by
  unfold kids
  rw [List.map_eq_nil_iff,List.filter_eq_nil_iff]
  refine ⟨fun h j hj e => h j (List.mem_range.mpr hj) (decide_eq_true e),fun h j hj e => h j (List.mem_range.mp hj) (of_decide_eq_true e)⟩
theorem range_filter_succ (p:Nat→Bool) (i:Nat):(List.range (i + 1)).filter p=(List.range i).filter p ++ (if p i=true then [i] else []):=by
  rw [List.range_succ,List.filter_append]
  cases h:p i <;> simp [h]
def cell (ns:List Int) (k:Nat):Int:=ns.getD k 0
def lh (ns:List Int) (k:Nat):Int:=if k=0 then -1 else cell ns k % (k:Int)
def holders (ns:List Int) (m:Nat):List Int:=(List.range m).map (lh ns)
theorem holders_len (ns:List Int) (m:Nat):(holders ns m).length=m:=by simp [holders]
theorem holders_hold {ns:List Int} {m i:Nat} (hi:i < m):hold (holders ns m) i=lh ns i:=by
  unfold hold holders
  rw [List.getD_eq_getElem?_getD,List.getElem?_map,List.getElem?_range hi]; rfl
theorem holders_tree (ns:List Int) {m:Nat} (hm : 0 < m):Tree (holders ns m):=by
  refine ⟨by rw [holders_len]; exact hm,?_,fun i h0 hi => ?_⟩
  · rw [holders_hold hm]; rfl
  · rw [holders_len] at hi
    rw [holders_hold hi]
    unfold lh
    rw [if_neg (by omega)]
    exact ⟨Int.emod_nonneg _ (by omega),Int.emod_lt_of_pos _ (by omega)⟩
theorem holders_succ (ns:List Int) (m:Nat):holders ns (m + 1)=holders ns m ++ [lh ns m]:=by
  unfold holders
  rw [List.range_succ,List.map_append]; rfl
theorem mem_holders {ns:List Int} {m:Nat} {k:Int}:k∈holders ns m ↔ kids (holders ns m) k≠[]:=by
  rw [Ne,OX]
  constructor
  · intro h z
    obtain ⟨j,hj,e⟩:=List.mem_map.mp h
    have hj:=List.mem_range.mp hj
    exact z j (by rw [holders_len]; exact hj) (by rw [holders_hold hj]; exact e)
  · intro h
    refine Classical.byContradiction fun z => h fun j hj e => z ?_
    rw [holders_len] at hj
    rw [holders_hold hj] at e
    exact List.mem_map.mpr ⟨j,List.mem_range.mpr hj,e⟩
end Rm
namespace Rm
theorem tail_lt {hs:List Int} {i j:Nat} (h:j∈(chain hs i).tail):j < i:=by
  by_cases z : 0≤hold hs i∧hold hs i < (i:Int)
  · rw [chain_up z] at h
    have:=chain_le _ h
    omega
  · rw [chain,dif_neg z] at h
    simp at h
def li (hs:List Int) (i j:Nat):Bool:=decide (j∈(chain hs i).tail)
theorem li_eq (hs:List Int) (i j:Nat):li hs i j=(!decide (i=j) && wi hs i j):=by
  have hc:chain hs i=i :: (chain hs i).tail:=by rw [chain]; split <;> rfl
  unfold li wi
  by_cases e:i=j
  · subst e
    have:¬ i∈(chain hs i).tail:=fun z => absurd (tail_lt z) (Nat.lt_irrefl _)
    simp [this]
  · have:j∈chain hs i ↔ j∈(chain hs i).tail:=by
      rw [hc]
      refine ⟨fun z => ?_,fun z => List.mem_cons_of_mem _ z⟩
      rcases List.mem_cons.mp z with z | z
      · exact absurd z.symm e
      · exact z
    simp [e,this]
def upper (hs:List Int) (h:Int):List Nat:=if 0≤h then chain hs h.toNat else []
theorem upper_neg (hs:List Int):upper hs (-1)=[]:=rfl
theorem tail_upper {hs:List Int} (T:Tree hs) {i:Nat} (hi:i < hs.length):(chain hs i).tail=upper hs (hold hs i):=by
  unfold upper
  by_cases z : 0≤hold hs i
  · rw [if_pos z,chain_up ⟨z,hold_lt T hi⟩]; rfl
  · rw [if_neg z,chain_top z]; rfl
theorem upper_step {hs:List Int} (T:Tree hs) {i:Nat} (hi:i < hs.length):upper hs (i:Int)=i :: upper hs (hold hs i):=by
  rw [← tail_upper T hi]
  unfold upper
  rw [if_pos (by omega),Int.toNat_natCast]
  rw [chain]; split <;> rfl
end Rm
namespace Rm
def kidsN (hs:List Int) (k:Nat):List Nat:=(List.range hs.length).filter fun j => decide (hold hs j=(k:Int))
theorem kids_kidsN (hs:List Int) (k:Nat):kids hs (k:Int)=(kidsN hs k).map fun (j:Nat) => (j:Int):=rfl
theorem mem_kidsN {hs:List Int} {j k:Nat}:j∈kidsN hs k ↔ j < hs.length∧hold hs j=(k:Int):=by
  unfold kidsN
  rw [List.mem_filter,List.mem_range,decide_eq_true_eq]
theorem kidsN_nodup (hs:List Int) (k:Nat):(kidsN hs k).Nodup:=List.Pairwise.filter _ List.nodup_range
theorem kid_gt {hs:List Int} (T:Tree hs) {j k:Nat} (h:j∈kidsN hs k):k < j:=by
  obtain ⟨h1,h2⟩:=mem_kidsN.mp h
  have:=hold_lt T h1
  omega
structure Pick (hs:List Int) (ch:Nat→List Nat):Prop where
  sub:∀ r,∀ c∈ch r,c∈kidsN hs r
  nd:∀ r,(ch r).Nodup
def ent (ch:Nat→List Nat):Nat→Nat→List Nat
  | 0,r => [r]
  | f + 1,r => r :: (ch r).flatMap (ent ch f)
theorem chain_mono {hs:List Int} {a b:Nat}:∀ k:Nat,a∈chain hs k→b∈chain hs k→a≤b→a∈chain hs b:=by
  intro k
  induction k using Nat.strongRecOn with
  | ind k ih =>
    intro ha hb hab
    by_cases z : 0≤hold hs k∧hold hs k < (k:Int)
    · rw [chain_up z] at hb
      rcases List.mem_cons.mp hb with e | hb
      · rw [e]; exact ha
      · rw [chain_up z] at ha
        rcases List.mem_cons.mp ha with e | ha
        · have:=chain_le _ hb
          omega
        · exact ih _ (by omega) ha hb hab
    · rw [chain,dif_neg z] at hb
      rw [List.mem_singleton.mp hb]; exact ha
theorem chain_kid {hs:List Int} (T:Tree hs) {c r:Nat} (h:c∈kidsN hs r):chain hs c=c :: chain hs r:=by
  obtain ⟨h1,h2⟩:=mem_kidsN.mp h
  have:=kid_gt T h
  rw [chain_up ⟨by omega,by omega⟩,h2,Int.toNat_natCast]
theorem chain_trans {hs:List Int} {a b:Nat}:∀ k:Nat,a∈chain hs b→b∈chain hs k→a∈chain hs k:=by
  intro k
  induction k using Nat.strongRecOn with
  | ind k ih =>
    intro ha hb
    by_cases z : 0≤hold hs k∧hold hs k < (k:Int)
    · rw [chain_up z] at hb
      rcases List.mem_cons.mp hb with e | hb
      · rw [← e]; exact ha
      · rw [chain_up z]; exact List.mem_cons_of_mem _ (ih _ (by omega) ha hb)
    · rw [chain,dif_neg z] at hb
      rw [← List.mem_singleton.mp hb]; exact ha
theorem ent_sub {hs:List Int} {ch:Nat→List Nat} (T:Tree hs) (P:Pick hs ch):∀ (f r k:Nat),r < hs.length→k∈ent ch f r→k < hs.length∧r∈chain hs k
  | 0,r,k,hr,h => by
    rw [List.mem_singleton.mp h]; exact ⟨hr,chain_self hs r⟩
  | f + 1,r,k,hr,h => by
    rcases List.mem_cons.mp h with e | h
    · rw [e]; exact ⟨hr,chain_self hs r⟩
    · obtain ⟨c,hc,hk⟩:=List.mem_flatMap.mp h
      have hc':=P.sub r c hc
      obtain ⟨a,b⟩:=ent_sub T P f c k (mem_kidsN.mp hc').1 hk
      refine ⟨a,chain_trans k ?_ b⟩
      rw [chain_kid T hc']; exact List.mem_cons_of_mem _ (chain_self hs r)
theorem ent_nodup {hs:List Int} {ch:Nat→List Nat} (T:Tree hs) (P:Pick hs ch):∀ (f r:Nat),r < hs.length→(ent ch f r).Nodup
  | 0,r,_ => by simp [ent]
  | f + 1,r,hr => by
    show (r :: (ch r).flatMap (ent ch f)).Nodup
    refine List.nodup_cons.mpr ⟨fun h => ?_,?_⟩
    · obtain ⟨c,hc,hk⟩:=List.mem_flatMap.mp h
      have hc':=P.sub r c hc
      have:=(ent_sub T P f c r (mem_kidsN.mp hc').1 hk).2
      have:=chain_le _ this
      have:=kid_gt T hc'
      omega
    · show List.Pairwise _ _
      rw [List.pairwise_flatMap]
      refine ⟨fun c hc => ent_nodup T P f c (mem_kidsN.mp (P.sub r c hc)).1,?_⟩
      refine (P.nd r).imp_of_mem fun {a b} ha hb hab x hx y hy e => ?_
      subst e
      have a':=P.sub r a ha
      have b':=P.sub r b hb
      have ca:=(ent_sub T P f a x (mem_kidsN.mp a').1 hx).2
      have cb:=(ent_sub T P f b x (mem_kidsN.mp b').1 hy).2
      have ga:=kid_gt T a'
      have gb:=kid_gt T b'
      rcases Nat.le_total a b with l | l
      · have:=chain_mono x ca cb l
        rw [chain_kid T b'] at this
        rcases List.mem_cons.mp this with e | e
        · exact hab e
        · have:=chain_le _ e
          omega
      · have:=chain_mono x cb ca l
        rw [chain_kid T a'] at this
        rcases List.mem_cons.mp this with e | e
        · exact hab e.symm
        · have:=chain_le _ e
          omega
theorem ent_len {hs:List Int} {ch:Nat→List Nat} (T:Tree hs) (P:Pick hs ch) (f r:Nat) (hr:r < hs.length):(ent ch f r).length≤hs.length:=by
  have h:=(ent_nodup T P f r hr).length_le_of_subset (l₂:=List.range hs.length) fun k hk => List.mem_range.mpr (ent_sub T P f r k hr hk).1
  rwa [List.length_range] at h
def kb (ok:Nat→Nat→Bool) (hs:List Int) (k:Nat):Bool :=
  if h : 0≤hold hs k∧hold hs k < (k:Int) then kb ok hs (hold hs k).toNat && ok (hold hs k).toNat k else decide (k=0)
termination_by k
decreasing_by omega
theorem kb_root {ok:Nat→Nat→Bool} {hs:List Int} (T:Tree hs):kb ok hs 0=true:=by
  rw [kb,dif_neg (by rw [T.root]; decide)]; rfl
theorem kb_up {ok:Nat→Nat→Bool} {hs:List Int} (T:Tree hs) {k:Nat} (h0 : 0 < k) (hk:k < hs.length):kb ok hs k=(kb ok hs (hold hs k).toNat && ok (hold hs k).toNat k):=by
  rw [kb,dif_pos (T.up k h0 hk)]
theorem ent_next {hs:List Int} {ch:Nat→List Nat} (T:Tree hs) (P:Pick hs ch):∀ (f r p k:Nat),r < hs.length→hs.length≤f + r→p∈ent ch f r→k∈ch p→k∈ent ch f r
  | 0,r,p,k,hr,hf,_,_ => absurd hr (by omega)
  | f + 1,r,p,k,hr,hf,hp,hk => by
    rcases List.mem_cons.mp hp with e | hp
    · subst e
      refine List.mem_cons_of_mem _ (List.mem_flatMap.mpr ⟨k,hk,?_⟩)
      cases f with
      | zero => exact List.mem_singleton.mpr rfl
      | succ f => exact List.mem_cons_self
    · obtain ⟨c,hc,hp⟩:=List.mem_flatMap.mp hp
      have hc':=P.sub r c hc
      have:=kid_gt T hc'
      exact List.mem_cons_of_mem _ (List.mem_flatMap.mpr ⟨c,hc,ent_next T P f c p k (mem_kidsN.mp hc').1 (by omega) hp hk⟩)
theorem ent_back {hs:List Int} {ch:Nat→List Nat} (T:Tree hs) (P:Pick hs ch):∀ (f r k:Nat),r < hs.length→k∈ent ch f r→k=r∨(k∈ch (hold hs k).toNat∧(hold hs k).toNat∈ent ch f r∧0 < k)
  | 0,r,k,hr,h => .inl (List.mem_singleton.mp h)
  | f + 1,r,k,hr,h => by
    rcases List.mem_cons.mp h with e | h
    · exact .inl e
    · obtain ⟨c,hc,hk⟩:=List.mem_flatMap.mp h
      have hc':=P.sub r c hc
      obtain ⟨c1,c2⟩:=mem_kidsN.mp hc'
      have:=kid_gt T hc'
      rcases ent_back T P f c k c1 hk with e | ⟨a,b,d⟩
      · subst e
        refine .inr ⟨by rw [c2,Int.toNat_natCast]; exact hc,?_,by omega⟩
        rw [c2,Int.toNat_natCast]; exact List.mem_cons_self
      · exact .inr ⟨a,List.mem_cons_of_mem _ (List.mem_flatMap.mpr ⟨c,hc,b⟩),d⟩
theorem ent_iff {hs:List Int} {ch:Nat→List Nat} {ok:Nat→Nat→Bool} (T:Tree hs) (P:Pick hs ch) {f:Nat} (hf:hs.length≤f) (hok:∀ k,0 < k→k < hs.length→(ok (hold hs k).toNat k=true ↔ k∈ch (hold hs k).toNat)) :
    ∀ k,k∈ent ch f 0 ↔ k < hs.length∧kb ok hs k=true:=by
  intro k
  induction k using Nat.strongRecOn with
  | ind k ih =>
    constructor
    · intro h
      have hk:=(ent_sub T P f 0 k T.pos h).1
      refine ⟨hk,?_⟩
      rcases ent_back T P f 0 k T.pos h with e | ⟨a,b,d⟩
      · rw [e]; exact kb_root T
      · have hu:=T.up k d hk
        rw [kb_up T d hk,((ih _ (by omega)).mp b).2,(hok k d hk).mpr a]; rfl
    · rintro ⟨hk,h⟩
      by_cases z:k=0
      · subst z
        cases f with
        | zero => exact List.mem_singleton.mpr rfl
        | succ f => exact List.mem_cons_self
      · have hu:=T.up k (by omega) hk
        rw [kb_up T (by omega) hk,Bool.and_eq_true] at h
        exact ent_next T P f 0 _ k T.pos (by omega) ((ih _ (by omega)).mpr ⟨by omega,h.1⟩) ((hok k (by omega) hk).mp h.2)
theorem ent_sorted {hs:List Int} {ch:Nat→List Nat} {ok:Nat→Nat→Bool} (T:Tree hs) (P:Pick hs ch) {f:Nat} (hf:hs.length≤f) (hok:∀ k,0 < k→k < hs.length→(ok (hold hs k).toNat k=true ↔ k∈ch (hold hs k).toNat))
    {ns:List Int} (hp:ns.Perm ((ent ch f 0).map fun (j:Nat) => (j:Int))) (hs':ns.Pairwise (·≤·)):ns=((List.range hs.length).filter (kb ok hs)).map fun (j:Nat) => (j:Int):=by
  have hq:(ent ch f 0).Perm ((List.range hs.length).filter (kb ok hs)):=by
    refine (List.perm_ext_iff_of_nodup (ent_nodup T P f 0 T.pos) (List.Pairwise.filter _ List.nodup_range)).mpr fun k => ?_
    rw [ent_iff T P hf hok,List.mem_filter,List.mem_range]
  refine (hp.trans (hq.map _)).eq_of_pairwise (fun a b _ _ h1 h2 => Int.le_antisymm h1 h2) hs' ?_
  rw [List.pairwise_map]
  exact (List.Pairwise.filter _ List.pairwise_lt_range).imp fun h => by omega
end Rm
set_option Elab.async false
set_option linter.all false
set_option maxRecDepth 100000
set_option maxHeartbeats 4000000
namespace L2
open PySem PySem.Spec PyProof.Rows
mutual
inductive K7 (K:PySem.W.Frag) (H:Hp):V→PyData→Prop
  | non:K7 K H .non .none
  | bl (b:Bool):K7 K H (.bl b) (.bool b)
  | int (i:Int):K7 K H (.int i) (.int i)
  | str (x:Str):K7 K H (.str x) (.str x)
  | lst {a:Addr} {xs:List V} {ds:List PyData}:AE K H a xs→FE K H xs ds→K7 K H (.ref a) (.list ds)
  | tup {a:Addr} {xs:List V} {ds:List PyData}:A2 K H a xs→FE K H xs ds→K7 K H (.ref a) (.tuple ds)
inductive FE (K:PySem.W.Frag) (H:Hp):List V→List PyData→Prop
  | nil:FE K H [] []
  | cons {x:V} {d:PyData} {xs:List V} {ds:List PyData}:K7 K H x d→FE K H xs ds→FE K H (x :: xs) (d :: ds)
end
section
variable {X:Cx} {pins:List (Addr×Obj)} {σ : St} {H:Hp} {s:Shared}
mutual
theorem K7.reads (I:AL X pins σ H s):∀ {v:V} {d:PyData} {u:Value},K7 X.K H v d→Bx v u→∃ as,Reads s.heap u d as
  | _,_,u,.non,r => by
    cases (show u=Value.none from r)
    exact ⟨_,.none⟩
  | _,_,u,.bl b,r => by
    cases (show u=Value.bool b from r)
    exact ⟨_,.bool b⟩
  | _,_,u,.int i,r => by
    obtain ⟨t,q⟩:=(show ∃ t,u=Value.int i t from r)
    cases q
    exact ⟨_,.int i t⟩
  | _,_,u,.str x,r => by
    obtain ⟨t,q⟩:=(show ∃ t,u=Value.str x t from r)
    cases q
    exact ⟨_,.str x t⟩
  | _,_,u,.lst (a:=a) h hs,r => by
    cases (show u=Value.ref a from r)
    obtain ⟨its,rv,p,_⟩:=I.list h
    obtain ⟨o,ho,hc,n,hd⟩:=p.isList
    obtain ⟨as,q⟩:=FE.reads I hs rv
    exact ⟨_,.list ho hc hd (by simpa using q)⟩
  | _,_,u,.tup (a:=a) h hs,r => by
    cases (show u=Value.ref a from r)
    obtain ⟨its,rv,p,_⟩:=I.tuple h
    obtain ⟨o,ho,hc,n,hd⟩:=p
    obtain ⟨as,q⟩:=FE.reads I hs rv
    exact ⟨_,.tuple ho hc hd (by simpa using q)⟩
theorem FE.reads (I:AL X pins σ H s):∀ {vs:List V} {ds:List PyData} {us:List Value},FE X.K H vs ds→A5 vs us→∃ as,ReadsAll s.heap us ds as
  | _,_,_,.nil,.nil => ⟨_,.nil⟩
  | _,_,_,.cons h hs,.cons r rs => by
    obtain ⟨as,q⟩:=K7.reads I h r
    obtain ⟨bs,q'⟩:=FE.reads I hs rs
    exact ⟨_,.cons q q'⟩
end
def rEqD (K:PySem.W.Frag) (neg:Bool):R2:=fun x y H Q => ∃ da db,K7 K H x da∧K7 K H y db∧SeqAt.shaped da=true∧SeqAt.shaped db=true∧Q (.bl (if neg then !PyData.eqv da db else PyData.eqv da db)) H
theorem op_eqD (hu:X.A.units + 64 < cLine):Gz X (compareOp .Eq) (rEqD X.K false):=by
  intro pins s σ H x y v u Q I rx ry h
  obtain ⟨da,db,ra,rb,ha,hb,q⟩:=h
  obtain ⟨as,r1⟩:=ra.reads I rx
  obtain ⟨bs,r2⟩:=rb.reads I ry
  exact eq_dataH r1 r2 ha hb hu ⟨.bl _,H,I,rfl,q⟩
theorem CB:Hj X (.builtin "isinstance") (fun xs H Q => ∃ x n t b,xs=[x,.ty n]∧GY X.K H x t∧PySem.W.kitOne X.K t (.type n)=some b∧Q (.bl b) H):=by
  intro pins s σ H xs us Q I r h
  obtain ⟨x,n,t,b,rfl,ty,e,q⟩:=h
  obtain ⟨u,u',rfl,rx,ry⟩:=A5.two r
  cases (show u'=Value.type n from ry)
  exact NK I rx ty e fun tk => ⟨.bl b,H,I.tok tk,rfl,q⟩
end
theorem LV {X:Cx}:Hj X (.builtin "sorted") (fun xs H Q => ∃ p ns,xs=[.ref p]∧AE X.K H p (ns.map V.int)∧ns.length < 64 ∧
    ∀ l (ns':List Int),H l=none→ns'.Perm ns→ns'.Pairwise (·≤·)→Q (.ref l) (upd H l (.lst (ns'.map V.int)))):=by
  intro pins s σ H xs us Q I r h
  obtain ⟨p,ns,rfl,hq,h64,q⟩:=h
  obtain ⟨u,rfl,ru⟩:=A5.one r
  cases (show u=Value.ref p from ru)
  obtain ⟨its,rv,pl,hz⟩:=I.list hq
  have hl:=rv.length
  rw [List.length_map] at hl
  refine sorted_ints pl.isList (II rv) (by omega) fun out ns' a1 a2 a3 => ?_
  obtain ⟨e,he⟩:=sortedAll_at s.heap its out
  have hn:=a2.length_eq
  have sml:(ns'.map V.int).length≤sizeLine:=by
    rw [List.length_map]
    exact Nat.le_of_lt (Nat.lt_of_lt_of_le (show ns'.length < 64 by omega) (by decide))
  exact ⟨.ref _,_,I.laid (o:=.lst (ns'.map V.int)) (t':=s.toks) (fun b o z => sortedAll_old z) (Nat.le_succ _) ⟨sml,out.toList,e,GE a1,he⟩,rfl,q _ ns' (I.hok.fresh (Nat.le_succ _)) a2 a3⟩
structure Bk where
  cl:List (Str×Addr)
  C:Addr
  s:Shared
  H:Hp
  fp:List Addr
  pn:List (Addr×Obj)
def Cx.blk (X:Cx) (N':List Str) (sc:Scope) (b:Bk):Cx where
  prog:=X.prog
  w:=X.w
  K:=X.K
  mg:=X.mg
  base:=X.base
  A:=X.A
  N:=N'
  s₀:=b.s
  H₀:=b.H
  env:=compEnvC sc b.cl b.C X.env
  outer:=X.stack
  stack:=X.stack
  ex:=b.fp
  fn:=fun _ => false
  calm:=X.calm
  pn:=b.pn
  xe:=fun _ _ => False
def bst (ix:List (Option Nat)) (σ : St):St:=ix.map fun o => match o with
  | none => none
  | some j => (σ[j]?).getD none
def E6 (N:List Str) (names:List (Str×NameKind)):List Str→List (Option Nat)→Bool
  | x :: r,some j :: t => decide (N[j]? = some x) && decide (names.lookup x=some .free) && E6 N names r t
  | _ :: r,none :: t => E6 N names r t
  | [],[] => true
  | _,_ => false
theorem IP {N:List Str} {names:List (Str×NameKind)}:∀ {N':List Str} {ix:List (Option Nat)},E6 N names N' ix=true →
    ix.length=N'.length∧∀ (i j:Nat) (x:Str),N'[i]? = some x→ix[i]? = some (some j)→N[j]? = some x∧names.lookup x=some .free
  | [],[],_ => ⟨rfl,fun i j x e _ => by simp at e⟩
  | x :: r,some j :: t,h => by
    simp only [E6,Bool.and_eq_true,decide_eq_true_eq] at h
    obtain ⟨hl,hf⟩:=IP (N':=r) (ix:=t) h.2
    refine ⟨by simp [hl],fun i k y e1 e2 => ?_⟩
    cases i with
    | zero =>
      simp at e1 e2
      subst e1 e2
      exact h.1
    | succ i => exact hf i k y (by simpa using e1) (by simpa using e2)
  | x :: r,none :: t,h => by
    simp only [E6] at h
    obtain ⟨hl,hf⟩:=IP (N':=r) (ix:=t) h
    refine ⟨by simp [hl],fun i k y e1 e2 => ?_⟩
    cases i with
    | zero => simp at e2
    | succ i => exact hf i k y (by simpa using e1) (by simpa using e2)
  | [],some _ :: _,h => by simp [E6] at h
  | [],none :: _,h => by simp [E6] at h
  | _ :: _,[],h => by simp [E6] at h
theorem IQ {α β : Type} {f : α→β→Sem (ForInStep β)} (Pv:List α→β→Prop) (hs:∀ x l b,Pv (x :: l) b→∃ b',f x b=pure (.yield b')∧Pv l b') :
    ∀ (l:List α) (b : β),Pv l b→∃ b',forIn l b f=pure b'∧Pv [] b'
  | [],b,h => ⟨b,rfl,h⟩
  | x :: l,b,h => by
    obtain ⟨b1,e1,h1⟩:=hs x l b h
    obtain ⟨b2,e2,h2⟩:=IQ Pv hs l b1 h1
    refine ⟨b2,?_,h2⟩
    rw [List.forIn_cons,e1,pure_bind]
    exact e2
def Pq (env:Env) (x:Str×NameKind) (r:List (Str×Addr)):Sem (ForInStep (List (Str×Addr))) :=
  if x.2 == .free then (do let c ← cellOf env x.1; pure (.yield ((x.1,c) :: r))) else pure (.yield r)
theorem KZ (sc:Scope) (env:Env):closureFor sc env=(forIn sc.names [] (Pq env) >>= fun cs => pure cs):=by rfl
theorem IW {sc:Scope} {env:Env} (h:∀ p∈sc.names,p.2 = .free→∃ c,env.cells.lookup p.1=some c) :
    ∃ cl,closureFor sc env=pure cl∧(∀ x c,cl.lookup x=some c→env.cells.lookup x=some c)∧∀ p∈sc.names,p.2 = .free→∃ c,cl.lookup p.1=some c:=by
  obtain ⟨cl,e,_,h1,h2⟩:=IQ (f:=Pq env)
    (fun l (b:List (Str×Addr)) => (∀ p∈l,p∈sc.names)∧(∀ x c,b.lookup x=some c→env.cells.lookup x=some c)∧∀ p∈sc.names,p.2 = .free→p∈l∨∃ c,b.lookup p.1=some c)
    (fun p l b ⟨g0,g1,g2⟩ => by
      unfold Pq
      by_cases hk:p.2 = .free
      · obtain ⟨c,hc⟩:=h p (g0 p List.mem_cons_self) hk
        have ec:cellOf env p.1=pure c:=by unfold cellOf; rw [hc]
        rw [hk,if_pos (by decide),ec,pure_bind]
        refine ⟨_,rfl,fun q hq => g0 q (List.mem_cons_of_mem _ hq),fun x d e => ?_,fun q hq hf => ?_⟩
        · rw [List.lookup_cons] at e
          cases hx:x == p.1 with
          | true =>
            rw [hx] at e
            cases e
            rw [eq_of_beq hx]; exact hc
          | false =>
            rw [hx] at e
            exact g1 x d e
        · rcases g2 q hq hf with z | ⟨d,hd⟩
          · rcases List.mem_cons.mp z with z | z
            · subst z
              exact .inr ⟨c,by rw [List.lookup_cons,beq_self_eq_true]⟩
            · exact .inl z
          · refine .inr ?_
            rw [List.lookup_cons]
            cases hx:q.1 == p.1 with
            | true => exact ⟨c,rfl⟩
            | false => exact ⟨d,hd⟩
      · rw [if_neg (by simpa using hk)]
        refine ⟨_,rfl,fun q hq => g0 q (List.mem_cons_of_mem _ hq),g1,fun q hq hf => ?_⟩
        rcases g2 q hq hf with z | z
        · rcases List.mem_cons.mp z with z | z
          · subst z; exact absurd hf hk
          · exact .inl z
        · exact .inr z)
    sc.names [] ⟨fun _ z => z,fun x c e => by simp at e,fun p hp _ => .inl hp⟩
  refine ⟨cl,?_,h1,fun p hp hf => (h2 p hp hf).elim (fun z => by simp at z) id⟩
  rw [KZ,e,pure_bind]
theorem FC {names:List (Str×NameKind)} {x:Str} {k:NameKind}:names.lookup x=some k→(x,k)∈names:=by
  induction names with
  | nil => intro e; simp at e
  | cons p r ih =>
    intro e
    rw [List.lookup_cons] at e
    cases hx:x == p.1 with
    | true =>
      rw [hx] at e
      cases e
      rw [eq_of_beq hx]; exact List.mem_cons_self
    | false =>
      rw [hx] at e
      exact List.mem_cons_of_mem _ (ih e)
theorem Il (sc:Scope) (env:Env):(relabel sc env).names=sc.names.map fun p => (p.1,if (p.2 == .free && env.scope.kind == .function && env.kindOf p.1 == some .cell)=true then NameKind.cell else p.2):=by
  show (sc.names.map _)=_
  refine List.map_congr_left fun p _ => ?_
  obtain ⟨n,k⟩:=p
  dsimp only
  split <;> rfl
theorem Ik {sc:Scope} {env:Env} {x:Str} {k:NameKind} (hc:∀ y∈sc.names,y.2≠.cell) (h:(relabel sc env).names.lookup x=some k) (hk:k = .cell∨k = .free):(x,NameKind.free)∈sc.names:=by
  have hm:=FC h
  rw [Il] at hm
  obtain ⟨p,hp,e⟩:=List.mem_map.mp hm
  obtain ⟨n,k'⟩:=p
  injection e with e1 e2
  dsimp only at e1 e2
  subst e1
  have hk':k' = .free:=by
    by_cases z:(k' == NameKind.free && env.scope.kind == .function && env.kindOf n == some .cell)=true
    · have z':=(Bool.and_eq_true_iff.mp (Bool.and_eq_true_iff.mp z).1).1
      exact eq_of_beq z'
    · rw [if_neg z] at e2
      rcases hk with w | w
      · exact absurd (e2.trans w) (hc _ hp)
      · exact e2.trans w
  subst hk'
  exact hp
theorem GM {sc:Scope} {env:Env} {x:Str} (hf:sc.names.lookup x=some .free):(relabel sc env).names.lookup x≠some .local:=by
  have key:∀ (g:Str→NameKind→NameKind) (l:List (Str×NameKind)),(l.map fun p => (p.1,g p.1 p.2)).lookup x=(l.lookup x).map (g x):=by
    intro g l
    induction l with
    | nil => rfl
    | cons p r ih =>
      rw [List.map_cons,List.lookup_cons,List.lookup_cons]
      cases hx:x == p.1 with
      | true => rw [eq_of_beq hx]; rfl
      | false => exact ih
  rw [Il,key fun n k => if (k == .free && env.scope.kind == .function && env.kindOf n == some .cell)=true then NameKind.cell else k,hf]
  intro z
  simp only [Option.map_some] at z
  split at z <;> cases z
def PTs (X:Cx) (ifs:List Expr) (t:TT):Prop :=
  ∀ (pins:List (Addr×Obj)) (s:Shared) (σ : St) (H:Hp) (Q:Bool→Hp→Prop),AL X pins σ H s→t σ H Q →
    wpAny (model X.prog X.w) X.A (forIn ifs true fun c r => if r=true then do let ok ← isTrue c X.env (eval c X.env); pure (ForInStep.yield ok) else pure (ForInStep.yield r)) (TP X pins σ Q) X.xe s
def N8:TT:=fun _ H Q => Q true H
theorem Cr {X:Cx}:PTs X [] N8:=fun _ _ _ H _ I h => wpAny_tests_nil ⟨H,I,h⟩
theorem Es {X:Cx} {c:Expr} {t:TT} (h:PT X c t):PTs X [c] t:=fun pins s σ H Q I q => wpAny_tests_one (h pins s σ H Q I q)
def FG (J:It) (g:TG) (tt:TT) (te:TE) (D:Addr) (Q:VK) (σ : St) (H:Hp):Prop :=
  ∃ W:Nat→Nat→St→Hp→Prop,(∃ m,W 0 m σ H)∧∀ i m σ H,W i m σ H→(J.stop i H∧Q (.ref D) H)∨(J.go i H∧∃ (N1:V→St→Hp→Prop) (N2:St→Hp→Prop),
    (∀ y σ' H',N1 y σ' H'→∃ ys,H' D=some (.lst ys)∧ys.length < sizeLine∧∃ m',m' < m∧W (i + 1) m' σ' (upd H' D (.lst (ys ++ [y]))))∧(∀ σ' H',N2 σ' H'→∃ m',m' < m∧W (i + 1) m' σ' H') ∧
    ∀ x H',J.yld i H x H'→g x σ H' fun σ2 H2 => tt σ2 H2 fun b H3 => if b=true then te σ2 H3 (fun y H4 => N1 y σ2 H4) else N2 σ2 H3)
def tComp (wi:TI) (ix:List (Option Nat)) (g:Bk→TG) (tt:Bk→TT) (te:Bk→TE):TE:=fun σ H Q => wi σ H fun J H1 => ∀ (b:Bk) D,H1 D=none→FG J (g b) (tt b) (te b) D Q (bst ix σ) (upd H1 D (.lst []))
section
variable {X:Cx}
theorem Nh {tg elt iter:Expr} {ifs:List Expr} {sc:Scope} {pos:Pos} {N':List Str} {ix:List (Option Nat)} {g:Bk→TG} {tt:Bk→TT} {te:Bk→TE} {Q:VK} {pins:List (Addr×Obj)} {σ : St} {H:Hp} {s:Shared} {it:Addr} {fp:List Addr} {tn:Nat→Heap→Prop} {J:It} {cl:List (Str×Addr)}
    {RR:Value→Addr→Result→Shared→Prop} {E:Value→Shared→Prop}
    (hc:X.calm=true) (hkind:sc.kind = .function) (hcell:∀ y∈sc.names,y.2≠.cell) (hfree:∀ p∈sc.names,p.2 = .free→X.env.kindOf p.1=some .cell) (hfrom:E6 X.N sc.names N' ix=true)
    (hg:∀ b:Bk,PG (X.blk N' sc b) tg (g b)) (ht:∀ b:Bk,PTs (X.blk N' sc b) ifs (tt b)) (he:∀ b:Bk,PE (X.blk N' sc b) elt (te b))
    (hcl:∀ x c,cl.lookup x=some c→X.env.cells.lookup x=some c) (hcl2:∀ p∈sc.names,p.2 = .free→∃ c,cl.lookup p.1=some c)
    (I:AL X pins σ H s) (T:NW X.prog X.w X.K tg J fp it tn) (st:tn 0 s.heap) (f2:∀ b∈fp,LX X pins H b) (q:∀ (b:Bk) D,H D=none→FG J (g b) (tt b) (te b) D Q (bst ix σ) (upd H D (.lst [])))
    (hRR:∀ D C (s':Shared) H',AL X pins σ H' s'→Q (.ref D) H'→(∃ m,s'.heap.Ns C m)→H' C=none→C≠X.env.locals→X.s₀.heap.objs.size≤C→(∀ x c,X.env.cells.lookup x=some c→c≠C)→(∀ p∈X.pn ++ pins,p.1≠C)→RR (.ref D) C (.ok .next) s') :
    wpAny (model X.prog X.w) X.A (newList []) (fun acc s3 => wpAny (model X.prog X.w) X.A (newFunctionEnv sc X.env.globals cl [] X.env.qual none .none (some X.env)) (fun cenv s4 =>
      codeAny (model X.prog X.w) X.A (.compStart (.ListComp elt [⟨tg,iter,ifs,0⟩] sc pos) 0 (.ref it) acc { cenv with scope:=relabel sc X.env }) (RR acc cenv.locals) s4) E s3) E s:=by
  refine wpAny_newObj_type (wpAny_newFunctionEnv hcell (by intro y hy; simp at hy) (fun h1 hns hsb => ?_) hkind)
  dsimp only at hns hsb ⊢
  have I3:AL X pins σ (upd H s.heap.objs.size (.lst [])) { s with heap:=s.heap.push { cls:=.type "list",dict:=none,data:=.seq ([]:List Value).toArray } } :=
    I.lnew (t':=s.toks) (ys:=[]) (its:=[]) .nil (by show 0≤sizeLine; decide)
  have hD:H s.heap.objs.size=none:=I.fresh
  generalize hDn:s.heap.objs.size=D at hns hsb I3 hD ⊢
  generalize hh:s.heap.push { cls:=.type "list",dict:=none,data:=.seq ([]:List Value).toArray } = hp at hns hsb I3 ⊢
  generalize hH3:upd H D (.lst [])=H3 at I3 ⊢
  generalize hCn:hp.objs.size=C at hns hsb ⊢
  have hDC:D < C:=by rw [← hCn,← hh,Heap.size_push,hDn]; exact Nat.lt_succ_self _
  have old:∀ b o,hp.get? b=some o→h1.get? b=some o:=fun b o e => hsb.extBut b o (by rw [← hCn]; exact Nat.ne_of_lt (Heap.lt_size e)) (Heap.get?_push_of_some _ e)
  have old0:∀ b o,s.heap.get? b=some o→hp.get? b=some o:=fun b o e => by rw [← hh]; exact Heap.get?_push_of_some _ e
  have fpLt:∀ b∈fp,b < D:=fun b hb => by
    obtain ⟨o,e,_⟩:=T.obj _ _ st b hb
    rw [← hDn]; exact Heap.lt_size e
  have I3s:AL X pins σ H3 { s with heap:=hp }:=I3
  let B:Bk:=⟨cl,C,{ s with heap:=hp },H3,fp,X.pn ++ pins⟩
  have cellX:∀ x c,cl.lookup x=some c→c≠C∧∀ b∈fp,c≠b:=fun x c e => by
    obtain ⟨v,z⟩:=I3s.cell x c (hcl x c e)
    exact ⟨by rw [← hCn]; exact Nat.ne_of_lt z.lt,fun b hb => (f2 b hb).2.2.2.2.1 x c (hcl x c e)⟩
  have okY:(X.blk N' sc B).Ok:=by
    refine ⟨I.ok.mod,hkind,I.ok.glob,I.ok.blt,?_,fun x y c a b => I.ok.inj x y c (hcl x c a) (hcl y c b),fun x hx => ?_,(fun x c (a:false=true) => (nomatch a)),I.ok.hd,I.ok.frames,.inl rfl,fun b hb => ?_,fun b o e => ?_,?_,fun b o e hb => ?_,fun b hb z => ?_,I3s.stack,I3s.stkFree⟩
    · show hp.objs.size≤C
      rw [hCn]; exact Nat.le_refl _
    · have hx':(relabel sc X.env).names.lookup x=some .cell∨(relabel sc X.env).names.lookup x=some .free:=hx
      rcases hx' with z | z
      · exact hcl2 _ (Ik hcell z (.inl rfl)) rfl
      · exact hcl2 _ (Ik hcell z (.inr rfl)) rfl
    · exact ⟨Nat.ne_of_lt (Nat.lt_trans (fpLt b hb) hDC),fun x c e => (cellX x c e).2 b hb⟩
    · obtain ⟨z1,z2⟩:=I3s.bs b o e
      exact ⟨z1,z2⟩
    · exact Nat.le_trans I.ok.bsz I3s.sz
    · rcases (f2 b hb).2.2.2.1 with z | z
      · exact I.ok.noex b o e z
      · exact absurd (Nat.lt_of_lt_of_le (Heap.lt_size (h:=X.base) e) (Nat.le_trans I.ok.bsz z)) (Nat.lt_irrefl _)
    · rcases List.mem_cons.mp (I.stkSub b z) with w | w
      · exact (f2 b hb).2.1 w
      · exact (f2 b hb).2.2.1 w
  have frC:∀ b∈GC X.stack,b≠C:=fun b hb => by
    obtain ⟨_,o,ho,_⟩:=I3s.stack.mem hb
    rw [← hCn]; exact Nat.ne_of_lt (Heap.lt_size (h:=hp) ho)
  obtain ⟨hlen,hix⟩:=IP hfrom
  have IY:AL (X.blk N' sc B) [] (bst ix σ) H3 { s with heap:=h1,toks:=s.toks + ([]:List (Str×Value)).length }:=by
    refine ⟨okY,rfl,I.bare,Un.kept old,⟨_,hns,fun i x v e1 e2 e3 => ?_⟩,fun x c e => ?_,I3s.hok.fresh (by show hp.objs.size≤C; rw [hCn]; exact Nat.le_refl _),fun x c e => I3s.freeC x c (hcl x c e),fun p hp' => ?_,I3s.hok.kept old,by show (bst ix σ).length=N'.length; rw [← hlen]; simp [bst]⟩
    · have e1':N'[i]? = some x:=e1
      unfold bst at e2
      rw [List.getElem?_map] at e2
      cases hi:ix[i]? with
      | none => rw [hi] at e2; cases e2
      | some o =>
        rw [hi] at e2
        cases o with
        | none => cases e2
        | some j =>
          obtain ⟨hj,hfr⟩:=hix i j x e1' hi
          have e2':(σ[j]?).getD none=some v:=Option.some.inj e2
          have e4 : σ[j]? = some (some v):=by
            cases z : σ[j]? with
            | none => rw [z] at e2'; cases e2'
            | some w => rw [z] at e2'; exact congrArg some e2'
          have hkX:=hfree _ (FC hfr) rfl
          obtain ⟨m,hn,hl⟩:=I3s.loc
          obtain ⟨u,r,l⟩:=hl j x v hj e4 (.inr (.inl hkX))
          refine ⟨u,r,.inr ⟨?_,?_⟩⟩
          · have e3':(relabel sc X.env).names.lookup x=some .local∨(relabel sc X.env).names.lookup x=some .cell∨(relabel sc X.env).names.lookup x=some .free:=e3
            rcases e3' with z | z
            · exact absurd z (GM hfr)
            · exact z
          · obtain ⟨c,hc'⟩:=hcl2 _ (FC hfr) rfl
            refine ⟨c,hc',?_⟩
            rcases l with ⟨z,_⟩ | ⟨_,d,hd,hcell'⟩
            · rw [hkX] at z; cases z
            · rw [hcl x c hc'] at hd
              cases hd
              obtain ⟨o,ho,hod⟩:=hcell'
              exact ⟨o,old _ o ho,hod⟩
    · obtain ⟨v,o,ho,hod⟩:=I3s.cell x c (hcl x c e)
      exact ⟨v,o,old _ o ho,hod⟩
    · have hp'':p∈X.pn ++ pins:=by simpa [Cx.blk,B] using hp'
      obtain ⟨z1,z2,z3,z4,z5⟩:=I3s.pin p hp''
      refine ⟨old _ _ z1,z2,by show p.1≠C; rw [← hCn]; exact Nat.ne_of_lt (Heap.lt_size (h:=hp) z1),fun z => ?_,z5⟩
      rcases List.mem_cons.mp (I.stkSub p.1 z) with w | w
      · exact z3 w
      · exact z4 w
  have st1:tn 0 h1:=T.keep _ _ _ st fun b _ o e => old b o (old0 b o e)
  have fpY:∀ {H':Hp},(∀ b∈fp,H' b=none)→∀ b∈fp,LX (X.blk N' sc B) [] H' b:=fun hn b hb => by
    refine ⟨hn b hb,Nat.ne_of_lt (Nat.lt_trans (fpLt b hb) hDC),okY.exfs b hb,.inl hb,fun x c e => (cellX x c e).2 b hb,fun p hp' => ?_⟩
    have hp'':p∈X.pn ++ pins:=by simpa [Cx.blk,B] using hp'
    exact (f2 b hb).2.2.2.2.2 p hp''
  have qD:=q B D hD
  rw [hH3] at qD
  obtain ⟨W,⟨m0,w0⟩,turn⟩:=qD
  have fin:∀ {i:Nat} {σ':St} {H':Hp} {s':Shared},AL (X.blk N' sc B) [] σ' H' s'→Q (.ref D) H'→RR (.ref D) C (.ok .next) s':=fun {i σ' H' s'} I' q' => by
    have IX:AL X pins σ H' s':=I3s.call' (ch:=fp) I'.os I'.base I'.hok I'.bare fun b hb => by
      obtain ⟨_,a2,_,a4,a5,a6⟩:=f2 b hb
      exact ⟨a4,a2,a5,a6⟩
    have hCs:X.s₀.heap.objs.size≤C:=Nat.le_trans I3s.sz (by show hp.objs.size≤C; rw [hCn]; exact Nat.le_refl _)
    refine hRR D C s' H' IX q' (let ⟨m,hn,_⟩:=I'.loc; ⟨m,hn⟩) I'.free ?_ hCs (fun x c e => ?_) fun p hp' => ?_
    · rw [← hCn]; exact Nat.ne_of_gt I3s.lt
    · obtain ⟨v,z⟩:=I3s.cell x c e
      rw [← hCn]; exact Nat.ne_of_lt z.lt
    · rw [← hCn]; exact Nat.ne_of_lt (Heap.lt_size (h:=hp) (I3s.pin p hp').1)
  have loop:codeAny (model X.prog X.w) X.A (.compLoop (.ListComp elt [⟨tg,iter,ifs,0⟩] sc pos) 0 (.ref it) (.ref D) (compEnvC sc cl C X.env)) (RR (.ref D) C) { s with heap:=h1,toks:=s.toks + ([]:List (Str×Value)).length }:=by
    refine codeAny_loop rfl (fun n s' => ∃ i σ' H',AL (X.blk N' sc B) [] σ' H' s'∧tn i s'.heap∧(∀ b∈fp,H' b=none)∧W i n σ' H') (fun n s5 hI => ?_) m0 ⟨0,_,_,IY,st1,fun b hb => ?_,w0⟩
    · obtain ⟨i,σ5,H5,I5,st5,fr5,w5⟩:=hI
      show wpAny _ _ ((compTurn (.ListComp elt [⟨tg,iter,ifs,0⟩] sc pos) 0 (.ref it) (.ref D) (compEnvC sc cl C X.env)).onRaise (fun x => do noteFrame x (compEnvC sc cl C X.env); theTreesLotGoes x)) _ _ s5
      refine wpAny_noted ?_
      rw [compTurn_list]
      refine wpAny_bind (wpAny_standAt ?_)
      rcases turn i n σ5 H5 w5 with ⟨stop,qn⟩ | ⟨go,N1,N2,hN1,hN2,step⟩
      · refine wpAny_bind (wpAny_mono (T.done (X.blk N' sc B) rfl rfl rfl hc i [] s5 σ5 H5 (fun _ _ => False) I5 (fpY fr5) st5 stop) (fun r s6 h6 => ?_) fun _ _ f => f.elim)
        obtain ⟨hr,I6⟩:=h6
        subst hr
        exact wpAny_pure (fin (i:=i) I6 qn)
      · refine wpAny_bind (wpAny_mono (T.item (X.blk N' sc B) rfl rfl rfl hc i [] s5 σ5 H5 (fun _ _ => False) I5 (fpY fr5) st5 go) (fun r s6 h6 => ?_) fun _ _ f => f.elim)
        obtain ⟨u,hr,h6⟩:=h6
        subst hr
        refine wpAny_bind (wpAny_mono h6 (fun _ s7 h7 => ?_) fun _ _ f => f.elim)
        obtain ⟨x,H7,I7,r7,y7,st7,fr7⟩:=h7
        have I7':=I7.pinned (fpY fr7) (T.obj _ _ st7)
        refine wpAny_bind (wpAny_mono (hg B _ s7 σ5 H7 x u _ I7' r7 (step x H7 y7)) (fun _ s8 h8 => ?_) fun _ _ f => f.elim)
        obtain ⟨σ8,H8,I8,q8⟩:=h8
        refine wpAny_bind (wpAny_mono (ht B _ s8 σ8 H8 _ I8 q8) (fun ok s9 h9 => ?_) fun _ _ f => f.elim)
        obtain ⟨H9,I9,q9⟩:=h9
        have again:∀ {s':Shared} {H':Hp},AL (X.blk N' sc B) ([] ++ Ip fp s7.heap) σ8 H' s'→(∃ m',m' < n∧W (i + 1) m' σ8 H') →
            ∃ m,m < n∧∃ i σ' H',AL (X.blk N' sc B) [] σ' H' s'∧tn i s'.heap∧(∀ b∈fp,H' b=none)∧W i m σ' H':=fun {s' H'} I' w' => by
          obtain ⟨m',hm,w'⟩:=w'
          have pn:∀ b∈fp,∀ o,s7.heap.get? b=some o→s'.heap.get? b=some o∧H' b=none:=fun b hb o e => by
            have z:=I'.pin (b,o) (List.mem_append_right _ (List.mem_append_right _ (FB hb e)))
            exact ⟨z.1,z.2.1⟩
          refine ⟨m',hm,i + 1,σ8,H',I'.unpinned,T.keep _ _ _ st7 fun b hb o e => (pn b hb o e).1,fun b hb => ?_,w'⟩
          obtain ⟨o,e,_⟩:=T.obj _ _ st7 b hb
          exact (pn b hb o e).2
        cases ok with
        | false =>
          have q9':N2 σ8 H9:=by simpa using q9
          exact wpAny_pure ⟨rfl,again I9 (hN2 _ _ q9')⟩
        | true =>
          have q9':te B σ8 H9 fun y H4 => N1 y σ8 H4:=by simpa using q9
          refine wpAny_bind (wpAny_bind (wpAny_mono (he B _ s9 σ8 H9 _ I9 q9') (fun y sA hA => ?_) fun _ _ f => f.elim))
          obtain ⟨yv,HA,IA,rA,nA⟩:=hA
          obtain ⟨ys,eA,zA,w'⟩:=hN1 _ _ _ nA
          refine wpAny_bind (wpAny_mono (AU (X:=X.blk N' sc B) _ sA σ8 HA (.ref D) [yv] (.ref D) [y] (fun _ H' => H'=upd HA D (.lst (ys ++ [yv]))) IA rfl (.cons rA .nil) ⟨D,ys,yv,rfl,rfl,eA,zA,rfl⟩) (fun _ sB hB => ?_) fun _ _ f => f.elim)
          obtain ⟨_,HB,IB,_,eB⟩:=hB
          subst eB
          exact wpAny_pure (wpAny_pure ⟨rfl,again IB w'⟩)
    · rw [← hH3,Ak (Nat.ne_of_lt (fpLt b hb))]
      exact (f2 b hb).1
  exact codeAny_compStart_list loop (T.self _ 0 _ _ _ st1 loop)
theorem Cg {tg elt iter:Expr} {ifs:List Expr} {sc:Scope} {pos:Pos} {wi:TI} {g:Bk→TG} {tt:Bk→TT} {te:Bk→TE} (N':List Str) (ix:List (Option Nat)) (hc:X.calm=true)
    (hi:PI X tg iter wi) (hg:∀ b:Bk,PG (X.blk N' sc b) tg (g b)) (ht:∀ b:Bk,PTs (X.blk N' sc b) ifs (tt b)) (he:∀ b:Bk,PE (X.blk N' sc b) elt (te b)) {N:List Str} {ks:List (Str×NameKind)}
    (hN:X.N=N) (hks:X.env.scope.names=ks) (hfree:∀ p∈sc.names,p.2 = .free→ks.lookup p.1=some .cell) (hfrom:E6 N sc.names N' ix=true)
    (hcell:∀ y∈sc.names,y.2≠.cell) (hnames:∀ y∈sc.names,y.2 = .local→sc.names.lookup y.1=some .local) (hkind:sc.kind = .function:=by rfl)
    (hs:∀ x,foldedSetIterable iter X.env x=pure x:=by intro _; rfl):PE X (.ListComp elt [⟨tg,iter,ifs,0⟩] sc pos) (tComp wi ix g tt te):=by
  intro pins s σ H Q I h
  have hfree':∀ p∈sc.names,p.2 = .free→X.env.kindOf p.1=some .cell:=fun p hp hf => by
    show X.env.scope.names.lookup p.1=_
    rw [hks]; exact hfree p hp hf
  obtain ⟨cl,hclos,hcl,hcl2⟩:=IW (sc:=sc) (env:=X.env) fun p hp hf => I.ok.has p.1 (.inl (hfree' p hp hf))
  rw [eval_ListComp]
  refine wpAny_comprehension_free (use:=none) rfl hs hclos hkind hnames (B0 (hi pins s σ H _ I h) fun v s1 h1 => B0 h1 fun itv s2 h2 => ?_)
  obtain ⟨it,fp,tn,J,H2,e,I2,T,st2,f2,q⟩:=h2
  subst e
  refine Nh (RR:=fun acc C => compPost (model X.prog X.w) X.A X.xe none (EP X pins σ Q) acc C) hc hkind hcell hfree' (by rw [hN]; exact hfrom) hg ht he hcl hcl2 I2 T st2 f2 q ?_
  intro D C s' H' I' q' hns hC hL hsz hcel hpin
  obtain ⟨m,hn⟩:=hns
  refine ⟨m,hn,fun h' hsb => ?_⟩
  exact ⟨.ref D,H',I'.turned (t':=s'.toks) (fun b o hb e => hsb.extBut b o hb e) hC hL (.inr hsz) hcel hpin,rfl,q'⟩
theorem Fg {i:Nat} {y:Str} {py spos:Pos} {tg elt iter:Expr} {ifs:List Expr} {sc:Scope} {pos:Pos} {wi:TI} {g:Bk→TG} {tt:Bk→TT} {te:Bk→TE} (N':List Str) (ix:List (Option Nat)) (hc:X.calm=true) (hNd:X.N.Nodup) (hiy:X.N[i]? = some y) (hy:X.env.scope.names.lookup y=some .local)
    (hi:PI X tg iter wi) (hg:∀ b:Bk,PG (X.blk N' sc b) tg (g b)) (ht:∀ b:Bk,PTs (X.blk N' sc b) ifs (tt b)) (he:∀ b:Bk,PE (X.blk N' sc b) elt (te b)) {N:List Str} {ks:List (Str×NameKind)}
    (hN:X.N=N) (hks:X.env.scope.names=ks) (hfree:∀ p∈sc.names,p.2 = .free→ks.lookup p.1=some .cell) (hfrom:E6 N sc.names N' ix=true)
    (hcell:∀ y∈sc.names,y.2≠.cell) (hnames:∀ y∈sc.names,y.2 = .local→sc.names.lookup y.1=some .local) (hkind:sc.kind = .function:=by rfl)
    (hs:∀ x,foldedSetIterable iter X.env x=pure x:=by intro _; rfl) (hsw:swapsWith (.ListComp elt [⟨tg,iter,ifs,0⟩] sc pos) (some (.Name y py)) spos.line X.env=pure true:=by rfl) :
    PS X (.Assign [.Name y py] (.ListComp elt [⟨tg,iter,ifs,0⟩] sc pos) spos) (PU (tComp wi ix g tt te) (IN i)):=by
  intro pins s σ H D I h
  have hfree':∀ p∈sc.names,p.2 = .free→X.env.kindOf p.1=some .cell:=fun p hp hf => by
    show X.env.scope.names.lookup p.1=_
    rw [hks]; exact hfree p hp hf
  obtain ⟨cl,hclos,hcl,hcl2⟩:=IW (sc:=sc) (env:=X.env) fun p hp hf => I.ok.has p.1 (.inl (hfree' p hp hf))
  rw [exec_Assign_Name_used _ _ _ _ hsw]
  refine wpAny_bind (wpAny_standAt (wpAny_bind ?_))
  show wpAny _ X.A (do let _ ← comprehension (.ListComp elt [⟨tg,iter,ifs,0⟩] sc pos) sc X.env _ (newList []) false (eval iter X.env) (some (assign (.Name y py) X.env))) _ _ s
  refine wpAny_bind (wpAny_mono (wpAny_comprehension_free (use:=some (assign (.Name y py) X.env)) (Q:=fun _ s' => SP X pins D .next s') rfl hs hclos hkind hnames
    (B0 (hi pins s σ H _ I h) fun v s1 h1 => B0 h1 fun itv s2 h2 => ?_)) (fun _ s' hq => wpAny_pure (wpAny_pure hq)) fun _ _ e => e)
  obtain ⟨it,fp,tn,J,H2,e,I2,T,st2,f2,q⟩:=h2
  subst e
  refine Nh (Q:=fun x H1 => IN i x σ H1 D.nx) (RR:=fun acc C => compPost (model X.prog X.w) X.A X.xe (some (assign (.Name y py) X.env)) (fun _ s' => SP X pins D .next s') acc C) hc hkind hcell hfree' (by rw [hN]; exact hfrom) hg ht he hcl hcl2 I2 T st2 f2 q ?_
  intro E C s' H' I' q' hns hC hL hsz hcel hpin
  obtain ⟨m,hn⟩:=hns
  show wpAny _ X.A (assign (.Name y py) X.env (.ref E)) _ _ _
  refine wpAny_assign_Name (JF I' hNd hiy (.inl hy) (show Bx (.ref E) (.ref E) from rfl) (fun s2 I2' hch => ?_) (.inr hy))
  obtain ⟨a,hsb,ha⟩:=hch
  have haC:C≠a:=by
    rcases ha with z | z
    · rw [z]; exact hL
    · exact (hcel _ _ z).symm
  refine ⟨m,hn.sameBut hsb haC,fun h' hsb' => ?_⟩
  exact ⟨_,H',I2'.turned (t':=s2.toks) (fun b o hb e => hsb'.extBut b o hb e) hC hL (.inr hsz) hcel hpin,q'⟩
end
theorem EB {lo:Int} {n:Nat} {g:TG} {tt:TT} {te:TE} {D:Addr} {Q:VK} {σ : St} {H:Hp} (Pv:Nat→List V→St→Hp→Prop) (h0:Pv 0 [] σ (upd H D (.lst [])))
    (hs:∀ i ys σ H,i < n→H D=some (.lst ys)→Pv i ys σ H→g (.int (lo + i)) σ H fun σ2 H2 => tt σ2 H2 fun b H3 =>
      if b=true then te σ2 H3 fun y H4 => H4 D=some (.lst ys)∧ys.length < sizeLine∧Pv (i + 1) (ys ++ [y]) σ2 (upd H4 D (.lst (ys ++ [y]))) else H3 D=some (.lst ys)∧Pv (i + 1) ys σ2 H3)
    (hd:∀ ys σ H,H D=some (.lst ys)→Pv n ys σ H→Q (.ref D) H) :
    FG (PK lo n) g tt te D Q σ (upd H D (.lst [])):=by
  refine ⟨fun i m σ H => m=n - i∧i≤n∧∃ ys,H D=some (.lst ys)∧Pv i ys σ H,⟨n,by simp,Nat.zero_le _,[],Ac,h0⟩,?_⟩
  rintro i m σ H ⟨rfl,hi,ys,hD,p⟩
  by_cases hlt:i < n
  · refine .inr ⟨hlt,fun y σ' H' => H' D=some (.lst ys)∧ys.length < sizeLine∧Pv (i + 1) (ys ++ [y]) σ' (upd H' D (.lst (ys ++ [y]))),fun σ' H' => H' D=some (.lst ys)∧Pv (i + 1) ys σ' H',
      fun y σ' H' q => ⟨ys,q.1,q.2.1,n - (i + 1),by omega,rfl,hlt,_,Ac,q.2.2⟩,fun σ' H' q => ⟨n - (i + 1),by omega,rfl,hlt,ys,q⟩,fun x H' y => ?_⟩
    obtain ⟨e,y⟩:=y
    subst e y
    exact hs i ys σ _ hlt hD p
  · have e:i=n:=by omega
    subst e
    exact .inl ⟨Nat.le_refl _,hd ys σ H hD p⟩
theorem Fk {K:PySem.W.Frag} {a:Addr} {xs:List V} {g:TG} {tt:TT} {te:TE} {D:Addr} {Q:VK} {σ : St} {H:Hp} (Pv:Nat→List V→St→Hp→Prop) (h0:Pv 0 [] σ (upd H D (.lst [])))
    (hl:∀ i ys σ H,i≤xs.length→H D=some (.lst ys)→Pv i ys σ H→AE K H a xs)
    (hs:∀ i x ys σ H,xs[i]? = some x→H D=some (.lst ys)→Pv i ys σ H→g x σ H fun σ2 H2 => tt σ2 H2 fun b H3 =>
      if b=true then te σ2 H3 fun y H4 => H4 D=some (.lst ys)∧ys.length < sizeLine∧Pv (i + 1) (ys ++ [y]) σ2 (upd H4 D (.lst (ys ++ [y]))) else H3 D=some (.lst ys)∧Pv (i + 1) ys σ2 H3)
    (hd:∀ ys σ H,H D=some (.lst ys)→Pv xs.length ys σ H→Q (.ref D) H) :
    FG (Itl K a) g tt te D Q σ (upd H D (.lst [])):=by
  refine ⟨fun i m σ H => m=xs.length - i∧i≤xs.length∧∃ ys,H D=some (.lst ys)∧Pv i ys σ H,⟨xs.length,by simp,Nat.zero_le _,[],Ac,h0⟩,?_⟩
  rintro i m σ H ⟨rfl,hi,ys,hD,p⟩
  have hq:=hl i ys σ H hi hD p
  by_cases hlt:i < xs.length
  · refine .inr ⟨⟨xs,xs[i],hq,by simp [hlt]⟩,fun y σ' H' => H' D=some (.lst ys)∧ys.length < sizeLine∧Pv (i + 1) (ys ++ [y]) σ' (upd H' D (.lst (ys ++ [y]))),fun σ' H' => H' D=some (.lst ys)∧Pv (i + 1) ys σ' H',
      fun y σ' H' q => ⟨ys,q.1,q.2.1,xs.length - (i + 1),by omega,rfl,hlt,_,Ac,q.2.2⟩,fun σ' H' q => ⟨xs.length - (i + 1),by omega,rfl,hlt,ys,q⟩,fun x H' y => ?_⟩
    obtain ⟨e,y⟩:=y
    subst e
    exact hs i x ys σ _ (y xs hq) hD p
  · have e:i=xs.length:=by omega
    subst e
    exact .inl ⟨⟨xs,hq,Nat.le_refl _⟩,hd ys σ H hD p⟩
theorem E7 {lo:Int} {n:Nat} {g:TG} {te:TE} {D:Addr} {Q:VK} {σ : St} {H:Hp} (Pv:Nat→List V→St→Hp→Prop) (h0:Pv 0 [] σ (upd H D (.lst [])))
    (hs:∀ i ys σ H,i < n→H D=some (.lst ys)→Pv i ys σ H→g (.int (lo + i)) σ H fun σ2 H3 => te σ2 H3 fun y H4 => H4 D=some (.lst ys)∧ys.length < sizeLine∧Pv (i + 1) (ys ++ [y]) σ2 (upd H4 D (.lst (ys ++ [y]))))
    (hd:∀ ys σ H,H D=some (.lst ys)→Pv n ys σ H→Q (.ref D) H):FG (PK lo n) g N8 te D Q σ (upd H D (.lst [])) :=
  EB Pv h0 (fun i ys σ H hi hD p => hs i ys σ H hi hD p) hd
theorem Cc {K:PySem.W.Frag} {a:Addr} {xs:List V} {g:TG} {te:TE} {D:Addr} {Q:VK} {σ : St} {H:Hp} (Pv:Nat→List V→St→Hp→Prop) (h0:Pv 0 [] σ (upd H D (.lst [])))
    (hl:∀ i ys σ H,i≤xs.length→H D=some (.lst ys)→Pv i ys σ H→AE K H a xs)
    (hs:∀ i x ys σ H,xs[i]? = some x→H D=some (.lst ys)→Pv i ys σ H→g x σ H fun σ2 H3 => te σ2 H3 fun y H4 => H4 D=some (.lst ys)∧ys.length < sizeLine∧Pv (i + 1) (ys ++ [y]) σ2 (upd H4 D (.lst (ys ++ [y]))))
    (hd:∀ ys σ H,H D=some (.lst ys)→Pv xs.length ys σ H→Q (.ref D) H):FG (Itl K a) g N8 te D Q σ (upd H D (.lst [])) :=
  Fk Pv h0 hl (fun i x ys σ H hi hD p => hs i x ys σ H hi hD p) hd
end L2
namespace L2
open PySem PySem.Spec PyProof.Rows
def Ite (K:PySem.W.Frag) (a:Addr):It :=
  ⟨fun i H => ∃ xs x,AE K H a xs∧xs[i]? = some x,fun i H y H' => ∃ t x,y = .ref t∧H t=none∧H'=upd H t (.tup [.int i,x])∧∀ xs,AE K H a xs→xs[i]? = some x,fun i H => ∃ xs,AE K H a xs∧xs.length≤i⟩
theorem No {P:Program} {w:World} {K:PySem.W.Frag} {elts:List Expr} {x1:Nat} {tp:Pos} (a e it:Addr) (hne:e≠it) :
    NW P w K (.Tuple elts x1 tp) (Ite K a) [e,it] e (fun i h => (∃ old,IsEnum h e it (i:Nat) old)∧h.IsListIter it a i) where
  mem:=by simp
  obj:=fun i h st b hb => by
    obtain ⟨⟨old,he⟩,o,ho,hc,hd⟩:=st
    rcases List.mem_cons.mp hb with z | hb
    · subst z
      exact ⟨_,he,fun v z => by cases (show Data.fields _=Data.cell v from z)⟩
    · have z:b=it:=by simpa using hb
      subst z
      exact ⟨o,ho,fun v z => by rw [hd] at z; cases z⟩
  keep:=fun i h h' st k => by
    obtain ⟨⟨old,he⟩,hit⟩:=st
    exact ⟨⟨old,k e (by simp) _ he⟩,hit.at fun o z => k it (by simp) o z⟩
  item:=by
    intro X hP hw hK hc i pins s σ H E I hf st hg
    subst hP hw hK
    obtain ⟨⟨old,he⟩,hit⟩:=st
    obtain ⟨xs,x,hq,hx⟩:=hg
    obtain ⟨its,rv,pl,hz⟩:=I.list hq
    obtain ⟨u,hu,ru⟩:=rv.get hx
    obtain ⟨f0,f1,f2,f3,f4,f5⟩:=hf e (by simp)
    obtain ⟨g0,g1,g2,g3,g4,g5⟩:=hf it (by simp)
    refine wpAny_pyNext_enum_item he hit pl.isList (x:=u) (by simpa using hu) hne fun h1 heo hit1 ht1 hz1 hk1 => ⟨_,rfl,?_⟩
    refine wpAny_letOwnedTupleGo_enum heo fun h2 he2 hs2 => ?_
    have hk2:∀ b o,b≠e→b≠it→s.heap.get? b=some o→h2.get? b=some o:=fun b o n1 n2 q => (hs2.2 b n1).trans (hk1 b o n1 n2 q)
    have elt:e < s.heap.objs.size:=Heap.lt_size he
    have ilt:it < s.heap.objs.size:=by obtain ⟨o,z,_⟩:=hit; exact Heap.lt_size z
    have hTe:s.heap.objs.size≠e:=Nat.ne_of_gt elt
    have hT:h2.get? s.heap.objs.size=some { cls:=.type "tuple",data:=.seq #[.int i s.toks,u] }:=(hs2.2 _ hTe).trans ht1
    have hn:H s.heap.objs.size=none:=I.fresh
    have hob:∀ b o,h2.get? b=some o∨s.heap.get? b=some o→True:=fun _ _ _ => trivial
    have e2:∃ o,h2.get? e=some o:=⟨_,he2⟩
    have i2:∃ o,h2.get? it=some o:=by
      obtain ⟨o,z,_⟩:=hit1
      exact ⟨o,(hs2.2 it hne.symm).trans z⟩
    have I2:AL X pins σ (upd H s.heap.objs.size (.tup [.int i,x])) { s with heap:=h2,toks:=s.toks + 1 }:=by
      refine I.step (g':=s.gens) (d':=s.drawn) (ch:=[e,it]) (fun b hb => ?_) (fun b o _ _ hcb q _ => ?_) (fun b o _ _ hcb q _ => ?_) (fun b o _ q n => ?_) (fun b o hcb q => ?_) (fun b ys q => ?_) (fun b o v q => ?_) (fun b qs q => ?_) (fun m hm => ?_) (fun b v q => ?_) I.bare
      · rcases List.mem_cons.mp hb with z | hb
        · subst z; exact ⟨f3,f1,f4,f5⟩
        · have z:b=it:=by simpa using hb
          subst z; exact ⟨g3,g1,g4,g5⟩
      · exact hk2 b o (fun z => hcb (by simp [z])) (fun z => hcb (by simp [z])) q
      · exact ⟨o.slots,hk2 b o (fun z => hcb (by simp [z])) (fun z => hcb (by simp [z])) q⟩
      · rw [Ak (Nat.ne_of_lt (Heap.lt_size q))]; exact n
      · exact ⟨o,hk2 b o (fun z => hcb (by simp [z])) (fun z => hcb (by simp [z])) q⟩
      · rw [Ak (Al q hn)]; exact q
      · rw [Ak (Al q hn)]; exact q
      · exact ⟨#[],by rw [Ak (Al q hn),q]; simp⟩
      · obtain ⟨o,es,ep,ho,r⟩:=hm
        exact ⟨o,es,ep,hk2 _ o (Ne.symm f1) (Ne.symm g1) ho,r⟩
      · by_cases hb:b=s.heap.objs.size
        · subst hb
          rw [Ac] at q
          cases q
          exact ⟨by show 2≤sizeLine; decide,[.int i s.toks,u],.cons ⟨_,rfl⟩ (.cons ru .nil),_,hT,rfl,_,rfl⟩
        · rw [Ak hb] at q
          refine (I.hok b v q).stay (fun c o hc' z => hk2 c o ?_ ?_ z) (fun c z => by rw [Ak (Al z hn)]; exact z) fun c ys z => by rw [Ak (Al z hn)]; exact z
          · rcases hc' with y | y
            · rw [y]; exact fun w => by rw [w,f0] at q; cases q
            · exact fun w => by rw [w,f0] at y; cases y
          · rcases hc' with y | y
            · rw [y]; exact fun w => by rw [w,g0] at q; cases q
            · exact fun w => by rw [w,g0] at y; cases y
    refine ⟨.ref s.heap.objs.size,_,I2,rfl,⟨_,x,rfl,hn,rfl,fun ys hy => by rw [I.list_inj hy hq]; exact hx⟩,⟨⟨_,he2⟩,?_⟩,fun b hb => ?_⟩
    · exact hit1.at fun o z => (hs2.2 it hne.symm).trans z
    · rcases List.mem_cons.mp hb with z | hb
      · subst z; rw [Ak hTe.symm]; exact f0
      · have z:b=it:=by simpa using hb
        subst z; rw [Ak (Nat.ne_of_lt ilt)]; exact g0
  done:=by
    intro X hP hw hK hc i pins s σ H E I hf st hg
    subst hP hw hK
    obtain ⟨⟨old,he⟩,hit⟩:=st
    obtain ⟨xs,hq,hx⟩:=hg
    obtain ⟨its,rv,pl,hz⟩:=I.list hq
    obtain ⟨g0,g1,g2,g3,g4,g5⟩:=hf it (by simp)
    have hl:=rv.length
    exact wpAny_pyNext_enum_end (I.ok.hd hc) he hit pl.isList (by simp; omega) fun h' eb => ⟨rfl,I.turned (t':=s.toks) (fun b o hb q => eb b o hb q) g0 g1 g3 g4 g5⟩
  self:=fun _ _ _ _ _ st h => by
    obtain ⟨⟨old,he⟩,_⟩:=st
    exact wpAny_pyIter_enum he h
section
variable {X:Cx}
def iEnum (K:PySem.W.Frag) (ta:TA):TI:=fun σ H R => ta σ H fun vs H1 => ∃ a,vs=[.ref a]∧(∃ xs,AE K H1 a xs)∧R (Ite K a) H1
theorem P9 {elts:List Expr} {x1:Nat} {tp:Pos} {a:Expr} {ta:TA} {p pos:Pos} (hg:Gl X "enumerate") (hm:X.mg "enumerate" = none) (ha:PA X [a] ta) (hs:starEach [a] X.env=[(false,eval a X.env)]:=by rfl) :
    PI X (.Tuple elts x1 tp) (.Call (.Name "enumerate" p) [a] [] pos) (iEnum X.K ta):=by
  intro pins s σ H R I h
  refine Call_ (GR I hg hm (by decide +kernel:bootBuiltins "enumerate" = some (.type "enumerate")) (PyProof.Rows.callWith_type1 (B0 (ha pos pins s σ H _ I h) fun us s1 ⟨vs,H1,I1,r1,q1⟩ => ?_) hs rfl))
  obtain ⟨b,e,⟨xs,hq⟩,q⟩:=q1
  subst e
  obtain ⟨u,rfl,ru⟩:=A5.one r1
  cases (show u=Value.ref b from ru)
  obtain ⟨its,rv,pl,hz⟩:=I1.list hq
  refine call_enumerate_list pl.isList fun h' he hit hsz hk => ?_
  refine wpAny_pyIter_enum he ?_
  have I2:AL X pins σ H1 { s1 with heap:=h' }:=I1.kept (t':=s1.toks) hk
  refine ⟨s1.heap.objs.size + 1,[s1.heap.objs.size + 1,s1.heap.objs.size],_,_,H1,rfl,I2,No b (s1.heap.objs.size + 1) s1.heap.objs.size (Nat.succ_ne_self _),⟨⟨.none,he⟩,hit⟩,fun c hc => ?_,q⟩
  rcases List.mem_cons.mp hc with z | hc
  · subst z; exact I1.fpOk (Nat.le_succ _) (I1.hok.fresh (Nat.le_succ _))
  · have z:c=s1.heap.objs.size:=by simpa using hc
    subst z; exact I1.fpOk (Nat.le_refl _) (I1.hok.fresh (Nat.le_refl _))
end
theorem Pg {K:PySem.W.Frag} {a:Addr} {xs:List V} {g:TG} {tb:TS} {D:Ht} {σ : St} {H:Hp} (Pv:Nat→St→Hp→Prop) (h0:Pv 0 σ H) (hl:∀ i σ H,i≤xs.length→Pv i σ H→AE K H a xs)
    (hs:∀ i x t σ H,xs[i]? = some x→H t=none→Pv i σ H→g (.ref t) σ (upd H t (.tup [.int i,x])) fun σ2 H2 => tb { D with nx:=Pv (i + 1),ct:=Pv (i + 1),bk:=D.nx } σ2 H2) (hd:∀ σ H,Pv xs.length σ H→D.nx σ H) :
    ∃ W:Nat→Nat→St→Hp→Prop,(∃ m,W 0 m σ H)∧∀ i m σ H,W i m σ H →
      ((Ite K a).stop i H∧D.nx σ H)∨((Ite K a).go i H∧∃ N:St→Hp→Prop,(∀ σ' H',N σ' H'→∃ m',m' < m∧W (i + 1) m' σ' H')∧∀ x H',(Ite K a).yld i H x H'→g x σ H' fun σ2 H2 => tb { D with nx:=N,ct:=N,bk:=D.nx } σ2 H2):=by
  refine ⟨fun i m σ H => m=xs.length - i∧i≤xs.length∧Pv i σ H,⟨xs.length,by simp,Nat.zero_le _,h0⟩,?_⟩
  rintro i m σ H ⟨rfl,hi,p⟩
  have q:=hl i σ H hi p
  by_cases hlt:i < xs.length
  · refine .inr ⟨⟨xs,xs[i],q,by simp [hlt]⟩,Pv (i + 1),fun σ' H' p' => ⟨xs.length - (i + 1),by omega,rfl,hlt,p'⟩,fun y H' hy => ?_⟩
    obtain ⟨t,x,rfl,ht,rfl,hx⟩:=hy
    exact hs i x t σ H (hx xs q) ht p
  · have e:i=xs.length:=by omega
    subst e
    exact .inl ⟨⟨xs,q,Nat.le_refl _⟩,hd σ H p⟩
end L2
namespace L2
open PySem PySem.Spec PyProof.Rows
theorem FQ:∀ xs:List Int,(∀ x∈xs,0≤x∧x < 65536)→PyData.canLayAll0 (xs.map PyData.int)=true∧PyData.depthAll (xs.map PyData.int)=0∧PyData.weightAll (xs.map PyData.int)≤17 * xs.length
  | [],_ => ⟨rfl,rfl,Nat.le_refl _⟩
  | x :: r,h => by
    obtain ⟨a,b,c⟩:=FQ r fun y hy => h y (List.mem_cons_of_mem _ hy)
    obtain ⟨h1,h2⟩:=h x List.mem_cons_self
    have hw:PyData.weight (.int x)≤16:=by
      simp only [PyData.weight]
      split
      · omega
      · rename_i hx
        have hx':x≠0:=by simpa using hx
        have:x.natAbs.log2 < 16:=(Nat.log2_lt (by omega)).mpr (by omega)
        omega
    refine ⟨?_,?_,?_⟩
    · simp only [List.map_cons,PyData.canLayAll0,PyData.canLay0,a,Bool.and_true]
    · simp only [List.map_cons,PyData.depthAll,PyData.depth,b]; rfl
    · simp only [List.map_cons,PyData.weightAll,List.length_cons]; omega
theorem Jn {xs:List Int} (h:∀ x∈xs,0≤x∧x < 65536) (hl:xs.length≤1000):PyData.layable0 (.list (xs.map PyData.int))=true:=by
  obtain ⟨a,b,c⟩:=FQ xs h
  unfold PyData.layable0
  rw [Bool.and_eq_true,Bool.and_eq_true]
  refine ⟨⟨by simpa only [PyData.canLay0] using a,decide_eq_true ?_⟩,decide_eq_true ?_⟩
  · simp only [PyData.depth,b]; decide
  · simp only [PyData.weight]; omega
def rIndex (K:PySem.W.Frag):V→List V→Hp→VK→Prop:=fun x vs H Q => ∃ (l:Addr) (ns:List Int) (k:Int),x = .ref l∧vs=[.int k]∧AE K H l (ns.map V.int)∧(∀ y∈ns,0≤y∧y < 65536)∧ns.length≤1000∧k∈ns∧Q (.int (ns.idxOf k:Nat)) H
theorem OR {X:Cx}:MtM X "list.index" (rIndex X.K):=by
  intro pins s σ H x vs v us Q I rx rv h
  obtain ⟨l,ns,k,rfl,rfl,hq,hs,hl,hk,q⟩:=h
  cases rx
  obtain ⟨u,rfl,ru⟩:=rv.one
  obtain ⟨t,rfl⟩:=(show ∃ t,u=Value.int k t from ru)
  obtain ⟨its,rr,pl,hz⟩:=I.list hq
  exact index_list_ints pl.isList (II rr) (Jn hs hl) hk ⟨.int _,H,I.tok _,⟨_,rfl⟩,q⟩
end L2
set_option Elab.async false
set_option linter.all false
set_option maxRecDepth 100000
set_option maxHeartbeats 4000000
namespace L2
open PySem PySem.Spec PyProof.Rows
structure Put (fs:List Addr) (h h':Heap) (e:Addr):Prop where
  keep:∀ b o,b≠e→b ∉ fs→h.get? b=some o→h'.get? b=some o
  slot:∀ b o,b≠e→h.get? b=some o→∃ sl,h'.get? b=some { o with slots:=sl }
  exc:∃ oe vs oe' T oT ts,h.get? e=some oe∧oe.data = .fields vs∧h'.get? e=some oe'∧oe'.cls=oe.cls∧oe'.dict=oe.dict∧oe'.data = .fields (vs.setIfInBounds 1 (.ref T))∧1 < vs.size ∧
    h.objs.size≤T∧T≠e∧h'.get? T=some oT∧oT.data = .fields ts∧ts[3]? = some .none
def Rests (h:Heap) (vs:Array Value) (P:Addr→Prop):Prop :=
  vs[1]? = some .none∨∃ T oT ts,vs[1]? = some (.ref T)∧P T∧h.get? T=some oT∧oT.data = .fields ts∧ts[3]? = some .none
def Py (nb:Bool) (h:Heap) (vs:Array Value) (P:Addr→Prop):Prop:=Rests h vs P∧(nb=true→vs[2]? = some .none)
section
variable {M:Model} {A:Around} {E:Value→Shared→Prop} {s:Shared}
theorem Ka {base:Heap} {env:Env} {outer:List Env} {L e:Addr} {oe:Obj} {vs:Array Value} {head:Value} {hadNext:Bool} {Q:Unit→Shared→Prop}
    (hfr:A.frames=some (env :: outer)) (hl:s.heap.FunFrames base (env :: outer)) (hf:env.frame=some L)
    (he:s.heap.get? e=some oe) (hd:oe.data = .fields vs) (hsz : 1 < vs.size)
    (h:∀ h',Put (GC (env :: outer)) s.heap h' e→Q () { s with heap:=h' }) :
    wpAny M A (do let a ← frameOf env; let pl ← entryPlaceOf L hadNext; let b ← EntryCells.newEntry head a .none (rawInt L) .none pl; setField (.ref e) 1 b) (fun _ s' => wpAny M A (setFlight (.ref e) none) Q E s') E s:=by
  have hene:e ∉ GC (env :: outer):=fun hm => by
    obtain ⟨_,o,ho,hnf⟩:=hl.mem hm
    rw [he] at ho; injection ho with ho; subst ho; exact hnf vs hd
  refine wpAny_bind (wpAny_frameOf_fun hfr hl hf fun h1 hs1 => ?_)
  refine wpAny_bind (wpAny_entryPlaceOf fun pl hpl => ?_)
  unfold EntryCells.newEntry newFields
  refine wpAny_bind (wpAny_newObj_type ?_ (hpl.sizeOk5 _ _ _ _ _))
  have he1:h1.get? e=some oe:=(hs1.2.1 e hene).trans he
  have he2:=Heap.get?_push_of_some (h:=h1) { cls:=.type "traceback",dict:=none,data:=.fields ([head,.ref L,.none,rawInt L,.none] ++ (if pl.isEmpty then List.replicate 6 Value.none else pl)).toArray } he1
  refine wpAny_setField he2 hd hsz ?_
  have hTe:h1.objs.size≠e:=Nat.ne_of_gt (Heap.lt_size he1)
  have hd3:=Obj.data_mapFields hd (·.setIfInBounds 1 (Value.ref h1.objs.size))
  have he3:=Heap.get?_update_self (Obj.mapFields (·.setIfInBounds 1 (Value.ref h1.objs.size))) he2 (Obj.isFreed_of_fields hd3)
  have hT3:=(Heap.get?_update_other (h1.push { cls:=.type "traceback",dict:=none,data:=.fields ([head,.ref L,.none,rawInt L,.none] ++ (if pl.isEmpty then List.replicate 6 Value.none else pl)).toArray })
    (Obj.mapFields (·.setIfInBounds 1 (Value.ref h1.objs.size))) (Ne.symm hTe)).trans (Heap.get?_push_size h1 rfl)
  unfold setFlight
  refine wpAny_bind (wpAny_field he3 hd3 (x:=.ref h1.objs.size) (by simp [hsz]) ?_)
  rw [if_pos (show (Value.ref h1.objs.size != Value.none)=true from by simp)]
  refine wpAny_setField hT3 rfl (by simp only [List.size_toArray,List.length_append,List.length_cons,List.length_nil] <;> omega) (h _ ?_)
  have keep:∀ b o,b≠e→h1.get? b=some o →
      (((h1.push { cls:=.type "traceback",dict:=none,data:=.fields ([head,.ref L,.none,rawInt L,.none] ++ (if pl.isEmpty then List.replicate 6 Value.none else pl)).toArray }).update e (Obj.mapFields (·.setIfInBounds 1 (Value.ref h1.objs.size)))).update h1.objs.size
        (Obj.mapFields (·.setIfInBounds 3 ((none:Option Addr).elim Value.none fun f => rawInt f)))).get? b=some o:=fun b o hbe hb => by
    have hbT:h1.objs.size≠b:=Nat.ne_of_gt (Heap.lt_size hb)
    rw [Heap.get?_update_other _ _ hbT,Heap.get?_update_other _ _ (Ne.symm hbe)]
    exact Heap.get?_push_of_some _ hb
  refine ⟨fun b o hbe hbf hb => keep b o hbe ((hs1.2.1 b hbf).trans hb),fun b o hbe hb => ?_,?_⟩
  · obtain ⟨sl,hsl⟩:=hs1.2.2 b o hb
    exact ⟨sl,keep b _ hbe hsl⟩
  · have hTn:s.heap.objs.size≤h1.objs.size:=by rw [hs1.1]; exact Nat.le_refl _
    refine ⟨oe,vs,_,h1.objs.size,_,_,he,hd,(Heap.get?_update_other _ _ hTe).trans he3,Obj.cls_mapFields _ _,?_,hd3,hsz,hTn,hTe,Heap.get?_update_self _ hT3 (Obj.isFreed_of_fields (Obj.data_mapFields rfl _)),Obj.data_mapFields rfl _,by first | (simp; done) | (rcases hpl with rfl | ⟨_,_,_,_,_,_,_,rfl⟩ <;> simp)⟩
    obtain ⟨c,dd,dt,sl⟩:=oe
    cases dt <;> rfl
theorem OO {base:Heap} {env:Env} {outer:List Env} {L e:Addr} {oe:Obj} {vs:Array Value} {Q:Unit→Shared→Prop} {P:Addr→Prop}
    (hfr:A.frames=some (env :: outer)) (hl:s.heap.FunFrames base (env :: outer)) (hf:env.frame=some L)
    (he:s.heap.get? e=some oe) (hd:oe.data = .fields vs) (h1:Rests s.heap vs P)
    (h:∀ h',Put (GC (env :: outer)) s.heap h' e→Q () { s with heap:=h' }) :
    wpAny M A (noteFrame (.ref e) env) (fun _ s2 => wpAny M A (setFlight (.ref e) none) Q E s2) E s:=by
  unfold noteFrame
  simp only [hf]
  rcases h1 with h1 | ⟨T,oT,ts,h1,_,hT,hdT,h3⟩
  · refine wpAny_bind (wpAny_field he hd h1 ?_)
    rw [if_neg (by decide)]
    exact Ka hfr hl hf he hd (Array.getElem?_eq_some_iff.mp h1).1 h
  · refine wpAny_bind (wpAny_field he hd h1 ?_)
    rw [if_pos (show (Value.ref T != Value.none)=true from by simp)]
    refine wpAny_bind (wpAny_field hT hdT h3 ?_)
    rw [if_neg (show ¬ ((Value.none == rawInt L)=true) from by simp [rawInt])]
    refine wpAny_bind (wpAny_setField hT hdT (Array.getElem?_eq_some_iff.mp h3).1 ?_)
    rw [Heap.update_setField_same _ _ _ _ _ _ hT hdT h3]
    exact Ka hfr hl hf he hd (Array.getElem?_eq_some_iff.mp h1).1 h
end
theorem Bl.ex {P:Program} {w:World} {H:Hp} {h:Heap} {a:Addr} {o:HO} (x:Bl P w H h a o):∃ ob,h.get? a=some ob:=by
  cases o with
  | lst xs => obtain ⟨_,_,_,_,e⟩:=x; exact ⟨_,e⟩
  | tup xs => obtain ⟨_,_,_,p⟩:=x; obtain ⟨o,e,_⟩:=p; exact ⟨_,e⟩
  | dK kvs => obtain ⟨_,_,_,_,o,_,_,e,_⟩:=x; exact ⟨_,e⟩
  | dT kvs => obtain ⟨_,_,_,_,o,_,_,e,_⟩:=x; exact ⟨_,e⟩
  | set S n => obtain ⟨o,_,_,_,e,_⟩:=x; exact ⟨_,e⟩
  | ins C dx fs => obtain ⟨_,_,_,e,_⟩:=x; exact ⟨_,e⟩
  | own y => obtain ⟨_,e⟩:=x; exact ⟨_,e⟩
  | xd fs => obtain ⟨_,⟨_,_,_,e,_⟩,_⟩:=x; exact ⟨_,e⟩
  | rng lo hi => obtain ⟨_,_,_,e⟩:=x; exact ⟨_,e⟩
  | frz ob u => obtain ⟨e,_⟩:=x; exact ⟨_,e⟩
  | tbl ps => exact ⟨_,x⟩
  | met f y => exact ⟨_,x⟩
  | ext φ => exact x.2.1
section
variable {nb:Bool} {X:Cx} {pins:List (Addr×Obj)} {σ : St} {H:Hp} {s:Shared} {a:Addr} {C:Value} {d:Option Addr} {h':Heap}
theorem AL.put (I:AL X pins σ H s) (P:Put (GC X.stack) s.heap h' a) (n0:X.s₀.heap.get? a=none) (fr:H a=none) (pn:∀ p∈X.pn ++ pins,p.1≠a):AL X pins σ H { s with heap:=h' }:=by
  obtain ⟨oe,vs,oe',T,oT,ts,he,hd,_⟩:=P.exc
  have neL:a≠X.env.locals:=fun z => by
    obtain ⟨m,⟨o,es,ep,ho,hdt,_⟩,_⟩:=I.loc
    rw [← z,he] at ho; cases ho; rw [hd] at hdt; cases hdt
  have neC:∀ x c,X.env.cells.lookup x=some c→c≠a:=fun x c e z => by
    obtain ⟨v,o,ho,hdt⟩:=I.cell x c e
    rw [z,he] at ho; cases ho; rw [hd] at hdt; cases hdt
  have stk:∀ b,b≠X.env.locals→b ∉ X.fs→b ∉ GC X.stack:=fun b h1 h2 z => (List.mem_cons.mp (I.stkSub b z)).elim h1 h2
  have neL':∀ b o,X.s₀.heap.get? b=some o→b≠X.env.locals:=fun b o e => Nat.ne_of_lt (Nat.lt_of_lt_of_le (Heap.lt_size e) I.ok.above)
  have nea:∀ b o,X.s₀.heap.get? b=some o→b≠a:=fun b o e z => by rw [z,n0] at e; cases e
  have cellK:∀ x c,X.env.cells.lookup x=some c→∀ v,s.heap.IsCell c v→h'.IsCell c v:=fun x c e v ⟨o,ho,hdt⟩ => by
    obtain ⟨sl,q⟩:=P.slot c o (neC x c e) ho
    exact ⟨_,q,hdt⟩
  refine ⟨I.ok,I.os,I.bare,⟨fun b o e n hb hx => ?_,fun b o e n hb hx => ?_,fun b o e n hx => I.base.free b o e n hx,fun b o e hx => ?_,I.base.tups,I.base.frzs,I.base.tbls⟩,?_,fun x c e => ?_,I.free,I.freeC,fun p hp => ?_,fun b u e => ?_,I.len⟩
  · exact P.keep b o (nea b o e) (stk b (neL' b o e) hb) (I.base.keep b o e n hb hx)
  · obtain ⟨sl,e1⟩:=I.base.slot b o e n hb hx
    obtain ⟨sl',e2⟩:=P.slot b _ (nea b o e) e1
    exact ⟨sl',e2⟩
  · obtain ⟨o',e1⟩:=I.base.there b o e hx
    obtain ⟨sl',e2⟩:=P.slot b _ (nea b o e) e1
    exact ⟨_,e2⟩
  · obtain ⟨m,⟨o,es,ep,ho,r⟩,hl⟩:=I.loc
    obtain ⟨sl,e2⟩:=P.slot _ _ (Ne.symm neL) ho
    refine ⟨m,⟨_,es,ep,e2,r⟩,fun i x v e1 e2 e3 => ?_⟩
    obtain ⟨u,r,l⟩:=hl i x v e1 e2 e3
    refine ⟨u,r,?_⟩
    rcases l with l | ⟨k,c,e,z⟩
    · exact .inl l
    · exact .inr ⟨k,c,e,cellK x c e _ z⟩
  · obtain ⟨v,z⟩:=I.cell x c e
    exact ⟨v,cellK x c e v z⟩
  · obtain ⟨e,n,ne,nf,dd⟩:=I.pin p hp
    exact ⟨P.keep p.1 p.2 (pn p hp) (stk p.1 ne nf) e,n,ne,nf,dd⟩
  · have tr:∀ c v,H c=some v→∀ u,s.heap.get? c=some u→h'.get? c=some u:=fun c v hc u q => by
      refine P.keep c u (fun z => by rw [z,fr] at hc; cases hc) (fun z => ?_) q
      rw [I.stkFree c z] at hc; cases hc
    refine (I.hok b u e).stay (fun c v hc q => ?_) (fun _ q => q) fun _ _ q => q
    rcases hc with z | z
    · rw [z] at q ⊢; exact tr b u e v q
    · exact tr c _ z v q
structure CS (nb:Bool) (X:Cx) (pins:List (Addr×Obj)) (σ : St) (H:Hp) (a:Addr) (C:Value) (d:Option Addr) (s:Shared):Prop where
  inv:AL X pins σ H s
  new:X.s₀.heap.get? a=none
  free:H a=none
  pin:∀ p∈X.pn ++ pins,p.1≠a
  obj:∃ oe vs,s.heap.get? a=some oe∧oe.cls=C∧oe.dict=d∧oe.data = .fields vs∧Py nb s.heap vs fun T => T≠a∧X.s₀.heap.get? T=none∧H T=none
theorem CS.put (F:CS nb X pins σ H a C d s) (P:Put (GC X.stack) s.heap h' a):CS nb X pins σ H a C d { s with heap:=h' }:=by
  obtain ⟨oe,vs,he,hc,hdd,hd,_,hx⟩:=F.obj
  refine ⟨F.inv.put P F.new F.free F.pin,F.new,F.free,F.pin,?_⟩
  obtain ⟨oe2,vs2,oe',T,oT,ts,he2,hd2,he',hc',hdd',hd',hsz,hT,hTe,hT',hTd,hT3⟩:=P.exc
  rw [he] at he2; cases he2
  rw [hd] at hd2; cases hd2
  refine ⟨oe',_,he',hc'.trans hc,hdd'.trans hdd,hd',.inr ⟨T,oT,ts,by simp [hsz],⟨hTe,?_,?_⟩,hT',hTd,hT3⟩,fun z => by simpa using hx z⟩
  · exact Heap.get?_none_of_le (Nat.le_trans F.inv.sz hT)
  · exact F.inv.hok.fresh hT
theorem CS.at (F:CS nb X pins σ H a C d s):∃ oe vs,s.heap.get? a=some oe∧oe.cls=C∧oe.dict=d∧oe.data = .fields vs:=by
  obtain ⟨oe,vs,he,hc,hdd,hd,_⟩:=F.obj
  exact ⟨oe,vs,he,hc,hdd,hd⟩
theorem CS.note {Q:Unit→Shared→Prop} {E:Value→Shared→Prop} {A:Around} {M:Model} (F:CS nb X pins σ H a C d s) (hA:A.frames=some X.stack) (hs:X.stack=X.env :: X.outer) (hf:X.env.frame=some X.env.locals)
    (h:∀ h',CS nb X pins σ H a C d { s with heap:=h' }→(∃ oe vs T oT ts,h'.get? a=some oe∧oe.data = .fields vs∧vs[1]? = some (.ref T)∧h'.get? T=some oT∧oT.data = .fields ts∧ts[3]? = some .none)→Q () { s with heap:=h' }) :
    wpAny M A (noteFrame (.ref a) X.env) (fun _ s2 => wpAny M A (setFlight (.ref a) none) Q E s2) E s:=by
  obtain ⟨oe,vs,he,hc,hdd,hd,hr,_⟩:=F.obj
  refine OO (base:=X.base) (hA.trans (congrArg some hs)) (hs ▸ F.inv.stack) hf he hd hr fun h' P => ?_
  have P':Put (GC X.stack) s.heap h' a:=by rw [hs]; exact P
  refine h h' (F.put P') ?_
  obtain ⟨oe2,vs2,oe',T,oT,ts,he2,hd2,he',hc',hdd',hd',hsz,hT,hTe,hT',hTd,hT3⟩:=P.exc
  exact ⟨oe',_,T,oT,ts,he',hd',by simp [hsz],hT',hTd,hT3⟩
end
def JB (nb:Bool) (P:Program) (w:World):JA:=fun outer H s E e s' =>
  ∃ a C d H',e = .ref a∧s'.os=s.os∧AllBare s'.gens∧Un (GC outer) [] H H' s.heap s'.heap∧Hr P w H' s'.heap∧s.heap.get? a=none∧H' a=none ∧
    (∃ oe vs,s'.heap.get? a=some oe∧oe.cls=C∧oe.dict=d∧oe.data = .fields vs∧Py nb s'.heap vs fun T => T≠a∧s.heap.get? T=none∧H' T=none)∧E C d H'
abbrev CXE (P:Program) (w:World):JA:=JB false P w
section
variable {nb:Bool} {P:Program} {w:World} {K:PySem.W.Frag} {mg:Str→Option Value} {base:Heap} {N:List Str} {qual:Str} {scope:Scope} {f:Addr} {cd:Value} {A:Around} {outer:List Env} {s0:Shared} {H0:Hp} {E:XK}
theorem CS.leave {pins:List (Addr×Obj)} {σ : St} {H:Hp} {s:Shared} {a:Addr} {C:Value} {d:Option Addr} (F:CS nb (DW (JB nb P w) P w K mg base N qual scope f cd A outer s0 H0 E) pins σ H a C d s) (hE:E C d H) :
    (DW (JB nb P w) P w K mg base N qual scope f cd A outer s0 H0 E).xe (.ref a) s:=by
  show wpAny _ _ (leaving _ (.ref a)) _ _ s
  unfold leaving
  refine wpAny_bind (F.note F.inv.ok.frames rfl rfl fun h' F' _ => ?_)
  exact ⟨a,C,d,H,rfl,F'.inv.os,F'.inv.bare,F'.inv.base,F'.inv.hok,F'.new,F'.free,F'.obj,hE⟩
end
section
variable {nb:Bool} {X:Cx} {pins:List (Addr×Obj)} {σ : St} {H:Hp} {s s':Shared} {e:Value} {E:XK}
theorem AL.flies (I:AL X pins σ H s) (hx:X.ex=[]) (h:JB nb X.prog X.w X.stack H s E e s'):∃ a C d H',e = .ref a∧CS nb X pins σ H' a C d s'∧E C d H':=by
  obtain ⟨a,C,d,H',rfl,os,bare,un,hok,na,fa,obj,q⟩:=h
  obtain ⟨hh,g,dr,t,os'⟩:=s'
  obtain rfl:os'=s.os:=os
  have old:∀ b,s.heap.get? b=none→X.s₀.heap.get? b=none:=fun b n => by
    cases z:X.s₀.heap.get? b with
    | none => rfl
    | some o =>
      obtain ⟨o',e⟩:=I.base.there b o z (by rw [hx]; simp)
      rw [n] at e; cases e
  refine ⟨a,C,d,H',rfl,⟨I.call (h':=hh) (g':=g) (d':=dr) (t':=t) (ch:=[]) un hok bare (fun b z => absurd z (by simp)),old a na,fa,fun p hp z => ?_,?_⟩,q⟩
  · have:=(I.pin p hp).1
    rw [z,na] at this; cases this
  · obtain ⟨oe,vs,he,hc,hdd,hd,hr,hx⟩:=obj
    refine ⟨oe,vs,he,hc,hdd,hd,?_,hx⟩
    rcases hr with hr | ⟨T,oT,ts,h1,⟨h2,h3,h4⟩,h5,h6,h7⟩
    · exact .inl hr
    · exact .inr ⟨T,oT,ts,h1,⟨h2,old T h3,h4⟩,h5,h6,h7⟩
theorem AL.raised {C:Value} {args:List Value} {h':Heap} {a:Addr} (I:AL X pins σ H s) (hx:X.ex=[]) (m:Heap.MadeExcOf s.heap h' a C args):CS nb X pins σ H a C none { s with heap:=h' }:=by
  obtain ⟨t,h1,h2,h3⟩:=m.there
  have old:∀ b,s.heap.get? b=none→X.s₀.heap.get? b=none:=fun b n => by
    cases z:X.s₀.heap.get? b with
    | none => rfl
    | some o =>
      obtain ⟨o',e⟩:=I.base.there b o z (by rw [hx]; simp)
      rw [n] at e; cases e
  refine ⟨I.kept (t':=s.toks) m.keeps,old a m.new,?_,fun p hp z => ?_,⟨_,_,h1,rfl,rfl,rfl,.inl rfl,fun _ => rfl⟩⟩
  · cases q:H a with
    | none => rfl
    | some u =>
      obtain ⟨o,e⟩:=(I.hok a u q).ex
      rw [m.new] at e; cases e
  · have:=(I.pin p hp).1
    rw [z,m.new] at this; cases this
end
section
variable {nb:Bool} {P:Program} {w:World} {K:PySem.W.Frag} {mg:Str→Option Value} {base:Heap} {N:List Str} {qual:Str} {scope:Scope} {f:Addr} {cd:Value} {A:Around} {outer:List Env} {s0:Shared} {H0:Hp} {E:XK}
theorem JT:GZ (JB nb P w) (DW (JB nb P w) P w K mg base N qual scope f cd A outer s0 H0 E) E:=fun pins σ H s e s' I h => by
  obtain ⟨a,C,d,H',rfl,F,q⟩:=I.flies (X:=DW (JB nb P w) P w K mg base N qual scope f cd A outer s0 H0 E) rfl h
  exact F.leave q
theorem EY:PassesOwn (model P w) (A.deeper (envOfC qual scope s0.heap.objs.size f cd)) (envOfC qual scope s0.heap.objs.size f cd) (DW (JB nb P w) P w K mg base N qual scope f cd A outer s0 H0 E).xe:=PassesOwn.leaving
end
abbrev Jx:List Value:=[.type "ValueError",.type "Exception",.type "BaseException",.type "object"]
theorem KU {K:PySem.W.Frag} {h:Heap} {C:Addr} {bmB:List Value} {newId:String} (X:K.In h) (q:PySem.W.excIn K C bmB newId=true) :
    ∃ nm qn N bs bm hdct sn sub ab col dd k0 k1 k2 k3 k5 mN,h.get? C=some (excClassObj nm qn C N bs bm hdct sn sub ab col dd k0 k1 k2 k3 k5 newId)∧h.Ns N mN∧mN "__init__" = none∧OwnTail h bmB bm:=by
  unfold PySem.W.excIn at q
  split at q
  · rename_i dd cd sl ho
    split at q
    · rename_i C' bm k0 k1 k2 k3 n k5 hm hs
      simp only [Bool.and_eq_true,beq_iff_eq,Bool.not_eq_true'] at q
      obtain ⟨⟨⟨⟨⟨rfl,rfl⟩,hdel⟩,ht⟩,hok⟩,hni⟩:=q
      obtain ⟨nm,bs,mro,ns,qn,hd,sn,sub,ab,col,del⟩:=cd
      dsimp only at hm hdel hok hni
      subst hm hdel
      have hsl:sl = #[k0,k1,k2,k3,some (.builtin n),k5]:=by
        obtain ⟨l⟩:=sl
        simp only at hs
        rw [hs]
      subst hsl
      exact ⟨nm,qn,ns,bs,bm,hd,sn,sub,ab,col,dd,k0,k1,k2,k3,k5,_,X _ _ ho,.of_isNs (PySem.W.isNs_of_in X hok),PySem.W.nsMap_none_of_in X hok hni,PySem.W.tail_of_in X ht⟩
    · cases q
  · cases q
def tRaise (C:Addr) (E:XK) (ta:TA):TS:=fun _ σ H => ta σ H fun vs H1 => vs.length≤100∧E (.ref C) none H1
def Pw (nb:Bool) (X:Cx) (E:XK):Prop:=X.ex=[]∧∀ pins σ H a C d s,CS nb X pins σ H a C d s→E C d H→X.xe (.ref a) s
section
variable {nb:Bool} {X:Cx} {E:XK} {x:Str} {C:Addr} {np cpos pos:Pos} {e:Expr} {es:List Expr} {ta:TA}
theorem Ot (hW:Pw nb X E) (hc:X.calm=true) (hg:Gl X x) (hm:X.mg x=some (.ref C)) (q:PySem.W.excIn X.K C Jx "ValueError.__new__" = true) (ha:PA X (e :: es) ta)
    (hdb:(x == ("__debug__" : Str))=false:=by decide) (he:starEach (e :: es) X.env=(false,eval e X.env) :: starEach es X.env:=by rfl) (hpl:(backTo cpos (starEach (e :: es) X.env)).any (·.1)=false:=by rfl) :
    PS X (.Raise (some (.Call (.Name x np) (e :: es) [] cpos)) none pos) (tRaise C E ta):=by
  intro pins s σ H D I h
  obtain ⟨nm,qn,N,bs,bm,hdct,sn,sub,ab,col,dd,k0,k1,k2,k3,k5,mN,hC,hN,hni,TL⟩:=KU I.mod.kin q
  refine wpAny_Raise_call_subT (C:=C) (nm:=nm) (q:=qn) (N:=N) (bs:=bs) (bm:=bm) (hdct:=hdct) (sn:=sn) (sub:=sub) (ab:=ab) (col:=col) (dd:=dd) (k0:=k0) (k1:=k1) (k2:=k2) (k3:=k3) (k5:=k5) PySem.F.excBase_ValueError (TL.hasType (by decide +kernel)) (I.ok.hd hc) hpl hni ?_
  refine C1 I hg hm ⟨rfl,?_⟩ hdb
  have hx:=ha cpos pins s σ H _ I h
  rw [he] at hx ⊢
  refine Calls.evalArgs_plain (B0 hx fun us s1 ⟨vs,H1,I1,r,z,qq⟩ => ?_)
  refine ⟨rfl,?_,I1.bk _ _ hC,hN.keeps I1.bk,TL.keeps I1.bk,fun h' a m => ?_⟩
  · show us.length≤sizeLine
    rw [← r.length]
    exact Nat.le_trans z (by rw [sizeLine_eq]; decide)
  · exact hW.2 pins σ H1 a (.ref C) none _ (I1.raised hW.1 m) qq
end
section
variable {nb:Bool} {P:Program} {w:World} {K:PySem.W.Frag} {mg:Str→Option Value} {base:Heap} {N:List Str} {qual:Str} {scope:Scope} {f:Addr} {cd:Value} {A:Around} {outer:List Env} {s0:Shared} {H0:Hp} {E:XK}
theorem JC:Pw nb (DW (JB nb P w) P w K mg base N qual scope f cd A outer s0 H0 E) E:=⟨rfl,fun _ _ _ _ _ _ _ F q => F.leave q⟩
end
def PF (X:Cx) (e:Expr) (c:St→Hp→Prop):Prop :=
  ∀ (pins:List (Addr×Obj)) (s:Shared) (σ : St) (H:Hp) (Q:Value→Shared→Prop),AL X pins σ H s→c σ H→(∀ y t s',y.length≤3000→AL X pins σ H s'→Q (.str y t) s')→wpAny (model X.prog X.w) X.A (eval e X.env) Q X.xe s
def PFs (X:Cx) (es:List Expr) (c:St→Hp→Prop):Prop :=
  ∀ (pins:List (Addr×Obj)) (s:Shared) (σ : St) (H:Hp) (acc:Str) (Q:Value→Shared→Prop),AL X pins σ H s→c σ H→acc.length + es.length * 3000≤sizeLine→(∀ y t s',AL X pins σ H s'→Q (.str y t) s') →
    wpAny (model X.prog X.w) X.A (joinParts acc (evalEach es X.env)) Q X.xe s
section
variable {nb:Bool} {X:Cx} {e a:Expr} {es:List Expr} {c c':St→Hp→Prop} {ta:TE} {pos:Pos}
theorem DQ {x:Str} {k:Nat} (hx:x.length≤3000:=by decide +kernel):PF X (.Constant (.str x) k pos) fun _ _ => True:=fun pins s σ H Q I _ h =>
  Calls.Constant_str (h x _ _ hx (I.tok _))
theorem Iq (ha:PE X a ta):PF X (.FormattedValue a (-1) none pos) fun σ H => ta σ H fun v H' => ∃ i:Int,v = .int i∧H'=H∧i.natAbs.log2 < 1920:=fun pins s σ H Q I hc h => by
  refine FormattedValue_plain (B0 (ha pins s σ H _ I hc) ?_)
  rintro u s1 ⟨v,H1,I1,r,i,rfl,rfl,hi⟩
  obtain ⟨t,rfl⟩:=r
  exact formatField_int_small hi (h _ _ _ (Nat.le_trans (PyProof.Rows.int_text_len_1921 hi) (by decide)) (I1.tok _))
theorem KC:PFs X [] fun _ _ => True:=fun pins s σ H acc Q I _ hz h => joinParts_nil (h _ _ _ (I.tok _)) (by simpa using hz)
theorem BU (h1:PF X e c) (h2:PFs X es c'):PFs X (e :: es) fun σ H => c σ H∧c' σ H:=fun pins s σ H acc Q I hc hz h => by
  show wpAny _ _ (joinParts acc (eval e X.env :: evalEach es X.env)) Q X.xe s
  refine joinParts_cons (h1 pins s σ H _ I hc.1 fun y t s1 hy I1 => ?_)
  have hl:(acc ++ y).length=acc.length + y.length:=strLen_append ..
  simp only [List.length_cons] at hz
  exact ⟨by rw [hl]; omega,h2 pins s1 σ H (acc ++ y) Q I1 hc.2 (by rw [hl]; omega) h⟩
def tF (c:St→Hp→Prop):TE:=fun σ H Q => c σ H∧∀ y,Q (.str y) H
theorem KE {v1 v2:Expr} {B7:List Expr} (h:PFs X (v1 :: v2 :: B7) c) (hl:(v1 :: v2 :: B7).length≤1000:=by decide):PE X (.JoinedStr (v1 :: v2 :: B7) pos) (tF c):=fun pins s σ H Q I hq => by
  refine JoinedStr_many (h pins s σ H Str.empty _ I hq.1 ?_ fun y t s1 I1 => ⟨.str y,H,I1,⟨t,rfl⟩,hq.2 y⟩)
  have:(Str.empty).length=0:=rfl
  have:(3000000:Nat)≤sizeLine:=by rw [sizeLine_eq]; decide
  omega
end
theorem LC {M:Model} {A:Around} {E:Value→Shared→Prop} {K:PySem.W.Frag} {hp:Heap} {g:Array GenState} {dr:Drawn} {tk:Nat} {os:OsState} {a:Addr} {oe:Obj} {c:Value} {b:Bool} {Q:Bool→Shared→Prop} (X:K.In hp) (he:hp.get? a=some oe)
    (kc:PySem.W.kitCls K oe.cls c=some b) (kb:PySem.W.subIn K c (.type "BaseException")=some true) (h:Q b ⟨hp,g,dr,tk,os⟩):wpAny M A (excMatches (.ref a) c) Q E ⟨hp,g,dr,tk,os⟩:=by
  obtain ⟨LT,LI,LS⟩:=PySem.W.kit_cls (M:=M) X kc
  have LB:=PySem.W.looks_subIn (M:=M) X kb
  have f:=tc_notTuple
  unfold excMatches isInstance
  refine wpAny_bind (wpAny_bind (LT _ _ _ _ (fun _ _ e => e) ?_))
  rw [f]
  refine wpAny_pure ?_
  try dsimp only
  rw [if_neg (by decide)]
  refine wpAny_bind (wpAny_pure ?_)
  simp only [List.forIn_cons,List.forIn_nil]
  unfold isExcClass
  refine wpAny_bind (wpAny_bind (wpAny_bind (wpAny_bind (LI _ _ _ _ (fun _ _ e => e) ?_))))
  rw [if_pos rfl]
  refine LB _ _ _ _ (fun _ _ e => e) ?_
  try dsimp only
  rw [if_neg (by decide)]
  refine wpAny_pure ?_
  try dsimp only
  refine wpAny_pure (wpAny_bind ?_)
  unfold typeOf
  refine wpAny_bind (wpAny_load he (wpAny_pure ?_))
  refine wpAny_bind (wpAny_bind (wpAny_bind (LS _ _ _ _ (fun _ _ e => e) ?_)))
  cases b
  · rw [if_neg (by decide)]
    exact wpAny_pure (wpAny_pure (wpAny_pure h))
  · rw [if_pos rfl]
    exact wpAny_pure (wpAny_pure (wpAny_pure h))
def Cx.hnd (X:Cx) (a:Addr):Cx:={ X with A:=X.A.mark (some (.ref a)),calm:=false,xe:=fun _ _ => False }
section
variable {nb:Bool} {X:Cx} {pins:List (Addr×Obj)} {σ : St} {H:Hp} {s:Shared} {a:Addr} {C:Value} {d:Option Addr} {E:XK}
theorem Cx.Ok.hnd (ok:X.Ok) (a:Addr):(X.hnd a).Ok :=
  ⟨ok.mod,ok.kind,ok.glob,ok.blt,ok.above,ok.inj,ok.has,ok.cab,fun z => absurd (show false=true from z) (by decide),ok.frames,ok.stk,ok.exf,ok.bs,ok.bsz,ok.noex,ok.exfs,ok.funs,ok.frf⟩
theorem AL.hnd (I:AL X pins σ H s) (a:Addr):AL (X.hnd a) pins σ H s:=⟨I.ok.hnd a,I.os,I.bare,I.base,I.loc,I.cell,I.free,I.freeC,I.pin,I.hok,I.len⟩
theorem AL.unhnd (ok:X.Ok) (I:AL (X.hnd a) pins σ H s):AL X pins σ H s:=⟨ok,I.os,I.bare,I.base,I.loc,I.cell,I.free,I.freeC,I.pin,I.hok,I.len⟩
def Px (a:Addr) (h:Heap):Prop := ∃ oe vs T oT ts,h.get? a=some oe∧oe.data = .fields vs∧vs[1]? = some (.ref T)∧h.get? T=some oT∧oT.data = .fields ts∧ts[3]? = some .none
theorem Px.still {M:Model} {A:Around} {E':Value→Shared→Prop} {Q:Unit→Shared→Prop} (t:Px a s.heap) (h:Q () s):wpAny M A (setFlight (.ref a) none) Q E' s:=by
  obtain ⟨oe,vs,T,oT,ts,he,hd,h1,hT,hTd,h3⟩:=t
  refine wpAny_setFlight_none he hd h1 hT hTd (Array.getElem?_eq_some_iff.mp h3).1 ?_
  rw [Heap.update_setField_same _ _ _ _ _ _ hT hTd h3]
  exact h
def PH (nb:Bool) (X:Cx) (hs:List ExceptHandler) (th:Value→Option Addr→TS):Prop :=
  ∀ (pins:List (Addr×Obj)) (σ : St) (H:Hp) (a:Addr) (C:Value) (d:Option Addr) (s:Shared) (D:Ht),CS nb X pins σ H a C d s→Px a s.heap→th C d D σ H→wpAny (model X.prog X.w) X.A (handleBy (.ref a) X.env hs) (SP X pins D) X.xe s
def tHno:Value→Option Addr→TS:=fun _ _ _ _ _ => False
theorem Qa:PH nb X [] tHno:=fun _ _ _ _ _ _ _ _ _ _ h => h.elim
end
def PX (nb:Bool) (X:Cx) (e:Expr) (t:St→Hp→VK→XK→Prop):Prop :=
  ∀ (pins:List (Addr×Obj)) (s:Shared) (σ : St) (H:Hp) (Q:VK) (E:XK) (Ev:Value→Shared→Prop),AL X pins σ H s→t σ H Q E→(∀ a C d H' s',CS nb X pins σ H' a C d s'→E C d H'→Ev (.ref a) s') →
    wpAny (model X.prog X.w) X.A (eval e X.env) (EP X pins σ Q) Ev s
section
variable {nb:Bool} {X:Cx} {k:Nat} {f C:Addr} {fd:FuncData} {ps:List Str} {sp:Sp} {x:Str} {p pos:Pos} {e:Expr} {es:List Expr} {ta:TA}
theorem MR (F:AD X.prog X.w X.K X.mg X.base (JB nb X.prog X.w) k f fd ps sp) (hx0:X.ex=[]) (hr:Ca k X.A) (hg:Gl X x) (hm:X.mg x=some (.ref f)) (hk:PySem.W.keepIn X.K (.ref f)=true) (hb:C8 X.K fd ps [])
    (ha:PA X.nox (e :: es) ta) (hdb:(x == ("__debug__" : Str))=false:=by decide) (he:starEach (e :: es) X.env=(false,eval e X.env) :: starEach es X.env:=by rfl) (hpl:(backTo pos (starEach es X.env)).any (·.1)=false:=by rfl) :
    PX nb X (.Call (.Name x p) (e :: es) [] pos) (fun σ H Q E => ta σ H fun vs H1 => sp vs H1 Q E):=by
  intro pins s σ H Q E Ev I h hE
  refine wpAny_Call_Name_kw (C1 I hg hm ?_ hdb)
  refine PySem.W.callWith_K (h₀:=X.base) I.ok.mod.kin hk (wpAny_mono (ha pos pins s σ H _ (I.wish _) h) (fun us s1 ⟨vs,H1,I1,r,q⟩ => ⟨I1.kIn,?_⟩) fun _ _ z => False.elim z) he hpl
  have J:=I1.unwish
  have hl:us.length=ps.length:=by rw [← r.length]; exact F.len _ _ _ _ q
  have bb:=hb s1 us I1.kIn (by simpa using hl)
  rw [List.append_nil] at bb
  refine wpAny_call (codeAny_mono (F.run X.A X.stack s1 H1 ⟨us,[]⟩ us vs Q E hr J.env0 bb r q) fun r s' hq => ?_)
  cases r with
  | error e =>
    obtain ⟨a,C,d,H',rfl,Fl,q'⟩:=J.flies hx0 hq
    exact hE a C d H' s' Fl q'
  | ok fl =>
    cases fl with
    | ret u => exact J.after hq
    | next => exact False.elim hq
    | brk => exact False.elim hq
    | cont => exact False.elim hq
def PM (i:Nat) (t:St→Hp→VK→XK→Prop) (th:Value→Option Addr→TS):TS:=fun D σ H => t σ H (fun v H1 => D.nx (σ.set i (some v)) H1) fun C d H1 => th C d D σ H1
theorem Nu {t:St→Hp→VK→XK→Prop} {th:Value→Option Addr→TS} {h0:ExceptHandler} {hs:List ExceptHandler} {p1 p2:Pos} {i:Nat} {y:Str} (px:PX nb X e t) (hh:PH nb X (h0 :: hs) th) (hN:X.N.Nodup) (hi:X.N[i]? = some y) (hy:Loc X.env.scope y)
    (hst:X.stack=X.env :: X.outer:=by rfl) (hfr:X.env.frame=some X.env.locals:=by rfl) (hs0:swapsWith e (some (.Name y p2)) p1.line X.env=pure false:=by rfl) (hf:X.fn y=true∨X.env.scope.names.lookup y=some .local:=by first | exact .inl rfl | exact .inr rfl | assumption) :
    PS X (.Try [.Assign [.Name y p2] e p1] (h0 :: hs) [] [] pos) (PM i t th):=by
  intro pins s σ H D I h
  refine wpAny_Try_except (wpAny_execs_cons (wpAny_Assign_Name (B0 (px pins s σ H _ _ _ I h ?_) fun v s1 ⟨y,H1,I1,r1,q1⟩ => ?_) hs0))
  · exact fun a C d H' s' Fl q => Fl.note I.ok.frames hst hfr fun h' Fl' tr => hh pins σ H' a C d _ D Fl' tr q
  · exact EI I1 hN hi hy r1 (fun s2 I2 => wpAny_execs_nil (wpAny_execs_nil ⟨_,H1,I2,q1⟩)) hf
end
def XO (a:Addr) (C:Value) (d:Option Addr):HO:=.ext fun h => ∃ oe vs,h.get? a=some oe∧oe.cls=C∧oe.dict=d∧oe.data = .fields vs
section
variable {nb:Bool} {X:Cx} {pins:List (Addr×Obj)} {σ : St} {H:Hp} {s:Shared} {a:Addr} {C:Value} {d:Option Addr}
theorem CS.track (F:CS nb X pins σ H a C d s):AL X pins σ (upd H a (XO a C d)) s:=by
  obtain ⟨oe,vs,he,hc,hdd,hd⟩:=F.at
  have I:=F.inv
  have ne:∀ b u,H b=some u→b≠a:=fun b u e => Al e F.free
  have neL:X.env.locals≠a:=fun z => by
    obtain ⟨m,⟨o,es,ep,ho,hdt,_⟩,_⟩:=I.loc
    rw [z,he] at ho; cases ho; rw [hd] at hdt; cases hdt
  have neC:∀ x c,X.env.cells.lookup x=some c→c≠a:=fun x c e z => by
    obtain ⟨v,o,ho,hdt⟩:=I.cell x c e
    rw [z,he] at ho; cases ho; rw [hd] at hdt; cases hdt
  have nea:∀ b o,X.s₀.heap.get? b=some o→b≠a:=fun b o e z => by rw [z,F.new] at e; cases e
  refine ⟨I.ok,I.os,I.bare,⟨I.base.keep,I.base.slot,fun b o e n hx => ?_,I.base.there,fun b xs e => ?_,fun b o u e => ?_,fun b ps e => ?_⟩,I.loc,I.cell,?_,fun x c e => ?_,fun p hp => ?_,fun b u e => ?_,I.len⟩
  · rw [Ak (nea b o e)]; exact I.base.free b o e n hx
  · rw [Ak (ne _ _ (I.base.tups b xs e))]; exact I.base.tups b xs e
  · rw [Ak (ne _ _ (I.base.frzs b o u e))]; exact I.base.frzs b o u e
  · obtain ⟨m,q⟩:=I.base.tbls b ps e
    exact ⟨m,by rw [Ak (ne _ _ q)]; exact q⟩
  · rw [Ak neL]; exact I.free
  · rw [Ak (neC x c e)]; exact I.freeC x c e
  · obtain ⟨e,n,r⟩:=I.pin p hp
    exact ⟨e,by rw [Ak (F.pin p hp)]; exact n,r⟩
  · by_cases hb:b=a
    · subst hb
      rw [Ac] at e
      cases e
      refine ⟨⟨oe,vs,he,hc,hdd,hd⟩,⟨oe,he⟩,?_⟩
      rintro h1 h2 ⟨o1,v1,e1,r1⟩ k
      exact ⟨o1,v1,k _ e1,r1⟩
    · rw [Ak hb] at e
      exact (I.hok b u e).stay (fun _ _ _ q => q) (fun c q => by rw [Ak (ne _ _ q)]; exact q) fun c xs q => by rw [Ak (ne _ _ q)]; exact q
theorem AL.goes {M:Model} {A:Around} {E:Value→Shared→Prop} {i:Nat} {n:Str} {pos:Pos} {Q:Unit→Shared→Prop} (I:AL X pins σ H s) (hN:X.N.Nodup) (hi:X.N[i]? = some n) (hk:X.env.scope.names.lookup n=some .local)
    (h:∀ s',AL X pins (σ.set i none) H s'→Q () s'):wpAny M A (do bindName X.env n .none; unbindBehindTheSuite X.env n pos) Q E s:=by
  obtain ⟨m,hn,hl⟩:=id I.loc
  have hcls:(X.env.scope.kind == .class || (X.env.scope.kind == .module && X.env.locals != X.env.globals))=false:=by rw [I.ok.kind]; rfl
  have hiσ : i < σ.length:=by rw [I.len]; exact (List.getElem?_eq_some_iff.mp hi).1
  refine wpAny_nameGoes_keeps hk hn hcls fun h' v hn' hs => ?_
  obtain ⟨oL,_,_,hoL,_⟩:=id hn
  have neL:∀ b o,X.s₀.heap.get? b=some o→b≠X.env.locals:=fun b o e => Nat.ne_of_lt (Nat.lt_of_lt_of_le (Heap.lt_size e) I.ok.above)
  refine h _ ⟨I.ok,I.os,I.bare,⟨fun b o e n hb hx => (hs.2 b (neL b o e)).trans (I.base.keep b o e n hb hx),fun b o e n hb hx => ?_,I.base.free,fun b o e hx => ?_,I.base.tups,I.base.frzs,I.base.tbls⟩,⟨_,hn',fun j y v' e1 e2 e3 => ?_⟩,fun y c e => ?_,I.free,I.freeC,fun p hp => ?_,fun b ob e => ?_,by simpa using I.len⟩
  · obtain ⟨sl,e1⟩:=I.base.slot b o e n hb hx
    exact ⟨sl,(hs.2 b (neL b o e)).trans e1⟩
  · obtain ⟨o',e1⟩:=I.base.there b o e hx
    exact ⟨o',(hs.2 b (neL b o e)).trans e1⟩
  · by_cases hj:j=i
    · subst hj
      rw [List.getElem?_set_self hiσ] at e2
      cases e2
    · rw [List.getElem?_set_ne (Ne.symm hj)] at e2
      obtain ⟨u',r',q⟩:=hl j y v' e1 e2 e3
      refine ⟨u',r',?_⟩
      rcases q with ⟨k,e⟩ | ⟨k,c,e,z⟩
      · refine .inl ⟨k,?_⟩
        have:y≠n:=fun e => hj (IE hN e1 (e ▸ hi))
        simp [this,e]
      · exact .inr ⟨k,c,e,z.sameBut hs (I.cne y c e)⟩
  · obtain ⟨w',z⟩:=I.cell y c e
    exact ⟨w',z.sameBut hs (I.cne y c e)⟩
  · obtain ⟨e,n,ne,nf,d⟩:=I.pin p hp
    exact ⟨(hs.2 p.1 ne).trans e,n,ne,nf,d⟩
  · refine (I.hok b ob e).stay (fun c w' hc q => (hs.2 c ?_).trans q) (fun _ q => q) fun _ _ q => q
    rintro rfl
    rcases hc with rfl | hc
    · rw [I.free] at e; cases e
    · rw [I.free] at hc; cases hc
def tHas (K:PySem.W.Frag) (c:Value) (i:Nat) (t:TS) (th:Value→Option Addr→TS):Value→Option Addr→TS:=fun C d D σ H => ∃ b,PySem.W.kitCls K C c=some b ∧
  if b=true then ∀ a,H a=none→t { nx:=fun σ' H' => D.nx (σ'.set i none) H',rt:=D.rt,bk:=fun σ' H' => D.bk (σ'.set i none) H',ct:=fun σ' H' => D.ct (σ'.set i none) H' } (σ.set i (some (.ref a))) (upd H a (XO a C d)) else th C d D σ H
theorem ph_as {x n:Str} {np pos:Pos} {i:Nat} {b0:Stmt} {suite:List Stmt} {B7:List ExceptHandler} {c:Value} {t:TS} {th:Value→Option Addr→TS} (hg:Gl X x) (hm:X.mg x=some c) (hk:PySem.W.subIn X.K c (.type "BaseException")=some true)
    (hN:X.N.Nodup) (hi:X.N[i]? = some n) (hl:X.env.scope.names.lookup n=some .local) (hs:∀ a,Jm (X.hnd a) (b0 :: suite) t) (hr:PH nb X B7 th) (hd:(x == ("__debug__" : Str))=false:=by decide) :
    PH nb X (.ExceptHandler (some (.Name x np)) (some n) (b0 :: suite) pos :: B7) (tHas X.K c i t th):=by
  intro pins σ H a C d s D F tr h
  obtain ⟨b,kc,h⟩:=h
  obtain ⟨oe,vs,he,hc,hdd,hd'⟩:=F.at
  have I':=F.inv.hnd a
  refine wpAny_handleBy_cons (codeAny_handlers_test (C1 (X:=X.hnd a) I' hg hm ?_ hd)) (by intro q; cases q)
  obtain ⟨hp,g,dr,tk,os⟩:=s
  refine LC (K:=X.K) F.inv.kIn he (by rw [hc]; exact kc) hk ?_
  cases b with
  | false => exact hr pins σ H a C d _ D F tr h
  | true =>
    refine codeAny_handlers_suite_as (tr.still ?_)
    refine EI (X:=X.hnd a) (F.track.hnd a) hN hi (.inl hl) (v:=.ref a) rfl (fun s2 I2 => ?_) (.inr hl)
    refine wpAny_mono (hs a pins s2 _ _ _ I2 (h a F.free)) (fun f s3 q => ?_) fun _ _ q => False.elim q
    cases f with
    | next => obtain ⟨σ',H',J,q⟩:=q; exact (J.unhnd F.inv.ok).goes hN hi hl fun s4 J4 => ⟨_,H',J4,q⟩
    | brk => obtain ⟨σ',H',J,q⟩:=q; exact (J.unhnd F.inv.ok).goes hN hi hl fun s4 J4 => ⟨_,H',J4,q⟩
    | cont => obtain ⟨σ',H',J,q⟩:=q; exact (J.unhnd F.inv.ok).goes hN hi hl fun s4 J4 => ⟨_,H',J4,q⟩
    | ret u => obtain ⟨v,σ',H',J,r,q⟩:=q; exact (J.unhnd F.inv.ok).goes hN hi hl fun s4 J4 => ⟨v,_,H',J4,r,q⟩
end
section
variable {nb:Bool} {X:Cx}
end
section
open PySem.W
theorem getx {prog:Program} {w:World} {A:Around} {E:Value→Shared→Prop} {K:Frag} {x C:Addr} {ox:Obj} {od:Option Obj} {name:Str} {expr:Bool} {v:Value} {Q:Value→Shared→Prop} {hp:Heap} {g:Array GenState} {dr:Drawn} {tk:Nat} {os:OsState}
    (X:K.In hp) (I:InstAt hp x ox C od) (hga:findIn K (.ref C) "__getattribute__" = some (some (.builtin "BaseException.__getattribute__")))
    (hgt:findIn K (.ref C) "__getattr__" = some none) (hsub:mroIn K C (.type "BaseException")=some true) (hf:findObj K C od name=some (.value v)) (hh:handedIn v=true) (h:Q v ⟨hp,g,dr,tk + 1,os⟩) :
    wpAny (model prog w) A (getAttr (.ref x) name expr) Q E ⟨hp,g,dr,tk,os⟩:=by
  have L0:=I.type (M:=model prog w)
  have L1:=looks_findIn (M:=model prog w) X hga
  have L2:=looks_findIn (M:=model prog w) X hgt
  have L3:=looks_find (M:=model prog w) X I hf
  have L4:=looks_mroIn (M:=model prog w) X hsub
  have f3:=PySem.F.excAttr_ValueError
  have hx2:(Value.builtin "BaseException.__getattribute__" == Value.builtin "object.__getattribute__")=false:=by decide +kernel
  unfold getAttr getAttrBy
  refine wpAny_bind (wpAny_mkText (wpAny_holding (wpAny_bind (L0.at (wpAny_bind (L1.at ?_))))))
  dsimp only
  rw [hx2,Bool.and_false,if_neg (by decide)]
  unfold getAttrByItsOwn
  refine wpAny_bind (L2.at ?_)
  refine wpAny_bind (wpAny_attempt (wpAny_holding ?_))
  have hx0:(expr && onTheHeap (Value.builtin "BaseException.__getattribute__"))=false:=by cases expr <;> rfl
  unfold callGetattribute
  rw [hx0,if_neg (by decide)]
  unfold boundAndCalled
  rw [f3.ga.bind]
  refine wpAny_bind (wpAny_pure (wpAny_call ?_))
  have sub:Looks (model prog w) hp (isInstance (.ref x) (.type "BaseException")) true:=L0.andThen L4
  have hk:builtinKind "BaseException.__getattribute__" = some .slot:=by decide +kernel
  have hsp:splitId "BaseException.__getattribute__" = some ("BaseException", "__getattribute__"):=by decide +kernel
  show codeAny _ _ (.call (.builtin "BaseException.__getattribute__") ⟨[.ref x,.str name tk],[]⟩) _ _
  refine codeAny_call_builtin f3.ga.plain PySem.F.entry_bexc_ga ?_
  refine @check_slot (model prog w) _ _ ⟨hp,g,dr,tk + 1,os⟩ "BaseException.__getattribute__" "BaseException" "__getattribute__" (.ref x) [.str name tk] [] _ hk hsp sub (PySem.F.args_bexc_ga _ _) ?_
  have wlk:wpAny (model prog w) A.in1 (Builtin.«object.__getattribute__» ⟨[.ref x,.str name tk],[]⟩) (fun fin s' => fin = .done (.ret v)∧s'=⟨hp,g,dr,tk + 1,os⟩) (fun _ _ => False) ⟨hp,g,dr,tk + 1,os⟩:=by
    repeat (first | with_reducible refine L0.at ?_ | with_reducible refine L3.at ?_ | wp_step)
    exact ⟨rfl,rfl⟩
  refine wpAny_mono wlk (fun fin s' q => ?_) fun _ _ q => False.elim q
  obtain ⟨rfl,rfl⟩:=q
  show wpAny _ _ (handedOut v) _ _ _
  rw [handedOut_of hh]
  exact wpAny_pure h
end
section
open PySem PySem.Spec PyProof.Rows PySem.W
variable {prog:Program} {w:World} {A:Around} {E:Value→Shared→Prop} {K:Frag} {x C CE N:Addr} {ox:Obj} {od:Option Obj} {name:Str} {v:Value} {Q:Unit→Shared→Prop} {hp:Heap} {g:Array GenState} {dr:Drawn} {tk:Nat} {os:OsState}
  {nm q:Str} {bs:List Value} {sn:List Str} {sub:List Value} {ab:Bool} {col:Option Bool} {dd:Option Addr} {k0 k1 k2 k3 k5:Option Value} {newId:String}
theorem setx (X:K.In hp) (I:InstAt hp x ox C od) (lk:K.lookup C=some (excClassObj nm q C N bs (.ref CE :: Jx) true sn sub ab col dd k0 k1 k2 k3 k5 newId)) (hs:findIn K (.ref C) "__setattr__" = some (some (.builtin "object.__setattr__")))
    (hob:mroIn K C (.type "object")=some true) (hn:findIn K (.ref C) name=some none)
    (h:wpAny (model prog w) A.in1 (Builtin.ObjectAttr.storeInOwnDict (.ref x) (.ref C) (.str name tk) name v false) (fun fin s' => fin = .done (.ret .none)∧Q () s') (fun _ _ => False) ⟨hp,g,dr,tk + 1,os⟩) :
    wpAny (model prog w) A (setAttr (.ref x) name v) Q E ⟨hp,g,dr,tk,os⟩:=by
  refine set_plain (s:=⟨hp,g,dr,tk,os⟩) X I hs ?_
  have SF:=PySem.F.store_object
  have L0:=I.type (M:=model prog w)
  have sub:Looks (model prog w) hp (isInstance (.ref x) (.type "object")) true:=L0.andThen (looks_mroIn X hob)
  refine codeAny_call_builtin SF.slot.plain SF.entry (@check_slot (model prog w) _ _ ⟨hp,g,dr,tk + 1,os⟩ "object.__setattr__" "object" "__setattr__" (.ref x) [.str name tk,v] [] _ SF.kind SF.split sub (SF.args (.ref x) (.str name tk) v) ?_)
  rw [osa_eq,refuse_eq]
  refine wpAny_bind (wpAny_bind (L0.at (wpAny_bind (wpAny_mroOf_exc (X _ _ lk) ?_))))
  rw [refuseLoop_ref,refuseLoop_ref,PySem.F.store_ValueError.passes]
  refine wpAny_pure (wpAny_bind (L0.at (wpAny_bind ((looks_findIn X hn).at (wpAny_bind (wpAny_pure ?_))))))
  refine wpAny_mono h (fun fin s' q => ?_) fun _ _ q => False.elim q
  obtain ⟨rfl,q⟩:=q
  exact q
theorem Om {os0:OsState} (X:K.In hp) (hx:hp.get? x=some ox) (hc:ox.cls = .ref C) (hdn:ox.dict=none) (hnc:∀ c,ox.data≠.cls c) (lk:K.lookup C=some (excClassObj nm q C N bs (.ref CE :: Jx) true sn sub ab col dd k0 k1 k2 k3 k5 newId)) (hs:findIn K (.ref C) "__setattr__" = some (some (.builtin "object.__setattr__")))
    (hob:mroIn K C (.type "object")=some true) (hn:findIn K (.ref C) name=some none)
    (h:∀ h' tk',h'.get? x=some { ox with dict:=some hp.objs.size }→h'.Ns1 hp.objs.size (fun y => if y=name then some v else none)→(∀ b o,b≠x→hp.get? b=some o→h'.get? b=some o)→Q () ⟨h',g,dr,tk',os⟩) :
    wpAny (model prog w) A (setAttr (.ref x) name v) Q E ⟨hp,g,dr,tk,os⟩:=by
  have I:InstAt hp x ox C none:=⟨hx,hc,by unfold notCls; split <;> first | rfl | (rename_i e; exact absurd e (hnc _)),by rw [hdn]; trivial⟩
  refine setx X I lk hs hob hn ?_
  have hC:=X _ _ lk
  unfold Builtin.ObjectAttr.storeInOwnDict
  repeat (first | (with_reducible refine wpAny_loadPart_at hx ?_; rw [hc]) | wp_step)
  rw [hdn]
  dsimp only
  rw [if_neg (by simp [typeHasDict])]
  split
  · rename_i c hcd
    exact absurd hcd (hnc c)
  have hx1:(hp.push { cls:=.type "dict",data:=.dict #[] }).get? x=some ox:=Heap.get?_push_of_some _ hx
  have hxs:x≠hp.objs.size:=Nat.ne_of_lt (Heap.lt_size hx)
  refine wpAny_bind (wpAny_alloc' ?_)
  refine wpAny_bind (wpAny_update' hx1 ?_)
  refine wpAny_pure ?_
  have hgd:((hp.push { cls:=.type "dict",data:=.dict #[] }).update x fun o => { cls:=o.cls,dict:=some hp.objs.size,data:=o.data,slots:=o.slots }).get? hp.objs.size
      = some { cls:=.type "dict",data:=.dict #[] } :=
    (Heap.get?_update_ne _ _ _ _ hxs.symm).trans (Heap.get?_push_at rfl rfl)
  have hnd:((hp.push { cls:=.type "dict",data:=.dict #[] }).update x fun o => { cls:=o.cls,dict:=some hp.objs.size,data:=o.data,slots:=o.slots }).Ns hp.objs.size (fun _ => none) :=
    ⟨_,#[],_,hgd,rfl,fun e he => absurd he (by simp),fun _ => rfl⟩
  show wpAny _ _ (Builtin.ObjectAttr.storeInDict hp.objs.size (.str name tk) name v) _ _ _
  unfold Builtin.ObjectAttr.storeInDict Builtin.ObjectAttr.newKeyGuard
  refine wpAny_bind (wpAny_pure (wpAny_bind (wpAny_nsSet1 (Heap.Ns1.of_empty hnd) fun h' hn' hs' => ?_)))
  obtain ⟨oD,esD,epD,hoD,hdD,hcD⟩:=hn'.count (Within.cons name v Within.nil)
  refine wpAny_bind (wpAny_lookBehind hoD (by rw [hdD]; exact pastItsLine_dict (Nat.le_trans hcD (by rw [List.length_cons,List.length_nil,sizeLine_eq]; omega))) ?_)
  refine wpAny_pure ⟨rfl,h h' _ ?_ hn' fun b ob hbx hb => ?_⟩
  · refine (hs'.2 x hxs).trans (Heap.get?_update_self _ hx1 ?_)
    have hfr:=(Heap.get?_some_iff.mp hx).2
    obtain ⟨oc,od,odt,osl⟩:=ox
    cases odt <;> first | rfl | exact hfr
  · exact (hs'.2 b (Nat.ne_of_lt (Heap.lt_size hb))).trans ((Heap.get?_update_ne _ _ _ _ hbx).trans (Heap.get?_push_of_some _ hb))
theorem Ol {d:Addr} {mA:Str→Option Value} {ns:List Str} (X:K.In hp) (hx:hp.get? x=some ox) (hc:ox.cls = .ref C) (hdx:ox.dict=some d) (hne:d≠x) (hD:hp.Ns1 d mA) (hw:Within mA ns) (hsz:ns.length≤1000) (hnc:∀ c,ox.data≠.cls c) (lk:K.lookup C=some (excClassObj nm q C N bs (.ref CE :: Jx) true sn sub ab col dd k0 k1 k2 k3 k5 newId)) (hs:findIn K (.ref C) "__setattr__" = some (some (.builtin "object.__setattr__")))
    (hob:mroIn K C (.type "object")=some true) (hn:findIn K (.ref C) name=some none)
    (h:∀ h' tk',h'.Ns1 d (fun y => if y=name then some v else mA y)→(∀ b o,b≠d→hp.get? b=some o→h'.get? b=some o)→Q () ⟨h',g,dr,tk',os⟩) :
    wpAny (model prog w) A (setAttr (.ref x) name v) Q E ⟨hp,g,dr,tk,os⟩:=by
  obtain ⟨oD0,hoD0,_⟩:=Fj hD
  have I:InstAt hp x ox C (some oD0):=⟨hx,hc,by unfold notCls; split <;> first | rfl | (rename_i e; exact absurd e (hnc _)),by rw [hdx]; exact hoD0⟩
  refine setx X I lk hs hob hn ?_
  have hC:=X _ _ lk
  unfold Builtin.ObjectAttr.storeInOwnDict
  repeat (first | (with_reducible refine wpAny_loadPart_at hx ?_; rw [hc]) | wp_step)
  rw [hdx]
  refine wpAny_pure ?_
  show wpAny _ _ (Builtin.ObjectAttr.storeInDict d (.str name tk) name v) _ _ _
  unfold Builtin.ObjectAttr.storeInDict Builtin.ObjectAttr.newKeyGuard
  refine wpAny_bind (wpAny_pure (wpAny_bind (wpAny_nsSet1 hD fun h' hn' hs' => ?_)))
  obtain ⟨oD,esD,epD,hoD,hdD,hcD⟩:=hn'.count (Within.cons name v hw)
  refine wpAny_bind (wpAny_lookBehind hoD (by rw [hdD]; exact pastItsLine_dict (Nat.le_trans hcD (by rw [List.length_cons,sizeLine_eq]; omega))) ?_)
  exact wpAny_pure ⟨rfl,h h' _ hn' fun b ob hbx hb => (hs'.2 b hbx).trans hb⟩
end
section
open PySem PySem.Spec PyProof.Rows PySem.W
variable {prog:Program} {w:World} {A:Around} {E:Value→Shared→Prop} {K:Frag} {e C CE N:Addr} {oe:Obj} {Q:Value→Shared→Prop} {hp:Heap} {g:Array GenState} {dr:Drawn} {tk:Nat} {os:OsState}
  {nm q:Str} {bs:List Value} {hd0:Bool} {sn:List Str} {sub:List Value} {ab:Bool} {col:Option Bool} {dd:Option Addr} {k0 k1 k2 k3 k5:Option Value} {newId:String}
theorem initx {vs:Array Value} {B7:List Value} (X:K.In hp) (he:hp.get? e=some oe) (hc:oe.cls = .ref C) (hd:oe.data = .fields vs) (h0 : 0 < vs.size) (lk:K.lookup C=some (excClassObj nm q C N bs (.ref CE :: Jx) hd0 sn sub ab col dd k0 k1 k2 k3 k5 newId))
    (hr:B7.length≤sizeLine) (h:∀ h',h'.get? e=some (oe.mapFields (·.setIfInBounds 0 (.ref hp.objs.size)))→(∀ b o,b≠e→hp.get? b=some o→h'.get? b=some o)→Q .none ⟨h',g,dr,tk,os⟩) :
    wpAny (model prog w) A (call (.builtin "ValueError.__init__") (.ref e :: B7)) Q E ⟨hp,g,dr,tk,os⟩:=by
  have F:=PySem.F.excBase_ValueError
  have hC:=X _ _ lk
  have hcB:(Value.ref C :: .ref CE :: Jx).contains (.type "ValueError")=true:=by rw [List.contains_cons,List.contains_cons,show Jx.contains (.type "ValueError")=true from by decide +kernel,Bool.or_true,Bool.or_true]
  refine wpAny_call (codeAny_call_builtin F.init.plain F.initEntry ?_)
  have chk:∀ {M:Model} {A:Around} {E:Value→Shared→Prop} {Q:Unit→Shared→Prop},Q () ⟨hp,g,dr,tk,os⟩→wpAny M A (checkBuiltinCall "ValueError.__init__" ⟨.ref e :: B7,[]⟩) Q E ⟨hp,g,dr,tk,os⟩:=by
    intro M A E Q hq
    have hshort:=F.noStar
    simp only [checkBuiltinCall,F.initKind,F.initSplit,F.initRow]
    repeat (first | (with_reducible refine wpAny_loadPart_at he ?_; rw [hc]) | with_reducible refine wpAny_loadPart_at hC ?_ | (with_reducible refine wpAny_isSubtype_exc hC ?_; rw [hcB]) | wp_step)
    refine wpAny_onRaise ?_
    rw [show ∀ (a b:String) (n:Nat),Bind.check ⟨.positional, "*", "ValueError",.self,[⟨"args",.varPos,false⟩]⟩ a b n (List.map (fun x => x.fst) ({ pos:=Value.ref e :: B7 }:Args).kw)=pure () from
      fun a b n => check_star_args _ _ _ _ _ _]
    exact wpAny_pure hq
  refine chk ?_
  wp_walk
  have he1:=Heap.get?_push_of_some (h:=hp) { cls:=.type "tuple",data:=.seq B7.toArray } he
  obtain ⟨x0,hx0⟩ : ∃ x0,vs[0]? = some x0:=⟨vs[0],Array.getElem?_eq_getElem h0⟩
  rw [hd]
  refine wpAny_pure ?_
  rw [hx0]
  refine wpAny_pure ?_
  have hd3:=Obj.data_mapFields hd (·.setIfInBounds 0 (Value.ref hp.objs.size))
  have fin:Q .none ⟨(hp.push { cls:=.type "tuple",data:=.seq B7.toArray }).update e (Obj.mapFields (·.setIfInBounds 0 (Value.ref hp.objs.size))),g,dr,tk,os⟩ :=
    h _ (Heap.get?_update_self _ he1 (Obj.isFreed_of_fields hd3)) fun b o hb q => (Heap.get?_update_other _ _ (Ne.symm hb)).trans (Heap.get?_push_of_some _ q)
  refine wpAny_bind (wpAny_setField he1 hd h0 ?_)
  cases x0 <;> first | exact wpAny_letGo (wpAny_pure fin) | exact wpAny_pure (wpAny_pure fin)
end
end L2
set_option Elab.async false
set_option linter.all false
set_option maxRecDepth 100000
set_option maxHeartbeats 1000000
namespace L2
open PySem PySem.Spec PyProof.Rows
section
open PySem.W
variable {prog:Program} {w:World} {A:Around} {E:Value→Shared→Prop} {K:Frag} {C CE N fI:Addr} {h:Heap} {g:Array GenState} {d:Drawn} {t:Nat} {os:OsState}
  {nm q:Str} {bs:List Value} {hdct:Bool} {sn:List Str} {sub:List Value} {ab:Bool} {col:Option Bool} {dd:Option Addr} {k0 k1 k2 k3 k5:Option Value}
theorem Je {mN:Str→Option Value} {B7:List Value} {oI:Obj} {Q:Value→Shared→Prop} (X:K.In h) (lk:K.lookup C=some (excClassObj nm q C N bs (.ref CE :: Jx) hdct sn sub ab col dd k0 k1 k2 k3 k5 "ValueError.__new__")) (T:OwnTail h Jx (.ref CE :: Jx))
    (hi:findIn K (.ref C) "__init__" = some (some (.ref fI))) (hfI:h.get? fI=some oI) (hfc:oI.cls = .type "function")
    (hq:∀ h' e,Heap.MadeExcOf h h' e (.ref C) B7 →
      wpAny (model prog w) (A.under (.builtin "type.__call__" ⟨.ref C :: B7,[]⟩)) (call (.ref fI) (.ref e :: B7)) (fun r s' => r = .none∧Q (.ref e) s') E ⟨h',g,d,t,os⟩) (hrest:B7.length≤sizeLine) :
    wpAny (model prog w) A (call (.ref C) B7) Q E ⟨h,g,d,t,os⟩:=by
  have F:=PySem.F.excBase_ValueError
  have hC:=X _ _ lk
  have core:∀ {A:Around} {Q:Fin→Shared→Prop},(∀ h' e,Heap.MadeExcOf h h' e (.ref C) B7 →
      wpAny (model prog w) A (call (.ref fI) (.ref e :: B7)) (fun r s' => r = .none∧Q (.done (.ret (.ref e))) s') E ⟨h',g,d,t,os⟩)→wpAny (model prog w) A (Builtin.«type.__call__» ⟨.ref C :: B7,[]⟩) Q E ⟨h,g,d,t,os⟩:=by
    intro A Q hq
    repeat (first | with_reducible refine wpAny_loadPart_at hC ?_ | with_reducible refine wpAny_madeBy_exc hC ?_ | wp_step)
    refine codeAny_call_builtin_code (Code.quiet_builtin _ F.quiet) (wpAny_check_new_subT F T hC ?_)
    refine codeAny_exc_new_subT F T hC ?_ hrest
    show wpAny _ _ _ _ _ _
    have k1:∀ b o,h.get? b=some o→((h.push { cls:=.type "tuple",data:=.seq B7.toArray }).push { cls:=.ref C,data:=.fields #[.ref h.objs.size,.none,.none,.none,.bool false,.none] }).get? b=some o :=
      fun b o e => Heap.get?_push_of_some _ (Heap.get?_push_of_some _ e)
    have hC1:=k1 _ _ hC
    have hfI1:=k1 _ _ hfI
    have hget:((h.push { cls:=.type "tuple",data:=.seq B7.toArray }).push
        { cls:=.ref C,data:=.fields #[.ref h.objs.size,.none,.none,.none,.bool false,.none] }).get? (h.objs.size + 1)=some
        { cls:=.ref C,data:=.fields #[.ref h.objs.size,.none,.none,.none,.bool false,.none] }:=by heap_get
    have hcC:(Value.ref C :: .ref CE :: Jx).contains (.ref C)=true:=by simp
    unfold isInstance
    repeat (first | with_reducible refine wpAny_loadPart_at hget ?_ | (with_reducible refine wpAny_isSubtype_exc hC1 ?_; rw [hcC]) | wp_step)
    show wpAny _ _ (typeLookup (.ref C) _) _ _ _
    refine (looks_findIn (X.keeps k1) hi).at ?_
    refine wpAny_holding (wpAny_bind ?_)
    unfold bindSpecial
    refine wpAny_bind (wpAny_typeOf (T := "function") ⟨_,hfI1,hfc⟩ ?_)
    rw [if_pos (by decide)]
    refine wpAny_pure (wpAny_bind (wpAny_mono (hq _ (h.objs.size + 1) ⟨k1,Heap.get?_none_of_le (Nat.le_succ _),h.objs.size,hget,Heap.get?_none_of_le (Nat.le_refl _),?_⟩) (fun r s' hr => ?_) fun _ _ x => x))
    · exact Heap.get?_push_of_some _ (Heap.get?_push_at rfl rfl)
    · obtain ⟨rfl,hQ⟩:=hr
      wp_walk
      exact hQ
  have f1:=tc_lookup
  have f2:=tc_bind (.ref C)
  have hT:(⟨h,g,d,t,os⟩ : Shared).TypeIs (.ref C) "type" := ⟨_,hC,rfl⟩
  refine wpAny_call (codeAny_of_tree ?_)
  show wpAny _ _ (callAny (.ref C) _) _ _ _
  repeat (any_goals (first | assumption | with_reducible refine wpAny_loadPart_at hC ?_ | wp_step))
  refine ⟨rfl,?_⟩
  refine codeAny_call_builtin_at (Code.quiet_builtin _ (by decide +kernel)) entry_typeCall (wpAny_check_type_call_sub hC (core fun h' e hm => ?_))
  exact hq h' e hm
end
section
def XI (a C:Addr) (d:Option Addr):HO:=.ext fun h => ∃ oe vs,h.get? a=some oe∧oe.cls = .ref C∧oe.dict=d∧oe.data = .fields vs∧vs.size=6∧vs[1]? = some .none∧vs[2]? = some .none
def XD (d:Addr) (fs:List (Str×V)):HO:=.ext fun h => ∃ mA,h.Ns1 d mA∧(∀ f,Jk (fs.lookup f) (mA f))∧PySem.Within mA (fs.map (·.1))∧fs.length≤100
theorem ON {h h':Heap} {d:Addr} {mA:Str→Option Value} (n:h.Ns1 d mA) (k:∀ o,h.get? d=some o→h'.get? d=some o):h'.Ns1 d mA:=by
  obtain ⟨o,es,ep,e1,r⟩:=n
  exact ⟨o,es,ep,k _ e1,r⟩
theorem Mz {P:Program} {w:World} {H:Hp} {h:Heap} {a C:Addr} {d:Option Addr} {oe:Obj} {vs:Array Value} (he:h.get? a=some oe) (hc:oe.cls = .ref C) (hdd:oe.dict=d) (hd:oe.data = .fields vs) (h6:vs.size=6) (h1:vs[1]? = some .none∧vs[2]? = some .none):Bl P w H h a (XI a C d):=by
  refine ⟨⟨oe,vs,he,hc,hdd,hd,h6,h1⟩,⟨oe,he⟩,?_⟩
  rintro g1 g2 ⟨o1,v1,e1,r1⟩ k
  exact ⟨o1,v1,k _ e1,r1⟩
theorem xd_ok {P:Program} {w:World} {H:Hp} {h:Heap} {d:Addr} {fs:List (Str×V)} {mA:Str→Option Value} (n:h.Ns1 d mA) (r:∀ f,Jk (fs.lookup f) (mA f)) (hw:PySem.Within mA (fs.map (·.1))) (hl:fs.length≤100):Bl P w H h d (XD d fs):=by
  obtain ⟨o,es,ep,e1,rr⟩:=n
  refine ⟨⟨mA,⟨o,es,ep,e1,rr⟩,r,hw,hl⟩,⟨o,e1⟩,?_⟩
  rintro g1 g2 ⟨m1,n1,r1⟩ k
  exact ⟨m1,ON n1 k,r1⟩
theorem upd_id {H:Hp} {a:Addr} {o:HO} (h:H a=some o):upd H a o=H:=by
  funext b
  unfold upd
  by_cases hb:b=a
  · rw [if_pos hb,hb,h]
  · rw [if_neg hb]
structure Jh (K:PySem.W.Frag) (C CE fI:Addr):Prop where
  lk:∃ nm q N bs sn sub ab col dd k0 k1 k2 k3 k5,K.lookup C=some (excClassObj nm q C N bs (.ref CE :: Jx) true sn sub ab col dd k0 k1 k2 k3 k5 "ValueError.__new__")
  be:PySem.W.excIn K CE Jx "ValueError.__new__" = true
  init:PySem.W.findIn K (.ref C) "__init__" = some (some (.ref fI))
  fn:PySem.W.isFn K (.ref fI)=true
  sa:PySem.W.findIn K (.ref C) "__setattr__" = some (some (.builtin "object.__setattr__"))
  ob:PySem.W.mroIn K C (.type "object")=some true
  bx:PySem.W.mroIn K C (.type "BaseException")=some true
  hd:PySem.W.hasDictIn K C=true
  ga:PySem.W.findIn K (.ref C) "__getattribute__" = some (some (.builtin "BaseException.__getattribute__"))
  gt:PySem.W.findIn K (.ref C) "__getattr__" = some none
end
section
variable {X:Cx} {pins:List (Addr×Obj)} {σ : St} {H:Hp} {s:Shared} {d:Addr} {o:HO}
theorem AL.track (I:AL X pins σ H s) (n0:X.s₀.heap.get? d=none) (fr:H d=none) (nl:X.env.locals≠d) (nc:∀ x c,X.env.cells.lookup x=some c→c≠d) (np:∀ p∈X.pn ++ pins,p.1≠d) (ok:Bl X.prog X.w (upd H d o) s.heap d o):AL X pins σ (upd H d o) s:=by
  have ne:∀ b u,H b=some u→b≠d:=fun b u e => Al e fr
  have nea:∀ b o,X.s₀.heap.get? b=some o→b≠d:=fun b o e z => by rw [z,n0] at e; cases e
  refine ⟨I.ok,I.os,I.bare,⟨I.base.keep,I.base.slot,fun b o e n hx => ?_,I.base.there,fun b xs e => ?_,fun b o u e => ?_,fun b ps e => ?_⟩,I.loc,I.cell,?_,fun x c e => ?_,fun p hp => ?_,fun b u e => ?_,I.len⟩
  · rw [Ak (nea b o e)]; exact I.base.free b o e n hx
  · rw [Ak (ne _ _ (I.base.tups b xs e))]; exact I.base.tups b xs e
  · rw [Ak (ne _ _ (I.base.frzs b o u e))]; exact I.base.frzs b o u e
  · obtain ⟨m,q⟩:=I.base.tbls b ps e
    exact ⟨m,by rw [Ak (ne _ _ q)]; exact q⟩
  · rw [Ak nl]; exact I.free
  · rw [Ak (nc x c e)]; exact I.freeC x c e
  · obtain ⟨e,n,r⟩:=I.pin p hp
    exact ⟨e,by rw [Ak (np p hp)]; exact n,r⟩
  · by_cases hb:b=d
    · subst hb
      rw [Ac] at e
      cases e
      exact ok
    · rw [Ak hb] at e
      exact (I.hok b u e).stay (fun _ _ _ q => q) (fun c q => by rw [Ak (ne _ _ q)]; exact q) fun c xs q => by rw [Ak (ne _ _ q)]; exact q
end
section
variable {X:Cx} {C CE fI:Addr} {o value:Expr} {f:Str} {ta tv:TE} {pos pos':Pos}
def sX (C:Addr) (ta tv:TE) (f:Str):TS:=fun D σ H => tv σ H fun y H1 => ta σ H1 fun x H2 => ∃ a,x = .ref a ∧
  ((H2 a=some (XI a C none)∧∀ d,H2 d=none→D.nx σ (upd (upd H2 a (XI a C (some d))) d (XD d [(f,y)]))) ∨
   ∃ d fs,H2 a=some (XI a C (some d))∧H2 d=some (XD d fs)∧d≠a∧fs.length < 100∧D.nx σ (upd H2 d (XD d (Bm f y fs))))
theorem Ff (c:Jh X.K C CE fI) (hn:PySem.W.findIn X.K (.ref C) f=some none) (ha:PE X o ta) (hv:PE X value tv) (hs:swapsWith value (some (.Attribute o f pos')) pos.line X.env=pure false:=by rfl) :
    PS X (.Assign [.Attribute o f pos'] value pos) (sX C ta tv f):=by
  intro pins s σ H D I h
  obtain ⟨nm,q,N,bs,sn,sub,ab,col,dd,k0,k1,k2,k3,k5,lk⟩:=c.lk
  refine plainObj_wpAny_Assign_Attribute (B0 (hv pins s σ H _ I h) fun u s1 ⟨y,H1,I1,ry,q⟩ => B0 (ha pins s1 σ H1 _ I1 q) fun ov s2 ⟨x,H2,I2,rx,a,ex,q2⟩ => ?_) hs
  subst ex
  obtain rfl:ov=Value.ref a:=rx
  rcases q2 with ⟨ea,q2⟩ | ⟨d,fs,ea,ed,ne,hl,q2⟩
  · obtain ⟨⟨oe,vs,he,hc,hdn,hd,h6,h1⟩,_⟩:=(show Bl X.prog X.w H2 s2.heap a (XI a C none) from I2.hok a _ ea)
    obtain ⟨hp,g,dr,tk,os⟩:=s2
    refine Om (os0:=os) I2.kIn he hc hdn (fun z q => by rw [hd] at q; cases q) lk c.sa c.ob hn fun h' tk' hx' hns' keep => ?_
    have I3:AL X pins σ (upd H2 a (XI a C (some hp.objs.size))) ⟨h',g,dr,tk',os⟩ :=
      I2.write (x:=a) (e:=a) (by rw [ea]; exact True.intro) (.inl rfl) (fun b u hb q => keep b u hb q) ⟨_,hx'⟩ (Mz hx' hc rfl hd h6 h1)
    have fr:H2 hp.objs.size=none:=I2.hok.fresh (Nat.le_refl _)
    have na:hp.objs.size≠a:=Nat.ne_of_gt (Heap.lt_size he)
    refine ⟨σ,_,I3.track (d:=hp.objs.size) (o:=XD hp.objs.size [(f,y)]) (Heap.get?_none_of_le (show X.s₀.heap.objs.size≤hp.objs.size from I2.sz)) (by rw [Ak na]; exact fr) (Nat.ne_of_lt (show X.env.locals < hp.objs.size from I2.lt)) (fun x' c' e z => ?_) (fun p hp' z => ?_) ?_,q2 _ fr⟩
    · obtain ⟨v,o',ho',_⟩:=I2.cell x' c' e
      exact Nat.lt_irrefl _ (z ▸ Heap.lt_size ho')
    · have:=Heap.lt_size (I2.pin p hp').1
      exact Nat.lt_irrefl _ (z ▸ this)
    · refine xd_ok hns' (fun g' => ?_) (fun g' hg => ?_) (by simp)
      · by_cases hg:g'=f
        · subst hg
          simp [List.lookup]
          exact ry
        · have:(g' == f)=false:=by simpa using hg
          simp [List.lookup,this,hg,Jk]
      · by_cases q':g'=f
        · simp [q']
        · exact absurd (show (if g'=f then some u else none)=none by rw [if_neg q']) hg
  · obtain ⟨⟨oe,vs,he,hc,hdx,hd,h6,h1⟩,_⟩:=(show Bl X.prog X.w H2 s2.heap a (XI a C (some d)) from I2.hok a _ ea)
    obtain ⟨⟨mA,hD,r,wi,hl0⟩,_⟩:=(show Bl X.prog X.w H2 s2.heap d (XD d fs) from I2.hok d _ ed)
    obtain ⟨hp,g,dr,tk,os⟩:=s2
    refine Ol I2.kIn he hc hdx ne hD wi (by rw [List.length_map]; omega) (fun z q => by rw [hd] at q; cases q) lk c.sa c.ob hn fun h' tk' hns' keep => ?_
    have hd':∃ o,h'.get? d=some o:=let ⟨o,_,_,e',_⟩:=hns'; ⟨o,e'⟩
    refine ⟨σ,_,I2.write (x:=d) (e:=d) (by rw [ed]; exact True.intro) (.inl rfl) (fun b u hb q => keep b u hb q) hd' ?_,q2⟩
    refine xd_ok hns' (fun g' => ?_) (fun g' hg => ?_) ?_
    · show Jk ((Bm f y fs).lookup g') (if g'=f then some u else mA g')
      rw [A3]
      by_cases q:g'=f
      · rw [if_pos q,if_pos q]; exact ry
      · rw [if_neg q,if_neg q]; exact r g'
    · by_cases q:g'=f
      · rw [q]; exact (DZ f y fs).1
      · refine (DZ f y fs).2 g' (wi g' fun z => hg ?_)
        show (if g'=f then some u else mA g')=none
        rw [if_neg q]; exact z
    · have:=C7 f y fs; omega
end
section
variable {X:Cx} {C CE fI:Addr} {e:Expr} {f:Str} {ta:TE} {pos:Pos}
def tX (C:Addr) (ta:TE) (f:Str):TE:=fun σ H Q => ta σ H fun x H1 => ∃ a d fs v,x = .ref a∧H1 a=some (XO a (.ref C) (some d))∧H1 d=some (XD d fs)∧fs.lookup f=some v∧Q v H1
theorem KD (c:Jh X.K C CE fI) (hn:PySem.W.findIn X.K (.ref C) f=some none) (he:PE X e ta) (hb:attributeBase e f X.env (eval e X.env)=eval e X.env:=by rfl):PE X (.Attribute e f pos) (tX C ta f):=by
  intro pins s σ H Q I h
  refine K3 hb (B0 (he pins s σ H _ I h) fun u s1 ⟨x,H1,I1,rx,a,d,fs,v,ex,ea,ed,l,q⟩ => ?_)
  subst ex
  obtain rfl:u=Value.ref a:=rx
  obtain ⟨⟨oe,vs,he,hc,hdx,hd⟩,_⟩:=(show Bl X.prog X.w H1 s1.heap a (XO a (.ref C) (some d)) from I1.hok a _ ea)
  obtain ⟨⟨mA,hD,r,wi,hl0⟩,_⟩:=(show Bl X.prog X.w H1 s1.heap d (XD d fs) from I1.hok d _ ed)
  obtain ⟨od,ho,hl⟩:=Fj hD
  have rv:=r f
  rw [l] at rv
  obtain ⟨u,hu,ru⟩:=rv.some_of
  have J:PySem.W.InstAt s1.heap a oe C (some od):=⟨he,hc,by unfold PySem.W.notCls; rw [hd],by rw [hdx]; exact ho⟩
  obtain ⟨hp,g,dr,tk,os⟩:=s1
  refine getx I1.kIn J c.ga c.gt c.bx (PySem.W.findObj_own c.hd hn rfl (by rw [hl,hu])) (GT ru) ?_
  exact ⟨v,H1,I1.tok _,ru,q⟩
end
section
variable {X:Cx} {C CE fI:Addr} {e:Expr} {es:List Expr} {ta:TA} {x:Str} {p apos pos:Pos} {pl:Sem Bool}
structure XSup (K:PySem.W.Frag) (CE:Addr):Prop where
  rd:PySem.W.readsIn K CE (.type "type")=true
  fc:PySem.W.findCls K (.ref CE) (.type "type") "__init__" = some (.val (.builtin "ValueError.__init__"))
  sg:PySem.W.specialIn K (.ref CE) "__getattribute__" = some (some (.builtin "type.__getattribute__"))
def tSup (C:Addr) (ta:TA):TE:=fun σ H Q => ta σ H fun vs H1 => ∃ a d v,vs=[.ref a,v]∧H1 a=some (XI a C d)∧Q .non H1
theorem Ox (c:Jh X.K C CE fI) (u:XSup X.K CE) (hg:Gl X x) (hm:X.mg x=some (.ref CE)) (ha:PA X (e :: es) ta) (hdb:(x == ("__debug__" : Str))=false:=by decide)
    (he:starEach (e :: es) X.env=(false,eval e X.env) :: starEach es X.env:=by rfl) (hpl:(backTo pos (starEach es X.env)).any (·.1)=false:=by rfl)
    (ht:eval (.Call (.Attribute (.Name x p) "__init__" apos) (e :: es) [] pos) X.env=(do
      let ov ← eval (.Name x p) X.env
      standAt apos.atName
      let (f,first) ← holding [ov] (getMethod ov "__init__" pl)
      callWith pos f first (backTo pos (starEach (e :: es) X.env)) (backToKw pos (keywordEach [] X.env))):=by rfl) :
    PE X (.Call (.Attribute (.Name x p) "__init__" apos) (e :: es) [] pos) (tSup C ta):=by
  intro pins s σ H Q I h
  obtain ⟨nm,q,N,bs,sn,sub,ab,col,dd,k0,k1,k2,k3,k5,lk⟩:=c.lk
  refine PySem.W.methodCall_KW (pl:=pl) (C1 I hg hm ?_ hdb) ht
  refine PySem.W.method_cls I.kIn u.sg (PySem.W.cls_value I.kIn u.rd u.fc rfl ?_)
  refine PyProof.Rows.callWith_builtin1 (B0 (ha pos pins _ σ H _ (I.tok _) h) fun us s1 ⟨vs,H1,I1,r1,a,d,v,ev,ea,q1⟩ => ?_) he hpl
  subst ev
  obtain ⟨u1,u2,rfl,ra,_⟩:=A5.two r1
  cases (show u1=Value.ref a from ra)
  obtain ⟨⟨oe,vs,he,hc,hdx,hd,h6,h1⟩,_⟩:=(show Bl X.prog X.w H1 s1.heap a (XI a C d) from I1.hok a _ ea)
  obtain ⟨hp,g,dr,tk,os⟩:=s1
  refine initx I1.kIn he hc hd (by omega) lk (by rw [sizeLine_eq,List.length_cons,List.length_nil]; omega) fun h' hx' keep => ?_
  have I2:AL X pins σ (upd H1 a (XI a C d)) ⟨h',g,dr,tk,os⟩ :=
    I1.write (x:=a) (e:=a) (by rw [ea]; exact True.intro) (.inl rfl) (fun b u hb q => keep b u hb q) ⟨_,hx'⟩ (Mz hx' ((Obj.cls_mapFields _ _).trans hc) (by
      obtain ⟨oc,od,odt,osl⟩:=oe
      cases odt <;> exact hdx) (Obj.data_mapFields hd _) (by simp [h6]) ⟨by simp [Array.getElem?_setIfInBounds,h1.1],by simp [Array.getElem?_setIfInBounds,h1.2]⟩)
  rw [upd_id ea] at I2
  exact ⟨.non,H1,I2,rfl,q1⟩
end
def Mw (H:Hp) (a:Addr):Hp:=fun b => if b=a then none else H b
theorem Dj {H:Hp} {a b:Addr} (h:b≠a):Mw H a b=H b:=by unfold Mw; rw [if_neg h]
theorem Ea {H:Hp} {a:Addr}:Mw H a a=none:=by unfold Mw; rw [if_pos rfl]
section
variable {X:Cx} {pins:List (Addr×Obj)} {σ : St} {H:Hp} {s:Shared} {a:Addr} {φ : Heap→Prop}
theorem AL.drop (I:AL X pins σ H s) (n0:X.s₀.heap.get? a=none) (ha:H a=some (.ext φ)):AL X pins σ (Mw H a) s:=by
  have dn:∀ b,H b=none→Mw H a b=none:=fun b n => by
    by_cases hb:b=a
    · rw [hb]; exact Ea
    · rw [Dj hb]; exact n
  have nt:∀ b xs,H b=some (.tup xs)→b≠a:=fun b xs e z => by rw [z,ha] at e; cases e
  have no:∀ b c,H b=some (.own c)→b≠a:=fun b xs e z => by rw [z,ha] at e; cases e
  refine ⟨I.ok,I.os,I.bare,⟨I.base.keep,I.base.slot,fun b o e n hx => dn b (I.base.free b o e n hx),I.base.there,fun b xs e => ?_,fun b o u e => ?_,fun b ps e => ?_⟩,I.loc,I.cell,dn _ I.free,fun x c e => dn c (I.freeC x c e),fun p hp => ?_,fun b u e => ?_,I.len⟩
  · rw [Dj (nt _ _ (I.base.tups b xs e))]; exact I.base.tups b xs e
  · have q:=I.base.frzs b o u e
    rw [Dj (fun z => by rw [z,ha] at q; cases q)]; exact q
  · obtain ⟨m,q⟩:=I.base.tbls b ps e
    exact ⟨m,by rw [Dj (fun z => by rw [z,ha] at q; cases q)]; exact q⟩
  · obtain ⟨e,n,r⟩:=I.pin p hp
    exact ⟨e,dn _ n,r⟩
  · by_cases hb:b=a
    · rw [hb,Ea] at e; cases e
    · rw [Dj hb] at e
      exact (I.hok b u e).stay (fun _ _ _ q => q) (fun c q => by rw [Dj (no _ _ q)]; exact q) fun c xs q => by rw [Dj (nt _ _ q)]; exact q
end
section
variable {nb:Bool} {X:Cx} {E:XK} {C CE fI:Addr} {k:Nat} {fd:FuncData} {ps:List Str} {sp:Sp} {x:Str} {np cpos pos:Pos} {e:Expr} {es:List Expr} {ta:TA}
def PP (C:Addr) (sp:Sp) (E0 E:XK) (ta:TA):TS:=fun _ σ H => ta σ H fun vs H1 => vs.length≤100∧∀ a,H1 a=none→sp (.ref a :: vs) (upd H1 a (XI a C none)) (fun v H2 => v = .non∧∃ d,H2 a=some (XI a C (some d))∧E (.ref C) (some d) (Mw H2 a)) E0
theorem made_ok {E0:XK} {CX:JA} (c:Jh X.K C CE fI) (F:AD X.prog X.w X.K X.mg X.base CX k fI fd ps sp) (hx0:X.ex=[]) (hno:∀ o H s e s',¬ CX o H s E0 e s') (hr:Ca (k + 1) X.A) (hb:C8 X.K fd ps [])
    {pins:List (Addr×Obj)} {σ : St} {H:Hp} {s:Shared} {Ev:Value→Shared→Prop} {us:List Value} {vs:List V} {R:Addr→V→Hp→Prop} (I:AL X pins σ H s) (r:A5 vs us) (hz:us.length≤sizeLine)
    (h:∀ a,H a=none→sp (.ref a :: vs) (upd H a (XI a C none)) (fun v H2 => v = .non∧R a v H2) E0) :
    wpAny (model X.prog X.w) X.A (call (.ref C) us) (fun v s' => ∃ a H',v = .ref a∧AL X pins σ H' s'∧X.s₀.heap.get? a=none∧(∀ p∈X.pn ++ pins,p.1≠a)∧R a .non H') Ev s:=by
  obtain ⟨nm,q,N,bs,sn,sub,ab,col,dd,k0,k1,k2,k3,k5,lk⟩:=c.lk
  have old:∀ b,s.heap.get? b=none→X.s₀.heap.get? b=none:=fun b n => by
    cases z:X.s₀.heap.get? b with
    | none => rfl
    | some o =>
      obtain ⟨o',e⟩:=I.base.there b o z (by rw [hx0]; simp)
      rw [n] at e; cases e
  obtain ⟨nmE,qE,NE,bsE,bmE,hdE,snE,subE,abE,colE,N3,e0,e1,e2,e3,e5,mE,hCE,hNE,hniE,TE⟩:=KU I.kIn c.be
  have TL:OwnTail s.heap Jx (.ref CE :: Jx):=OwnTail.own hCE hNE hniE .base
  have hfn:=beq_iff_eq.mp c.fn
  obtain ⟨oI,hfI,hfc⟩ : ∃ oI,s.heap.get? fI=some oI∧oI.cls = .type "function" := by
    obtain ⟨o,ho,hc⟩:=Option.map_eq_some_iff.mp (show (X.K.lookup fI).map (·.cls)=some (.type "function") from hfn)
    exact ⟨o,I.kIn _ _ ho,hc⟩
  obtain ⟨hp,g,dr,tk,os⟩:=s
  refine Je (mN:=fun _ => none) I.kIn lk TL c.init hfI hfc (fun h' a hm => ?_) hz
  have J:AL X pins σ H ⟨h',g,dr,tk,os⟩:=I.kept (t':=tk) hm.keeps
  obtain ⟨t,h1,h2,h3⟩:=hm.there
  have fr:H a=none:=by
    cases q:H a with
    | none => rfl
    | some u =>
      obtain ⟨o,e⟩:=(I.hok a u q).ex
      rw [hm.new] at e; cases e
  have np:∀ p∈X.pn ++ pins,p.1≠a:=fun p hp z => by
    have:=(I.pin p hp).1
    rw [z,hm.new] at this; cases this
  have I2:AL X pins σ (upd H a (XI a C none)) ⟨h',g,dr,tk,os⟩:=J.track (old a hm.new) fr (fun z => by
      obtain ⟨m,⟨o,es,ep,ho,_⟩,_⟩:=I.loc
      rw [z,hm.new] at ho; cases ho) (fun x' c' e z => by
      obtain ⟨v,o',ho',_⟩:=I.cell x' c' e
      rw [z,hm.new] at ho'; cases ho') np (Mz h1 rfl rfl rfl rfl ⟨rfl,rfl⟩)
  have hq:=h a fr
  have r2:A5 (V.ref a :: vs) (Value.ref a :: us):=.cons rfl r
  have hl:(Value.ref a :: us).length=ps.length:=by
    have e:=r2.length
    rw [F.len _ _ _ _ hq] at e
    exact e.symm
  have bb:=hb _ (Value.ref a :: us) I2.kIn (by simpa using hl)
  rw [List.append_nil] at bb
  refine wpAny_call (codeAny_mono (F.run _ X.stack _ _ ⟨Value.ref a :: us,[]⟩ (Value.ref a :: us) _ _ E0 ((hr.make C us [])) (I2.env0.make C us []) bb r2 hq) fun r s' hq' => ?_)
  cases r with
  | error e => exact absurd hq' (hno _ _ _ _ _)
  | ok fl =>
    cases fl with
    | ret u =>
      obtain ⟨v,H',I3,rv,ev,q3⟩:=I2.after hq'
      subst ev
      exact ⟨rv,a,H',rfl,I3,old a hm.new,np,q3⟩
    | next => exact False.elim hq'
    | brk => exact False.elim hq'
    | cont => exact False.elim hq'
theorem Mc {M:Model} {A:Around} {E:Value→Shared→Prop} {s:Shared} {env:Env} {x:Sem Value} {Q:Flow→Shared→Prop} {K:PySem.W.Frag} (hh:A.handled=none) (c:Jh K C CE fI)
    (h:wpAny M A x (fun v s1 => ∃ a oe vs,v = .ref a∧s1.heap.get? a=some oe∧oe.cls = .ref C∧oe.data = .fields vs∧vs[1]? = some .none∧K.In s1.heap∧E (.ref a) s1) E s) :
    wpAny M A (raiseStmt env (some x) none) Q E s:=by
  unfold raiseStmt
  refine wpAny_bind (wpAny_mono h (fun v s1 h1 => ?_) fun _ _ x => x)
  obtain ⟨a,oe,vs,rfl,he,hc,hd,h1,X,hE⟩:=h1
  obtain ⟨hp,g,d,tk,os⟩:=s1
  obtain ⟨nm,q,N,bs,sn,sub,ab,col,dd,k0,k1,k2,k3,k5,lk⟩:=c.lk
  have hC:=X _ _ lk
  have L:=PySem.W.looks_mroIn (M:=M) X c.bx
  have he':hp.get? a=some oe:=he
  have hnc:∀ cd,oe.data≠.cls cd:=fun cd z => by rw [hd] at z; cases z
  repeat (first | (with_reducible refine wpAny_loadPart_at he' ?_; rw [hc]) | with_reducible refine wpAny_loadPart_at hC ?_ | with_reducible refine L.at ?_ | wp_step)
  rw [hd]
  refine wpAny_pure ?_
  rw [h1]
  refine wpAny_pure ?_
  rw [if_neg (by decide)]
  exact wpAny_pure (wpAny_raiseNew_none hh hE)
theorem Nw {E0:XK} {CX:JA} (c:Jh X.K C CE fI) (F:AD X.prog X.w X.K X.mg X.base CX k fI fd ps sp) (hno:∀ o H s e s',¬ CX o H s E0 e s') (hW:Pw nb X E) (hc:X.calm=true) (hr:Ca (k + 1) X.A) (hb:C8 X.K fd ps [])
    (hg:Gl X x) (hm:X.mg x=some (.ref C)) (hk:PySem.W.keepIn X.K (.ref C)=true) (ha:PA X (e :: es) ta) (hdb:(x == ("__debug__" : Str))=false:=by decide)
    (he:starEach (e :: es) X.env=(false,eval e X.env) :: starEach es X.env:=by rfl) (hpl:(backTo cpos (starEach es X.env)).any (·.1)=false:=by rfl) :
    PS X (.Raise (some (.Call (.Name x np) (e :: es) [] cpos)) none pos) (PP C sp E0 E ta):=by
  intro pins s σ H D I h
  rw [arm_exec_Raise]
  show wpAny _ _ (do standAt pos; raiseStmt X.env (some (do let v ← eval (.Call (.Name x np) (e :: es) [] cpos) X.env; standAt pos; pure v)) none) _ _ s
  refine wpAny_bind (wpAny_standAt (Mc (K:=X.K) (I.ok.hd hc) c (wpAny_bind ?_)))
  refine wpAny_Call_Name_kw (C1 I hg hm ?_ hdb)
  refine PySem.W.callWith_K (h₀:=X.base) I.ok.mod.kin hk (B0 (ha cpos pins s σ H _ I h) fun us s1 ⟨vs,H1,I1,r,z,q⟩ => ⟨I1.kIn,?_⟩) he hpl
  refine wpAny_mono (made_ok (R:=fun a v H2 => ∃ d,H2 a=some (XI a C (some d))∧E (.ref C) (some d) (Mw H2 a)) (Ev:=fun _ _ => False) c F hW.1 hno hr hb I1 r (by show us.length≤sizeLine; rw [← r.length,sizeLine_eq]; omega) q) (fun v s2 hq => ?_) fun _ _ z => False.elim z
  obtain ⟨a,H2,rfl,I2,n0,np',d,ea,qq⟩:=hq
  refine wpAny_bind (wpAny_standAt (wpAny_pure ?_))
  obtain ⟨⟨oe,ws,he',hc',hdx,hd,h6,h1⟩,_⟩:=(show Bl X.prog X.w H2 s2.heap a (XI a C (some d)) from I2.hok a _ ea)
  exact ⟨a,oe,ws,rfl,he',hc',hd,h1.1,I2.kIn,hW.2 pins σ (Mw H2 a) a (.ref C) (some d) s2 ⟨I2.drop n0 ea,n0,Ea,np',oe,ws,he',hc',hdx,hd,.inl h1.1,fun _ => h1.2⟩ qq⟩
end
section
open PySem.W
variable {prog:Program} {w:World} {A:Around} {E:Value→Shared→Prop} {K:Frag} {x C:Addr} {ox:Obj} {od:Option Obj} {hp:Heap} {g:Array GenState} {dr:Drawn} {tk:Nat} {os:OsState}
end
section
variable {X:Cx}
end
section
variable {nb:Bool} {P:Program} {w:World} {K:PySem.W.Frag} {mg:Str→Option Value} {base:Heap}
theorem Nk.okX {x qual:Str} {st:Stmt} {f:Addr} {fd:FuncData} {N ps:List Str} {k:Nat} {sp:Sp} (F:Nk K x qual st f fd) (S:AA N ps (Ae st)) (len:∀ vs H Q E,sp vs H Q E→vs.length=ps.length)
    (hbody:∀ (cdv:Value) (A:Around) (outer:List Env) (s:Shared) (H:Hp) (vs:List V) (Q:VK) (E:XK),Ca k (A.deeper (envOfC qual (Ae st) s.heap.objs.size f cdv))→sp vs H Q E →
      ∃ t,Jm (DW (JB nb P w) P w K mg base N qual (Ae st) f cdv A outer s H E) (Az st) t∧t { nx:=fun _ H' => Q .non H',rt:=Q } (start N vs) H):AD P w K mg base (JB nb P w) (k + 1) f fd ps sp:=by
  obtain ⟨oc,od,kV,doc,pm,an,cdv,ct,osl,rfl,lk,hcd⟩:=F.ex
  exact fn_of lk hcd S len fun A outer s H vs Q E hr hsp => hbody cdv A outer s H vs Q E hr hsp
end
end L2
set_option Elab.async false
set_option linter.all false
set_option maxRecDepth 100000
set_option maxHeartbeats 4000000
namespace L2
open PySem PySem.Spec PyProof.Rows
theorem Jw:entryFor table "proto.unchain" = some Builtin.«proto.unchain»:=entryFor_of_tree (by kernel_rfl)
section
variable {prog:Program} {w:World} {A:Around} {E:Value→Shared→Prop} {s:Shared}
theorem Im {α : Type} {a h:Addr} {oe oh:Obj} {vs hs:Array Value} {Q : α→Shared→Prop} (hh:A.handled=some (.ref h)) (ne:h≠a) (he:s.heap.get? a=some oe) (hd:oe.data = .fields vs) (h2 : 2 < vs.size)
    (hx:s.heap.get? h=some oh) (hxd:oh.data = .fields hs) (hc:hs[2]? = some .none)
    (q:E (.ref a) { s with heap:=s.heap.update a (Obj.mapFields (·.setIfInBounds 2 (.ref h))) }):wpAny (model prog w) A (raiseNew (.ref a):Sem α) Q E s:=by
  unfold raiseNew
  refine wpAny_bind (wpAny_handled ?_)
  rw [hh]
  show wpAny _ _ (if (Value.ref h != Value.ref a)=true then do
      let _ ← holding [.ref a] (runValue (.builtin "proto.unchain" ⟨[.ref a,.ref h,.ref h,.bool false],[]⟩))
      let _ ← updateField a 2 (.ref h)
      throw (.ref a)
     else throw (.ref a)) _ _ s
  rw [if_pos (show (Value.ref h != Value.ref a)=true from by simpa using ne)]
  refine wpAny_bind (wpAny_holding (wpAny_runValue (codeAny_builtin Jw ?_)))
  unfold Builtin.«proto.unchain»
  refine wpAny_bind (wpAny_field hx hxd hc ?_)
  rw [if_pos (by rfl)]
  refine wpAny_pure ?_
  refine wpAny_bind ?_
  show wpAny _ _ (setField (.ref a) 2 (.ref h)) _ _ s
  exact wpAny_setField he hd h2 (wpAny_throw q)
theorem Md {C CE fI h:Addr} {env:Env} {x c:Sem Value} {Q:Flow→Shared→Prop} {K:PySem.W.Frag} (hh:A.handled=some (.ref h)) (k:Jh K C CE fI) (hc:∀ {Q:Value→Shared→Prop} {s},Q .none s→wpAny (model prog w) A c Q E s)
    (hx:wpAny (model prog w) A x (fun v s1 => ∃ a oe vs oh hs,v = .ref a∧h≠a∧s1.heap.get? a=some oe∧oe.cls = .ref C∧oe.data = .fields vs∧vs.size=6∧vs[1]? = some .none∧s1.heap.get? h=some oh∧oh.data = .fields hs∧hs[2]? = some .none∧K.In s1.heap∧(∀ b o,K.lookup b=some o→b≠a) ∧
      ∀ h',(∀ b o,b≠a→s1.heap.get? b=some o→h'.get? b=some o)→(∃ oe' vs',h'.get? a=some oe'∧oe'.cls = .ref C∧oe'.dict=oe.dict∧oe'.data = .fields vs'∧vs'.size=6∧vs'[1]? = some .none)→E (.ref a) { s1 with heap:=h' }) E s) :
    wpAny (model prog w) A (raiseStmt env (some x) (some c)) Q E s:=by
  unfold raiseStmt
  refine wpAny_bind (wpAny_mono hx (fun v s1 h1 => ?_) fun _ _ x => x)
  obtain ⟨a,oe,vs,oh,hs,rfl,ne,he,hcl,hd,h6,h1,ho,hod,hoc,X,nK,hE⟩:=h1
  refine wpAny_bind (wpAny_holding (hc ?_))
  refine wpAny_bind (wpAny_pure ?_)
  obtain ⟨hp,g,d,tk,os⟩:=s1
  obtain ⟨nm,q,N,bs,sn,sub,ab,col,dd,k0,k1,k2,k3,k5,lk⟩:=k.lk
  have hC:=X _ _ lk
  have L:=PySem.W.looks_mroIn (M:=model prog w) X k.bx
  have he':hp.get? a=some oe:=he
  have hnc:∀ cd,oe.data≠.cls cd:=fun cd z => by rw [hd] at z; cases z
  repeat (first | (with_reducible refine wpAny_loadPart_at he' ?_; rw [hcl]) | with_reducible refine wpAny_loadPart_at hC ?_ | with_reducible refine L.at ?_ | wp_step)
  rw [hd]
  show wpAny _ _ (if 3 < vs.size then update a (Obj.mapFields fun x => x.setIfInBounds 3 Value.none) else unsupported "internal:no-such-field") _ _ _
  rw [if_pos (by omega)]
  refine wpAny_update he' ?_
  have d1:=Obj.data_mapFields hd (·.setIfInBounds 3 Value.none)
  have e1:=Heap.get?_update_self (Obj.mapFields (·.setIfInBounds 3 Value.none)) he' (Obj.isFreed_of_fields d1)
  refine wpAny_bind (wpAny_setField e1 d1 (by simp [h6]) ?_)
  have d2:=Obj.data_mapFields d1 (·.setIfInBounds 4 (Value.bool true))
  have e2:=Heap.get?_update_self (Obj.mapFields (·.setIfInBounds 4 (Value.bool true))) e1 (Obj.isFreed_of_fields d2)
  have kp:∀ b o,b≠a→hp.get? b=some o→((hp.update a (Obj.mapFields (·.setIfInBounds 3 Value.none))).update a (Obj.mapFields (·.setIfInBounds 4 (Value.bool true)))).get? b=some o:=fun b o n e => by
    rw [Heap.get?_update_other _ _ (Ne.symm n),Heap.get?_update_other _ _ (Ne.symm n)]; exact e
  have c2:(Obj.mapFields (·.setIfInBounds 4 (Value.bool true)) (Obj.mapFields (·.setIfInBounds 3 Value.none) oe)).cls = .ref C:=((Obj.cls_mapFields _ _).trans (Obj.cls_mapFields _ _)).trans hcl
  have x2:(Obj.mapFields (·.setIfInBounds 4 (Value.bool true)) (Obj.mapFields (·.setIfInBounds 3 Value.none) oe)).dict=oe.dict:=by
    obtain ⟨oc,od,odt,osl⟩:=oe
    cases odt <;> rfl
  have h12:((vs.setIfInBounds 3 Value.none).setIfInBounds 4 (Value.bool true))[1]? = some .none:=by simp [Array.getElem?_setIfInBounds,h1]
  have h62:((vs.setIfInBounds 3 Value.none).setIfInBounds 4 (Value.bool true)).size=6:=by simp [h6]
  have C2:=kp _ _ (nK _ _ lk) hC
  have X2:K.In ((hp.update a (Obj.mapFields (·.setIfInBounds 3 Value.none))).update a (Obj.mapFields (·.setIfInBounds 4 (Value.bool true)))):=fun b o e => kp b o (nK b o e) (X b o e)
  have ho2:=kp _ _ ne ho
  generalize hq:(hp.update a (Obj.mapFields (·.setIfInBounds 3 Value.none))).update a (Obj.mapFields (·.setIfInBounds 4 (Value.bool true)))=hp2 at e2 kp C2 X2 ho2 ⊢
  generalize Obj.mapFields (·.setIfInBounds 4 (Value.bool true)) (Obj.mapFields (·.setIfInBounds 3 Value.none) oe)=oe2 at e2 d2 c2 x2 ⊢
  generalize (vs.setIfInBounds 3 Value.none).setIfInBounds 4 (Value.bool true)=vs2 at d2 h12 h62 ⊢
  have L2:=PySem.W.looks_mroIn (M:=model prog w) X2 k.bx
  have e2':hp2.get? a=some oe2:=e2
  have hnc2:∀ cd,oe2.data≠.cls cd:=fun cd z => by rw [d2] at z; cases z
  repeat (first | (with_reducible refine wpAny_loadPart_at e2' ?_; rw [c2]) | with_reducible refine wpAny_loadPart_at C2 ?_ | with_reducible refine L2.at ?_ | wp_step)
  rw [d2]
  refine wpAny_pure ?_
  rw [h12]
  refine wpAny_pure ?_
  rw [if_neg (by decide)]
  refine wpAny_pure ?_
  show wpAny (model prog w) A (raiseNew (Value.ref a)) Q E ⟨hp2,g,d,tk,os⟩
  refine Im (s:=⟨hp2,g,d,tk,os⟩) hh ne e2' d2 (by omega) ho2 hod hoc ?_
  have d3:=Obj.data_mapFields d2 (·.setIfInBounds 2 (Value.ref h))
  have e3:=Heap.get?_update_self (Obj.mapFields (·.setIfInBounds 2 (Value.ref h))) e2' (Obj.isFreed_of_fields d3)
  refine hE _ (fun b o n e => ?_) ⟨_,_,e3,(Obj.cls_mapFields _ _).trans c2,?_,d3,by simp [h62],by simp [Array.getElem?_setIfInBounds,h12]⟩
  · rw [Heap.get?_update_other _ _ (Ne.symm n)]; exact kp b o n e
  · refine Eq.trans ?_ x2
    obtain ⟨oc,od,odt,osl⟩:=oe2
    cases odt <;> rfl
end
structure NY (fs:List Addr) (h h':Heap) (e:Addr):Prop where
  keep:∀ b o,b≠e→b ∉ fs→h.get? b=some o→h'.get? b=some o
  slot:∀ b o,b≠e→h.get? b=some o→∃ sl,h'.get? b=some { o with slots:=sl }
  exc:∃ oe vs,h.get? e=some oe∧oe.data = .fields vs
theorem NY.plain {fs:List Addr} {h h':Heap} {e:Addr} {oe:Obj} {vs:Array Value} (k:∀ b o,b≠e→h.get? b=some o→h'.get? b=some o) (he:h.get? e=some oe) (hd:oe.data = .fields vs):NY fs h h' e :=
  ⟨fun b o n _ q => k b o n q,fun b o n q => ⟨o.slots,k b o n q⟩,oe,vs,he,hd⟩
structure PutF (fs:List Addr) (h h':Heap) (e L:Addr):Prop where
  keep:∀ b o,b≠e→b ∉ fs→h.get? b=some o→h'.get? b=some o
  slot:∀ b o,b≠e→h.get? b=some o→∃ sl,h'.get? b=some { o with slots:=sl }
  exc:∃ oe vs oe' T oT ts,h.get? e=some oe∧oe.data = .fields vs∧h'.get? e=some oe'∧oe'.cls=oe.cls∧oe'.dict=oe.dict∧oe'.data = .fields (vs.setIfInBounds 1 (.ref T))∧1 < vs.size ∧
    h.objs.size≤T∧T≠e∧h'.get? T=some oT∧oT.data = .fields ts∧ts[3]? = some (rawInt L)
theorem PutF.put0 {fs:List Addr} {h h':Heap} {e L:Addr} (p:PutF fs h h' e L):NY fs h h' e:=by
  obtain ⟨oe,vs,oe',T,oT,ts,he,hd,_⟩:=p.exc
  exact ⟨p.keep,p.slot,oe,vs,he,hd⟩
section
variable {M:Model} {A:Around} {E:Value→Shared→Prop} {s:Shared}
theorem NG {base:Heap} {env:Env} {outer:List Env} {L e:Addr} {oe:Obj} {vs:Array Value} {Q:Unit→Shared→Prop}
    (hfr:A.frames=some (env :: outer)) (hl:s.heap.FunFrames base (env :: outer)) (hf:env.frame=some L)
    (he:s.heap.get? e=some oe) (hd:oe.data = .fields vs) (h1:vs[1]? = some .none)
    (h:∀ h',PutF (GC (env :: outer)) s.heap h' e L→Q () { s with heap:=h' }):wpAny M A (noteFrame (.ref e) env) Q E s:=by
  have hsz : 1 < vs.size:=(Array.getElem?_eq_some_iff.mp h1).1
  have hene:e ∉ GC (env :: outer):=fun hm => by
    obtain ⟨_,o,ho,hnf⟩:=hl.mem hm
    rw [he] at ho; injection ho with ho; subst ho; exact hnf vs hd
  unfold noteFrame
  simp only [hf]
  refine wpAny_bind (wpAny_field he hd h1 ?_)
  rw [if_neg (by decide)]
  show wpAny M A (do let a ← frameOf env; let pl ← entryPlaceOf L (Value.none != Value.none); let b ← EntryCells.newEntry .none a .none (rawInt L) .none pl; setField (.ref e) 1 b) Q E s
  refine wpAny_bind (wpAny_frameOf_fun hfr hl hf fun h1 hs1 => ?_)
  refine wpAny_bind (wpAny_entryPlaceOf fun pl hpl => ?_)
  unfold EntryCells.newEntry newFields
  refine wpAny_bind (wpAny_newObj_type ?_ (hpl.sizeOk5 _ _ _ _ _))
  have he1:h1.get? e=some oe:=(hs1.2.1 e hene).trans he
  have he2:=Heap.get?_push_of_some (h:=h1) { cls:=.type "traceback",dict:=none,data:=.fields ([Value.none,.ref L,.none,rawInt L,.none] ++ (if pl.isEmpty then List.replicate 6 Value.none else pl)).toArray } he1
  refine wpAny_setField he2 hd hsz ?_
  have hTe:h1.objs.size≠e:=Nat.ne_of_gt (Heap.lt_size he1)
  have hd3:=Obj.data_mapFields hd (·.setIfInBounds 1 (Value.ref h1.objs.size))
  have he3:=Heap.get?_update_self (Obj.mapFields (·.setIfInBounds 1 (Value.ref h1.objs.size))) he2 (Obj.isFreed_of_fields hd3)
  have hT3:=(Heap.get?_update_other (h1.push { cls:=.type "traceback",dict:=none,data:=.fields ([Value.none,.ref L,.none,rawInt L,.none] ++ (if pl.isEmpty then List.replicate 6 Value.none else pl)).toArray })
    (Obj.mapFields (·.setIfInBounds 1 (Value.ref h1.objs.size))) (Ne.symm hTe)).trans (Heap.get?_push_size h1 rfl)
  refine h _ ?_
  have keep:∀ b o,b≠e→h1.get? b=some o →
      ((h1.push { cls:=.type "traceback",dict:=none,data:=.fields ([Value.none,.ref L,.none,rawInt L,.none] ++ (if pl.isEmpty then List.replicate 6 Value.none else pl)).toArray }).update e (Obj.mapFields (·.setIfInBounds 1 (Value.ref h1.objs.size)))).get? b=some o:=fun b o hbe hb => by
    rw [Heap.get?_update_other _ _ (Ne.symm hbe)]
    exact Heap.get?_push_of_some _ hb
  refine ⟨fun b o hbe hbf hb => keep b o hbe ((hs1.2.1 b hbf).trans hb),fun b o hbe hb => ?_,?_⟩
  · obtain ⟨sl,hsl⟩:=hs1.2.2 b o hb
    exact ⟨sl,keep b _ hbe hsl⟩
  · have hTn:s.heap.objs.size≤h1.objs.size:=by rw [hs1.1]; exact Nat.le_refl _
    refine ⟨oe,vs,_,h1.objs.size,_,_,he,hd,he3,Obj.cls_mapFields _ _,?_,hd3,hsz,hTn,hTe,hT3,rfl,by simp⟩
    obtain ⟨c,dd,dt,sl⟩:=oe
    cases dt <;> rfl
end
section
variable {nb:Bool} {X:Cx} {pins:List (Addr×Obj)} {σ : St} {H:Hp} {s:Shared} {a:Addr} {C:Value} {d:Option Addr} {h':Heap}
theorem AL.put0 (I:AL X pins σ H s) (P:NY (GC X.stack) s.heap h' a) (n0:X.s₀.heap.get? a=none) (fr:H a=none) (pn:∀ p∈X.pn ++ pins,p.1≠a):AL X pins σ H { s with heap:=h' }:=by
  obtain ⟨oe,vs,he,hd⟩:=P.exc
  have neL:a≠X.env.locals:=fun z => by
    obtain ⟨m,⟨o,es,ep,ho,hdt,_⟩,_⟩:=I.loc
    rw [← z,he] at ho; cases ho; rw [hd] at hdt; cases hdt
  have neC:∀ x c,X.env.cells.lookup x=some c→c≠a:=fun x c e z => by
    obtain ⟨v,o,ho,hdt⟩:=I.cell x c e
    rw [z,he] at ho; cases ho; rw [hd] at hdt; cases hdt
  have stk:∀ b,b≠X.env.locals→b ∉ X.fs→b ∉ GC X.stack:=fun b h1 h2 z => (List.mem_cons.mp (I.stkSub b z)).elim h1 h2
  have neL':∀ b o,X.s₀.heap.get? b=some o→b≠X.env.locals:=fun b o e => Nat.ne_of_lt (Nat.lt_of_lt_of_le (Heap.lt_size e) I.ok.above)
  have nea:∀ b o,X.s₀.heap.get? b=some o→b≠a:=fun b o e z => by rw [z,n0] at e; cases e
  have cellK:∀ x c,X.env.cells.lookup x=some c→∀ v,s.heap.IsCell c v→h'.IsCell c v:=fun x c e v ⟨o,ho,hdt⟩ => by
    obtain ⟨sl,q⟩:=P.slot c o (neC x c e) ho
    exact ⟨_,q,hdt⟩
  refine ⟨I.ok,I.os,I.bare,⟨fun b o e n hb hx => ?_,fun b o e n hb hx => ?_,fun b o e n hx => I.base.free b o e n hx,fun b o e hx => ?_,I.base.tups,I.base.frzs,I.base.tbls⟩,?_,fun x c e => ?_,I.free,I.freeC,fun p hp => ?_,fun b u e => ?_,I.len⟩
  · exact P.keep b o (nea b o e) (stk b (neL' b o e) hb) (I.base.keep b o e n hb hx)
  · obtain ⟨sl,e1⟩:=I.base.slot b o e n hb hx
    obtain ⟨sl',e2⟩:=P.slot b _ (nea b o e) e1
    exact ⟨sl',e2⟩
  · obtain ⟨o',e1⟩:=I.base.there b o e hx
    obtain ⟨sl',e2⟩:=P.slot b _ (nea b o e) e1
    exact ⟨_,e2⟩
  · obtain ⟨m,⟨o,es,ep,ho,r⟩,hl⟩:=I.loc
    obtain ⟨sl,e2⟩:=P.slot _ _ (Ne.symm neL) ho
    refine ⟨m,⟨_,es,ep,e2,r⟩,fun i x v e1 e2 e3 => ?_⟩
    obtain ⟨u,r,l⟩:=hl i x v e1 e2 e3
    refine ⟨u,r,?_⟩
    rcases l with l | ⟨k,c,e,z⟩
    · exact .inl l
    · exact .inr ⟨k,c,e,cellK x c e _ z⟩
  · obtain ⟨v,z⟩:=I.cell x c e
    exact ⟨v,cellK x c e v z⟩
  · obtain ⟨e,n,ne,nf,dd⟩:=I.pin p hp
    exact ⟨P.keep p.1 p.2 (pn p hp) (stk p.1 ne nf) e,n,ne,nf,dd⟩
  · have tr:∀ c v,H c=some v→∀ u,s.heap.get? c=some u→h'.get? c=some u:=fun c v hc u q => by
      refine P.keep c u (fun z => by rw [z,fr] at hc; cases hc) (fun z => ?_) q
      rw [I.stkFree c z] at hc; cases hc
    refine (I.hok b u e).stay (fun c v hc q => ?_) (fun _ q => q) fun _ _ q => q
    rcases hc with z | z
    · rw [z] at q ⊢; exact tr b u e v q
    · exact tr c _ z v q
end
structure BF (X:Cx) (pins:List (Addr×Obj)) (σ : St) (H:Hp) (a:Addr) (C:Value) (d:Option Addr) (s:Shared):Prop where
  inv:AL X pins σ H s
  new:X.s₀.heap.get? a=none
  free:H a=none
  pin:∀ p∈X.pn ++ pins,p.1≠a
  obj:∃ oe vs T oT ts,s.heap.get? a=some oe∧oe.cls=C∧oe.dict=d∧oe.data = .fields vs∧vs[1]? = some (.ref T)∧T≠a∧X.s₀.heap.get? T=none∧H T=none∧(∀ p∈X.pn ++ pins,p.1≠T)∧s.heap.get? T=some oT∧oT.data = .fields ts∧ts[3]? = some (rawInt X.env.locals)
section
variable {X:Cx} {pins:List (Addr×Obj)} {σ : St} {H:Hp} {s:Shared} {a:Addr} {C:Value} {d:Option Addr} {oe:Obj} {vs:Array Value} {M:Model} {A:Around} {E:Value→Shared→Prop} {Q:Unit→Shared→Prop}
theorem AL.noted (I:AL X pins σ H s) (n0:X.s₀.heap.get? a=none) (fr:H a=none) (pn:∀ p∈X.pn ++ pins,p.1≠a) (he:s.heap.get? a=some oe) (hc:oe.cls=C) (hdd:oe.dict=d) (hd:oe.data = .fields vs) (h1:vs[1]? = some .none)
    (hA:A.frames=some X.stack) (hs:X.stack=X.env :: X.outer) (hf:X.env.frame=some X.env.locals) (h:∀ s',BF X pins σ H a C d s'→Q () s'):wpAny M A (noteFrame (.ref a) X.env) Q E s:=by
  refine NG (base:=X.base) (hA.trans (congrArg some hs)) (hs ▸ I.stack) hf he hd h1 fun h' P => h _ ?_
  have P':PutF (GC X.stack) s.heap h' a X.env.locals:=by rw [hs]; exact P
  obtain ⟨oe2,vs2,oe',T,oT,ts,he2,hd2,he',hc',hdd',hd',hsz,hT,hTe,hT',hTd,hT3⟩:=P.exc
  rw [he] at he2; cases he2
  rw [hd] at hd2; cases hd2
  refine ⟨I.put0 P'.put0 n0 fr pn,n0,fr,pn,oe',_,T,oT,ts,he',hc'.trans hc,hdd'.trans hdd,hd',by simp [hsz],hTe,Heap.get?_none_of_le (Nat.le_trans I.sz hT),I.hok.fresh hT,fun p hp z => ?_,hT',hTd,hT3⟩
  have:=Heap.lt_size (I.pin p hp).1
  rw [z] at this
  exact Nat.lt_irrefl _ (Nat.lt_of_lt_of_le this hT)
theorem M9 {H:Hp} {a:Addr} {o:HO} (h:H a=none):Mw (upd H a o) a=H:=by
  funext b
  by_cases hb:b=a
  · rw [hb,Ea,h]
  · rw [Dj hb,Ak hb]
theorem Pl {P:Program} {w:World} {H:Hp} {h:Heap} {a:Addr} {o:Obj} (e:h.get? a=some o):Bl P w H h a (.ext fun h => h.get? a=some o):=⟨e,⟨o,e⟩,fun _ _ p k => k _ p⟩
theorem BF.goes {i:Nat} {n:Str} {pos:Pos} (F:BF X pins σ H a C d s) (hN:X.N.Nodup) (hi:X.N[i]? = some n) (hk:X.env.scope.names.lookup n=some .local)
    (h:∀ s',BF X pins (σ.set i none) H a C d s'→Q () s'):wpAny M A (do bindName X.env n .none; unbindBehindTheSuite X.env n pos) Q E s:=by
  obtain ⟨oe,vs,T,oT,ts,he,hc,hdd,hd,h1,hTe,T0,TH,Tp,hT,hTd,h3⟩:=F.obj
  have I:=F.inv
  have nl:∀ b o vs,s.heap.get? b=some o→o.data = .fields vs→X.env.locals≠b:=fun b o vs e ed z => by
    obtain ⟨m,⟨o',es,ep,ho,hdt,_⟩,_⟩:=I.loc
    rw [z,e] at ho; cases ho; rw [ed] at hdt; cases hdt
  have nc:∀ b o vs,s.heap.get? b=some o→o.data = .fields vs→∀ x c,X.env.cells.lookup x=some c→c≠b:=fun b o vs e ed x c ec z => by
    obtain ⟨v,o',ho,hdt⟩:=I.cell x c ec
    rw [z,e] at ho; cases ho; rw [ed] at hdt; cases hdt
  have I1:=I.track (d:=a) (o:=.ext fun h => h.get? a=some oe) F.new F.free (nl a oe vs he hd) (nc a oe vs he hd) F.pin (Pl he)
  have TH':(upd H a (.ext fun h => h.get? a=some oe)) T=none:=by rw [Ak hTe]; exact TH
  have I2:=I1.track (d:=T) (o:=.ext fun h => h.get? T=some oT) T0 TH' (nl T oT ts hT hTd) (nc T oT ts hT hTd) Tp (Pl hT)
  refine I2.goes hN hi hk fun s' J => h s' ?_
  have eT:s'.heap.get? T=some oT:=(show Bl X.prog X.w _ s'.heap T (.ext fun h => h.get? T=some oT) from J.hok T _ Ac).1
  have ea:s'.heap.get? a=some oe:=(show Bl X.prog X.w _ s'.heap a (.ext fun h => h.get? a=some oe) from J.hok a _ (by rw [Ak (Ne.symm hTe),Ac])).1
  have J1:=J.drop T0 Ac
  rw [M9 TH'] at J1
  have J2:=J1.drop F.new Ac
  rw [M9 F.free] at J2
  exact ⟨J2,F.new,F.free,F.pin,oe,vs,T,oT,ts,ea,hc,hdd,hd,h1,hTe,T0,TH,Tp,eT,hTd,h3⟩
theorem BF.again (F:BF X pins σ H a C d s) (hf:X.env.frame=some X.env.locals) (h:Q () s):wpAny M A (setFlight (.ref a) X.env.frame) Q E s:=by
  obtain ⟨oe,vs,T,oT,ts,he,hc,hdd,hd,h1,hTe,T0,TH,Tp,hT,hTd,h3⟩:=F.obj
  rw [hf]
  unfold setFlight
  refine wpAny_bind (wpAny_field he hd h1 ?_)
  rw [if_pos (show (Value.ref T != Value.none)=true from by simp)]
  show wpAny M A (setField (.ref T) 3 (rawInt X.env.locals)) _ _ s
  refine wpAny_setField hT hTd (Array.getElem?_eq_some_iff.mp h3).1 ?_
  rw [Heap.update_setField_same s.heap T oT ts 3 (rawInt X.env.locals) hT hTd h3]
  exact h
theorem BF.known (F:BF X pins σ H a C d s) (hf:X.env.frame=some X.env.locals) (h:Q () s):wpAny M A (noteFrame (.ref a) X.env) Q E s:=by
  obtain ⟨oe,vs,T,oT,ts,he,hc,hdd,hd,h1,hTe,T0,TH,Tp,hT,hTd,h3⟩:=F.obj
  unfold noteFrame
  simp only [hf]
  refine wpAny_bind (wpAny_field he hd h1 ?_)
  rw [if_pos (show (Value.ref T != Value.none)=true from by simp)]
  refine wpAny_bind (wpAny_field hT hTd h3 ?_)
  rw [if_pos (show (rawInt X.env.locals == rawInt X.env.locals)=true from by simp)]
  exact wpAny_pure h
theorem BF.trail (F:BF X pins σ H a C d s):∃ oe vs T,s.heap.get? a=some oe∧oe.data = .fields vs∧vs[1]? = some (.ref T):=by
  obtain ⟨oe,vs,T,oT,ts,he,hc,hdd,hd,h1,_⟩:=F.obj
  exact ⟨oe,vs,T,he,hd,h1⟩
theorem BF.out {A':Around} {what:String} {R:Flow→Shared→Prop} {Ex:Value→Shared→Prop} (F:BF X pins σ H a C d s) (hf:X.env.frame=some X.env.locals) (h:Ex (.ref a) s) :
    wpAny M A (passOn what (.ref a) X.env:Sem Flow) R (notedBy M A X.env (cameBackBy M A' X.env Ex)) s:=by
  obtain ⟨oe,vs,T,he,hd,h1⟩:=F.trail
  unfold PySem.passOn
  refine wpAny_bind (wpAny_field he hd h1 ?_)
  rw [if_neg (show ¬ ((Value.ref T == Value.none)=true) from by simp)]
  refine wpAny_bind (F.again hf (wpAny_throw ?_))
  show wpAny M A (noteFrame (.ref a) X.env) _ _ s
  refine F.known hf ?_
  unfold cameBackBy
  refine wpAny_bind (wpAny_field he hd h1 ?_)
  rw [if_neg (show ¬ ((Value.ref T == Value.none)=true) from by simp)]
  exact F.again hf h
end
section
variable {nb:Bool} {P:Program} {w:World} {K:PySem.W.Frag} {mg:Str→Option Value} {base:Heap} {N:List Str} {qual:Str} {scope:Scope} {f:Addr} {cd:Value} {A:Around} {outer:List Env} {s0:Shared} {H0:Hp} {E:XK}
theorem BF.leave {pins:List (Addr×Obj)} {σ : St} {H:Hp} {s:Shared} {a:Addr} {C:Value} {d:Option Addr} (F:BF (DW (JB false P w) P w K mg base N qual scope f cd A outer s0 H0 E) pins σ H a C d s) (hE:E C d H) :
    (DW (JB false P w) P w K mg base N qual scope f cd A outer s0 H0 E).xe (.ref a) s:=by
  show wpAny _ _ (leaving _ (.ref a)) _ _ s
  unfold leaving
  refine wpAny_bind (F.known rfl ?_)
  obtain ⟨oe,vs,T,oT,ts,he,hc,hdd,hd,h1,hTe,T0,TH,Tp,hT,hTd,h3⟩:=F.obj
  have hsz:=(Array.getElem?_eq_some_iff.mp h3).1
  refine wpAny_setFlight_none he hd h1 hT hTd hsz ?_
  have d3:=Obj.data_mapFields hTd (·.setIfInBounds 3 Value.none)
  have e3:=Heap.get?_update_self (Obj.mapFields (·.setIfInBounds 3 Value.none)) hT (Obj.isFreed_of_fields d3)
  have kp:∀ b o,b≠T→s.heap.get? b=some o→(s.heap.update T (Obj.mapFields (·.setIfInBounds 3 Value.none))).get? b=some o:=fun b o n e => by
    rw [Heap.get?_update_other _ _ (Ne.symm n)]; exact e
  have J:=F.inv.put0 (NY.plain kp hT hTd) T0 TH Tp
  exact ⟨a,C,d,H,rfl,J.os,J.bare,J.base,J.hok,F.new,F.free,⟨oe,vs,kp _ _ (Ne.symm hTe) he,hc,hdd,hd,.inr ⟨T,_,_,h1,⟨hTe,T0,TH⟩,e3,d3,by simp [hsz]⟩,fun z => nomatch z⟩,hE⟩
end
structure Ed (k:Nat) (A:Around):Prop where
  dp:A.depth + 3 * k + 5 < recursionLimit
  un:A.units + 16 * k + 200 < cLine
theorem Ca.h {k:Nat} {A:Around} (r:Ca k A) (v:Option Value):Ed k (A.mark v):=⟨r.dp,r.un⟩
theorem Ed.deeper {k:Nat} {A:Around} (r:Ed (k + 1) A) (env:Env):Ed k (A.deeper env) :=
  ⟨by have:=r.dp; show A.depth + 1 + 3 * k + 5 < _; omega,by have:=r.un; show A.units + 3 + 16 * k + 200 < _; omega⟩
theorem Ed.make {k:Nat} {A:Around} (r:Ed (k + 1) A) (C:Addr) (us:List Value) (kw:List (Str×Value)):Ed k (A.under (.builtin "type.__call__" ⟨.ref C :: us,kw⟩)) :=
  ⟨by have:=r.dp; rw [IG]; omega,by have:=r.un; rw [IF]; omega⟩
theorem Ed.depth {k:Nat} {A:Around} (r:Ed k A):A.depth < recursionLimit:=by have:=r.dp; omega
structure Kj (P:Program) (w:World) (K:PySem.W.Frag) (mg:Str→Option Value) (base:Heap) (CX:JA) (k:Nat) (f:Addr) (fd:FuncData) (ps:List Str) (sp:Sp):Prop where
  len:∀ vs H Q E,sp vs H Q E→vs.length=ps.length
  run:∀ (A:Around) (outer:List Env) (s:Shared) (H:Hp) (args:Args) (us:List Value) (vs:List V) (Q:VK) (E:XK),Ed k A→Jz P w K mg base A outer s H→BindsTo s fd args (ps.zip us)→A5 vs us→sp vs H Q E →
    codeAny (model P w) A (.call (.ref f) args) (CR CX outer P w H s Q E) s
def LP (CX:JA) (P:Program) (w:World) (K:PySem.W.Frag) (mg:Str→Option Value) (base:Heap) (N:List Str) (qual:Str) (scope:Scope) (f:Addr) (cd:Value) (A:Around) (outer:List Env) (s:Shared) (H:Hp) (E:XK):Cx :=
  { DW CX P w K mg base N qual scope f cd A outer s H E with calm:=false }
theorem Ms {CX:JA} {P:Program} {w:World} {K:PySem.W.Frag} {mg:Str→Option Value} {base:Heap} {N ps:List Str} {qual:Str} {scope:Scope} {f:Addr} {cd:Value} {A:Around} {outer:List Env} {s s1:Shared} {H:Hp} {E:XK} {us:List Value} {vs:List V}
    (S:AA N ps scope) (e0:Jz P w K mg base A outer s H) (hl:vs.length=ps.length) (r:A5 vs us)
    (x:InCallC s s.heap.objs.size (bindL (envOfC qual scope s.heap.objs.size f cd).kindOf (ps.zip us) fun _ => none) (cellsFrom (s.heap.objs.size + 1) scope.names []) (bindC (envOfC qual scope s.heap.objs.size f cd).kindOf (ps.zip us) fun _ => none) s1) :
    AL (LP CX P w K mg base N qual scope f cd A outer s H E) [] (start N vs) H s1:=by
  have e1:Jz P w K mg base { A with handled:=none } outer s H:=⟨e0.frames,e0.mod,e0.bs,e0.bsz,e0.funs,e0.frf,e0.hok,e0.bare⟩
  have I:=JZ (CX:=CX) (E:=E) (A:={ A with handled:=none }) S rfl e1 hl r x
  have ok:=I.ok
  exact ⟨⟨ok.mod,ok.kind,ok.glob,ok.blt,ok.above,ok.inj,ok.has,ok.cab,fun z => absurd (show false=true from z) (by decide),Around.frames_deeper e0.frames,ok.stk,ok.exf,ok.bs,ok.bsz,ok.noex,ok.exfs,ok.funs,ok.frf⟩,
    I.os,I.bare,I.base,I.loc,I.cell,I.free,I.freeC,I.pin,I.hok,I.len⟩
theorem fn_ofH {CX:JA} {P:Program} {w:World} {K:PySem.W.Frag} {mg:Str→Option Value} {base:Heap} {k:Nat} {f:Addr} {name qual:Str} {params:Arguments} {body:List Stmt} {scope:Scope} {dV kV doc pm cdv ct oc:Value} {an od:Option Addr}
    {osl:Array (Option Value)} {N ps:List Str} {sp:Sp} (lk:K.lookup f=some ⟨oc,od,.func (PySem.W.fnOf name qual params body scope dV kV doc pm an cdv ct),osl⟩) (hcd:PySem.W.codeIn K cdv qual=true) (S:AA N ps scope)
    (len:∀ vs H Q E,sp vs H Q E→vs.length=ps.length)
    (hbody:∀ (A:Around) (outer:List Env) (s:Shared) (H:Hp) (vs:List V) (Q:VK) (E:XK),Ed k (A.deeper (envOfC qual scope s.heap.objs.size f cdv))→sp vs H Q E →
      ∃ t,Jm (LP CX P w K mg base N qual scope f cdv A outer s H E) body t∧t { nx:=fun _ H' => Q .non H',rt:=Q } (start N vs) H) :
    Kj P w K mg base CX (k + 1) f (PySem.W.fnOf name qual params body scope dV kV doc pm an cdv ct) ps sp:=by
  refine ⟨len,fun A outer s H args us vs Q E hr e0 hb r hsp => ?_⟩
  have hl:=len _ _ _ _ hsp
  have KX:K.In s.heap:=e0.mod.kin.keeps fun b o e => (e0.bs b o e).1
  have lim:s.heap.NoLimit:=e0.mod.nolimit.keeps fun b o e => (e0.bs b o e).1
  have hkind:∀ y∈ps.zip us,scope.names.lookup y.1=some .local∨(scope.names.lookup y.1=some .cell∧((cellsFrom (s.heap.objs.size + 1) scope.names []).lookup y.1).isSome=true):=fun ⟨n,v⟩ hy => by
    rcases S.par n (List.of_mem_zip hy).1 with q | q
    · exact .inl q
    · exact .inr ⟨q,PySem.W.cellsFrom_some _ _ _ (.inl q)⟩
  refine codeAny_call_function hr.depth (KX _ _ lk) rfl S.co S.gen rfl (PySem.W.codeRec_of KX hcd) (hb _ _ _ _ ?_)
  refine wpAny_newFunctionEnv_cells S.kind hkind fun env he s1 x => ?_
  subst he
  refine ⟨lim.keeps x.toInCall.keep,codeAny_func ?_⟩
  obtain ⟨t,ht,hq⟩:=hbody A outer s H vs Q E (hr.deeper _) hsp
  have I:AL (LP CX P w K mg base N qual scope f cdv A outer s H E) [] (start N vs) H s1:=Ms S e0 hl r x
  refine wpAny_mono (ht [] s1 (start N vs) H _ I hq) (fun fl s' hs => ?_) fun e s' hs => hs
  have fin:∀ {σ':St} {H':Hp} {v:V} {u:Value},AL (LP CX P w K mg base N qual scope f cdv A outer s H E) [] σ' H' s'→Bx v u→Q v H'→CE outer P w H s Q u s' :=
    fun {σ' H' v u} J rv q => ⟨v,H',J.os,J.bare,J.base,J.hok,rv,q⟩
  cases fl with
  | ret u =>
    obtain ⟨v,σ',H',J,rv,q⟩:=hs
    exact fin J rv q
  | next =>
    obtain ⟨σ',H',J,q⟩:=hs
    exact fin (v:=V.non) (u:=Value.none) J rfl q
  | brk =>
    obtain ⟨_,_,_,q⟩:=hs
    exact False.elim q
  | cont =>
    obtain ⟨_,_,_,q⟩:=hs
    exact False.elim q
section
variable {P:Program} {w:World} {K:PySem.W.Frag} {mg:Str→Option Value} {base:Heap}
theorem Nk.okH {x qual:Str} {st:Stmt} {f:Addr} {fd:FuncData} {N ps:List Str} {k:Nat} {sp:Sp} (F:Nk K x qual st f fd) (S:AA N ps (Ae st)) (len:∀ vs H Q E,sp vs H Q E→vs.length=ps.length)
    (hbody:∀ (cdv:Value) (A:Around) (outer:List Env) (s:Shared) (H:Hp) (vs:List V) (Q:VK) (E:XK),Ed k (A.deeper (envOfC qual (Ae st) s.heap.objs.size f cdv))→sp vs H Q E →
      ∃ t,Jm (LP A9 P w K mg base N qual (Ae st) f cdv A outer s H E).nox (Az st) t∧t { nx:=fun _ H' => Q .non H',rt:=Q } (start N vs) H):Kj P w K mg base A9 (k + 1) f fd ps sp:=by
  obtain ⟨oc,od,kV,doc,pm,an,cdv,ct,osl,rfl,lk,hcd⟩:=F.ex
  refine fn_ofH lk hcd S len fun A outer s H vs Q E hr hsp => ?_
  obtain ⟨t,h,q⟩:=hbody cdv A outer s H vs Q E hr hsp
  exact ⟨t,h.nox,q⟩
end
section
variable {nb:Bool} {X:Cx} {E:XK} {C CE fI:Addr} {k:Nat} {fd:FuncData} {ps:List Str} {sp:Sp} {x:Str} {np cpos pos:Pos} {e:Expr} {es:List Expr} {ta:TA}
theorem OV {E0:XK} {CX:JA} (c:Jh X.K C CE fI) (F:Kj X.prog X.w X.K X.mg X.base CX k fI fd ps sp) (hx0:X.ex=[]) (hno:∀ o H s e s',¬ CX o H s E0 e s') (hr:Ed (k + 1) X.A) (hb:C8 X.K fd ps [])
    {pins:List (Addr×Obj)} {σ : St} {H:Hp} {s:Shared} {Ev:Value→Shared→Prop} {us:List Value} {vs:List V} {R:Addr→V→Hp→Prop} (I:AL X pins σ H s) (r:A5 vs us) (hz:us.length≤sizeLine)
    (h:∀ a,H a=none→sp (.ref a :: vs) (upd H a (XI a C none)) (fun v H2 => v = .non∧R a v H2) E0) :
    wpAny (model X.prog X.w) X.A (call (.ref C) us) (fun v s' => ∃ a H',v = .ref a∧AL X pins σ H' s'∧X.s₀.heap.get? a=none∧(∀ p∈X.pn ++ pins,p.1≠a)∧R a .non H') Ev s:=by
  obtain ⟨nm,q,N,bs,sn,sub,ab,col,dd,k0,k1,k2,k3,k5,lk⟩:=c.lk
  have old:∀ b,s.heap.get? b=none→X.s₀.heap.get? b=none:=fun b n => by
    cases z:X.s₀.heap.get? b with
    | none => rfl
    | some o =>
      obtain ⟨o',e⟩:=I.base.there b o z (by rw [hx0]; simp)
      rw [n] at e; cases e
  obtain ⟨nmE,qE,NE,bsE,bmE,hdE,snE,subE,abE,colE,N3,e0,e1,e2,e3,e5,mE,hCE,hNE,hniE,TE⟩:=KU I.kIn c.be
  have TL:OwnTail s.heap Jx (.ref CE :: Jx):=OwnTail.own hCE hNE hniE .base
  have hfn:=beq_iff_eq.mp c.fn
  obtain ⟨oI,hfI,hfc⟩ : ∃ oI,s.heap.get? fI=some oI∧oI.cls = .type "function" := by
    obtain ⟨o,ho,hc⟩:=Option.map_eq_some_iff.mp (show (X.K.lookup fI).map (·.cls)=some (.type "function") from hfn)
    exact ⟨o,I.kIn _ _ ho,hc⟩
  obtain ⟨hp,g,dr,tk,os⟩:=s
  refine Je (mN:=fun _ => none) I.kIn lk TL c.init hfI hfc (fun h' a hm => ?_) hz
  have J:AL X pins σ H ⟨h',g,dr,tk,os⟩:=I.kept (t':=tk) hm.keeps
  obtain ⟨t,h1,h2,h3⟩:=hm.there
  have fr:H a=none:=by
    cases q:H a with
    | none => rfl
    | some u =>
      obtain ⟨o,e⟩:=(I.hok a u q).ex
      rw [hm.new] at e; cases e
  have np:∀ p∈X.pn ++ pins,p.1≠a:=fun p hp z => by
    have:=(I.pin p hp).1
    rw [z,hm.new] at this; cases this
  have I2:AL X pins σ (upd H a (XI a C none)) ⟨h',g,dr,tk,os⟩:=J.track (old a hm.new) fr (fun z => by
      obtain ⟨m,⟨o,es,ep,ho,_⟩,_⟩:=I.loc
      rw [z,hm.new] at ho; cases ho) (fun x' c' e z => by
      obtain ⟨v,o',ho',_⟩:=I.cell x' c' e
      rw [z,hm.new] at ho'; cases ho') np (Mz h1 rfl rfl rfl rfl ⟨rfl,rfl⟩)
  have hq:=h a fr
  have r2:A5 (V.ref a :: vs) (Value.ref a :: us):=.cons rfl r
  have hl:(Value.ref a :: us).length=ps.length:=by
    have e:=r2.length
    rw [F.len _ _ _ _ hq] at e
    exact e.symm
  have bb:=hb _ (Value.ref a :: us) I2.kIn (by simpa using hl)
  rw [List.append_nil] at bb
  refine wpAny_call (codeAny_mono (F.run _ X.stack _ _ ⟨Value.ref a :: us,[]⟩ (Value.ref a :: us) _ _ E0 ((hr.make C us [])) (I2.env0.make C us []) bb r2 hq) fun r s' hq' => ?_)
  cases r with
  | error e => exact absurd hq' (hno _ _ _ _ _)
  | ok fl =>
    cases fl with
    | ret u =>
      obtain ⟨v,H',I3,rv,ev,q3⟩:=I2.after hq'
      subst ev
      exact ⟨rv,a,H',rfl,I3,old a hm.new,np,q3⟩
    | next => exact False.elim hq'
    | brk => exact False.elim hq'
    | cont => exact False.elim hq'
end
def NV (a:Addr) (C:Value) (d:Option Addr):HO:=.ext fun h => ∃ oe vs,h.get? a=some oe∧oe.cls=C∧oe.dict=d∧oe.data = .fields vs∧vs[2]? = some .none
section
variable {X:Cx} {C CE fI:Addr} {e:Expr} {f:Str} {ta:TE} {pos:Pos}
def tXn (C:Addr) (ta:TE) (f:Str):TE:=fun σ H Q => ta σ H fun x H1 => ∃ a d fs v,x = .ref a∧H1 a=some (NV a (.ref C) (some d))∧H1 d=some (XD d fs)∧fs.lookup f=some v∧Q v H1
theorem Ln (c:Jh X.K C CE fI) (hn:PySem.W.findIn X.K (.ref C) f=some none) (he:PE X e ta) (hb:attributeBase e f X.env (eval e X.env)=eval e X.env:=by rfl):PE X (.Attribute e f pos) (tXn C ta f):=by
  intro pins s σ H Q I h
  refine K3 hb (B0 (he pins s σ H _ I h) fun u s1 ⟨x,H1,I1,rx,a,d,fs,v,ex,ea,ed,l,q⟩ => ?_)
  subst ex
  obtain rfl:u=Value.ref a:=rx
  obtain ⟨⟨oe,vs,he,hc,hdx,hd,_⟩,_⟩:=(show Bl X.prog X.w H1 s1.heap a (NV a (.ref C) (some d)) from I1.hok a _ ea)
  obtain ⟨⟨mA,hD,r,wi,hl0⟩,_⟩:=(show Bl X.prog X.w H1 s1.heap d (XD d fs) from I1.hok d _ ed)
  obtain ⟨od,ho,hl⟩:=Fj hD
  have rv:=r f
  rw [l] at rv
  obtain ⟨u,hu,ru⟩:=rv.some_of
  have J:PySem.W.InstAt s1.heap a oe C (some od):=⟨he,hc,by unfold PySem.W.notCls; rw [hd],by rw [hdx]; exact ho⟩
  obtain ⟨hp,g,dr,tk,os⟩:=s1
  refine getx I1.kIn J c.ga c.gt c.bx (PySem.W.findObj_own c.hd hn rfl (by rw [hl,hu])) (GT ru) ?_
  exact ⟨v,H1,I1.tok _,ru,q⟩
end
section
variable {X:Cx} {pins:List (Addr×Obj)} {σ : St} {H:Hp} {s:Shared} {a:Addr} {C:Value} {d:Option Addr}
theorem CS.trackN (F:CS true X pins σ H a C d s):AL X pins σ (upd H a (NV a C d)) s:=by
  obtain ⟨oe,vs,he,hc,hdd,hd,_,hx⟩:=F.obj
  have I:=F.inv
  refine I.track F.new F.free (fun z => ?_) (fun x c e z => ?_) F.pin ⟨⟨oe,vs,he,hc,hdd,hd,hx rfl⟩,⟨oe,he⟩,?_⟩
  · obtain ⟨m,⟨o,es,ep,ho,hdt,_⟩,_⟩:=I.loc
    rw [z,he] at ho; cases ho; rw [hd] at hdt; cases hdt
  · obtain ⟨v,o,ho,hdt⟩:=I.cell x c e
    rw [z,he] at ho; cases ho; rw [hd] at hdt; cases hdt
  · rintro h1 h2 ⟨o1,v1,e1,r1⟩ k
    exact ⟨o1,v1,k _ e1,r1⟩
end
def Pz (X:Cx) (E:XK):Prop := ∀ pins σ H a C d s,BF X pins σ H a C d s→E C d H→X.xe (.ref a) s
section
variable {P:Program} {w:World} {K:PySem.W.Frag} {mg:Str→Option Value} {base:Heap} {N:List Str} {qual:Str} {scope:Scope} {f:Addr} {cd:Value} {A:Around} {outer:List Env} {s0:Shared} {H0:Hp} {E:XK}
theorem Mp:Pz (DW (JB false P w) P w K mg base N qual scope f cd A outer s0 H0 E) E:=fun _ _ _ _ _ _ _ F q => F.leave q
end
section
variable {X:Cx} {E:XK} {C2 CE fI:Addr} {j:Nat} {fd:FuncData} {ps:List Str} {sp:Sp} {x x2 n:Str} {np np2 cpos rpos hpos p3:Pos} {kk:Nat} {e:Expr} {es:List Expr} {ta:TA} {c:Value} {i:Nat}
def PR (K:PySem.W.Frag) (c:Value) (i:Nat) (C2:Addr) (sp:Sp) (E0 E:XK) (ta:TA):Value→Option Addr→TS:=fun C d _ σ H => PySem.W.kitCls K C c=some true∧∀ a,H a=none →
  ta (σ.set i (some (.ref a))) (upd H a (NV a C d)) fun vs H2 => vs.length≤100∧∀ a',H2 a'=none→sp (.ref a' :: vs) (upd H2 a' (XI a' C2 none)) (fun v H3 => v = .non∧a≠a'∧∃ d',H3 a'=some (XI a' C2 (some d'))∧H3 a=some (NV a C d)∧E (.ref C2) (some d') (Mw H3 a')) E0
theorem Ow {E0:XK} {CX:JA} (k:Jh X.K C2 CE fI) (F:Kj X.prog X.w X.K X.mg X.base CX j fI fd ps sp) (hno:∀ o H s e s',¬ CX o H s E0 e s') (hr:Ca (j + 1) X.A) (hb:C8 X.K fd ps []) (hL:Pz X E) (hx0:X.ex=[])
    (hg:Gl X x) (hm:X.mg x=some c) (hk:PySem.W.subIn X.K c (.type "BaseException")=some true) (hN:X.N.Nodup) (hi:X.N[i]? = some n) (hl:X.env.scope.names.lookup n=some .local)
    (hg2:Gl X x2) (hm2:X.mg x2=some (.ref C2)) (hk2:PySem.W.keepIn X.K (.ref C2)=true) (ha:∀ a,PA (X.hnd a) (e :: es) ta)
    (hst:X.stack=X.env :: X.outer:=by rfl) (hfr:X.env.frame=some X.env.locals:=by rfl) (hd1:(x == ("__debug__" : Str))=false:=by decide) (hd2:(x2 == ("__debug__" : Str))=false:=by decide)
    (he:starEach (e :: es) X.env=(false,eval e X.env) :: starEach es X.env:=by rfl) (hpl:(backTo cpos (starEach es X.env)).any (·.1)=false:=by rfl) :
    PH true X [.ExceptHandler (some (.Name x np)) (some n) [.Raise (some (.Call (.Name x2 np2) (e :: es) [] cpos)) (some (.Constant .none kk p3)) rpos] hpos] (PR X.K c i C2 sp E0 E ta):=by
  intro pins σ H a C d s D Fl tr h
  obtain ⟨kc,h⟩:=h
  obtain ⟨oe,vs,he',hc,hdd,hd⟩:=Fl.at
  have I':=Fl.inv.hnd a
  refine wpAny_handleBy_cons (codeAny_handlers_test (C1 (X:=X.hnd a) I' hg hm ?_ hd1)) (by intro q; cases q)
  have nx:=Fl.new
  obtain ⟨hp,g,dr,tk,os⟩:=s
  refine LC (K:=X.K) Fl.inv.kIn he' (by rw [hc]; exact kc) hk ?_
  refine codeAny_handlers_suite_as (tr.still ?_)
  refine EI (X:=X.hnd a) (Fl.trackN.hnd a) hN hi (.inl hl) (v:=.ref a) rfl (fun s2 I2 => ?_) (.inr hl)
  refine wpAny_execs_cons ?_
  rw [arm_exec_Raise]
  have hh:(X.A.mark (some (.ref a))).handled=some (.ref a):=rfl
  refine wpAny_bind (wpAny_standAt (Md (K:=X.K) hh k (fun q => wpAny_bind (Constant_none (wpAny_bind (wpAny_standAt (wpAny_pure q))))) (wpAny_bind ?_)))
  refine wpAny_Call_Name_kw (C1 (X:=X.hnd a) I2 hg2 hm2 ?_ hd2)
  refine PySem.W.callWith_K (h₀:=X.base) I2.ok.mod.kin hk2 (wpAny_mono (ha a cpos pins s2 _ _ _ I2 (h a Fl.free)) (fun us s3 ⟨vs,H1,I3,r,z,q⟩ => ⟨I3.kIn,?_⟩) fun _ _ z => False.elim z) he hpl
  refine wpAny_mono (OV (X:=X.hnd a) (R:=fun a' v H3 => a≠a'∧∃ d',H3 a'=some (XI a' C2 (some d'))∧H3 a=some (NV a C d)∧E (.ref C2) (some d') (Mw H3 a')) (Ev:=fun _ _ => False) k F hx0 hno (hr.h _) hb I3 r (by show us.length≤sizeLine; rw [← r.length,sizeLine_eq]; omega) q) (fun v s4 hq => ?_) fun _ _ z => False.elim z
  obtain ⟨a',H3,rfl,I4,n0,np',ne,d',ea',ea,qE⟩:=hq
  refine wpAny_bind (wpAny_standAt (wpAny_pure ?_))
  obtain ⟨⟨oe4,ws,e4,c4,x4,d4,h64,h14,h24⟩,_⟩:=(show Bl X.prog X.w H3 s4.heap a' (XI a' C2 (some d')) from I4.hok a' _ ea')
  obtain ⟨⟨oh,hs,eh,_,_,hdh,hch⟩,_⟩:=(show Bl X.prog X.w H3 s4.heap a (NV a C d) from I4.hok a _ ea)
  refine ⟨a',oe4,ws,oh,hs,rfl,ne,e4,c4,d4,h64,h14,eh,hdh,hch,I4.kIn,fun b o lk z => ?_,fun h' keep ob => ?_⟩
  · have:=(I4.ok.bs b o (I4.ok.mod.kin b o lk)).1
    rw [z,n0] at this; cases this
  · obtain ⟨oe5,vs5,e5,c5,x5,d5,h65,h15⟩:=ob
    have J:=(I4.drop n0 ea').put0 (NY.plain keep e4 d4) n0 Ea np'
    exact AL.noted (J.unhnd Fl.inv.ok) n0 Ea np' e5 c5 (x5.trans x4) d5 h15 Fl.inv.ok.frames hst hfr fun s6 F6 => F6.goes hN hi hl fun s7 F7 => F7.out hfr (hL _ _ _ _ _ _ _ F7 qE)
end
section
variable {nb:Bool} {X:Cx} {e:Expr} {pos:Pos}
def PN (t:St→Hp→VK→XK→Prop) (th:Value→Option Addr→TS):TS:=fun D σ H => t σ H D.rt fun C d H1 => th C d D σ H1
theorem Nv {t:St→Hp→VK→XK→Prop} {th:Value→Option Addr→TS} {h0:ExceptHandler} {hs:List ExceptHandler} {p1:Pos} (px:PX nb X e t) (hh:PH nb X (h0 :: hs) th) (hst:X.stack=X.env :: X.outer:=by rfl) (hfr:X.env.frame=some X.env.locals:=by rfl) :
    PS X (.Try [.Return (some e) p1] (h0 :: hs) [] [] pos) (PN t th):=by
  intro pins s σ H D I h
  refine wpAny_Try_except (wpAny_execs_cons (wpAny_Return_some (B0 (px pins s σ H _ _ _ I h ?_) fun v s1 ⟨y,H1,I1,r1,q1⟩ => ?_)))
  · exact fun a C d H' s' Fl q => Fl.note I.ok.frames hst hfr fun h' Fl' tr => hh pins σ H' a C d _ D Fl' tr q
  · exact ⟨y,σ,H1,I1,r1,q1⟩
end
section
variable {X:Cx}
def Oq (K:PySem.W.Frag):R2:=fun x y H Q => ∃ a b xs ys,x = .ref a∧y = .ref b∧A2 K H a xs∧A2 K H b ys∧ys≠[]∧xs.length + ys.length≤sizeLine ∧
  (xs=[]→Q (.ref b) H)∧(xs≠[]→∀ p,H p=none→Q (.ref p) (upd H p (.tup (xs ++ ys))))
theorem HJ:Gz X (binaryOp .Add) (Oq X.K):=by
  intro pins s σ H x y v u Q I rx ry h
  obtain ⟨a,b,xs,ys,rfl,rfl,ha,hb,hy,hz,q1,q2⟩:=h
  by_cases hx:xs=[]
  · cases rx
    cases ry
    obtain ⟨its,r1,p1,_⟩:=I.tuple ha
    obtain ⟨its2,r2,p2,_⟩:=I.tuple hb
    obtain ⟨⟨cls,dd,data,sl⟩,ho,hc,n,hd⟩:=id p1
    obtain ⟨⟨cls2,dd2,data2,sl2⟩,ho2,hc2,n2,hd2⟩:=id p2
    simp only at hc hd hc2 hd2
    subst hc hd hc2 hd2
    have hi:its=[]:=r1.nil_iff.mpr hx
    exact concat_meets ⟨_,ho,rfl⟩ ⟨_,ho2,rfl⟩ noFill_tuple_add seq_tuple_add PySem.F.slot_tuple_add PySem.F.entry_tuple_add (PySem.F.args_tuple_add_2 _ _)
      (tuple_addW0 a b its.toArray its2.toArray n n2 dd dd2 sl sl2 (by simp [hi])) ⟨ho,ho2,⟨.ref b,H,I,rfl,q1 hx⟩⟩
  · exact op_catT pins s σ H _ _ v u Q I rx ry ⟨a,b,xs,ys,rfl,rfl,ha,hb,hx,hz,fun z => absurd z hy,fun _ => q2 hx⟩
end
end L2
set_option Elab.async false
set_option linter.all false
set_option maxRecDepth 100000
set_option maxHeartbeats 4000000
namespace L2
open PySem PySem.Spec PyProof.Rows
section
variable {X:Cx}
theorem NS {ds:List PyData} (h:∀ d∈ds,SeqAt.shaped d=true):PyData.canLayAll0 ds=true:=by
  induction ds with
  | nil => rfl
  | cons d r ih =>
    have h1:=h d List.mem_cons_self
    have h2:=ih fun x hx => h x (List.mem_cons_of_mem _ hx)
    simp only [PyData.canLayAll0,SeqAt.canLay_of_shaped h1,h2,Bool.and_true]
def rInD (K:PySem.W.Frag) (neg:Bool):R2:=fun x y H Q => ∃ p xs ds d,y = .ref p∧AE K H p xs∧FE K H xs ds∧K7 K H x d∧(∀ e∈ds,SeqAt.shaped e=true)∧SeqAt.shaped d=true∧d.depth≤62∧Q (.bl (if neg then !(ds.any fun e => e.eqv d) else ds.any fun e => e.eqv d)) H
theorem JU (hu:X.A.units + 64 < cLine):Gz X (compareOp .NotIn) (rInD X.K true):=by
  intro pins s σ H x y v u Q I rx ry h
  obtain ⟨p,xs,ds,d,rfl,hp,hs,hd,s1,s2,dd,q⟩:=h
  obtain ⟨as,r1⟩:=(K7.lst hp hs).reads I ry
  obtain ⟨bs,r2⟩:=hd.reads I rx
  exact SeqAt.notIn_list_reads r1 r2 (NS s1) (SeqAt.canLay_of_shaped s2) (by omega) ⟨.bl _,H,I,rfl,q⟩
theorem EV {h:Heap}:∀ {vs:List Value} {ds:List PyData} {as:List Addr},ReadsAll h vs ds as→∀ (i:Nat) (h1:i < vs.length),∃ (h2:i < ds.length),∃ bs,Reads h vs[i] ds[i] bs
  | _,_,_,.nil,i,h1 => absurd h1 (Nat.not_lt_zero i)
  | _,_,_,.cons r t,0,_ => ⟨Nat.zero_lt_succ _,_,r⟩
  | _,_,_,.cons r t,i + 1,h1 => by
    obtain ⟨a,b,c⟩:=EV t i (Nat.lt_of_succ_lt_succ h1)
    exact ⟨Nat.succ_lt_succ a,b,c⟩
theorem FW {h:Heap}:∀ {vs:List Value} {ds:List PyData} {as:List Addr},ReadsAll h vs ds as→vs.length=ds.length
  | _,_,_,.nil => rfl
  | _,_,_,.cons r t => congrArg (· + 1) (FW t)
def P5 (K:PySem.W.Frag):V→List V→Hp→VK→Prop:=fun x vs H Q => ∃ (l:Addr) (y:V) (xs:List V) (ds:List PyData) (d:PyData) (j:Nat) (hj:j < ds.length),x = .ref l∧vs=[y]∧AE K H l xs∧FE K H xs ds∧K7 K H y d∧(∀ e∈ds,SeqAt.shaped e=true)∧SeqAt.shaped d=true∧d.depth≤62∧ds.length≤1000 ∧
  ds[j].eqv d=true∧(∀ (m:Nat) (hm:m < ds.length),m < j→ds[m].eqv d=false)∧Q (.int (j:Nat)) H
theorem JY (hu:X.A.units + 64 < cLine):MtM X "list.index" (P5 X.K):=by
  intro pins s σ H x vs v us Q I rx rv h
  obtain ⟨l,y,xs,ds,d,j,hj,rfl,rfl,hl,hs,hd,s1,s2,hdp,hz,hy,hn,q⟩:=h
  cases rx
  obtain ⟨u,rfl,ru⟩:=rv.one
  obtain ⟨bs,r2⟩:=hd.reads I ru
  obtain ⟨its,rr,pl,_⟩:=I.list hl
  obtain ⟨as,r1⟩:=FE.reads I hs rr
  have hlen:=FW r1
  obtain ⟨⟨cls,dd,data,sl⟩,ho,hc,n,hdt⟩:=pl.isList
  simp only at hc hdt
  subst hc hdt
  have rd:∀ (m:Nat) (hm:m < its.toArray.size),∃ hm':m < ds.length,SeqAt.readOf s.heap its.toArray[m] = ds[m]:=fun m hm => by
    obtain ⟨a,b,c⟩:=EV r1 m (by simpa using hm)
    exact ⟨a,by simpa using SeqAt.readOf_eq (SeqAt.canLay_of_shaped (s1 _ (List.getElem_mem a))) c⟩
  have hjs:j < its.toArray.size:=by simp; omega
  refine call_meets F.slot_list_index ⟨_,ho,rfl⟩ F.entry_list_index (F.args_list_index_2 (.ref l) u) (SeqAt.list_indexAt l its.toArray n dd sl u (fun z => (SeqAt.readOf s.heap z).eqv d) j hjs (by omega) ?_ ?_) ⟨ho,?_,⟨.int _,H,I.tok _,⟨_,rfl⟩,q⟩⟩
  · show (SeqAt.readOf s.heap its.toArray[j]).eqv d=true
    obtain ⟨a,b⟩:=rd j hjs
    rw [b]; exact hy
  · intro m hm hmj
    show (SeqAt.readOf s.heap its.toArray[m]).eqv d=false
    obtain ⟨a,b⟩:=rd m hm
    rw [b]; exact hn m a hmj
  · intro z hz
    obtain ⟨m,hm,rfl⟩:=Array.mem_iff_getElem.mp hz
    obtain ⟨a,b⟩:=rd m hm
    rw [b]
    obtain ⟨a',c,e⟩:=EV r1 m (by simpa using hm)
    have e':Reads s.heap its.toArray[m] ds[m] c:=by simpa using e
    refine SeqAt.eqAt_reads _ _ _ _ _ _ _ _ e' r2 (SeqAt.canLay_of_shaped (s1 _ (List.getElem_mem a))) (SeqAt.canLay_of_shaped s2) ?_
    show X.A.units + 1 + min _ _ < cLine
    omega
end
end L2
set_option Elab.async false
set_option linter.all false
set_option maxRecDepth 100000
set_option maxHeartbeats 4000000
namespace L2
open PySem PySem.Spec PyProof.Rows
section
variable {X:Cx}
seal PySem.Meets in
end
end L2
set_option maxHeartbeats 4000000
namespace Toy
open PySem L2
seal PySem.wpAny
def CW (i:Nat):Stmt:=PySem.Challenge.pw_chartfold_k15_whole_flat_machine.main.body.getD i (.Pass ⟨0,0,0,0⟩)
abbrev JO:Stmt:=KO (CW 20) 0
abbrev B2:Stmt:=CW 21
abbrev BK:Stmt:=CW 22
abbrev Cb:Stmt:=CW 23
abbrev BL:Stmt:=CW 24
abbrev B3:Stmt:=CW 25
abbrev G3:Stmt:=CW 26
abbrev BA:Stmt:=CW 27
abbrev BR:Stmt:=CW 28
abbrev ER:Stmt:=CW 29
abbrev Em:Stmt:=CW 30
abbrev C5:Stmt:=CW 32
abbrev Cw:Stmt:=CW 33
abbrev Dx:Stmt:=CW 34
abbrev Cl:Stmt:=CW 35
abbrev CM:Stmt:=CW 36
abbrev Ce:Stmt:=CW 37
abbrev BJ:Stmt:=CW 38
abbrev DO:Stmt:=CW 39
abbrev G5:Stmt:=CW 40
abbrev C6:Stmt:=CW 41
abbrev Cy:Stmt:=CW 42
abbrev Dz:Stmt:=CW 43
abbrev CK:Stmt:=CW 44
abbrev En:Stmt:=CW 45
abbrev B1:Stmt:=CW 46
abbrev EO:Stmt:=CW 47
abbrev ET:Stmt:=CW 58
abbrev EQ:Stmt:=CW 59
abbrev Dd:Stmt:=CW 60
abbrev CY:Stmt:=CW 61
abbrev Cq:Stmt:=CW 62
abbrev Er:Stmt:=CW 63
abbrev DE:Stmt:=CW 64
abbrev ES:Stmt:=CW 65
abbrev El:Stmt:=CW 66
abbrev DV:Stmt:=CW 67
abbrev G4:Stmt:=CW 68
abbrev G7:Stmt:=CW 69
abbrev Dy:Stmt:=CW 70
abbrev Jp:Stmt:=CW 73
abbrev G2:Stmt:=CW 74
abbrev Cf:Stmt:=CW 77
abbrev Eo:Stmt:=CW 78
abbrev Fz:Stmt:=KO (CW 4) 0
abbrev Fy:Stmt:=KO (CW 52) 0
abbrev DP:Stmt:=CW 53
abbrev G6:Stmt:=CW 54
abbrev CL:Stmt:=CW 71
abbrev FV:Stmt:=CW 72
abbrev EN:Stmt:=CW 76
abbrev G8:Stmt:=CW 55
abbrev Ep:Stmt:=CW 56
abbrev Cv:Stmt:=CW 75
theorem Ag {H:Hp} {p:Addr} (h:H p=none) (o:HO):Ao H (upd H p o):=fun b u q => by rw [Ak (Al q h)]; exact q
theorem AR {H H1:Hp} {p:Addr} (h:Ao H H1) (hp:H p=none) (o:HO):Ao H (upd H1 p o):=fun b u q => by rw [Ak (Al q hp)]; exact h b u q
theorem Fo {n:Nat} (h:n≤1000):n≤sizeLine:=Nat.le_of_lt (Av h)
def AK (H:Hp) (ps:List Addr) (os:List (List V)):Prop:=ps.length=os.length∧∀ (i:Nat) p o,ps[i]? = some p→os[i]? = some o→H p=some (.tup o)
theorem AK.same {H H':Hp} {ps:List Addr} {os:List (List V)} (s:Ao H H') (h:AK H ps os):AK H' ps os:=⟨h.1,fun i p o a b => s _ _ (h.2 i p o a b)⟩
theorem AK.at {H:Hp} {ps:List Addr} {os:List (List V)} (h:AK H ps os) {i:Nat} {o:List V} (e:os[i]? = some o):∃ p,(ps.map V.ref)[i]? = some (.ref p)∧H p=some (.tup o):=by
  obtain ⟨hi,_⟩:=List.getElem?_eq_some_iff.mp e
  have hi':i < ps.length:=by rw [h.1]; exact hi
  refine ⟨ps[i],by rw [List.getElem?_map,List.getElem?_eq_getElem hi']; rfl,h.2 i _ o (List.getElem?_eq_getElem hi') e⟩
theorem AK.snoc {H:Hp} {ps:List Addr} {os:List (List V)} {p:Addr} {o:List V} (h:AK H ps os) (hp:H p=some (.tup o)):AK H (ps ++ [p]) (os ++ [o]):=by
  refine ⟨by simp [h.1],fun i q u a b => ?_⟩
  by_cases hi:i < ps.length
  · rw [List.getElem?_append_left hi] at a
    rw [List.getElem?_append_left (by rw [← h.1]; exact hi)] at b
    exact h.2 i q u a b
  · have hl:=h.1
    rw [List.getElem?_append_right (by omega)] at a
    rw [List.getElem?_append_right (by omega)] at b
    have e1:i - ps.length=0:=by
      cases z:i - ps.length with
      | zero => rfl
      | succ n => rw [z] at a; simp at a
    have e2:i - os.length=0:=by omega
    rw [e1] at a
    rw [e2] at b
    simp at a b
    subst a b
    exact hp
abbrev Ai:=Int×Str
abbrev Aq:=Int×Int×Int×Int×Int
def rV (r:Ai):List V:=[.int r.1,.str r.2]
def aV (a:Aq):List V:=[.int a.1,.int a.2.1,.int a.2.2.1,.int a.2.2.2.1,.int a.2.2.2.2]
def Af (R:List Ai):List Int:=R.map (·.1)
theorem Ay (R:List Ai):(Af R).length=R.length:=by simp [Af]
theorem Cp {R:List Ai} {i:Nat} {r:Ai} (h:R[i]? = some r):Rm.hold (Af R) i=r.1:=by
  unfold Rm.hold Af
  rw [List.getD_eq_getElem?_getD,List.getElem?_map,h]; rfl
theorem kr:¬ (("rooms" : Str) = "arrows"):=by decide +kernel
def NR (l m:Addr):List (Str×V):=Bm "arrows" (.ref m) (Bm "rooms" (.ref l) [])
theorem Bc (l m:Addr):(NR l m).lookup ("rooms" : Str)=some (.ref l):=by
  unfold NR
  rw [A3,if_neg kr,A3,if_pos rfl]
theorem Bz (l m:Addr):(NR l m).lookup ("arrows" : Str)=some (.ref m):=by
  unfold NR
  rw [A3,if_pos rfl]
structure A7 (C:Addr) (H:Hp) (c:Addr) (R:List Ai) (A:List Aq):Prop where
  ob:∃ dx l m ps qs,H c=some (.ins C dx (NR l m))∧H l=some (.lst (ps.map V.ref))∧AK H ps (R.map rV)∧H m=some (.lst (qs.map V.ref))∧AK H qs (A.map aV)
  rl:R.length≤100
  al:A.length≤100
theorem A7.same {C:Addr} {H H':Hp} {c:Addr} {R:List Ai} {A:List Aq} (s:Ao H H') (h:A7 C H c R A):A7 C H' c R A:=by
  obtain ⟨dx,l,m,ps,qs,h1,h2,h3,h4,h5⟩:=h.ob
  exact ⟨⟨dx,l,m,ps,qs,s _ _ h1,s _ _ h2,h3.same s,s _ _ h4,h5.same s⟩,h.rl,h.al⟩
structure AY (R:List Ai):Prop where
  tree:Rm.Tree (Af R)
  most:R.length≤16
  kind:∀ (i:Nat) r,R[i]? = some r→(r.2 = "plain"∨r.2 = "one"∨r.2 = "all"∨r.2 = "keep")∧(r.2 = "plain" ↔ Rm.kids (Af R) i=[])
structure Am (K:PySem.W.Frag) (mg:Str→Option Value) (x:Str) (st:Stmt) (ps:List Str) (f:Addr) (fd:FuncData):Prop where
  fn:Nk K x x st f fd
  bd:C8 K fd ps []
  mg:mg x=some (.ref f)
structure Dn (K:PySem.W.Frag) (mg:Str→Option Value) (C:Addr):Prop where
  cl:Cls K C
  nR:DL K C "rooms"
  nA:DL K C "arrows"
  mgC:mg "Chart" = some (.ref C)
  len:mg "len" = none
  range:mg "range" = none
  list:mg "list" = none
  inst:mg "isinstance" = none
  tbool:mg "bool" = none
  tint:mg "int" = none
  tup:mg "tuple" = none
  srt:mg "sorted" = none
  enum:mg "enumerate" = none
  hold:∃ t,mg "HOLDER" = some (.int 0 t)
  kind:∃ t,mg "KIND" = some (.int 1 t)
  nil:∃ t,mg "NONE" = some (.int (-1) t)
  src:∃ t,mg "SOURCE" = some (.int 0 t)
  evt:∃ t,mg "EVENT" = some (.int 1 t)
  grd:∃ t,mg "GUARD" = some (.int 2 t)
  tgt:∃ t,mg "TARGET" = some (.int 3 t)
  ded:∃ t,mg "DEED" = some (.int 4 t)
  lastE:∃ t,mg "LAST_EVENT" = some (.int 3 t)
  lastD:∃ t,mg "LAST_DEED" = some (.int 99 t)
  mostR:∃ t,mg "MOST_ROOMS" = some (.int 16 t)
  mostA:∃ t,mg "MOST_ARROWS" = some (.int 20 t)
  choosing:∃ a,mg "CHOOSING" = some (.ref a)∧∀ H,A2 K H a [.str "one",.str "keep"]
  kinds:∃ a,mg "KINDS" = some (.ref a)∧∀ H,A2 K H a [.str "plain",.str "one",.str "all",.str "keep"]
  ll:PySem.W.kitOne K (.type "list") (.type "list")=some true
  bb:PySem.W.kitOne K (.type "bool") (.type "bool")=some true
  ii:PySem.W.kitOne K (.type "int") (.type "int")=some true
  ib:PySem.W.kitOne K (.type "int") (.type "bool")=some false
  pp:PySem.W.kitOne K (.type "tuple") (.type "tuple")=some true
theorem AO {X:Cx} {x:Str} {i:Int} {pos:Pos} (h:∃ t,X.mg x=some (.int i t)) (hg:Gl X x) (hd:(x == ("__debug__" : Str))=false:=by decide):PE X (.Name x pos) (tC (.int i)):=by
  obtain ⟨t,h⟩:=h
  exact HI hg h ⟨t,rfl⟩ hd
section
variable {P:Program} {w:World} {K:PySem.W.Frag} {mg:Str→Option Value} {base:Heap}
def Eg (C:Addr):Sp:=fun vs H Q _ => ∃ (c:Addr) (R:List Ai) (A:List Aq) (k:Int),vs=[.ref c,.int k]∧A7 C H c R A ∧
  ∀ (l:Addr) (H':Hp),H l=Option.none→Ao H H'→H' l=some (.lst ((Rm.kids (Af R) k).map V.int))→Q (.ref l) H'
theorem Mb:AA ["chart", "room"] ["chart", "room"] (Ae BA):=⟨rfl,rfl,rfl,by decide +kernel,rfl,by decide +kernel,by decide +kernel⟩
theorem EZ {f C:Addr} {fd:FuncData} (D:Am K mg "children" BA ["chart", "room"] f fd) (T:Dn K mg C):AD P w K mg base A9 1 f fd ["chart", "room"] (Eg C):=by
  refine D.fn.ok Mb (fun vs H Q E h => ?_) (fun cdv A outer s H vs Q E hr h => ?_)
  · obtain ⟨c,R,As,k,rfl,_⟩:=h
    rfl
  obtain ⟨c,R,As,k,rfl,hC,q⟩:=h
  refine ⟨_,Aj (AM (Cg ["inner", "chart", "room"] [Option.none,some 0,some 1] rfl
    (AZ rfl T.range (Aa (AG At (by rfl) T.len PySem.boot_len (Aa (Bn (pv 0) rfl) Ab)) Ab))
    (fun _ => AI (i := 0) (show (["inner", "chart", "room"]:List Str).Nodup by decide +kernel) rfl (Or.inl rfl))
    (fun _ => Es (AB Cz (An Aw (An Au (Bn (pv 1) rfl) (pv 0) (fun _ _ => rfl)) (AO T.hold rfl) (fun _ _ => rfl)) (pv 2) (AT _)))
    (fun _ => pv 0) (N:=["chart", "room"]) (ks:=(Ae BA).names) rfl rfl (by decide +kernel) (by decide +kernel) (by decide +kernel) (by decide +kernel))),?_⟩
  obtain ⟨dx,l,m,ps,qs,h1,h2,h3,h4,h5⟩:=hC.ob
  have hl:(ps.map V.ref).length=R.length:=by rw [List.length_map,h3.1,List.length_map]
  have hrl:=hC.rl
  refine ⟨_,rfl,c,C,dx,_,_,rfl,h1,T.cl,T.nR,Bc l m,l,_,rfl,.inl (AE.of h2),_,rfl,by rw [hl]; omega,by rw [hl]; omega,fun bk D hD => ?_⟩
  rw [hl]
  refine EB (Pv:=fun i ys σ H' => ∃ v,σ = [v,some (.ref c),some (.int k)]∧ys=(((List.range i).filter fun j => decide (Rm.hold (Af R) j=k)).map fun (j:Nat) => V.int (j:Int))∧Ao H H') ⟨_,rfl,rfl,Ag hD _⟩ ?_ ?_
  · rintro i ys σ H1 hi hDi ⟨v,rfl,hys,(s1:Ao _ _)⟩
    have hi':i < R.length:=by simpa using hi
    have er:(R.map rV)[i]? = some (rV R[i]):=by rw [List.getElem?_map,List.getElem?_eq_getElem hi']; rfl
    obtain ⟨p,hp,hp2⟩:=h3.at er
    have ei:(0:Int) + (i:Int)=(i:Int):=by omega
    refine ⟨_,rfl,c,C,dx,_,_,rfl,s1 _ _ h1,T.cl,T.nR,Bc l m,_,rfl,l,_,_,_,rfl,rfl,AE.of (s1 _ _ h2),by rw [ei]; exact BN hp,p,_,_,_,rfl,rfl,A2.of (s1 _ _ hp2),rfl,_,rfl,rfl,_,rfl,?_⟩
    have eh:Rm.hold (Af R) i=R[i].1:=Cp (List.getElem?_eq_getElem hi')
    refine GS (fun z => ?_) (fun z => ?_)
    · have z':R[i].1=k:=by simpa using z
      refine ⟨_,rfl,hDi,?_,⟨_,rfl,?_,AR s1 hD _⟩⟩
      · rw [hys,List.length_map]
        have:=List.length_filter_le (fun j => decide (Rm.hold (Af R) j=k)) (List.range i)
        rw [List.length_range] at this
        exact Av (by omega)
      · rw [Rm.range_filter_succ,if_pos (by rw [eh]; exact decide_eq_true z'),List.map_append,← hys,ei]; rfl
    · have z':¬ R[i].1=k:=by simpa using z
      refine ⟨hDi,⟨_,rfl,?_,s1⟩⟩
      rw [Rm.range_filter_succ,if_neg (by rw [eh]; simpa using z'),List.append_nil]; exact hys
  · rintro ys σ H1 hDn ⟨v,rfl,hys,(s1:Ao _ _)⟩
    refine q D H1 hD s1 ?_
    rw [hDn,hys]
    unfold Rm.kids
    rw [List.map_map,Ay]
    have e:((R.length:Int)).toNat=R.length:=by omega
    rw [e]; rfl
def EJ (C:Addr):Sp:=fun vs H Q _ => ∃ (c:Addr) (R:List Ai) (A:List Aq) (i j:Nat),vs=[.ref c,.int i,.int j]∧A7 C H c R A∧Rm.Tree (Af R)∧i < R.length ∧
  Q (.bl (Rm.wi (Af R) i j)) H
theorem Ib:AA ["chart", "room", "other", "place"] ["chart", "room", "other"] (Ae BR):=⟨rfl,rfl,rfl,by decide +kernel,rfl,by decide +kernel,by decide +kernel⟩
theorem Fi {f C:Addr} {fd:FuncData} (D:Am K mg "within" BR ["chart", "room", "other"] f fd) (T:Dn K mg C):AD P w K mg base A9 1 f fd ["chart", "room", "other"] (EJ C):=by
  refine D.fn.ok Ib (fun vs H Q E h => ?_) (fun cdv A outer s H vs Q E hr h => ?_)
  · obtain ⟨c,R,As,i,j,rfl,_⟩:=h
    rfl
  obtain ⟨c,R,As,i,j,rfl,hC,hT,hi,q⟩:=h
  refine ⟨_,Ad (Ar (i := 3) Ib.nd rfl (Or.inl rfl) (pv 1))
    (Ad (EX PassesOwn.never (AB Lq (pv 3) (pv 2) (AT _))
      (Aj (Ar (i := 3) Ib.nd rfl (Or.inl rfl) (An Aw (An Au (Bn (pv 0) rfl) (pv 3) (fun _ _ => rfl)) (AO T.hold rfl) (fun _ _ => rfl)))))
    (Aj (AM (DR Cz (pv 3) (pv 2) (AT _))))),?_⟩
  obtain ⟨dx,l,m,ps,qs,h1,h2,h3,h4,h5⟩:=hC.ob
  refine ⟨_,rfl,fun n σ H1 => ∃ p:Nat,σ = [some (.ref c),some (.int i),some (.int j),some (.int p)]∧H1=H∧p < R.length∧n=p∧Rm.wi (Af R) i j=Rm.wi (Af R) p j,⟨i,i,rfl,rfl,hi,rfl,rfl⟩,?_⟩
  rintro n σ H1 ⟨p,rfl,rfl,hp,rfl,ew⟩
  refine ⟨_,rfl,_,rfl,_,_,rfl,rfl,_,rfl,?_⟩
  refine GS (fun z => ?_) (fun z => ?_)
  · have z':(j:Int) < (n:Int):=by simpa using z
    have er:(R.map rV)[n]? = some (rV R[n]):=by rw [List.getElem?_map,List.getElem?_eq_getElem hp]; rfl
    obtain ⟨a,ha,ha2⟩:=h3.at er
    have eh:Rm.hold (Af R) n=R[n].1:=Cp (List.getElem?_eq_getElem hp)
    have hu:=hT.up n (by omega) (by rw [Ay]; exact hp)
    rw [eh] at hu
    refine ⟨fun σ' H' => ∃ p':Nat,p' < n∧σ'=[some (.ref c),some (.int i),some (.int j),some (.int p')]∧H'=H1∧Rm.wi (Af R) i j=Rm.wi (Af R) p' j,?_,?_⟩
    · rintro σ' H' ⟨p',hlt,rfl,rfl,e'⟩
      exact ⟨p',hlt,p',rfl,rfl,by omega,rfl,e'⟩
    · refine ⟨_,rfl,c,C,dx,_,_,rfl,h1,T.cl,T.nR,Bc l m,_,rfl,l,_,_,_,rfl,rfl,AE.of h2,BN ha,a,_,_,_,rfl,rfl,A2.of ha2,rfl,?_⟩
      refine ⟨R[n].1.toNat,by omega,?_,rfl,?_⟩
      · show [some (V.ref c),some (V.int i),some (V.int j),some (V.int R[n].1)] = _
        have e3:((R[n].1.toNat:Nat):Int)=R[n].1:=by omega
        rw [e3]
      · rw [ew,Rm.wi_step (by rw [eh]; exact hu) (by omega),eh]
  · have z':¬ (j:Int) < (n:Int):=by simpa using z
    refine ⟨_,rfl,_,rfl,rfl,?_⟩
    rw [ew,Rm.wi_end (by omega)] at q
    have e:(decide (V.int (n:Int)=V.int (j:Int)))=decide (n=j):=decide_eq_decide.mpr ⟨fun y => by injection y with y; omega,fun y => by rw [y]⟩
    rw [e]
    exact q
end
end Toy
namespace Toy
open PySem L2
seal PySem.wpAny
section
variable {P:Program} {w:World} {K:PySem.W.Frag} {mg:Str→Option Value} {base:Heap}
theorem BG {H:Hp} {ps:List Addr} {R:List Ai} (h3:AK H ps (R.map rV)) {i:Nat} (hi:i < R.length):∃ p,Jl (ps.map V.ref) (i:Int)=some (.ref p)∧H p=some (.tup (rV R[i])):=by
  have er:(R.map rV)[i]? = some (rV R[i]):=by rw [List.getElem?_map,List.getElem?_eq_getElem hi]; rfl
  obtain ⟨p,hp,hp2⟩:=h3.at er
  exact ⟨p,BN hp,hp2⟩
def FO (C:Addr):Sp:=fun vs H Q _ => ∃ (c:Addr) (R:List Ai) (A:List Aq) (i:Nat),vs=[.ref c,.int i]∧A7 C H c R A∧AY R∧i < R.length∧∀ H',Ao H H'→Q .non H'
theorem Fp:AA ["chart", "room", "holder"] ["chart", "room"] (Ae BK):=⟨rfl,rfl,rfl,by decide +kernel,rfl,by decide +kernel,by decide +kernel⟩
theorem Hl {f C:Addr} {fd:FuncData} (D:Am K mg "check_holder" BK ["chart", "room"] f fd) (T:Dn K mg C):AD P w K mg base A9 1 f fd ["chart", "room"] (FO C):=by
  refine D.fn.ok Fp (fun vs H Q E h => ?_) (fun cdv A outer s H vs Q E hr h => ?_)
  · obtain ⟨c,R,As,i,rfl,_⟩:=h
    rfl
  obtain ⟨c,R,As,i,rfl,hC,hG,hi,q⟩:=h
  refine ⟨_,Ad (Ar (i := 2) Fp.nd rfl (Or.inl rfl) (An Aw (An Au (Bn (pv 0) rfl) (pv 1) (fun _ _ => rfl)) (AO T.hold rfl) (fun _ _ => rfl)))
    (Ad (A0 (AB Cz (pv 1) Ah (AT _))
      (Ad (A0 (AB EG (pv 2) (AO T.nil rfl) (AT _)) Bh AJ) (Aj P8)) AJ)
    (Aj (A0 (Di (FX JV Lp Ah (pv 2) (pv 1))) Bh AJ))),?_⟩
  obtain ⟨dx,l,m,ps,qs,h1,h2,h3,h4,h5⟩:=hC.ob
  obtain ⟨p,hp,hp2⟩:=BG h3 hi
  have eh:Rm.hold (Af R) i=R[i].1:=Cp (List.getElem?_eq_getElem hi)
  refine ⟨_,rfl,c,C,dx,_,_,rfl,h1,T.cl,T.nR,Bc l m,_,rfl,l,_,_,_,rfl,rfl,AE.of h2,hp,p,_,_,_,rfl,rfl,A2.of hp2,rfl,?_⟩
  refine ⟨_,rfl,rfl,_,rfl,?_⟩
  refine GS (fun z => ?_) (fun z => ?_)
  · have z':i=0:=by
      have:(i:Int)=0:=by simpa using z
      omega
    have e0:R[i].1 = -1:=by rw [← eh,z']; exact hG.tree.root
    refine ⟨_,rfl,rfl,_,rfl,?_⟩
    refine Gj (show V.int R[i].1=V.int (-1) by rw [e0]) ?_
    exact q H (Ao.refl H)
  · have z':¬ i=0:=fun y => z (by rw [y]; rfl)
    have hu:=hG.tree.up i (by omega) (by rw [Ay]; exact hi)
    rw [eh] at hu
    refine ⟨_,rfl,_,_,rfl,rfl,_,rfl,?_⟩
    rw [decide_eq_true hu.1]
    refine Bi ?_
    refine ⟨_,rfl,_,_,rfl,rfl,_,rfl,?_⟩
    rw [decide_eq_true hu.2]
    refine A1 ?_
    exact q H (Ao.refl H)
theorem EL:AA ["chart", "room", "kind", "inner"] ["chart", "room"] (Ae Cb):=⟨rfl,rfl,rfl,by decide +kernel,rfl,by decide +kernel,by decide +kernel⟩
theorem O1 {x:Str} (h:x = "plain"∨x = "one"∨x = "all"∨x = "keep"):Hc (.str x) [.str "plain",.str "one",.str "all",.str "keep"] = true:=by
  rcases h with h | h | h | h <;> (subst h; decide +kernel)
theorem Jr {f C fc:Addr} {fd fdc:FuncData} (D:Am K mg "check_kind" Cb ["chart", "room"] f fd) (T:Dn K mg C) (Dc:Am K mg "children" BA ["chart", "room"] fc fdc):AD P w K mg base A9 2 f fd ["chart", "room"] (FO C):=by
  have Gc:AD P w K mg base A9 1 fc fdc ["chart", "room"] (Eg C):=EZ Dc T
  refine D.fn.ok EL (fun vs H Q E h => ?_) (fun cdv A outer s H vs Q E hr h => ?_)
  · obtain ⟨c,R,As,i,rfl,_⟩:=h
    rfl
  obtain ⟨c,R,As,i,rfl,hC,hG,hi,q⟩:=h
  obtain ⟨aK,hK,sK⟩:=T.kinds
  refine ⟨_,Ad (Ar (i := 2) EL.nd rfl (Or.inl rfl) (An Aw (An Au (Bn (pv 0) rfl) (pv 1) (fun _ _ => rfl)) (AO T.kind rfl) (fun _ _ => rfl)))
    (Ad (A0 (AB Ew (pv 2) (HI rfl hK (v:=.ref aK) rfl) (by with_unfolding_all rfl)) Bh AJ)
    (Ad (Ar (i := 3) EL.nd rfl (Or.inl rfl) (Ap Gc hr rfl Dc.mg Dc.fn.kp Dc.bd .nil AF (Aa (pv 0) (Aa (pv 1) Ab))))
    (Ad (A0 (PW.pt (DF (AB Cz (pv 2) Be (AT _)) (CZ (AB Lq (AG At (by rfl) T.len PySem.boot_len (Aa (pv 3) Ab)) Ah (AT _))))) Bh AJ)
    (Aj (A0 (PW.pt (DF (AB EG (pv 2) Be (AT _)) (CZ (AB Cz (AG At (by rfl) T.len PySem.boot_len (Aa (pv 3) Ab)) Ah (AT _))))) Bh AJ))))),?_⟩
  obtain ⟨dx,l,m,ps,qs,h1,h2,h3,h4,h5⟩:=hC.ob
  obtain ⟨p,hp,hp2⟩:=BG h3 hi
  obtain ⟨hk1,hk2⟩:=hG.kind i R[i] (List.getElem?_eq_getElem hi)
  refine ⟨_,rfl,c,C,dx,_,_,rfl,h1,T.cl,T.nR,Bc l m,_,rfl,l,_,_,_,rfl,rfl,AE.of h2,hp,p,_,_,_,rfl,rfl,A2.of hp2,rfl,?_⟩
  refine ⟨_,rfl,aK,_,rfl,.inr (sK _),rfl,by decide +kernel,_,rfl,?_⟩
  rw [if_pos rfl,O1 hk1]
  refine A1 ?_
  refine ⟨_,rfl,_,rfl,c,R,As,i,rfl,hC,fun d H1 hd s1 e1 => ?_⟩
  have el:∀ b:Bool,(if b=true then False else True)→b=false:=fun b h => by cases b <;> simp_all
  refine ⟨_,rfl,rfl,_,rfl,?_⟩
  by_cases hpl:R[i].2 = "plain"
  · have e0:Rm.kids (Af R) i=[]:=hk2.mp hpl
    rw [decide_eq_true (show V.str R[i].2=V.str "plain" by rw [hpl])]
    refine Bi ?_
    refine ⟨_,rfl,d,_,rfl,.inl (AE.of e1),_,_,rfl,rfl,_,rfl,?_⟩
    rw [e0]
    refine A1 ?_
    refine ⟨_,rfl,rfl,_,rfl,?_⟩
    rw [decide_eq_true (show V.str R[i].2=V.str "plain" by rw [hpl])]
    refine A1 ?_
    refine A1 ?_
    exact q H1 s1
  · have e0:Rm.kids (Af R) i≠[]:=fun z => hpl (hk2.mpr z)
    have ne:¬ V.str R[i].2=V.str "plain" := fun z => hpl (by injection z)
    rw [decide_eq_false ne]
    refine A1 ?_
    refine A1 ?_
    refine ⟨_,rfl,rfl,_,rfl,?_⟩
    rw [decide_eq_false ne]
    refine Bi ?_
    refine ⟨_,rfl,d,_,rfl,.inl (AE.of e1),rfl,_,rfl,?_⟩
    have nz:¬ V.int (((Rm.kids (Af R) i).map V.int).length:Int)=V.int 0:=fun z => by
      injection z with z
      rw [List.length_map] at z
      exact e0 (List.length_eq_zero_iff.mp (by omega))
    rw [decide_eq_false nz]
    refine A1 ?_
    exact q H1 s1
def FM (C:Addr):Sp:=fun vs H Q _ => ∃ (c:Addr) (R:List Ai) (A:List Aq),vs=[.ref c]∧A7 C H c R A∧AY R∧∀ H',Ao H H'→Q .non H'
theorem FU:AA ["chart", "room"] ["chart"] (Ae B2):=⟨rfl,rfl,rfl,by decide +kernel,rfl,by decide +kernel,by decide +kernel⟩
theorem IC {f C fc fh fk:Addr} {fd fdc fdh fdk:FuncData} (D:Am K mg "check_rooms" B2 ["chart"] f fd) (T:Dn K mg C) (Dc:Am K mg "children" BA ["chart", "room"] fc fdc)
    (Dh:Am K mg "check_holder" BK ["chart", "room"] fh fdh) (Dk:Am K mg "check_kind" Cb ["chart", "room"] fk fdk):AD P w K mg base A9 3 f fd ["chart"] (FM C):=by
  have Gh:AD P w K mg base A9 1 fh fdh ["chart", "room"] (FO C):=Hl Dh T
  have Gk:AD P w K mg base A9 2 fk fdk ["chart", "room"] (FO C):=Jr Dk T Dc
  refine D.fn.ok FU (fun vs H Q E h => ?_) (fun cdv A outer s H vs Q E hr h => ?_)
  · obtain ⟨c,R,As,rfl,_⟩:=h
    rfl
  obtain ⟨c,R,As,rfl,hC,hG,q⟩:=h
  refine ⟨_,Ad (A0 (Di (FX JV JV Ah (AG At (by rfl) T.len PySem.boot_len (Aa (Bn (pv 0) rfl) Ab)) (AO T.mostR rfl))) Bh AJ)
    (Aj (Bj PassesOwn.never rfl (AZ rfl T.range (Aa (AG At (by rfl) T.len PySem.boot_len (Aa (Bn (pv 0) rfl) Ab)) Ab)) (AI (i := 1) FU.nd rfl (Or.inl rfl))
      (Ad (AS (Ap Gh (hr.mono (by decide)) rfl Dh.mg Dh.fn.kp Dh.bd .nil AF (Aa (pv 0) (Aa (pv 1) Ab))))
      (Aj (AS (Ap Gk hr rfl Dk.mg Dk.fn.kp Dk.bd .nil AF (Aa (pv 0) (Aa (pv 1) Ab)))))))),?_⟩
  obtain ⟨dx,l,m,ps,qs,h1,h2,h3,h4,h5⟩:=hC.ob
  have hl:(ps.map V.ref).length=R.length:=by rw [List.length_map,h3.1,List.length_map]
  have hm:=hG.most
  have h0:=hG.tree.pos
  rw [Ay] at h0
  refine ⟨_,rfl,c,C,dx,_,_,rfl,h1,T.cl,T.nR,Bc l m,l,_,rfl,.inl (AE.of h2),_,_,rfl,rfl,_,rfl,?_⟩
  rw [hl,decide_eq_true (show (1:Int)≤(R.length:Int) by omega)]
  refine Bi ?_
  refine ⟨_,_,rfl,rfl,_,rfl,?_⟩
  rw [decide_eq_true (show (R.length:Int)≤(16:Int) by omega)]
  refine A1 ?_
  refine ⟨_,rfl,c,C,dx,_,_,rfl,h1,T.cl,T.nR,Bc l m,l,_,rfl,.inl (AE.of h2),_,rfl,by rw [hl]; omega,by rw [hl]; omega,?_⟩
  rw [hl]
  refine Br (fun i σ H1 => ∃ v,σ = [some (.ref c),v]∧Ao H H1) ⟨_,rfl,Ao.refl H⟩ ?_ ?_
  · rintro i σ H1 hi ⟨v,rfl,(s1:Ao _ _)⟩
    have hi':i < R.length:=by omega
    have ei:(0:Int) + (i:Int)=(i:Int):=by omega
    rw [ei]
    refine ⟨_,rfl,_,rfl,c,R,As,i,rfl,hC.same s1,hG,hi',fun H2 s2 => ?_⟩
    refine ⟨_,rfl,_,rfl,c,R,As,i,rfl,hC.same (s1.trans s2),hG,hi',fun H3 s3 => ?_⟩
    exact ⟨_,rfl,s1.trans (s2.trans s3)⟩
  · rintro σ H1 ⟨v,rfl,(s1:Ao _ _)⟩
    exact q H1 s1
end
end Toy
namespace Toy
open PySem L2
seal PySem.wpAny
section
variable {P:Program} {w:World} {K:PySem.W.Frag} {mg:Str→Option Value} {base:Heap}
def G9 (i:Int):Str:=(["one", "all", "keep", "one"]:List Str).getD i.toNat "one"
def lk (ns:List Int) (m k:Nat):Str:=if (k:Int)∈Rm.holders ns m then G9 (Rm.cell ns k / 16 % 4) else "plain"
def CO (ns:List Int) (m:Nat):List Ai:=(List.range m).map fun k => (Rm.lh ns k,lk ns m k)
theorem Ez (ns:List Int) (m:Nat):(CO ns m).length=m:=by simp [CO]
theorem Ha (ns:List Int) (m:Nat):Af (CO ns m)=Rm.holders ns m:=by
  unfold Af CO Rm.holders
  rw [List.map_map]; rfl
theorem KL {ns:List Int} {m i:Nat} {r:Ai} (h:(CO ns m)[i]? = some r):i < m∧r=(Rm.lh ns i,lk ns m i):=by
  have hi:i < m:=by
    have:=(List.getElem?_eq_some_iff.mp h).1
    rw [Ez] at this; exact this
  refine ⟨hi,?_⟩
  unfold CO at h
  rw [List.getElem?_map,List.getElem?_range hi] at h
  exact (Option.some.inj h).symm
theorem Ou (i:Int):G9 i = "one"∨G9 i = "all"∨G9 i = "keep" := by
  unfold G9
  rcases Nat.lt_or_ge i.toNat 4 with h | h
  · have:i.toNat=0∨i.toNat=1∨i.toNat=2∨i.toNat=3:=by omega
    rcases this with e | e | e | e <;> rw [e]
    · exact .inl rfl
    · exact .inr (.inl rfl)
    · exact .inr (.inr rfl)
    · exact .inl rfl
  · rw [List.getD_eq_getElem?_getD,List.getElem?_eq_none (by simpa using h)]
    exact .inl rfl
theorem Ju (ns:List Int) {m:Nat} (h0 : 0 < m) (h1:m≤16):AY (CO ns m):=by
  refine ⟨by rw [Ha]; exact Rm.holders_tree ns h0,by rw [Ez]; exact h1,fun i r hr => ?_⟩
  obtain ⟨hi,rfl⟩:=KL hr
  rw [Ha]
  show (lk ns m i = "plain"∨lk ns m i = "one"∨lk ns m i = "all"∨lk ns m i = "keep")∧(lk ns m i = "plain" ↔ _)
  unfold lk
  by_cases hm:(i:Int)∈Rm.holders ns m
  · rw [if_pos hm]
    have hp:=Ou (Rm.cell ns i / 16 % 4)
    refine ⟨.inr hp,fun z => ?_,fun z => absurd z (Rm.mem_holders.mp hm)⟩
    rw [z] at hp
    rcases hp with e | e | e
    · exact absurd e (by decide +kernel)
    · exact absurd e (by decide +kernel)
    · exact absurd e (by decide +kernel)
  · rw [if_neg hm]
    refine ⟨.inl rfl,fun _ => ?_,fun _ => rfl⟩
    exact Classical.byContradiction fun z => hm (Rm.mem_holders.mpr z)
theorem C3 (k:Int) (xs:List Int):Hc (.int k) (xs.map V.int)=decide (k∈xs):=by
  unfold Hc
  induction xs with
  | nil => rfl
  | cons x r ih =>
    rw [List.map_cons,List.any_cons,ih]
    have e:eqV (V.int x) (V.int k)=decide (x=k):=by
      show (x == k)=decide (x=k)
      by_cases h:x=k <;> simp [h]
    rw [e]
    by_cases h:x=k
    · subst h; simp
    · have h':¬ k=x:=fun z => h z.symm
      simp [h,h']
theorem BW (xs:List Int):(xs.map V.int).all Gu=true:=by
  induction xs with
  | nil => rfl
  | cons x r ih => rw [List.map_cons,List.all_cons,ih]; rfl
theorem CP {ns:List Int} {k:Nat} (h:k < ns.length):Jl (ns.map V.int) (k:Int)=some (.int ns[k]):=BN (by rw [List.getElem?_map,List.getElem?_eq_getElem h]; rfl)
def HV (K:PySem.W.Frag):Sp:=fun vs H Q _ => ∃ (a:Addr) (ns:List Int) (k:Nat),vs=[.ref a,.int k]∧AE K H a (ns.map V.int)∧Q (.int (Rm.cell ns k)) H
theorem scCell:AA ["script", "k"] ["script", "k"] (Ae ET):=⟨rfl,rfl,rfl,by decide +kernel,rfl,by decide +kernel,by decide +kernel⟩
theorem HK {f C:Addr} {fd:FuncData} (D:Am K mg "_law_cell_at" ET ["script", "k"] f fd) (T:Dn K mg C):AD P w K mg base A9 1 f fd ["script", "k"] (HV K):=by
  refine D.fn.ok scCell (fun vs H Q E h => ?_) (fun cdv A outer s H vs Q E hr h => ?_)
  · obtain ⟨a,ns,k,rfl,_⟩:=h
    rfl
  obtain ⟨a,ns,k,rfl,hS,q⟩:=h
  refine ⟨_,Ad (A0 (AB Lp (pv 1) (AG At (by rfl) T.len PySem.boot_len (Aa (pv 0) Ab)) (AT _)) (Aj (AM (An Au (pv 0) (pv 1) (fun _ _ => rfl)))) AJ)
    (Aj (AM Ah)),?_⟩
  refine ⟨_,rfl,_,rfl,a,_,rfl,.inl hS,_,_,rfl,rfl,_,rfl,?_⟩
  rw [List.length_map]
  refine GS (fun z => ?_) (fun z => ?_)
  · have z':k < ns.length:=by
      have:(k:Int) < (ns.length:Int):=by simpa using z
      omega
    refine ⟨_,rfl,_,rfl,a,_,_,_,rfl,rfl,hS,CP z',?_⟩
    have e:Rm.cell ns k=ns[k]:=by
      unfold Rm.cell
      rw [List.getD_eq_getElem?_getD,List.getElem?_eq_getElem z']; rfl
    rw [e] at q
    exact q
  · have z':¬ k < ns.length:=fun y => z (by simpa using y)
    have e:Rm.cell ns k=0:=by
      unfold Rm.cell
      rw [List.getD_eq_getElem?_getD,List.getElem?_eq_none (by omega)]; rfl
    rw [e] at q
    exact q
def MG (K:PySem.W.Frag):Sp:=fun vs H Q _ => ∃ (a:Addr) (ns:List Int) (m:Nat),vs=[.ref a,.int m]∧AE K H a (ns.map V.int)∧0 < m∧m≤16 ∧
  ∀ (r:Addr) (ps:List Addr) (H':Hp),H r=Option.none→Ao H H'→H' r=some (.lst (ps.map V.ref))→AK H' ps ((CO ns m).map rV)→Q (.ref r) H'
theorem Ei:AA ["script", "many", "holders", "k", "rooms", "kind"] ["script", "many"] (Ae EQ):=⟨rfl,rfl,rfl,by decide +kernel,rfl,by decide +kernel,by decide +kernel⟩
theorem OF {f C fc:Addr} {fd fdc:FuncData} (D:Am K mg "_law_rooms" EQ ["script", "many"] f fd) (T:Dn K mg C) (Dc:Am K mg "_law_cell_at" ET ["script", "k"] fc fdc):AD P w K mg base A9 2 f fd ["script", "many"] (MG K):=by
  have Gc:AD P w K mg base A9 1 fc fdc ["script", "k"] (HV K):=HK Dc T
  refine D.fn.ok Ei (fun vs H Q E h => ?_) (fun cdv A outer s H vs Q E hr h => ?_)
  · obtain ⟨a,ns,m,rfl,_⟩:=h
    rfl
  obtain ⟨a,ns,m,rfl,hS,h0,h16,q⟩:=h
  refine ⟨_,Ad (Ar (i := 2) Ei.nd rfl (Or.inl rfl) (Bf (Aa (EF C9 Ah) Ab)))
    (Ad (Bj PassesOwn.never rfl (JS rfl T.range (Aa Ah (Aa (pv 1) Ab))) (AI (i := 3) Ei.nd rfl (Or.inl rfl))
      (Aj (AS (BC PySem.F.plainAttrs_list PySem.F.slot_list_append PySem.F.type_list_append AU (pv 2) (Aa (AH Bp (Ap Gc hr rfl Dc.mg Dc.fn.kp Dc.bd .nil AF (Aa (pv 0) (Aa (pv 3) Ab))) (pv 3)) Ab)))))
    (Ad (Ar (i := 4) Ei.nd rfl (Or.inl rfl) (Bf Ab))
    (Ad (Bj PassesOwn.never rfl (AZ rfl T.range (Aa (pv 1) Ab)) (AI (i := 3) Ei.nd rfl (Or.inl rfl))
      (Ad (Ar (i := 5) Ei.nd rfl (Or.inl rfl) Be)
      (Ad (A0 (AB BB (pv 3) (pv 2) (by with_unfolding_all rfl))
        (Aj (Ar (i := 5) Ei.nd rfl (Or.inl rfl) (An Au (Bf (Aa Be (Aa Be (Aa Be (Aa Be Ab)))))
          (AH Bp (AH BS (Ap Gc hr rfl Dc.mg Dc.fn.kp Dc.bd .nil AF (Aa (pv 0) (Aa (pv 3) Ab))) Ah) Ah) (fun _ _ => rfl)))) AJ)
      (Aj (AS (BC PySem.F.plainAttrs_list PySem.F.slot_list_append PySem.F.type_list_append AU (pv 4) (Aa (AX (Aa (An Au (pv 2) (pv 3) (fun _ _ => rfl)) (Aa (pv 5) Ab))) Ab)))))))
    (Aj (AM (pv 4)))))),?_⟩
  refine ⟨1,rfl,(by show 1≤sizeLine; decide),fun hd hhd => ?_⟩
  refine ⟨_,rfl,1,m,rfl,⟨by decide,by decide,by omega,by omega⟩,?_⟩
  have em:((m:Int) - 1).toNat=m - 1:=by omega
  rw [em]
  refine Br (fun i σ H1 => ∃ v,σ = [some (.ref a),some (.int m),some (.ref hd),v,Option.none,Option.none]∧Ao H H1∧H1 hd=some (.lst ((Rm.holders ns (i + 1)).map V.int))) ⟨_,rfl,Ag hhd _,?_⟩ ?_ ?_
  · rw [Ac]; rfl
  · rintro i σ H1 hi ⟨v,rfl,s1,e1⟩
    have ek:(1:Int) + (i:Int)=((i + 1:Nat):Int):=by omega
    rw [ek]
    refine ⟨_,rfl,.inl ⟨rfl,_,AE.of e1⟩,_,rfl,_,rfl,a,ns,i + 1,rfl,s1.seq hS,_,rfl,_,_,rfl,rfl,by omega,hd,_,_,rfl,rfl,e1,?_,?_⟩
    · rw [List.length_map,Rm.holders_len]; exact Av (by omega)
    · refine ⟨_,rfl,AR s1 hhd _,?_⟩
      rw [Ac,Rm.holders_succ ns (i + 1),List.map_append]
      have:Rm.lh ns (i + 1)=Rm.cell ns (i + 1) % ((i + 1:Nat):Int):=by
        unfold Rm.lh; rw [if_neg (by omega)]
      rw [this]; rfl
  rintro σ H1 ⟨v,rfl,s1,e1⟩
  have em1:m - 1 + 1=m:=by omega
  rw [em1] at e1
  refine ⟨(by show 0≤sizeLine; decide),fun rd hrd => ?_⟩
  refine ⟨_,rfl,m,rfl,by omega,by omega,?_⟩
  have hrd0:H rd=Option.none:=s1.free hrd
  have nhr:hd≠rd:=Al e1 hrd
  have em2:((m:Int)).toNat=m:=by omega
  rw [em2]
  refine Br (fun i σ H2 => ∃ v v' ps,σ = [some (.ref a),some (.int m),some (.ref hd),v,some (.ref rd),v']∧Ao H H2∧H2 hd=some (.lst ((Rm.holders ns m).map V.int))∧H2 rd=some (.lst (ps.map V.ref))∧AK H2 ps (((List.range i).map fun k => ((Rm.lh ns k,lk ns m k):Ai)).map rV))
    ⟨_,_,[],rfl,s1.trans (Ag hrd _),by rw [Ak nhr]; exact e1,Ac,⟨rfl,fun i p o e => by simp at e⟩⟩ ?_ ?_
  · rintro i σ H2 hi ⟨v,v',ps,rfl,s2,e2,e3,hI⟩
    have ek:(0:Int) + (i:Int)=(i:Int):=by omega
    rw [ek]
    have hil:i < (Rm.holders ns m).length:=by rw [Rm.holders_len]; exact hi
    have hg:Jl ((Rm.holders ns m).map V.int) (i:Int)=some (.int (Rm.lh ns i)):=by
      rw [CP hil]
      have:=Rm.hold_get hil
      rw [Rm.holders_hold hi,List.getElem?_eq_getElem hil] at this
      rw [Option.some.inj this]
    have last:∀ (x:Str) (H3:Hp),x=lk ns m i→Ao H2 H3→(MA (tBM K "list" Hz (DT 4) (ED (PL (ED (tOp (rIxL K) (DT 2) (DT 3)) (ED (DT 5) Lb))) Lb)))
        { nx:=fun σ H2 => ∃ v v' ps,σ = [some (.ref a),some (.int m),some (.ref hd),v,some (.ref rd),v']∧Ao H H2∧H2 hd=some (.lst ((Rm.holders ns m).map V.int))∧H2 rd=some (.lst (ps.map V.ref))∧AK H2 ps (((List.range (i + 1)).map fun k => ((Rm.lh ns k,lk ns m k):Ai)).map rV),rt:=Q }
        [some (.ref a),some (.int m),some (.ref hd),some (.int i),some (.ref rd),some (.str x)] H3:=by
      rintro x H3 rfl s3
      refine ⟨_,rfl,.inl ⟨rfl,_,AE.of (s3 _ _ e3)⟩,_,rfl,_,rfl,hd,_,_,_,rfl,rfl,AE.of (s3 _ _ e2),hg,_,rfl,(by show 2≤sizeLine; decide),fun t ht => ?_⟩
      have nrt:rd≠t:=Al (s3 _ _ e3) ht
      have ndt:hd≠t:=Al (s3 _ _ e2) ht
      refine ⟨rd,_,_,rfl,rfl,(by rw [Ak nrt]; exact s3 _ _ e3),?_,?_⟩
      · rw [List.length_map,hI.1,List.length_map,List.length_map,List.length_range]; exact Av (by omega)
      · have st:Ao H2 (upd H3 t (.tup [.int (Rm.lh ns i),.str (lk ns m i)])):=s3.trans (Ag ht _)
        have ne:∀ b u,H2 b=some u→b≠rd→(upd (upd H3 t (.tup [.int (Rm.lh ns i),.str (lk ns m i)])) rd (.lst (ps.map V.ref ++ [V.ref t]))) b=some u:=fun b u e n => by
          rw [Ak n]; exact st _ _ e
        refine ⟨_,_,ps ++ [t],rfl,fun b u e => ne b u (s2 _ _ e) (Al e hrd0),ne _ _ e2 nhr,?_,?_⟩
        · rw [Ac,List.map_append]; rfl
        · rw [List.range_succ,List.map_append,List.map_append]
          refine AK.snoc ⟨hI.1,fun j p o a1 a2 => ne _ _ (hI.2 j p o a1 a2) (F0 (hI.2 j p o a1 a2) e3 (by intro z; cases z))⟩ ?_
          rw [Ak nrt.symm,Ac]; rfl
    refine ⟨_,rfl,_,rfl,hd,_,rfl,.inl (AE.of e2),rfl,BW _,_,rfl,?_⟩
    show if Hc (V.int i) ((Rm.holders ns m).map V.int)=true then _ else _
    rw [C3]
    refine GS (fun z => ?_) (fun z => ?_)
    · have z':(i:Int)∈Rm.holders ns m:=by simpa using z
      refine ⟨(by show 4≤sizeLine; decide),fun t ht => ?_⟩
      have c1:=Int.emod_nonneg (Rm.cell ns i / 16) (show (4:Int)≠0 by decide)
      have c2:=Int.emod_lt_of_pos (Rm.cell ns i / 16) (show (0:Int) < 4 by decide)
      refine ⟨_,rfl,_,rfl,a,ns,i,rfl,(s2.trans (Ag ht _)).seq hS,_,_,rfl,rfl,⟨by decide,by decide⟩,_,_,rfl,rfl,(by show (0:Int) < _; decide),t,_,_,.str (G9 (Rm.cell ns i / 16 % 4)),rfl,rfl,AE.of Ac,?_,?_⟩
      · have e:Rm.cell ns i / 16 % 4=(((Rm.cell ns i / 16 % 4).toNat:Nat):Int):=by omega
        have hlt:(Rm.cell ns i / 16 % 4).toNat < 4:=by omega
        rw [show G9 (Rm.cell ns i / 16 % 4)=G9 (((Rm.cell ns i / 16 % 4).toNat:Nat):Int) from by rw [← e],e]
        refine BN ?_
        generalize (Rm.cell ns i / 16 % 4).toNat=n at hlt
        match n,hlt with
        | 0,_ => rfl
        | 1,_ => rfl
        | 2,_ => rfl
        | 3,_ => rfl
      · exact last _ _ (by unfold lk; rw [if_pos z']) (Ag ht _)
    · have z':¬ (i:Int)∈Rm.holders ns m:=by simpa using z
      exact last _ _ (by unfold lk; rw [if_neg z']) (Ao.refl _)
  · rintro σ H2 ⟨v,v',ps,rfl,s2,e2,e3,hI⟩
    refine ⟨_,rfl,?_⟩
    exact q rd ps H2 hrd0 s2 e3 hI
end
end Toy
namespace Toy
open PySem L2
seal PySem.wpAny
section
variable {P:Program} {w:World} {K:PySem.W.Frag} {mg:Str→Option Value} {base:Heap}
theorem Ja (hs:List Int) (i:Nat):Rm.chain hs i=i :: (Rm.chain hs i).tail:=by
  rw [Rm.chain]; split <;> rfl
theorem Kb {hs:List Int}:∀ i:Nat,(Rm.chain hs i).length≤i + 1:=by
  intro i
  induction i using Nat.strongRecOn with
  | ind i ih =>
    by_cases z : 0≤Rm.hold hs i∧Rm.hold hs i < (i:Int)
    · rw [Rm.chain_up z,List.length_cons]
      have:=ih (Rm.hold hs i).toNat (by omega)
      omega
    · rw [Rm.chain,dif_neg z,List.length_singleton]; omega
def cV (l:List Nat):List V:=(l.map fun (j:Nat) => (j:Int)).map V.int
theorem Bb (l:List Nat):(cV l).length=l.length:=by unfold cV; rw [List.length_map,List.length_map]
theorem BX {l:List Nat} {i:Nat} {x:V} (h:(cV l)[i]? = some x):∃ k:Nat,l[i]? = some k∧x = .int k:=by
  unfold cV at h
  rw [List.getElem?_map,List.getElem?_map] at h
  cases e:l[i]? with
  | none => rw [e] at h; cases h
  | some k => rw [e] at h; exact ⟨k,rfl,(Option.some.inj h).symm⟩
theorem DK (l m:List Nat):cV (l ++ m)=cV l ++ cV m:=by unfold cV; rw [List.map_append,List.map_append]
end
end Toy
namespace Toy
open PySem L2
seal PySem.wpAny
section
variable {P:Program} {w:World} {K:PySem.W.Frag} {mg:Str→Option Value} {base:Heap}
def FP:Sp:=fun vs H Q _ => ∃ (r:Addr) (ps:List Addr) (R:List Ai) (k:Nat),vs=[.ref r,.int k]∧H r=some (.lst (ps.map V.ref))∧AK H ps (R.map rV)∧Rm.Tree (Af R)∧R.length≤100∧k < R.length ∧
  ∀ (l:Addr) (H':Hp),H l=Option.none→Ao H H'→H' l=some (.lst (cV (Rm.chain (Af R) k)))→Q (.ref l) H'
theorem KB:AA ["rooms", "k", "chain"] ["rooms", "k"] (Ae Dd):=⟨rfl,rfl,rfl,by decide +kernel,rfl,by decide +kernel,by decide +kernel⟩
theorem FZ {f C:Addr} {fd:FuncData} (D:Am K mg "_law_chain" Dd ["rooms", "k"] f fd) (T:Dn K mg C):AD P w K mg base A9 1 f fd ["rooms", "k"] FP:=by
  refine D.fn.ok KB (fun vs H Q E h => ?_) (fun cdv A outer s H vs Q E hr h => ?_)
  · obtain ⟨r,ps,R,k,rfl,_⟩:=h
    rfl
  obtain ⟨r,ps,R,k,rfl,h2,h3,hT,hl,hk,q⟩:=h
  refine ⟨_,Ad (Ar (i := 2) KB.nd rfl (Or.inl rfl) (Bf (Aa (pv 1) Ab)))
    (Ad (EX PassesOwn.never (AB op_ge (An Aw (An Au (pv 0) (pv 1) (fun _ _ => rfl)) Ah (fun _ _ => rfl)) Ah (AT _))
      (Ad (Ar (i := 1) KB.nd rfl (Or.inl rfl) (An Aw (An Au (pv 0) (pv 1) (fun _ _ => rfl)) Ah (fun _ _ => rfl)))
      (Aj (AS (BC PySem.F.plainAttrs_list PySem.F.slot_list_append PySem.F.type_list_append AU (pv 2) (Aa (pv 1) Ab))))))
    (Aj (AM (pv 2)))),?_⟩
  refine ⟨_,rfl,(by show 1≤sizeLine; decide),fun l hl0 => ?_⟩
  refine ⟨fun n σ H1 => ∃ (p:Nat) (pre:List Nat),σ = [some (.ref r),some (.int p),some (.ref l)]∧p < R.length∧n=p∧Ao H H1∧H1 l=some (.lst (cV pre))∧Rm.chain (Af R) k=pre ++ (Rm.chain (Af R) p).tail,
    ⟨k,k,[k],rfl,hk,rfl,Ag hl0 _,Ac,Ja _ _⟩,?_⟩
  rintro n σ H1 ⟨p,pre,rfl,hp,rfl,s1,e1,ec⟩
  obtain ⟨a,ha,ha2⟩:=BG h3 hp
  have eh:Rm.hold (Af R) n=R[n].1:=Cp (List.getElem?_eq_getElem hp)
  have hlt:=Rm.hold_lt hT (i:=n) (by rw [Ay]; exact hp)
  rw [eh] at hlt
  refine ⟨_,rfl,_,rfl,r,_,_,_,rfl,rfl,AE.of (s1 _ _ h2),ha,a,_,_,_,rfl,rfl,A2.of (s1 _ _ ha2),rfl,_,_,rfl,rfl,_,rfl,?_⟩
  refine GS (fun z => ?_) (fun z => ?_)
  · have z' : 0≤R[n].1:=by simpa using z
    have e3:((R[n].1.toNat:Nat):Int)=R[n].1:=by omega
    have ech:(Rm.chain (Af R) n).tail=Rm.chain (Af R) R[n].1.toNat:=by
      rw [Rm.chain_up (by rw [eh]; exact ⟨z',hlt⟩),eh]; rfl
    have hpl:pre.length≤R.length:=by
      have c1:=Kb (hs:=Af R) k
      rw [ec,List.length_append] at c1
      omega
    refine ⟨fun σ' H' => ∃ (p':Nat) (pre':List Nat),p' < n∧σ'=[some (.ref r),some (.int p'),some (.ref l)]∧Ao H H'∧H' l=some (.lst (cV pre'))∧Rm.chain (Af R) k=pre' ++ (Rm.chain (Af R) p').tail,?_,?_⟩
    · rintro σ' H' ⟨p',pre',hlt',rfl,s',e',c'⟩
      exact ⟨p',hlt',p',pre',rfl,by omega,rfl,s',e',c'⟩
    · refine ⟨_,rfl,_,rfl,r,_,_,_,rfl,rfl,AE.of (s1 _ _ h2),ha,a,_,_,_,rfl,rfl,A2.of (s1 _ _ ha2),rfl,?_⟩
      refine ⟨_,rfl,.inl ⟨rfl,_,AE.of e1⟩,_,rfl,l,_,_,rfl,rfl,e1,?_,?_⟩
      · unfold cV; rw [List.length_map,List.length_map]; exact Av (by omega)
      · refine ⟨R[n].1.toNat,pre ++ [R[n].1.toNat],by omega,?_,AR s1 hl0 _,?_,?_⟩
        · show [some (V.ref r),some (V.int R[n].1),some (V.ref l)] = _
          rw [e3]
        · rw [Ac]
          unfold cV
          rw [List.map_append,List.map_append]
          show some (HO.lst (_ ++ [V.int R[n].1]))=some (HO.lst (_ ++ [V.int ((R[n].1.toNat:Nat):Int)]))
          rw [e3]
        · rw [ec,ech,List.append_assoc]
          exact congrArg (pre ++ ·) (Ja _ _)
  · have z':¬ 0≤R[n].1:=by simpa using z
    refine ⟨_,rfl,?_⟩
    refine q l H1 hl0 s1 ?_
    rw [e1,ec,Rm.chain_top (by rw [eh]; exact z')]
    simp
end
end Toy
namespace Toy
open PySem L2
seal PySem.wpAny
section
variable {P:Program} {w:World} {K:PySem.W.Frag} {mg:Str→Option Value} {base:Heap}
def choosing (R:List Ai) (p:Nat):Bool:=match R[p]? with
  | some r => decide (r.2 = "one"∨r.2 = "keep")
  | Option.none => false
def Bt (R:List Ai) (s t:Nat):Option Nat:=(Rm.chain (Af R) s).tail.find? fun p => choosing R p && Rm.li (Af R) t p
def optV:Option Nat→V
  | some p => .int p
  | Option.none => .non
theorem KN (x:Str):Hc (.str x) [.str "one",.str "keep"] = decide (x = "one"∨x = "keep"):=by
  show ((("one" : Str) == x) || ((("keep" : Str) == x) || false))=_
  by_cases h1:x = "one"
  · subst h1; decide +kernel
  · by_cases h2:x = "keep"
    · subst h2; decide +kernel
    · have e1:(("one" : Str) == x)=false:=beq_eq_false_iff_ne.mpr fun z => h1 z.symm
      have e2:(("keep" : Str) == x)=false:=beq_eq_false_iff_ne.mpr fun z => h2 z.symm
      rw [e1,e2,decide_eq_false fun z => z.elim h1 h2]; rfl
end
end Toy
namespace Toy
open PySem L2
seal PySem.wpAny
section
variable {P:Program} {w:World} {K:PySem.W.Frag} {mg:Str→Option Value} {base:Heap}
def L7 (C:Addr):Sp:=fun vs H Q _ => ∃ (c:Addr) (R:List Ai) (A:List Aq) (i j:Nat),vs=[.ref c,.int i,.int j]∧A7 C H c R A∧Rm.Tree (Af R)∧i < R.length∧Q (.bl (Rm.li (Af R) i j)) H
theorem scLies:AA ["chart", "room", "other"] ["chart", "room", "other"] (Ae ER):=⟨rfl,rfl,rfl,by decide +kernel,rfl,by decide +kernel,by decide +kernel⟩
theorem MU {f C fw:Addr} {fd fdw:FuncData} (D:Am K mg "lies_in" ER ["chart", "room", "other"] f fd) (T:Dn K mg C) (Dw:Am K mg "within" BR ["chart", "room", "other"] fw fdw):AD P w K mg base A9 2 f fd ["chart", "room", "other"] (L7 C):=by
  have Gw:AD P w K mg base A9 1 fw fdw ["chart", "room", "other"] (EJ C):=Fi Dw T
  refine D.fn.ok scLies (fun vs H Q E h => ?_) (fun cdv A outer s H vs Q E hr h => ?_)
  · obtain ⟨c,R,As,i,j,rfl,_⟩:=h
    rfl
  obtain ⟨c,R,As,i,j,rfl,hC,hT,hi,q⟩:=h
  refine ⟨_,Aj (AM (Mg (DR EG (pv 1) (pv 2) (AT _)) (GO (Ap Gw hr rfl Dw.mg Dw.fn.kp Dw.bd .nil AF (Aa (pv 0) (Aa (pv 1) (Aa (pv 2) Ab))))))),?_⟩
  refine ⟨_,rfl,_,rfl,rfl,_,rfl,?_⟩
  rw [Rm.li_eq] at q
  have e:(decide (V.int (i:Int)=V.int (j:Int)))=decide (i=j):=decide_eq_decide.mpr ⟨fun y => by injection y with y; omega,fun y => by rw [y]⟩
  rw [e]
  by_cases z:i=j
  · rw [decide_eq_true z] at q ⊢
    exact A1 q
  · rw [decide_eq_false z] at q ⊢
    refine Bi ?_
    exact ⟨_,rfl,_,rfl,_,rfl,c,R,As,i,j,rfl,hC,hT,hi,q⟩
def Kr (C:Addr):Sp:=fun vs H Q _ => ∃ (c:Addr) (R:List Ai) (A:List Aq) (i j:Nat),vs=[.ref c,.int i,.int j]∧A7 C H c R A∧Rm.Tree (Af R)∧i < R.length∧j < R.length∧Q (optV (Bt R i j)) H
theorem Kx:AA ["chart", "source", "target", "place"] ["chart", "source", "target"] (Ae Em):=⟨rfl,rfl,rfl,by decide +kernel,rfl,by decide +kernel,by decide +kernel⟩
theorem Lu {f C fl fw:Addr} {fd fdl fdw:FuncData} (D:Am K mg "scope" Em ["chart", "source", "target"] f fd) (T:Dn K mg C) (Dl:Am K mg "lies_in" ER ["chart", "room", "other"] fl fdl) (Dw:Am K mg "within" BR ["chart", "room", "other"] fw fdw) :
    AD P w K mg base A9 3 f fd ["chart", "source", "target"] (Kr C):=by
  have Gl:AD P w K mg base A9 2 fl fdl ["chart", "room", "other"] (L7 C):=MU Dl T Dw
  refine D.fn.ok Kx (fun vs H Q E h => ?_) (fun cdv A outer s H vs Q E hr h => ?_)
  · obtain ⟨c,R,As,i,j,rfl,_⟩:=h
    rfl
  obtain ⟨c,R,As,i,j,rfl,hC,hT,hi,hj,q⟩:=h
  obtain ⟨aK,hK,sK⟩:=T.choosing
  refine ⟨_,Ad (Ar (i := 3) Kx.nd rfl (Or.inl rfl) (An Aw (An Au (Bn (pv 0) rfl) (pv 1) (fun _ _ => rfl)) (AO T.hold rfl) (fun _ _ => rfl)))
    (Ad (EX PassesOwn.never (AB EG (pv 3) (AO T.nil rfl) (AT _))
      (Ad (A0 (PW.pt (DF (AB BB (An Aw (An Au (Bn (pv 0) rfl) (pv 3) (fun _ _ => rfl)) (AO T.kind rfl) (fun _ _ => rfl)) (HI rfl hK (v:=.ref aK) rfl) (by with_unfolding_all rfl))
          (CZ (B8 (Ap Gl hr rfl Dl.mg Dl.fn.kp Dl.bd .nil AF (Aa (pv 0) (Aa (pv 2) (Aa (pv 3) Ab)))))))) (Aj (AM (pv 3))) AJ)
      (Aj (Ar (i := 3) Kx.nd rfl (Or.inl rfl) (An Aw (An Au (Bn (pv 0) rfl) (pv 3) (fun _ _ => rfl)) (AO T.hold rfl) (fun _ _ => rfl))))))
    (Aj (AM Cj))),?_⟩
  obtain ⟨dx,l,m,ps,qs,h1,h2,h3,h4,h5⟩:=hC.ob
  have hok:∀ {n:Nat},n < R.length→Rm.hold (Af R) n = -1∨(0≤Rm.hold (Af R) n∧Rm.hold (Af R) n < (n:Int)):=fun {n} hn => by
    by_cases z:n=0
    · subst z; exact .inl hT.root
    · exact .inr (hT.up n (by omega) (by rw [Ay]; exact hn))
  obtain ⟨p,hp,hp2⟩:=BG h3 hi
  have eh:Rm.hold (Af R) i=R[i].1:=Cp (List.getElem?_eq_getElem hi)
  refine ⟨_,rfl,c,C,dx,_,_,rfl,h1,T.cl,T.nR,Bc l m,_,rfl,l,_,_,_,rfl,rfl,AE.of h2,hp,p,_,_,_,rfl,rfl,A2.of hp2,rfl,?_⟩
  refine ⟨fun n σ H1 => ∃ pl:Int,σ = [some (.ref c),some (.int i),some (.int j),some (.int pl)]∧H1=H∧(pl = -1∨(0≤pl∧pl < (R.length:Int)))∧n=(pl + 1).toNat∧Bt R i j=(Rm.upper (Af R) pl).find? fun p => choosing R p && Rm.li (Af R) j p,
    ⟨_,R[i].1,rfl,rfl,by rw [← eh]; rcases hok hi with z | z <;> omega,rfl,by unfold Bt; rw [Rm.tail_upper hT (by rw [Ay]; exact hi),eh]⟩,?_⟩
  rintro n σ H1 ⟨pl,rfl,rfl,hpl,rfl,es⟩
  refine ⟨_,rfl,rfl,_,rfl,?_⟩
  by_cases z:pl = -1
  · subst z
    refine Gj rfl ?_
    rw [es,Rm.upper_neg] at q
    exact q
  · have z0 : 0≤pl∧pl < (R.length:Int):=hpl.resolve_left z
    obtain ⟨k,rfl⟩ : ∃ k:Nat,pl=(k:Int):=⟨pl.toNat,by omega⟩
    have hk:k < R.length:=by omega
    have ne:¬ V.int (k:Int)=V.int (-1):=fun y => by injection y with y; omega
    rw [decide_eq_false ne]
    refine Bi ?_
    obtain ⟨a,ha,ha2⟩:=BG h3 hk
    have ehk:Rm.hold (Af R) k=R[k].1:=Cp (List.getElem?_eq_getElem hk)
    have ech:choosing R k=decide (R[k].2 = "one"∨R[k].2 = "keep"):=by
      unfold choosing; rw [List.getElem?_eq_getElem hk]
    rw [Rm.upper_step hT (by rw [Ay]; exact hk),List.find?_cons,ehk] at es
    refine ⟨fun σ' H' => ∃ pl':Int,σ'=[some (.ref c),some (.int i),some (.int j),some (.int pl')]∧H'=H1∧(pl' = -1∨(0≤pl'∧pl' < (k:Int)))∧Bt R i j=(Rm.upper (Af R) pl').find? fun p => choosing R p && Rm.li (Af R) j p,?_,?_⟩
    · rintro σ' H' ⟨pl',rfl,rfl,h',e'⟩
      exact ⟨(pl' + 1).toNat,by omega,pl',rfl,rfl,by omega,rfl,e'⟩
    · refine ⟨_,rfl,c,C,dx,_,_,rfl,h1,T.cl,T.nR,Bc l m,_,rfl,l,_,_,_,rfl,rfl,AE.of h2,ha,a,_,_,_,rfl,rfl,A2.of ha2,rfl,aK,_,rfl,.inr (sK _),rfl,by decide +kernel,_,rfl,?_⟩
      have stepOn:Bt R i j=(Rm.upper (Af R) R[k].1).find? (fun p => choosing R p && Rm.li (Af R) j p) →
          (PU (tOp (rIxT K) (tOp (rIxL K) (tFld K (DT 0) "rooms") (DT 3)) (tC (.int 0))) (IN 3)) { nx:=fun σ' H' => ∃ pl':Int,σ'=[some (.ref c),some (.int i),some (.int j),some (.int pl')]∧H'=H1∧(pl' = -1∨(0≤pl'∧pl' < (k:Int)))∧Bt R i j=(Rm.upper (Af R) pl').find? fun p => choosing R p && Rm.li (Af R) j p,rt:=Q }
            [some (.ref c),some (.int i),some (.int j),some (.int k)] H1:=fun e' => by
        refine ⟨_,rfl,c,C,dx,_,_,rfl,h1,T.cl,T.nR,Bc l m,_,rfl,l,_,_,_,rfl,rfl,AE.of h2,ha,a,_,_,_,rfl,rfl,A2.of ha2,rfl,?_⟩
        exact ⟨R[k].1,rfl,rfl,by rw [← ehk]; exact hok hk,e'⟩
      show if Hc (V.str R[k].2) [V.str "one",V.str "keep"] = true then _ else _
      rw [KN,← ech]
      cases hc:choosing R k with
      | false =>
        rw [hc] at es
        refine A1 ?_
        refine A1 ?_
        exact stepOn es
      | true =>
        rw [hc] at es
        refine Bi ?_
        refine ⟨_,rfl,_,rfl,_,rfl,c,R,As,j,k,rfl,hC,hT,hj,_,rfl,?_⟩
        cases hb:Rm.li (Af R) j k with
        | false =>
          rw [hb] at es
          refine A1 ?_
          exact stepOn es
        | true =>
          rw [hb] at es
          refine Bi ?_
          have es':Bt R i j=some k:=es
          rw [es'] at q
          exact ⟨_,rfl,q⟩
end
end Toy
namespace Toy
open PySem L2
seal PySem.wpAny
section
variable {P:Program} {w:World} {K:PySem.W.Frag} {mg:Str→Option Value} {base:Heap}
theorem cut1 (xs:List V):Cs xs (some 1) Option.none=xs.tail:=by
  unfold Cs
  have e1:HT.sIx xs.length 0 (some 1)=min 1 xs.length:=HT.sIx_nat xs.length 0 1
  rw [e1,HT.sIx_none]
  cases xs with
  | nil => rfl
  | cons x r =>
    have e:min 1 (x :: r).length=1:=by simp [List.length_cons]
    rw [e]
    show r.take (r.length + 1 - 1)=r
    simp
theorem HM (l:List Nat):(cV l).tail=cV l.tail:=by cases l <;> rfl
def FK:Sp:=fun vs H Q _ => ∃ (r:Addr) (ps:List Addr) (R:List Ai) (i j:Nat),vs=[.ref r,.int i,.int j]∧H r=some (.lst (ps.map V.ref))∧AK H ps (R.map rV)∧Rm.Tree (Af R)∧R.length≤100∧i < R.length∧j < R.length ∧
  ∀ (H':Hp),Ao H H'→Q (optV (Bt R i j)) H'
theorem Ie:AA ["rooms", "source", "target", "around", "k"] ["rooms", "source", "target"] (Ae CY):=⟨rfl,rfl,rfl,by decide +kernel,rfl,by decide +kernel,by decide +kernel⟩
theorem GP {f C fh:Addr} {fd fdh:FuncData} (D:Am K mg "_law_scope" CY ["rooms", "source", "target"] f fd) (T:Dn K mg C) (Dh:Am K mg "_law_chain" Dd ["rooms", "k"] fh fdh):AD P w K mg base A9 2 f fd ["rooms", "source", "target"] FK:=by
  have Gh:AD P w K mg base A9 1 fh fdh ["rooms", "k"] FP:=FZ Dh T
  refine D.fn.ok Ie (fun vs H Q E h => ?_) (fun cdv A outer s H vs Q E hr h => ?_)
  · obtain ⟨r,ps,R,i,j,rfl,_⟩:=h
    rfl
  obtain ⟨r,ps,R,i,j,rfl,h2,h3,hT,hl,hi,hj,q⟩:=h
  refine ⟨_,Ad (Ar (i := 3) Ie.nd rfl (Or.inl rfl) (DG Eh (Ap Gh hr rfl Dh.mg Dh.fn.kp Dh.bd .nil AF (Aa (pv 0) (Aa (pv 2) Ab))) (Et Ah) Eu))
    (Ad (Bj PassesOwn.never rfl (Bu (DG Eh (Ap Gh hr rfl Dh.mg Dh.fn.kp Dh.bd .nil AF (Aa (pv 0) (Aa (pv 1) Ab))) (Et Ah) Eu)) (AI (i := 4) Ie.nd rfl (Or.inl rfl))
      (Aj (A0 (PW.pt (DF (AB BB (pv 4) (pv 3) (by with_unfolding_all rfl))
        (CZ (AB BB (An Aw (An Au (pv 0) (pv 4) (fun _ _ => rfl)) Ah (fun _ _ => rfl)) (AX (Aa Be (Aa Be Ab))) (by with_unfolding_all rfl))))) (Aj (AM (pv 4))) AJ)))
    (Aj (AM Cj))),?_⟩
  refine ⟨_,rfl,_,rfl,r,ps,R,j,rfl,h2,h3,hT,hl,hj,fun l1 H1 hl1 s1 e1 => ?_⟩
  refine ⟨1,rfl,l1,_,rfl,AE.of e1,fun l2 hl2 => ?_⟩
  have s2:=s1.trans (Ag hl2 (.lst (Cs (cV (Rm.chain (Af R) j)) (some 1) Option.none)))
  have e2:(upd H1 l2 (.lst (Cs (cV (Rm.chain (Af R) j)) (some 1) Option.none))) l2=some (.lst (cV (Rm.chain (Af R) j).tail)):=by rw [Ac,cut1,HM]
  generalize upd H1 l2 (.lst (Cs (cV (Rm.chain (Af R) j)) (some 1) Option.none))=H2 at s2 e2 ⊢
  refine ⟨_,rfl,_,rfl,r,ps,R,i,rfl,s2 _ _ h2,h3.same s2,hT,hl,hi,fun l3 H3 hl3 s3 e3 => ?_⟩
  refine ⟨1,rfl,l3,_,rfl,AE.of e3,fun l4 hl4 => ?_⟩
  have s4:=s3.trans (Ag hl4 (.lst (Cs (cV (Rm.chain (Af R) i)) (some 1) Option.none)))
  have e4:(upd H3 l4 (.lst (Cs (cV (Rm.chain (Af R) i)) (some 1) Option.none))) l4=some (.lst (cV (Rm.chain (Af R) i).tail)):=by rw [Ac,cut1,HM]
  generalize upd H3 l4 (.lst (Cs (cV (Rm.chain (Af R) i)) (some 1) Option.none))=H4 at s4 e4 ⊢
  refine ⟨l4,rfl,⟨_,AE.of e4⟩,?_⟩
  refine B6 (xs:=cV (Rm.chain (Af R) i).tail) (fun n σ H5 => ∃ v,σ = [some (.ref r),some (.int i),some (.int j),some (.ref l2),v]∧Ao H4 H5∧Bt R i j=((Rm.chain (Af R) i).tail.drop n).find? fun p => choosing R p && Rm.li (Af R) j p)
    ⟨_,rfl,Ao.refl _,rfl⟩ (fun n σ H5 _ ⟨v,_,s5,_⟩ => AE.of (s5 _ _ e4)) ?_ ?_
  · rintro n x σ H5 hx ⟨v,rfl,s5,es⟩
    obtain ⟨k,hk,rfl⟩ : ∃ k:Nat,(Rm.chain (Af R) i).tail[n]? = some k∧x = .int k:=by
      unfold cV at hx
      rw [List.getElem?_map,List.getElem?_map] at hx
      cases e:(Rm.chain (Af R) i).tail[n]? with
      | none => rw [e] at hx; cases hx
      | some k => rw [e] at hx; exact ⟨k,rfl,(Option.some.inj hx).symm⟩
    have hkm:k∈(Rm.chain (Af R) i).tail:=List.mem_of_getElem? hk
    have hkl:k < R.length:=Nat.lt_trans (Rm.tail_lt hkm) hi
    have hd:(Rm.chain (Af R) i).tail.drop n=k :: (Rm.chain (Af R) i).tail.drop (n + 1):=by
      obtain ⟨hn,e⟩:=List.getElem?_eq_some_iff.mp hk
      rw [List.drop_eq_getElem_cons hn,e]
    rw [hd,List.find?_cons] at es
    have s45:Ao H H5:=s2.trans (s4.trans s5)
    obtain ⟨a,ha,ha2⟩:=BG h3 hkl
    have ech:choosing R k=decide (R[k].2 = "one"∨R[k].2 = "keep"):=by
      unfold choosing; rw [List.getElem?_eq_getElem hkl]
    have ein:Hc (V.int k) (cV (Rm.chain (Af R) j).tail)=Rm.li (Af R) j k:=by
      unfold cV Rm.li
      rw [C3]
      refine decide_eq_decide.mpr ⟨fun z => ?_,fun z => List.mem_map.mpr ⟨k,z,rfl⟩⟩
      obtain ⟨y,hy,e⟩:=List.mem_map.mp z
      have:y=k:=by omega
      rw [← this]; exact hy
    refine ⟨_,rfl,_,rfl,l2,_,rfl,.inl (AE.of (s5 _ _ (s4 _ _ e2))),rfl,BW _,_,rfl,?_⟩
    show if Hc (V.int k) (cV (Rm.chain (Af R) j).tail)=true then _ else _
    rw [ein]
    cases hb:Rm.li (Af R) j k with
    | false =>
      rw [hb,Bool.and_false] at es
      refine A1 ?_
      refine A1 ?_
      exact ⟨_,rfl,s5,es⟩
    | true =>
      rw [hb,Bool.and_true] at es
      refine Bi ?_
      refine ⟨_,rfl,_,rfl,r,_,_,_,rfl,rfl,AE.of (s45 _ _ h2),ha,a,_,_,_,rfl,rfl,A2.of (s45 _ _ ha2),rfl,(by show 2≤sizeLine; decide),fun t ht => ?_⟩
      refine ⟨t,_,rfl,.inr (A2.of Ac),rfl,by decide +kernel,_,rfl,?_⟩
      show if Hc (V.str R[k].2) [V.str "one",V.str "keep"] = true then _ else _
      rw [KN,← ech]
      cases hc:choosing R k with
      | false =>
        rw [hc] at es
        refine A1 ?_
        exact ⟨_,rfl,s5.trans (Ag ht _),es⟩
      | true =>
        rw [hc] at es
        refine Bi ?_
        have es':Bt R i j=some k:=es
        refine ⟨_,rfl,?_⟩
        have:=q _ (s45.trans (Ag ht (.tup [.str "one",.str "keep"])))
        rw [es'] at this
        exact this
  · rintro σ H5 ⟨v,rfl,s5,es⟩
    have hlen:(cV (Rm.chain (Af R) i).tail).length=(Rm.chain (Af R) i).tail.length:=by unfold cV; rw [List.length_map,List.length_map]
    rw [hlen,List.drop_length] at es
    have es':Bt R i j=Option.none:=es
    have:=q H5 (s2.trans (s4.trans s5))
    rw [es'] at this
    exact this
end
end Toy
namespace Toy
open PySem L2
seal PySem.wpAny
section
variable {P:Program} {w:World} {K:PySem.W.Frag} {mg:Str→Option Value} {base:Heap}
structure AW (R:List Ai) (a:Aq):Prop where
  src:∃ s:Nat,a.1=(s:Int)∧s < R.length
  evt : 0≤a.2.1∧a.2.1≤3
  grd : -1≤a.2.2.1∧a.2.2.1 < (R.length:Int)
  tgt:∃ t:Nat,a.2.2.2.1=(t:Int)∧t < R.length
  ded : 0≤a.2.2.2.2∧a.2.2.2.2≤99
  sc:∃ p:Nat,Bt R a.1.toNat a.2.2.2.1.toNat=some p
theorem By {H:Hp} {qs:List Addr} {A:List Aq} (h5:AK H qs (A.map aV)) {i:Nat} (hi:i < A.length):∃ p,Jl (qs.map V.ref) (i:Int)=some (.ref p)∧H p=some (.tup (aV A[i])):=by
  have er:(A.map aV)[i]? = some (aV A[i]):=by rw [List.getElem?_map,List.getElem?_eq_getElem hi]; rfl
  obtain ⟨p,hp,hp2⟩:=h5.at er
  exact ⟨p,BN hp,hp2⟩
def Od:Sp:=fun vs H Q _ => ∃ (n:Int) (nm:Str) (p l m:Int),vs=[.int n,.str nm,.int p,.int l,.int m]∧l≤p∧p≤m∧Q .non H
theorem scPart:AA ["number", "name", "part", "least", "most"] ["number", "name", "part", "least", "most"] (Ae G3):=⟨rfl,rfl,rfl,by decide +kernel,rfl,by decide +kernel,by decide +kernel⟩
theorem ok_part {f:Addr} {fd:FuncData} (D:Am K mg "check_part" G3 ["number", "name", "part", "least", "most"] f fd):AD P w K mg base A9 1 f fd ["number", "name", "part", "least", "most"] Od:=by
  refine D.fn.ok scPart (fun vs H Q E h => ?_) (fun cdv A outer s H vs Q E hr h => ?_)
  · obtain ⟨n,nm,p,l,m,rfl,_⟩:=h
    rfl
  obtain ⟨n,nm,p,l,m,rfl,h1,h2,q⟩:=h
  refine ⟨_,Aj (A0 (Di (FX JV JV (pv 3) (pv 2) (pv 4))) Bh AJ),?_⟩
  refine ⟨_,rfl,_,rfl,_,_,rfl,rfl,_,rfl,?_⟩
  rw [decide_eq_true h1]
  refine Bi ?_
  refine ⟨_,rfl,_,_,rfl,rfl,_,rfl,?_⟩
  rw [decide_eq_true h2]
  refine A1 ?_
  exact q
def FN (C:Addr):Sp:=fun vs H Q _ => ∃ (c:Addr) (R:List Ai) (A:List Aq) (i:Nat) (a:Aq),vs=[.ref c,.int i]∧A7 C H c R A∧AY R∧A[i]? = some a∧AW R a∧Q .non H
theorem Ek:AA ["chart", "number", "arrow", "last_room"] ["chart", "number"] (Ae B3):=⟨rfl,rfl,rfl,by decide +kernel,rfl,by decide +kernel,by decide +kernel⟩
theorem ID {f C fp fs fl fw:Addr} {fd fdp fds fdl fdw:FuncData} (D:Am K mg "check_arrow" B3 ["chart", "number"] f fd) (T:Dn K mg C) (Dp:Am K mg "check_part" G3 ["number", "name", "part", "least", "most"] fp fdp)
    (Ds:Am K mg "scope" Em ["chart", "source", "target"] fs fds) (Dl:Am K mg "lies_in" ER ["chart", "room", "other"] fl fdl) (Dw:Am K mg "within" BR ["chart", "room", "other"] fw fdw):AD P w K mg base A9 4 f fd ["chart", "number"] (FN C):=by
  have Gp:AD P w K mg base A9 1 fp fdp ["number", "name", "part", "least", "most"] Od:=ok_part Dp
  have Gs:AD P w K mg base A9 3 fs fds ["chart", "source", "target"] (Kr C):=Lu Ds T Dl Dw
  refine D.fn.ok Ek (fun vs H Q E h => ?_) (fun cdv A outer s H vs Q E hr h => ?_)
  · obtain ⟨c,R,As,i,a,rfl,_⟩:=h
    rfl
  obtain ⟨c,R,As,i,a,rfl,hC,hG,hia,hA,q⟩:=h
  have hr1:Ca 1 _:=hr.mono (by decide)
  refine ⟨_,Ad (Ar (i := 2) Ek.nd rfl (Or.inl rfl) (An Au (Bn (pv 0) rfl) (pv 1) (fun _ _ => rfl)))
    (Ad (Ar (i := 3) Ek.nd rfl (Or.inl rfl) (AH Oz (AG At (by rfl) T.len PySem.boot_len (Aa (Bn (pv 0) rfl) Ab)) Ah))
    (Ad (AS (Ap Gp hr1 rfl Dp.mg Dp.fn.kp Dp.bd .nil AF (Aa (pv 1) (Aa Be (Aa (An Aw (pv 2) (AO T.src rfl) (fun _ _ => rfl)) (Aa Ah (Aa (pv 3) Ab)))))))
    (Ad (AS (Ap Gp hr1 rfl Dp.mg Dp.fn.kp Dp.bd .nil AF (Aa (pv 1) (Aa Be (Aa (An Aw (pv 2) (AO T.evt rfl) (fun _ _ => rfl)) (Aa Ah (Aa (AO T.lastE rfl) Ab)))))))
    (Ad (AS (Ap Gp hr1 rfl Dp.mg Dp.fn.kp Dp.bd .nil AF (Aa (pv 1) (Aa Be (Aa (An Aw (pv 2) (AO T.grd rfl) (fun _ _ => rfl)) (Aa (AO T.nil rfl) (Aa (pv 3) Ab)))))))
    (Ad (AS (Ap Gp hr1 rfl Dp.mg Dp.fn.kp Dp.bd .nil AF (Aa (pv 1) (Aa Be (Aa (An Aw (pv 2) (AO T.tgt rfl) (fun _ _ => rfl)) (Aa Ah (Aa (pv 3) Ab)))))))
    (Ad (AS (Ap Gp hr1 rfl Dp.mg Dp.fn.kp Dp.bd .nil AF (Aa (pv 1) (Aa Be (Aa (An Aw (pv 2) (AO T.ded rfl) (fun _ _ => rfl)) (Aa Ah (Aa (AO T.lastD rfl) Ab)))))))
    (Aj (A0 (Os (pc_isN (Ap Gs hr rfl Ds.mg Ds.fn.kp Ds.bd .nil AF (Aa (pv 0) (Aa (An Aw (pv 2) (AO T.src rfl) (fun _ _ => rfl)) (Aa (An Aw (pv 2) (AO T.tgt rfl) (fun _ _ => rfl)) Ab)))))) Bh AJ)))))))),?_⟩
  obtain ⟨hi,rfl⟩:=List.getElem?_eq_some_iff.mp hia
  obtain ⟨dx,l,m,ps,qs,h1,h2,h3,h4,h5⟩:=hC.ob
  obtain ⟨p,hp,hp2⟩:=By h5 hi
  have hl:(ps.map V.ref).length=R.length:=by rw [List.length_map,h3.1,List.length_map]
  obtain ⟨sn,es,hs⟩:=hA.src
  obtain ⟨tn,et,ht⟩:=hA.tgt
  obtain ⟨g1,g2⟩:=hA.grd
  refine ⟨_,rfl,c,C,dx,_,_,rfl,h1,T.cl,T.nA,Bz l m,_,rfl,m,_,_,_,rfl,rfl,AE.of h4,hp,?_⟩
  refine ⟨_,rfl,c,C,dx,_,_,rfl,h1,T.cl,T.nR,Bc l m,l,_,rfl,.inl (AE.of h2),_,_,rfl,rfl,?_⟩
  rw [hl]
  refine ⟨_,rfl,_,rfl,p,_,_,_,rfl,rfl,A2.of hp2,rfl,_,rfl,_,_,_,_,_,rfl,by rw [es]; omega,by rw [es]; omega,?_⟩
  refine ⟨_,rfl,_,rfl,p,_,_,_,rfl,rfl,A2.of hp2,rfl,_,_,_,_,_,rfl,hA.evt.1,hA.evt.2,?_⟩
  refine ⟨_,rfl,_,rfl,p,_,_,_,rfl,rfl,A2.of hp2,rfl,_,rfl,_,_,_,_,_,rfl,g1,by omega,?_⟩
  refine ⟨_,rfl,_,rfl,p,_,_,_,rfl,rfl,A2.of hp2,rfl,_,rfl,_,_,_,_,_,rfl,by rw [et]; omega,by rw [et]; omega,?_⟩
  refine ⟨_,rfl,_,rfl,p,_,_,_,rfl,rfl,A2.of hp2,rfl,_,_,_,_,_,rfl,hA.ded.1,hA.ded.2,?_⟩
  refine ⟨_,rfl,_,rfl,p,_,_,_,rfl,rfl,A2.of hp2,rfl,_,rfl,p,_,_,_,rfl,rfl,A2.of hp2,rfl,c,R,As,sn,tn,(by rw [es,et]; rfl),hC,hG.tree,hs,ht,_,rfl,?_⟩
  obtain ⟨pp,hsc⟩:=hA.sc
  rw [es,et,Int.toNat_natCast,Int.toNat_natCast] at hsc
  rw [hsc]
  refine A1 ?_
  exact q
def Fn (C:Addr):Sp:=fun vs H Q _ => ∃ (c:Addr) (R:List Ai) (A:List Aq),vs=[.ref c]∧A7 C H c R A∧AY R∧A.length≤20∧(∀ a∈A,AW R a)∧Q .non H
theorem EM:AA ["chart", "number"] ["chart"] (Ae BL):=⟨rfl,rfl,rfl,by decide +kernel,rfl,by decide +kernel,by decide +kernel⟩
theorem Hm {f C fa:Addr} {fd fda:FuncData} (D:Am K mg "check_arrows" BL ["chart"] f fd) (T:Dn K mg C) (Da:Am K mg "check_arrow" B3 ["chart", "number"] fa fda) (Ga:AD P w K mg base A9 4 fa fda ["chart", "number"] (FN C)) :
    AD P w K mg base A9 5 f fd ["chart"] (Fn C):=by
  refine D.fn.ok EM (fun vs H Q E h => ?_) (fun cdv A outer s H vs Q E hr h => ?_)
  · obtain ⟨c,R,As,rfl,_⟩:=h
    rfl
  obtain ⟨c,R,As,rfl,hC,hG,h20,hA,q⟩:=h
  refine ⟨_,Ad (A0 (AB Lq (AG At (by rfl) T.len PySem.boot_len (Aa (Bn (pv 0) rfl) Ab)) (AO T.mostA rfl) (AT _)) Bh AJ)
    (Aj (Bj PassesOwn.never rfl (AZ rfl T.range (Aa (AG At (by rfl) T.len PySem.boot_len (Aa (Bn (pv 0) rfl) Ab)) Ab)) (AI (i := 1) EM.nd rfl (Or.inl rfl))
      (Aj (AS (Ap Ga hr rfl Da.mg Da.fn.kp Da.bd .nil AF (Aa (pv 0) (Aa (pv 1) Ab))))))),?_⟩
  obtain ⟨dx,l,m,ps,qs,h1,h2,h3,h4,h5⟩:=hC.ob
  have hl:(qs.map V.ref).length=As.length:=by rw [List.length_map,h5.1,List.length_map]
  refine ⟨_,rfl,c,C,dx,_,_,rfl,h1,T.cl,T.nA,Bz l m,m,_,rfl,.inl (AE.of h4),_,_,rfl,rfl,_,rfl,?_⟩
  rw [hl,decide_eq_false (show ¬ (20:Int) < (As.length:Int) by omega)]
  refine A1 ?_
  refine ⟨_,rfl,c,C,dx,_,_,rfl,h1,T.cl,T.nA,Bz l m,m,_,rfl,.inl (AE.of h4),_,rfl,by rw [hl]; omega,by rw [hl]; omega,?_⟩
  rw [hl]
  refine Br (fun i σ H1 => ∃ v,σ = [some (.ref c),v]∧H1=H) ⟨_,rfl,rfl⟩ ?_ ?_
  · rintro i σ H1 hi ⟨v,rfl,rfl⟩
    have hi':i < As.length:=by omega
    have ei:(0:Int) + (i:Int)=(i:Int):=by omega
    rw [ei]
    refine ⟨_,rfl,_,rfl,c,R,As,i,As[i],rfl,hC,hG,List.getElem?_eq_getElem hi',hA _ (List.getElem_mem hi'),?_⟩
    exact ⟨_,rfl,rfl⟩
  · rintro σ H1 ⟨v,rfl,rfl⟩
    exact q
def Oh (C:Addr):Sp:=fun vs H Q _ => ∃ (c dx a b:Addr) (ps qs:List Addr) (R:List Ai) (As:List Aq),vs=[.ref c,.ref a,.ref b]∧H c=some (.ins C dx [])∧H a=some (.lst (ps.map V.ref))∧AK H ps (R.map rV)∧H b=some (.lst (qs.map V.ref))∧AK H qs (As.map aV)∧AY R∧As.length≤20∧(∀ x∈As,AW R x) ∧
  ∀ H',(∀ x o,H x=some o→x≠c→H' x=some o)→(∀ H'',(∀ x o,H' x=some o→x≠a→x≠b→H'' x=some o)→A7 C H'' c R As)→Q .non H'
theorem PZ:AA ["self", "rooms", "arrows"] ["self", "rooms", "arrows"] (Ae JO):=⟨rfl,rfl,rfl,by decide +kernel,rfl,by decide +kernel,by decide +kernel⟩
theorem ok_init {f C fr fa:Addr} {fd fdr fda:FuncData} (F:Nk K "__init__" "Chart.__init__" JO f fd) (T:Dn K mg C) (Dr:Am K mg "check_rooms" B2 ["chart"] fr fdr) (Da:Am K mg "check_arrows" BL ["chart"] fa fda)
    (Gr:AD P w K mg base A9 3 fr fdr ["chart"] (FM C)) (Ga:AD P w K mg base A9 5 fa fda ["chart"] (Fn C)):AD P w K mg base A9 6 f fd ["self", "rooms", "arrows"] (Oh C):=by
  refine F.ok PZ (fun vs H Q E h => ?_) (fun cdv A outer s H vs Q E hr h => ?_)
  · obtain ⟨c,dx,a,b,ps,qs,R,As,rfl,_⟩:=h
    rfl
  obtain ⟨c,dx,a,b,ps,qs,R,As,rfl,hc,ha,hI,hb,hJ,hG,h20,hA,q⟩:=h
  refine ⟨_,Ad (Io (pv 0) (Ba Bw (by rfl) T.list (by decide +kernel) (Aa (pv 1) Ab)) rfl)
    (Ad (Io (pv 0) (Ba Bw (by rfl) T.list (by decide +kernel) (Aa (pv 2) Ab)) rfl)
    (Ad (AS (Ap Gr (hr.mono (by decide)) rfl Dr.mg Dr.fn.kp Dr.bd .nil AF (Aa (pv 0) Ab)))
    (Aj (AS (Ap Ga hr rfl Da.mg Da.fn.kp Da.bd .nil AF (Aa (pv 0) Ab)))))),?_⟩
  refine ⟨_,rfl,a,_,rfl,.inl (AE.of ha),fun l hl => ?_⟩
  have ncl:c≠l:=Al hc hl
  refine ⟨_,rfl,c,C,dx,_,rfl,(by rw [Ak ncl]; exact hc),T.cl,T.nR,(by show 0 < 1000; decide),?_⟩
  have nbl:b≠l:=Al hb hl
  have nbc:b≠c:=F0 hb hc (by intro z; cases z)
  have nac:a≠c:=F0 ha hc (by intro z; cases z)
  have nal:a≠l:=Al ha hl
  refine ⟨_,rfl,b,_,rfl,.inl (AE.of (by rw [Ak nbc,Ak nbl]; exact hb)),fun m hm => ?_⟩
  have ncm:c≠m:=Al Ac hm
  have hm':H m=Option.none:=by
    have z:=hm
    rw [Ak ncm.symm] at z
    by_cases e:m=l
    · rw [e,Ac] at z; cases z
    · rw [Ak e] at z; exact z
  have nml:m≠l:=fun e => by
    rw [e,Ak ncl.symm,Ac] at hm
    cases hm
  refine ⟨_,rfl,c,C,dx,_,rfl,(by rw [Ak ncm]; exact Ac),T.cl,T.nA,(by show 1 < 1000; decide),?_⟩
  have keep:∀ x o,H x=some o→x≠c→(upd (upd (upd (upd H l (.lst (ps.map V.ref))) c (.ins C dx (Bm "rooms" (.ref l) []))) m (.lst (qs.map V.ref))) c (.ins C dx (Bm "arrows" (.ref m) (Bm "rooms" (.ref l) [])))) x=some o:=fun x o e n => by
    rw [Ak n,Ak (Al e hm'),Ak n,Ak (Al e hl)]; exact e
  have hcl:(upd (upd (upd (upd H l (.lst (ps.map V.ref))) c (.ins C dx (Bm "rooms" (.ref l) []))) m (.lst (qs.map V.ref))) c (.ins C dx (Bm "arrows" (.ref m) (Bm "rooms" (.ref l) [])))) l=some (.lst (ps.map V.ref)):=by
    rw [Ak ncl.symm,Ak nml.symm,Ak ncl.symm,Ac]
  have hcm:(upd (upd (upd (upd H l (.lst (ps.map V.ref))) c (.ins C dx (Bm "rooms" (.ref l) []))) m (.lst (qs.map V.ref))) c (.ins C dx (Bm "arrows" (.ref m) (Bm "rooms" (.ref l) [])))) m=some (.lst (qs.map V.ref)):=by
    rw [Ak ncm.symm,Ac]
  have ntc:∀ p o,H p=some (.tup o)→p≠c:=fun p o e => F0 e hc (by intro z; cases z)
  generalize hH2:(upd (upd (upd (upd H l (.lst (ps.map V.ref))) c (.ins C dx (Bm "rooms" (.ref l) []))) m (.lst (qs.map V.ref))) c (.ins C dx (Bm "arrows" (.ref m) (Bm "rooms" (.ref l) []))))=H2 at keep hcl hcm ⊢
  have hcc:H2 c=some (.ins C dx (NR l m)):=by rw [← hH2]; exact Ac
  have hI2:AK H2 ps (R.map rV):=⟨hI.1,fun i p o e1 e2 => keep _ _ (hI.2 i p o e1 e2) (ntc _ _ (hI.2 i p o e1 e2))⟩
  have hJ2:AK H2 qs (As.map aV):=⟨hJ.1,fun i p o e1 e2 => keep _ _ (hJ.2 i p o e1 e2) (ntc _ _ (hJ.2 i p o e1 e2))⟩
  have hC2:A7 C H2 c R As:=⟨⟨dx,l,m,ps,qs,hcc,hcl,hI2,hcm,hJ2⟩,Nat.le_trans hG.most (by decide),by omega⟩
  refine ⟨_,rfl,c,R,As,rfl,hC2,hG,fun H3 s3 => ?_⟩
  refine ⟨_,rfl,c,R,As,rfl,hC2.same s3,hG,h20,hA,?_⟩
  refine q H3 (fun x o e n => s3 _ _ (keep x o e n)) (fun H4 k4 => ?_)
  have nma:m≠a:=fun e => by rw [e,ha] at hm'; cases hm'
  have nmb:m≠b:=fun e => by rw [e,hb] at hm'; cases hm'
  have nta:∀ p o,H p=some (.tup o)→p≠a:=fun p o e => F0 e ha (by intro z; cases z)
  have ntb:∀ p o,H p=some (.tup o)→p≠b:=fun p o e => F0 e hb (by intro z; cases z)
  refine ⟨⟨dx,l,m,ps,qs,k4 _ _ (s3 _ _ hcc) nac.symm nbc.symm,k4 _ _ (s3 _ _ hcl) nal.symm nbl.symm,⟨hI.1,fun i p o e1 e2 => k4 _ _ (s3 _ _ (hI2.2 i p o e1 e2)) (nta _ _ (hI.2 i p o e1 e2)) (ntb _ _ (hI.2 i p o e1 e2))⟩,
    k4 _ _ (s3 _ _ hcm) nma nmb,⟨hJ.1,fun i p o e1 e2 => k4 _ _ (s3 _ _ (hJ2.2 i p o e1 e2)) (nta _ _ (hJ.2 i p o e1 e2)) (ntb _ _ (hJ.2 i p o e1 e2))⟩⟩,Nat.le_trans hG.most (by decide),by omega⟩
end
end Toy
namespace Toy
open PySem L2
seal PySem.wpAny
section
variable {P:Program} {w:World} {K:PySem.W.Frag} {mg:Str→Option Value} {base:Heap}
def Ax (R:List Ai) (p:Nat):Str:=match R[p]? with
  | some r => r.2
  | Option.none => ""
theorem A4 {R:List Ai} {p:Nat} (h:p < R.length):Ax R p=R[p].2:=by
  unfold Ax; rw [List.getElem?_eq_getElem h]
theorem BP {R:List Ai} {p:Nat} (h:p < R.length):choosing R p=decide (Ax R p = "one"∨Ax R p = "keep"):=by
  rw [A4 h]; unfold choosing; rw [List.getElem?_eq_getElem h]
def Ch (R:List Ai) (mem:List Int) (goal r:Nat):List Nat :=
  if choosing R r=true then
    (if ((Rm.kidsN (Af R) r).filter fun p => Rm.wi (Af R) goal p)≠[] then (Rm.kidsN (Af R) r).filter fun p => Rm.wi (Af R) goal p
     else if Ax R r = "keep" then [(mem.getD r (-1)).toNat] else [(Rm.kidsN (Af R) r).headD 0])
  else Rm.kidsN (Af R) r
structure Fb (R:List Ai) (mem:List Int):Prop where
  len:mem.length=R.length
  keep:∀ r,r < R.length→Ax R r = "keep"→∃ k∈Rm.kidsN (Af R) r,mem.getD r (-1)=(k:Int)
theorem DC {R:List Ai} (hG:AY R) {r:Nat} (hr:r < R.length) (hc:choosing R r=true):Rm.kidsN (Af R) r≠[]:=by
  intro z
  have h1:=(hG.kind r R[r] (List.getElem?_eq_getElem hr)).2
  rw [Rm.kids_kidsN,z] at h1
  have h2:R[r].2 = "plain" := h1.mpr rfl
  rw [BP hr,A4 hr,h2] at hc
  exact absurd hc (by decide +kernel)
theorem IJ {l:List Nat} (h:l≠[]):l.headD 0∈l:=by
  cases l with
  | nil => exact absurd rfl h
  | cons x r => exact List.mem_cons_self
theorem Hf {R:List Ai} {r:Nat} (h:choosing R r=true):r < R.length:=by
  unfold choosing at h
  cases e:R[r]? with
  | none => rw [e] at h; cases h
  | some x => exact (List.getElem?_eq_some_iff.mp e).1
theorem DD {R:List Ai} {mem:List Int} (hG:AY R) (hM:Fb R mem) (goal:Nat):Rm.Pick (Af R) (Ch R mem goal):=by
  refine ⟨fun r c hc => ?_,fun r => ?_⟩
  · unfold Ch at hc
    by_cases h1:choosing R r=true
    · rw [if_pos h1] at hc
      by_cases h2:((Rm.kidsN (Af R) r).filter fun p => Rm.wi (Af R) goal p)≠[]
      · rw [if_pos h2] at hc; exact (List.mem_filter.mp hc).1
      · rw [if_neg h2] at hc
        by_cases h3:Ax R r = "keep"
        · rw [if_pos h3] at hc
          obtain ⟨k,hk,e⟩:=hM.keep r (Hf h1) h3
          rw [List.mem_singleton.mp hc,e,Int.toNat_natCast]; exact hk
        · rw [if_neg h3] at hc
          rw [List.mem_singleton.mp hc]
          exact IJ (DC hG (Hf h1) h1)
    · rw [if_neg h1] at hc; exact hc
  · unfold Ch
    have n1:=Rm.kidsN_nodup (Af R) r
    by_cases h1:choosing R r=true
    · rw [if_pos h1]
      by_cases h2:((Rm.kidsN (Af R) r).filter fun p => Rm.wi (Af R) goal p)≠[]
      · rw [if_pos h2]; exact List.Pairwise.filter _ n1
      · rw [if_neg h2]
        by_cases h3:Ax R r = "keep"
        · rw [if_pos h3]; simp
        · rw [if_neg h3]; simp
    · rw [if_neg h1]; exact n1
theorem OY (R:List Ai) (r:Nat):(Rm.kidsN (Af R) r).length≤R.length:=by
  unfold Rm.kidsN
  rw [Ay]
  have:=List.length_filter_le (fun j => decide (Rm.hold (Af R) j=(r:Int))) (List.range R.length)
  rw [List.length_range] at this
  exact this
theorem MY (hs:List Int) (r:Nat):(Rm.kids hs (r:Int)).map V.int=cV (Rm.kidsN hs r):=rfl
end
end Toy
namespace Toy
open PySem L2
seal PySem.wpAny
section
variable {P:Program} {w:World} {K:PySem.W.Frag} {mg:Str→Option Value} {base:Heap}
def HU (C:Addr):Sp:=fun vs H Q _ => ∃ (c mt:Addr) (R:List Ai) (A:List Aq) (mem:List Int) (r goal:Nat),vs=[.ref c,.int r,.int goal,.ref mt]∧A7 C H c R A∧AY R∧r < R.length∧goal < R.length∧H mt=some (.tup (mem.map V.int))∧Fb R mem ∧
  ∀ (l:Addr) (H':Hp),H l=Option.none→Ao H H'→H' l=some (.lst (cV (Ch R mem goal r)))→Q (.ref l) H'
theorem FT:AA ["chart", "room", "goal", "memory", "inner", "kind", "towards"] ["chart", "room", "goal", "memory"] (Ae CM):=⟨rfl,rfl,rfl,by decide +kernel,rfl,by decide +kernel,by decide +kernel⟩
theorem JX {f C fc fw:Addr} {fd fdc fdw:FuncData} (D:Am K mg "chosen" CM ["chart", "room", "goal", "memory"] f fd) (T:Dn K mg C) (Dc:Am K mg "children" BA ["chart", "room"] fc fdc) (Dw:Am K mg "within" BR ["chart", "room", "other"] fw fdw) :
    AD P w K mg base A9 2 f fd ["chart", "room", "goal", "memory"] (HU C):=by
  have Gc:AD P w K mg base A9 1 fc fdc ["chart", "room"] (Eg C):=EZ Dc T
  have Gw:AD P w K mg base A9 1 fw fdw ["chart", "room", "other"] (EJ C):=Fi Dw T
  refine D.fn.ok FT (fun vs H Q E h => ?_) (fun cdv A outer s H vs Q E hr h => ?_)
  · obtain ⟨c,mt,R,As,mem,r,goal,rfl,_⟩:=h
    rfl
  obtain ⟨c,mt,R,As,mem,r,goal,rfl,hC,hG,hr',hg,hm,hM,q⟩:=h
  obtain ⟨aK,hK,sK⟩:=T.choosing
  refine ⟨_,Ad (Ar (i := 4) FT.nd rfl (Or.inl rfl) (Ap Gc hr rfl Dc.mg Dc.fn.kp Dc.bd .nil AF (Aa (pv 0) (Aa (pv 1) Ab))))
    (Ad (Ar (i := 5) FT.nd rfl (Or.inl rfl) (An Aw (An Au (Bn (pv 0) rfl) (pv 1) (fun _ _ => rfl)) (AO T.kind rfl) (fun _ _ => rfl)))
    (Ad (A0 (AB Ew (pv 5) (HI rfl hK (v:=.ref aK) rfl) (by with_unfolding_all rfl)) (Aj (AM (pv 4))) AJ)
    (Ad (Fg (i := 6) ["place", "chart", "goal"] [Option.none,some 0,some 2] rfl FT.nd rfl rfl (Bu (pv 4)) (fun _ => AI (i := 0) (show (["place", "chart", "goal"]:List Str).Nodup by decide +kernel) rfl (Or.inl rfl))
        (fun _ => Es (B8 (Ap Gw hr rfl Dw.mg Dw.fn.kp Dw.bd .nil AF (Aa (pv 1) (Aa (pv 2) (Aa (pv 0) Ab)))))) (fun _ => pv 0)
        (N:=["chart", "room", "goal", "memory", "inner", "kind", "towards"]) (ks:=(Ae CM).names) rfl rfl (by decide +kernel) (by decide +kernel) (by decide +kernel) (by decide +kernel))
    (Ad (A0 (AB Lq (AG At (by rfl) T.len PySem.boot_len (Aa (pv 6) Ab)) Ah (AT _)) (Aj (AM (pv 6))) AJ)
    (Ad (A0 (AB Cz (pv 5) Be (AT _)) (Aj (AM (Bf (Aa (An Aw (pv 3) (pv 1) (fun _ _ => rfl)) Ab)))) AJ)
    (Aj (AM (Bf (Aa (An Au (pv 4) Ah (fun _ _ => rfl)) Ab))))))))),?_⟩
  have hlen:=OY R r
  have hrl:=hC.rl
  refine ⟨_,rfl,_,rfl,c,R,As,r,rfl,hC,fun l H1 hl s1 e1 => ?_⟩
  rw [MY] at e1
  obtain ⟨dx,la,ma,ps,qs,h1,h2,h3,h4,h5⟩:=(hC.same s1).ob
  obtain ⟨p,hp,hp2⟩:=BG h3 hr'
  refine ⟨_,rfl,c,C,dx,_,_,rfl,h1,T.cl,T.nR,Bc la ma,_,rfl,la,_,_,_,rfl,rfl,AE.of h2,hp,p,_,_,_,rfl,rfl,A2.of hp2,rfl,?_⟩
  refine ⟨_,rfl,aK,_,rfl,.inr (sK _),rfl,by decide +kernel,_,rfl,?_⟩
  show if (!Hc (V.str R[r].2) [V.str "one",V.str "keep"])=true then _ else _
  have ech:choosing R r=decide (R[r].2 = "one"∨R[r].2 = "keep"):=by
    unfold choosing; rw [List.getElem?_eq_getElem hr']
  rw [KN,← ech]
  cases hc:choosing R r with
  | false =>
    refine Bi ?_
    refine ⟨_,rfl,?_⟩
    refine q l H1 hl s1 ?_
    rw [e1]; unfold Ch
    rw [if_neg (by rw [hc]; decide)]
  | true =>
    refine A1 ?_
    refine ⟨_,rfl,l,rfl,⟨_,AE.of e1⟩,fun bk d hd => ?_⟩
    refine Fk (xs:=cV (Rm.kidsN (Af R) r)) (Pv:=fun i ys σ H' => ∃ v,σ = [v,some (.ref c),some (.int goal)]∧ys=cV (((Rm.kidsN (Af R) r).take i).filter fun p => Rm.wi (Af R) goal p)∧Ao H1 H')
      ⟨_,rfl,rfl,Ag hd _⟩ (fun i ys σ H2 _ _ ⟨_,_,_,s2⟩ => AE.of (s2 _ _ e1)) ?_ ?_
    · rintro i x ys σ H2 hx hDi ⟨v,rfl,hys,(s2:Ao _ _)⟩
      obtain ⟨k,hk,rfl⟩:=BX hx
      have htk:(Rm.kidsN (Af R) r).take (i + 1)=(Rm.kidsN (Af R) r).take i ++ [k]:=by rw [List.take_add_one,hk]; rfl
      refine ⟨_,rfl,_,rfl,_,rfl,c,R,As,goal,k,rfl,hC.same (s1.trans s2),hG.tree,hg,_,rfl,?_⟩
      cases hw:Rm.wi (Af R) goal k with
      | true =>
        refine Bi ?_
        refine ⟨_,rfl,hDi,?_,_,rfl,?_,AR s2 hd _⟩
        · rw [hys,Bb]
          have a1:=List.length_filter_le (fun p => Rm.wi (Af R) goal p) ((Rm.kidsN (Af R) r).take i)
          have a2:=List.length_take_le i (Rm.kidsN (Af R) r)
          have a3:((Rm.kidsN (Af R) r).take i).length≤(Rm.kidsN (Af R) r).length:=by rw [List.length_take]; omega
          exact Av (by omega)
        · rw [htk,List.filter_append,DK,← hys]
          have:([k].filter fun p => Rm.wi (Af R) goal p)=[k]:=by simp [hw]
          rw [this]; rfl
      | false =>
        refine A1 ?_
        refine ⟨hDi,_,rfl,?_,s2⟩
        rw [htk,List.filter_append]
        have:([k].filter fun p => Rm.wi (Af R) goal p)=[]:=by simp [hw]
        rw [this,List.append_nil]; exact hys
    rintro ys σ H2 hDn ⟨v,rfl,hys,(s2:Ao _ _)⟩
    rw [Bb,List.take_length] at hys
    have s12:=s1.trans s2
    have hd0:H d=Option.none:=s1.free hd
    have chE:Ch R mem goal r=(if ((Rm.kidsN (Af R) r).filter fun p => Rm.wi (Af R) goal p)≠[] then (Rm.kidsN (Af R) r).filter fun p => Rm.wi (Af R) goal p
        else if Ax R r = "keep" then [(mem.getD r (-1)).toNat] else [(Rm.kidsN (Af R) r).headD 0]):=by unfold Ch; rw [if_pos hc]
    refine ⟨_,rfl,d,_,rfl,.inl (AE.of hDn),_,_,rfl,rfl,_,rfl,?_⟩
    rw [hys,Bb]
    by_cases hne:((Rm.kidsN (Af R) r).filter fun p => Rm.wi (Af R) goal p)=[]
    · rw [hne]
      refine A1 ?_
      rw [if_neg (by rw [hne]; simp)] at chE
      refine ⟨_,rfl,rfl,_,rfl,?_⟩
      by_cases hkp:R[r].2 = "keep"
      · rw [decide_eq_true (show V.str R[r].2=V.str "keep" by rw [hkp])]
        refine Bi ?_
        have hkk:Ax R r = "keep" := by rw [A4 hr']; exact hkp
        obtain ⟨k,hk,ek⟩:=hM.keep r hr' hkk
        have hml:r < mem.length:=by rw [hM.len]; exact hr'
        have em:Jl (mem.map V.int) (r:Int)=some (.int (k:Int)):=by
          rw [CP hml]
          rw [List.getD_eq_getElem?_getD,List.getElem?_eq_getElem hml] at ek
          have ek':mem[r] = (k:Int):=ek
          rw [ek']
        refine ⟨_,rfl,_,rfl,mt,_,_,_,rfl,rfl,A2.of (s12 _ _ hm),em,(by show 1≤sizeLine; decide),fun t ht => ?_⟩
        refine q t _ (s12.free ht) (s12.trans (Ag ht _)) ?_
        rw [Ac,chE,if_pos hkk,ek,Int.toNat_natCast]; rfl
      · rw [decide_eq_false (show ¬ V.str R[r].2=V.str "keep" from fun z => hkp (by injection z))]
        refine A1 ?_
        have hkk:¬ Ax R r = "keep" := by rw [A4 hr']; exact hkp
        have hne2:=DC hG hr' hc
        have e0:(cV (Rm.kidsN (Af R) r))[0]? = some (.int ((Rm.kidsN (Af R) r).headD 0:Nat)):=by
          cases hz:Rm.kidsN (Af R) r with
          | nil => exact absurd hz hne2
          | cons x t => rfl
        refine ⟨_,rfl,l,_,_,_,rfl,rfl,AE.of (s2 _ _ e1),BN (j := 0) e0,(by show 1≤sizeLine; decide),fun t ht => ?_⟩
        refine q t _ (s12.free ht) (s12.trans (Ag ht _)) ?_
        rw [Ac,chE,if_neg hkk]; rfl
    · have hpos : 0 < ((Rm.kidsN (Af R) r).filter fun p => Rm.wi (Af R) goal p).length:=List.length_pos_iff.mpr hne
      rw [decide_eq_true (show (0:Int) < (((Rm.kidsN (Af R) r).filter fun p => Rm.wi (Af R) goal p).length:Int) by omega)]
      refine Bi ?_
      refine ⟨_,rfl,?_⟩
      refine q d H2 hd0 s12 ?_
      rw [hDn,hys,chE,if_pos hne]
end
end Toy
namespace Toy
open PySem L2
seal PySem.wpAny
section
variable {P:Program} {w:World} {K:PySem.W.Frag} {mg:Str→Option Value} {base:Heap}
theorem Np (f:Nat→List Nat) (l:List Nat) (i:Nat):((l.take i).flatMap f).length≤(l.flatMap f).length:=by
  conv => rhs; rw [← List.take_append_drop i l,List.flatMap_append,List.length_append]
  omega
def But (p:Addr) (H H1:Hp):Prop := ∀ b o,H b=some o→b≠p→H1 b=some o
def JL (C:Addr) (n:Nat):Sp:=fun vs H Q _ => ∃ (c mt:Addr) (R:List Ai) (A:List Aq) (mem:List Int) (r goal:Nat),vs=[.ref c,.int r,.int goal,.ref mt]∧A7 C H c R A∧AY R∧r < R.length∧goal < R.length∧H mt=some (.tup (mem.map V.int))∧Fb R mem∧R.length≤n + r ∧
  ∀ (l:Addr) (H':Hp),H l=Option.none→Ao H H'→H' l=some (.lst (cV (Rm.ent (Ch R mem goal) n r)))→Q (.ref l) H'
theorem GK:AA ["chart", "room", "goal", "memory", "kept", "inner"] ["chart", "room", "goal", "memory"] (Ae Cl):=⟨rfl,rfl,rfl,by decide +kernel,rfl,by decide +kernel,by decide +kernel⟩
theorem Lw {f C fh:Addr} {fd fdh:FuncData} {n:Nat} (D:Am K mg "entered" Cl ["chart", "room", "goal", "memory"] f fd) (T:Dn K mg C) (Dh:Am K mg "chosen" CM ["chart", "room", "goal", "memory"] fh fdh)
    (Gh:AD P w K mg base A9 2 fh fdh ["chart", "room", "goal", "memory"] (HU C)) (G:AD P w K mg base A9 (n + 3) f fd ["chart", "room", "goal", "memory"] (JL C n)):AD P w K mg base A9 (n + 4) f fd ["chart", "room", "goal", "memory"] (JL C (n + 1)):=by
  refine D.fn.ok GK (fun vs H Q E h => ?_) (fun cdv A outer s H vs Q E hr h => ?_)
  · obtain ⟨c,mt,R,As,mem,r,goal,rfl,_⟩:=h
    rfl
  obtain ⟨c,mt,R,As,mem,r,goal,rfl,hC,hG,hr',hg,hm,hM,hn,q⟩:=h
  refine ⟨_,Ad (Ar (i := 4) GK.nd rfl (Or.inl rfl) (Bf (Aa (pv 1) Ab)))
    (Ad (Bj PassesOwn.never rfl (Bu (Ap Gh (hr.mono (by omega)) rfl Dh.mg Dh.fn.kp Dh.bd .nil AF (Aa (pv 0) (Aa (pv 1) (Aa (pv 2) (Aa (pv 3) Ab)))))) (AI (i := 5) GK.nd rfl (Or.inl rfl))
      (Aj (AS (BC PySem.F.plainAttrs_list PySem.F.slot_list_extend PySem.F.type_list_extend NH (pv 4) (Aa (Ap G hr rfl D.mg D.fn.kp D.bd .nil AF (Aa (pv 0) (Aa (pv 5) (Aa (pv 2) (Aa (pv 3) Ab))))) Ab)))))
    (Aj (AM (pv 4)))),?_⟩
  refine ⟨_,rfl,(by show 1≤sizeLine; decide),fun kd hkd => ?_⟩
  have s1:Ao H (upd H kd (.lst [.int r])):=Ag hkd _
  have ek:(upd H kd (.lst [.int r])) kd=some (.lst (cV [r])):=Ac
  generalize upd H kd (.lst [.int r])=H1 at s1 ek ⊢
  refine ⟨_,rfl,_,rfl,_,rfl,_,rfl,c,mt,R,As,mem,r,goal,rfl,hC.same s1,hG,hr',hg,s1 _ _ hm,hM,fun cl H2 hcl s2 ecl => ?_⟩
  have s12:=s1.trans s2
  have nkc:cl≠kd:=fun z => by rw [z,ek] at hcl; cases hcl
  have P:=DD hG hM goal
  have hrl:=hG.most
  have hr2:r < (Af R).length:=by rw [Ay]; exact hr'
  refine ⟨cl,rfl,⟨_,AE.of ecl⟩,?_⟩
  refine B6 (xs:=cV (Ch R mem goal r)) (fun i σ H3 => ∃ v,σ = [some (.ref c),some (.int r),some (.int goal),some (.ref mt),some (.ref kd),v]∧But kd H2 H3∧H3 kd=some (.lst (cV (r :: ((Ch R mem goal r).take i).flatMap (Rm.ent (Ch R mem goal) n)))))
    ⟨_,rfl,fun b o e _ => e,s2 _ _ ek⟩ (fun i σ H3 _ ⟨_,_,k3,_⟩ => AE.of (k3 _ _ ecl nkc)) ?_ ?_
  · rintro i x σ H3 hx ⟨v,rfl,k3,e3⟩
    obtain ⟨k,hk,rfl⟩:=BX hx
    have hkm:k∈Ch R mem goal r:=List.mem_of_getElem? hk
    have hkk:=P.sub r k hkm
    have hkl:=(Rm.mem_kidsN.mp hkk).1
    rw [Ay] at hkl
    have hgt:=Rm.kid_gt hG.tree hkk
    have s3:Ao H H3:=fun b o e => k3 _ _ (s12 _ _ e) (Al e hkd)
    have htk:(Ch R mem goal r).take (i + 1)=(Ch R mem goal r).take i ++ [k]:=by rw [List.take_add_one,hk]; rfl
    refine ⟨_,rfl,.inl ⟨rfl,_,AE.of e3⟩,_,rfl,_,rfl,_,rfl,_,rfl,c,mt,R,As,mem,k,goal,rfl,hC.same s3,hG,hkl,hg,s3 _ _ hm,hM,by omega,fun el H4 hel s4 e4 => ?_⟩
    have nke:kd≠el:=Al e3 hel
    have ent1:=Rm.ent_len hG.tree P (n + 1) r hr2
    have tf:=Np (Rm.ent (Ch R mem goal) n) (Ch R mem goal r) (i + 1)
    have efl:((Ch R mem goal r).take (i + 1)).flatMap (Rm.ent (Ch R mem goal) n)=((Ch R mem goal r).take i).flatMap (Rm.ent (Ch R mem goal) n) ++ Rm.ent (Ch R mem goal) n k:=by
      rw [htk,List.flatMap_append]; simp
    refine ⟨kd,el,_,_,rfl,rfl,s4 _ _ e3,e4,?_,?_⟩
    · rw [Bb,Bb]
      have e5:(Rm.ent (Ch R mem goal) (n + 1) r).length=((Ch R mem goal r).flatMap (Rm.ent (Ch R mem goal) n)).length + 1:=rfl
      rw [Ay,e5] at ent1
      rw [efl,List.length_append] at tf
      rw [List.length_cons]
      exact Fo (by omega)
    · refine ⟨_,rfl,fun b o e n' => ?_,?_⟩
      · rw [Ak n']; exact s4 _ _ (k3 _ _ e n')
      · rw [Ac,efl,← DK]; rfl
  · rintro σ H3 ⟨v,rfl,k3,e3⟩
    rw [Bb,List.take_length] at e3
    refine ⟨_,rfl,?_⟩
    exact q kd H3 hkd (fun b o e => k3 _ _ (s12 _ _ e) (Al e hkd)) e3
theorem FA {f C fh:Addr} {fd fdh:FuncData} (D:Am K mg "entered" Cl ["chart", "room", "goal", "memory"] f fd) (T:Dn K mg C) (Dh:Am K mg "chosen" CM ["chart", "room", "goal", "memory"] fh fdh)
    (Gh:AD P w K mg base A9 2 fh fdh ["chart", "room", "goal", "memory"] (HU C)):∀ n:Nat,AD P w K mg base A9 (n + 3) f fd ["chart", "room", "goal", "memory"] (JL C n)
  | 0 => by
    have no:∀ vs H Q E,¬ JL C 0 vs H Q E:=fun vs H Q E h => by
      obtain ⟨c,mt,R,As,mem,r,goal,_,_,_,h1,_,_,_,h2,_⟩:=h
      omega
    exact ⟨fun vs H Q E h => absurd h (no vs H Q E),fun A outer s H args us vs Q E _ _ _ _ h => absurd h (no vs H Q E)⟩
  | n + 1 => Lw D T Dh Gh (FA D T Dh Gh n)
end
end Toy
namespace Toy
open PySem L2
seal PySem.wpAny
section
variable {P:Program} {w:World} {K:PySem.W.Frag} {mg:Str→Option Value} {base:Heap}
def GQ (R:List Ai):List Int:=(List.range R.length).map fun k => if Ax R k = "keep" then (((Rm.kidsN (Af R) k).headD 0:Nat):Int) else -1
theorem LA {R:List Ai} {k:Nat} (h:k < R.length):(GQ R).getD k (-1)=if Ax R k = "keep" then (((Rm.kidsN (Af R) k).headD 0:Nat):Int) else -1:=by
  unfold GQ
  rw [List.getD_eq_getElem?_getD,List.getElem?_map,List.getElem?_range h]; rfl
theorem Co {R:List Ai} {k:Nat} (h:k < R.length) (hk:Ax R k = "keep"):choosing R k=true:=by
  rw [BP h]; exact decide_eq_true (.inr hk)
theorem MX {R:List Ai} (hG:AY R):Fb R (GQ R):=by
  refine ⟨by simp [GQ],fun r hr hk => ⟨_,IJ (DC hG hr (Co hr hk)),?_⟩⟩
  rw [LA hr,if_pos hk]
end
end Toy
namespace Toy
open PySem L2
seal PySem.wpAny
section
variable {P:Program} {w:World} {K:PySem.W.Frag} {mg:Str→Option Value} {base:Heap}
def HR (C:Addr):Sp:=fun vs H Q _ => ∃ (c:Addr) (R:List Ai) (A:List Aq),vs=[.ref c]∧A7 C H c R A∧AY R ∧
  ∀ (t:Addr) (H':Hp),Ao H H'→H' t=some (.tup ((GQ R).map V.int))→Q (.ref t) H'
theorem Fw:AA ["chart", "memory", "room"] ["chart"] (Ae Cw):=⟨rfl,rfl,rfl,by decide +kernel,rfl,by decide +kernel,by decide +kernel⟩
theorem KJ {f C fc:Addr} {fd fdc:FuncData} (D:Am K mg "first_memory" Cw ["chart"] f fd) (T:Dn K mg C) (Dc:Am K mg "children" BA ["chart", "room"] fc fdc):AD P w K mg base A9 2 f fd ["chart"] (HR C):=by
  have Gc:AD P w K mg base A9 1 fc fdc ["chart", "room"] (Eg C):=EZ Dc T
  refine D.fn.ok Fw (fun vs H Q E h => ?_) (fun cdv A outer s H vs Q E hr h => ?_)
  · obtain ⟨c,R,As,rfl,_⟩:=h
    rfl
  obtain ⟨c,R,As,rfl,hC,hG,q⟩:=h
  refine ⟨_,Ad (Ar (i := 1) Fw.nd rfl (Or.inl rfl) (Bf Ab))
    (Ad (Bj PassesOwn.never rfl (AZ rfl T.range (Aa (AG At (by rfl) T.len PySem.boot_len (Aa (Bn (pv 0) rfl) Ab)) Ab)) (AI (i := 2) Fw.nd rfl (Or.inl rfl))
      (Aj (A0 (AB Cz (An Aw (An Au (Bn (pv 0) rfl) (pv 2) (fun _ _ => rfl)) (AO T.kind rfl) (fun _ _ => rfl)) Be (AT _))
        (Aj (AS (BC PySem.F.plainAttrs_list PySem.F.slot_list_append PySem.F.type_list_append AU (pv 1) (Aa (An Au (Ap Gc hr rfl Dc.mg Dc.fn.kp Dc.bd .nil AF (Aa (pv 0) (Aa (pv 2) Ab))) Ah (fun _ _ => rfl)) Ab))))
        (Aj (AS (BC PySem.F.plainAttrs_list PySem.F.slot_list_append PySem.F.type_list_append AU (pv 1) (Aa (AO T.nil rfl) Ab)))))))
    (Aj (AM (Ba Bv (by rfl) T.tup (by decide +kernel) (Aa (pv 1) Ab))))),?_⟩
  refine ⟨(by show 0≤sizeLine; decide),fun md hmd => ?_⟩
  have s1:Ao H (upd H md (.lst [])):=Ag hmd _
  have em:(upd H md (.lst [])) md=some (.lst []):=Ac
  generalize upd H md (.lst [])=H1 at s1 em ⊢
  obtain ⟨dx,la,ma,ps,qs,h1,h2,h3,h4,h5⟩:=hC.ob
  have hl:(ps.map V.ref).length=R.length:=by rw [List.length_map,h3.1,List.length_map]
  have hrl:=hC.rl
  refine ⟨_,rfl,c,C,dx,_,_,rfl,s1 _ _ h1,T.cl,T.nR,Bc la ma,la,_,rfl,.inl (AE.of (s1 _ _ h2)),_,rfl,by rw [hl]; omega,by rw [hl]; omega,?_⟩
  rw [hl]
  refine Br (fun i σ H2 => ∃ v,σ = [some (.ref c),some (.ref md),v]∧Ao H H2∧H2 md=some (.lst (((List.range i).map fun k => if Ax R k = "keep" then (((Rm.kidsN (Af R) k).headD 0:Nat):Int) else -1).map V.int)))
    ⟨_,rfl,s1,em⟩ ?_ ?_
  · rintro i σ H2 hi ⟨v,rfl,s2,e2⟩
    have hi':i < R.length:=by omega
    have ei:(0:Int) + (i:Int)=(i:Int):=by omega
    rw [ei]
    obtain ⟨p,hp,hp2⟩:=BG h3 hi'
    refine ⟨_,rfl,c,C,dx,_,_,rfl,s2 _ _ h1,T.cl,T.nR,Bc la ma,_,rfl,la,_,_,_,rfl,rfl,AE.of (s2 _ _ h2),hp,p,_,_,_,rfl,rfl,A2.of (s2 _ _ hp2),rfl,rfl,_,rfl,?_⟩
    have lenOk:(((List.range i).map fun k => if Ax R k = "keep" then (((Rm.kidsN (Af R) k).headD 0:Nat):Int) else -1).map V.int).length < sizeLine:=by
      rw [List.length_map,List.length_map,List.length_range]; exact Av (by omega)
    by_cases hkp:R[i].2 = "keep"
    · rw [decide_eq_true (show V.str R[i].2=V.str "keep" by rw [hkp])]
      refine Bi ?_
      have hkk:Ax R i = "keep" := by rw [A4 hi']; exact hkp
      have hne:=DC hG hi' (Co hi' hkk)
      refine ⟨_,rfl,.inl ⟨rfl,_,AE.of e2⟩,_,rfl,_,rfl,c,R,As,i,rfl,hC.same s2,fun kl H3 hkl s3 e3 => ?_⟩
      rw [MY] at e3
      have e0:(cV (Rm.kidsN (Af R) i))[0]? = some (.int ((Rm.kidsN (Af R) i).headD 0:Nat)):=by
        cases hz:Rm.kidsN (Af R) i with
        | nil => exact absurd hz hne
        | cons x t => rfl
      refine ⟨kl,_,_,_,rfl,rfl,AE.of e3,BN (j := 0) e0,md,_,_,rfl,rfl,s3 _ _ e2,lenOk,?_⟩
      refine ⟨_,rfl,AR (s2.trans s3) hmd _,?_⟩
      rw [Ac,List.range_succ,List.map_append,List.map_append]
      show _=some (HO.lst (_ ++ [V.int (if Ax R i = "keep" then _ else _)]))
      rw [if_pos hkk]
    · rw [decide_eq_false (show ¬ V.str R[i].2=V.str "keep" from fun z => hkp (by injection z))]
      refine A1 ?_
      have hkk:¬ Ax R i = "keep" := by rw [A4 hi']; exact hkp
      refine ⟨_,rfl,.inl ⟨rfl,_,AE.of e2⟩,md,_,_,rfl,rfl,e2,lenOk,?_⟩
      refine ⟨_,rfl,AR s2 hmd _,?_⟩
      rw [Ac,List.range_succ,List.map_append,List.map_append]
      show _=some (HO.lst (_ ++ [V.int (if Ax R i = "keep" then _ else _)]))
      rw [if_neg hkk]
  · rintro σ H2 ⟨v,rfl,s2,e2⟩
    refine ⟨_,rfl,md,_,rfl,.inl ⟨AE.of e2,fun t ht => ?_⟩⟩
    refine q t _ (s2.trans (Ag ht _)) ?_
    rw [Ac]
    have e:((R.length:Int)).toNat=R.length:=by omega
    rw [e]; rfl
end
end Toy
namespace Toy
open PySem L2
seal PySem.wpAny
section
variable {P:Program} {w:World} {K:PySem.W.Frag} {mg:Str→Option Value} {base:Heap}
def HQ (K:PySem.W.Frag):Sp:=fun vs H Q _ => ∃ (p:Addr) (ns:List Int),vs=[.ref p]∧AE K H p (ns.map V.int)∧ns.length < 64 ∧
  ∀ (t:Addr) (ns':List Int) (H':Hp),Ao H H'→ns'.Perm ns→ns'.Pairwise (·≤·)→H' t=some (.tup (ns'.map V.int))→Q (.ref t) H'
theorem On:AA ["rooms"] ["rooms"] (Ae Dx):=⟨rfl,rfl,rfl,by decide +kernel,rfl,by decide +kernel,by decide +kernel⟩
theorem JW {f C:Addr} {fd:FuncData} (D:Am K mg "rising" Dx ["rooms"] f fd) (T:Dn K mg C):AD P w K mg base A9 1 f fd ["rooms"] (HQ K):=by
  refine D.fn.ok On (fun vs H Q E h => ?_) (fun cdv A outer s H vs Q E hr h => ?_)
  · obtain ⟨p,ns,rfl,_⟩:=h
    rfl
  obtain ⟨p,ns,rfl,hS,h64,q⟩:=h
  refine ⟨_,Aj (AM (Ba Bv (by rfl) T.tup (by decide +kernel) (Aa (AG LV (by rfl) T.srt (by decide +kernel) (Aa (pv 0) Ab)) Ab))),?_⟩
  refine ⟨_,rfl,p,ns,rfl,hS,h64,fun l ns' hl hp hs => ?_⟩
  refine ⟨l,_,rfl,.inl ⟨AE.of Ac,fun t ht => ?_⟩⟩
  exact q t ns' _ ((Ag hl _).trans (Ag ht _)) hp hs Ac
def iN (l:List Nat):List Int:=l.map fun (j:Nat) => (j:Int)
end
end Toy
namespace Toy
open PySem L2
seal PySem.wpAny
section
variable {P:Program} {w:World} {K:PySem.W.Frag} {mg:Str→Option Value} {base:Heap}
def JJ (C:Addr):Sp:=fun vs H Q _ => ∃ (c:Addr) (R:List Ai) (A:List Aq),vs=[.ref c]∧A7 C H c R A∧AY R ∧
  ∀ (t k m:Addr) (ns:List Int) (H':Hp),Ao H H'→H' t=some (.tup [.ref k,.ref m])→H' k=some (.tup (ns.map V.int))→H' m=some (.tup ((GQ R).map V.int))→ns.Perm (iN (Rm.ent (Ch R (GQ R) 0) 16 0))→ns.Pairwise (·≤·)→Q (.ref t) H'
theorem JN:AA ["chart", "memory"] ["chart"] (Ae C5):=⟨rfl,rfl,rfl,by decide +kernel,rfl,by decide +kernel,by decide +kernel⟩
theorem Mi {f C ff fr fe fh fc fw:Addr} {fd fdf fdr fde fdh fdc fdw:FuncData} (D:Am K mg "started" C5 ["chart"] f fd) (T:Dn K mg C) (Df:Am K mg "first_memory" Cw ["chart"] ff fdf) (Dr:Am K mg "rising" Dx ["rooms"] fr fdr)
    (De:Am K mg "entered" Cl ["chart", "room", "goal", "memory"] fe fde) (Dh:Am K mg "chosen" CM ["chart", "room", "goal", "memory"] fh fdh) (Dc:Am K mg "children" BA ["chart", "room"] fc fdc) (Dw:Am K mg "within" BR ["chart", "room", "other"] fw fdw) :
    AD P w K mg base A9 20 f fd ["chart"] (JJ C):=by
  have Gf:AD P w K mg base A9 2 ff fdf ["chart"] (HR C):=KJ Df T Dc
  have Gr:AD P w K mg base A9 1 fr fdr ["rooms"] (HQ K):=JW Dr T
  have Ge:AD P w K mg base A9 19 fe fde ["chart", "room", "goal", "memory"] (JL C 16):=FA De T Dh (JX Dh T Dc Dw) 16
  refine D.fn.ok JN (fun vs H Q E h => ?_) (fun cdv A outer s H vs Q E hr h => ?_)
  · obtain ⟨c,R,As,rfl,_⟩:=h
    rfl
  obtain ⟨c,R,As,rfl,hC,hG,q⟩:=h
  refine ⟨_,Ad (Ar (i := 1) JN.nd rfl (Or.inl rfl) (Ap Gf (hr.mono (by decide)) rfl Df.mg Df.fn.kp Df.bd .nil AF (Aa (pv 0) Ab)))
    (Aj (AM (AX (Aa (Ap Gr (hr.mono (by decide)) rfl Dr.mg Dr.fn.kp Dr.bd .nil AF (Aa (Ap Ge hr rfl De.mg De.fn.kp De.bd .nil AF (Aa (pv 0) (Aa Ah (Aa Ah (Aa (pv 1) Ab))))) Ab)) (Aa (pv 1) Ab))))),?_⟩
  refine ⟨_,rfl,c,R,As,rfl,hC,hG,fun mt H1 s1 e1 => ?_⟩
  have hpos:=hG.tree.pos
  rw [Ay] at hpos
  have hM:=MX hG
  refine ⟨_,rfl,_,rfl,c,mt,R,As,GQ R,0,0,rfl,hC.same s1,hG,hpos,hpos,e1,hM,by have:=hG.most; omega,fun el H2 hel s2 e2 => ?_⟩
  have hlen:=Rm.ent_len hG.tree (DD hG hM 0) 16 0 hG.tree.pos
  rw [Ay] at hlen
  have hmost:=hG.most
  refine ⟨el,iN (Rm.ent (Ch R (GQ R) 0) 16 0),rfl,AE.of e2,by unfold iN; rw [List.length_map]; omega,fun kt ns H3 s3 hp hs e3 => ?_⟩
  refine ⟨_,rfl,(by show 2≤sizeLine; decide),fun t ht => ?_⟩
  have s4:=Ag ht (.tup [.ref kt,.ref mt])
  exact q t kt mt ns _ (s1.trans (s2.trans (s3.trans s4))) Ac (s4 _ _ e3) (s4 _ _ (s3 _ _ (s2 _ _ e1))) hp hs
end
end Toy
namespace Toy
open PySem L2
seal PySem.wpAny
section
variable {P:Program} {w:World} {K:PySem.W.Frag} {mg:Str→Option Value} {base:Heap}
def A6 (R:List Ai) (a:Aq):Nat:=(Bt R a.1.toNat a.2.2.2.1.toNat).getD 0
theorem FR {R:List Ai} {s t p:Nat} (h:Bt R s t=some p):p∈(Rm.chain (Af R) s).tail∧choosing R p=true∧Rm.li (Af R) t p=true:=by
  have h1:=List.mem_of_find?_eq_some h
  have h2:=List.find?_some h
  rw [Bool.and_eq_true] at h2
  exact ⟨h1,h2.1,h2.2⟩
theorem DU {R:List Ai} {a:Aq} (h:AW R a):A6 R a < R.length:=by
  obtain ⟨p,hp⟩:=h.sc
  obtain ⟨s,es,hs⟩:=h.src
  unfold A6
  rw [hp]
  have:=Rm.tail_lt (FR hp).1
  rw [es,Int.toNat_natCast] at this
  exact Nat.lt_trans this hs
def Nf (R:List Ai) (a b:Aq):Bool:=Rm.wi (Af R) (A6 R a) (A6 R b) || Rm.wi (Af R) (A6 R b) (A6 R a)
def Bo (cl:Nat→Nat→Bool):List Nat→Option (Nat×Nat)
  | [] => Option.none
  | x :: r => match r.find? (cl x) with
    | some y => some (x,y)
    | Option.none => Bo cl r
def Eb (R:List Ai) (A:List Aq) (i j:Nat):Bool:=match A[i]?,A[j]? with
  | some a,some b => Nf R a b
  | _,_ => false
theorem K0 {R:List Ai} {A:List Aq} {i j:Nat} {a b:Aq} (hi:A[i]? = some a) (hj:A[j]? = some b):Eb R A i j=Nf R a b:=by
  unfold Eb; rw [hi,hj]
def pairV (Q:VK) (H:Hp):Option (Nat×Nat)→Prop
  | Option.none => ∀ H',Ao H H'→Q .non H'
  | some (x,y) => ∀ t H',Ao H H'→H' t=some (.tup [.int x,.int y])→Q (.ref t) H'
theorem cutN (xs:List V) (k:Nat):Cs xs (some (k:Int)) Option.none=xs.drop k:=by
  unfold Cs
  rw [HT.sIx_nat,HT.sIx_none]
  by_cases h:k≤xs.length
  · rw [Nat.min_eq_left h]
    exact List.take_of_length_le (by rw [List.length_drop]; exact Nat.le_refl _)
  · rw [Nat.min_eq_right (by omega),List.drop_length,List.drop_eq_nil_of_le (by omega)]
    simp
theorem cV_drop (l:List Nat) (k:Nat):(cV l).drop k=cV (l.drop k):=by unfold cV; rw [List.map_drop,List.map_drop]
end
end Toy
namespace Toy
open PySem L2
seal PySem.wpAny
section
variable {P:Program} {w:World} {K:PySem.W.Frag} {mg:Str→Option Value} {base:Heap}
def HX (C:Addr):Sp:=fun vs H Q _ => ∃ (c:Addr) (R:List Ai) (A:List Aq) (i:Nat) (a:Aq),vs=[.ref c,.int i]∧A7 C H c R A∧AY R∧A[i]? = some a∧AW R a∧Q (.int (A6 R a)) H
theorem Lj:AA ["chart", "number", "arrow"] ["chart", "number"] (Ae Dz):=⟨rfl,rfl,rfl,by decide +kernel,rfl,by decide +kernel,by decide +kernel⟩
theorem NC {f C fs fl fw:Addr} {fd fds fdl fdw:FuncData} (D:Am K mg "arrow_scope" Dz ["chart", "number"] f fd) (T:Dn K mg C) (Ds:Am K mg "scope" Em ["chart", "source", "target"] fs fds) (Dl:Am K mg "lies_in" ER ["chart", "room", "other"] fl fdl) (Dw:Am K mg "within" BR ["chart", "room", "other"] fw fdw) :
    AD P w K mg base A9 4 f fd ["chart", "number"] (HX C):=by
  have Gs:AD P w K mg base A9 3 fs fds ["chart", "source", "target"] (Kr C):=Lu Ds T Dl Dw
  refine D.fn.ok Lj (fun vs H Q E h => ?_) (fun cdv A outer s H vs Q E hr h => ?_)
  · obtain ⟨c,R,As,i,a,rfl,_⟩:=h
    rfl
  obtain ⟨c,R,As,i,a,rfl,hC,hG,hia,hA,q⟩:=h
  refine ⟨_,Ad (Ar (i := 2) Lj.nd rfl (Or.inl rfl) (An Au (Bn (pv 0) rfl) (pv 1) (fun _ _ => rfl)))
    (Aj (AM (Ap Gs hr rfl Ds.mg Ds.fn.kp Ds.bd .nil AF (Aa (pv 0) (Aa (An Aw (pv 2) (AO T.src rfl) (fun _ _ => rfl)) (Aa (An Aw (pv 2) (AO T.tgt rfl) (fun _ _ => rfl)) Ab)))))),?_⟩
  obtain ⟨hi,rfl⟩:=List.getElem?_eq_some_iff.mp hia
  obtain ⟨dx,l,m,ps,qs,h1,h2,h3,h4,h5⟩:=hC.ob
  obtain ⟨p,hp,hp2⟩:=By h5 hi
  obtain ⟨sn,es,hs⟩:=hA.src
  obtain ⟨tn,et,ht⟩:=hA.tgt
  refine ⟨_,rfl,c,C,dx,_,_,rfl,h1,T.cl,T.nA,Bz l m,_,rfl,m,_,_,_,rfl,rfl,AE.of h4,hp,?_⟩
  refine ⟨_,rfl,_,rfl,p,_,_,_,rfl,rfl,A2.of hp2,rfl,_,rfl,p,_,_,_,rfl,rfl,A2.of hp2,rfl,c,R,As,sn,tn,(by rw [es,et]; rfl),hC,hG.tree,hs,ht,?_⟩
  obtain ⟨pp,hsc⟩:=hA.sc
  unfold A6 at q
  rw [hsc] at q
  rw [es,et,Int.toNat_natCast,Int.toNat_natCast] at hsc
  rw [hsc]
  exact q
def HS (C:Addr):Sp:=fun vs H Q _ => ∃ (c:Addr) (R:List Ai) (A:List Aq) (i j:Nat) (a b:Aq),vs=[.ref c,.int i,.int j]∧A7 C H c R A∧AY R∧A[i]? = some a∧A[j]? = some b∧AW R a∧AW R b∧Q (.bl (Nf R a b)) H
theorem Fx:AA ["chart", "first", "second", "one", "other"] ["chart", "first", "second"] (Ae Cy):=⟨rfl,rfl,rfl,by decide +kernel,rfl,by decide +kernel,by decide +kernel⟩
theorem Lx {f C fa fw:Addr} {fd fda fdw:FuncData} (D:Am K mg "clashing" Cy ["chart", "first", "second"] f fd) (T:Dn K mg C) (Da:Am K mg "arrow_scope" Dz ["chart", "number"] fa fda) (Ga:AD P w K mg base A9 4 fa fda ["chart", "number"] (HX C)) (Dw:Am K mg "within" BR ["chart", "room", "other"] fw fdw) :
    AD P w K mg base A9 5 f fd ["chart", "first", "second"] (HS C):=by
  have Gw:AD P w K mg base A9 1 fw fdw ["chart", "room", "other"] (EJ C):=Fi Dw T
  refine D.fn.ok Fx (fun vs H Q E h => ?_) (fun cdv A outer s H vs Q E hr h => ?_)
  · obtain ⟨c,R,As,i,j,a,b,rfl,_⟩:=h
    rfl
  obtain ⟨c,R,As,i,j,a,b,rfl,hC,hG,hi,hj,ha,hb,q⟩:=h
  refine ⟨_,Ad (Ar (i := 3) Fx.nd rfl (Or.inl rfl) (Ap Ga hr rfl Da.mg Da.fn.kp Da.bd .nil AF (Aa (pv 0) (Aa (pv 1) Ab))))
    (Ad (Ar (i := 4) Fx.nd rfl (Or.inl rfl) (Ap Ga hr rfl Da.mg Da.fn.kp Da.bd .nil AF (Aa (pv 0) (Aa (pv 2) Ab))))
    (Aj (AM (Oy (Ap Gw (hr.mono (by decide)) rfl Dw.mg Dw.fn.kp Dw.bd .nil AF (Aa (pv 0) (Aa (pv 3) (Aa (pv 4) Ab))))
      (GO (Ap Gw (hr.mono (by decide)) rfl Dw.mg Dw.fn.kp Dw.bd .nil AF (Aa (pv 0) (Aa (pv 4) (Aa (pv 3) Ab))))))))),?_⟩
  refine ⟨_,rfl,_,rfl,c,R,As,i,a,rfl,hC,hG,hi,ha,?_⟩
  refine ⟨_,rfl,_,rfl,c,R,As,j,b,rfl,hC,hG,hj,hb,?_⟩
  refine ⟨_,rfl,_,rfl,_,rfl,c,R,As,A6 R a,A6 R b,rfl,hC,hG.tree,DU ha,_,rfl,?_⟩
  unfold Nf at q
  cases e:Rm.wi (Af R) (A6 R a) (A6 R b) with
  | true =>
    rw [e,Bool.true_or] at q
    exact Bi q
  | false =>
    rw [e,Bool.false_or] at q
    refine A1 ?_
    exact ⟨_,rfl,_,rfl,_,rfl,c,R,As,A6 R b,A6 R a,rfl,hC,hG.tree,DU hb,q⟩
def JM (C:Addr):Sp:=fun vs H Q _ => ∃ (c n:Addr) (R:List Ai) (A:List Aq) (l:List Nat),vs=[.ref c,.ref n]∧A7 C H c R A∧AY R∧(∀ a∈A,AW R a)∧H n=some (.lst (cV l))∧l.length≤100∧(∀ i∈l,i < A.length)∧pairV Q H (Bo (Eb R A) l)
theorem Fe:AA ["chart", "numbers", "place", "first", "second"] ["chart", "numbers"] (Ae C6):=⟨rfl,rfl,rfl,by decide +kernel,rfl,by decide +kernel,by decide +kernel⟩
theorem Ly {f C fl:Addr} {fd fdl:FuncData} (D:Am K mg "clash_of" C6 ["chart", "numbers"] f fd) (T:Dn K mg C) (Dl:Am K mg "clashing" Cy ["chart", "first", "second"] fl fdl) (Gl:AD P w K mg base A9 5 fl fdl ["chart", "first", "second"] (HS C)) :
    AD P w K mg base A9 6 f fd ["chart", "numbers"] (JM C):=by
  refine D.fn.ok Fe (fun vs H Q E h => ?_) (fun cdv A outer s H vs Q E hr h => ?_)
  · obtain ⟨c,n,R,As,l,rfl,_⟩:=h
    rfl
  obtain ⟨c,n,R,As,l,rfl,hC,hG,hA,hn,hl,hlt,q⟩:=h
  refine ⟨_,Ad (Bj PassesOwn.never rfl (P9 rfl T.enum (Aa (pv 1) Ab)) (pg_tup (n := 2) rfl (Lm (AI (i := 2) Fe.nd rfl (Or.inl rfl)) (Lm (AI (i := 3) Fe.nd rfl (Or.inl rfl)) pgs_nil)))
      (Aj (Bj PassesOwn.never rfl (Bu (DG Eh (pv 1) (Et (AH BE (pv 2) Ah)) Eu)) (AI (i := 4) Fe.nd rfl (Or.inl rfl))
        (Aj (A0 (B8 (Ap Gl hr rfl Dl.mg Dl.fn.kp Dl.bd .nil AF (Aa (pv 0) (Aa (pv 3) (Aa (pv 4) Ab))))) (Aj (AM (AX (Aa (pv 3) (Aa (pv 4) Ab))))) AJ)))))
    (Aj (AM Cj)),?_⟩
  refine ⟨_,rfl,n,rfl,⟨_,AE.of hn⟩,?_⟩
  refine Pg (xs:=cV l) (fun i σ H1 => ∃ v2 v3 v4,σ = [some (.ref c),some (.ref n),v2,v3,v4]∧Ao H H1∧Bo (Eb R As) l=Bo (Eb R As) (l.drop i)) ⟨_,_,_,rfl,Ao.refl _,rfl⟩ (fun i σ H1 _ ⟨_,_,_,_,s1,_⟩ => AE.of (s1 _ _ hn)) ?_ ?_
  · rintro i x t σ H1 hx ht ⟨v2,v3,v4,rfl,s1,ep⟩
    obtain ⟨k,hk,rfl⟩:=BX hx
    have hkm:=List.mem_of_getElem? hk
    have hkb:=hlt k hkm
    have hka:As[k]? = some As[k]:=List.getElem?_eq_getElem hkb
    have hd:l.drop i=k :: l.drop (i + 1):=by
      obtain ⟨hi,e⟩:=List.getElem?_eq_some_iff.mp hk
      rw [List.drop_eq_getElem_cons hi,e]
    rw [hd] at ep
    have s2:Ao H (upd H1 t (.tup [.int i,.int k])):=s1.trans (Ag ht _)
    have et:(upd H1 t (.tup [.int i,.int k])) t=some (.tup [.int i,.int k]):=Ac
    generalize upd H1 t (.tup [.int i,.int k])=H2 at s2 et ⊢
    refine ⟨t,_,rfl,A2.of et,rfl,_,_,rfl,_,_,rfl,rfl,?_⟩
    refine ⟨_,rfl,_,rfl,_,_,rfl,rfl,_,rfl,n,_,rfl,AE.of (s2 _ _ hn),fun cl hcl => ?_⟩
    have ei:(i:Int) + 1=((i + 1:Nat):Int):=by omega
    have s3:=s2.trans (Ag hcl (.lst (Cs (cV l) (some ((i:Int) + 1)) Option.none)))
    have e3:(upd H2 cl (.lst (Cs (cV l) (some ((i:Int) + 1)) Option.none))) cl=some (.lst (cV (l.drop (i + 1)))):=by rw [Ac,ei,cutN,cV_drop]
    generalize upd H2 cl (.lst (Cs (cV l) (some ((i:Int) + 1)) Option.none))=H3 at s3 e3 ⊢
    refine ⟨cl,rfl,⟨_,AE.of e3⟩,?_⟩
    refine B6 (xs:=cV (l.drop (i + 1))) (fun m σ H4 => ∃ v4,σ = [some (.ref c),some (.ref n),some (.int i),some (.int k),v4]∧Ao H3 H4∧(l.drop (i + 1)).find? (Eb R As k)=((l.drop (i + 1)).drop m).find? (Eb R As k)) ⟨_,rfl,Ao.refl _,rfl⟩ (fun m σ H4 _ ⟨_,_,s4,_⟩ => AE.of (s4 _ _ e3)) ?_ ?_
    · rintro m y σ H4 hy ⟨v4,rfl,s4,ef⟩
      obtain ⟨j,hj,rfl⟩:=BX hy
      have hjm:j∈l:=List.mem_of_mem_drop (List.mem_of_getElem? hj)
      have hjb:=hlt j hjm
      have hja:As[j]? = some As[j]:=List.getElem?_eq_getElem hjb
      have hd2:(l.drop (i + 1)).drop m=j :: (l.drop (i + 1)).drop (m + 1):=by
        obtain ⟨hm,e⟩:=List.getElem?_eq_some_iff.mp hj
        rw [List.drop_eq_getElem_cons hm,e]
      rw [hd2,List.find?_cons,K0 hka hja] at ef
      have s34:=s3.trans s4
      refine ⟨_,rfl,_,rfl,_,rfl,c,R,As,k,j,As[k],As[j],rfl,hC.same s34,hG,hka,hja,hA _ (List.getElem_mem _),hA _ (List.getElem_mem _),_,rfl,?_⟩
      cases hb:Nf R As[k] As[j] with
      | true =>
        rw [hb] at ef
        refine Bi ?_
        refine ⟨_,rfl,_,rfl,(by show 2≤sizeLine; decide),fun u hu => ?_⟩
        have ef':(l.drop (i + 1)).find? (Eb R As k)=some j:=ef
        rw [ep] at q
        have:Bo (Eb R As) (k :: l.drop (i + 1))=some (k,j):=by
          show (match (l.drop (i + 1)).find? (Eb R As k) with | some y => some (k,y) | Option.none => Bo (Eb R As) (l.drop (i + 1)))=_
          rw [ef']
        rw [this] at q
        exact q u _ (s34.trans (Ag hu _)) Ac
      | false =>
        rw [hb] at ef
        refine A1 ?_
        exact ⟨_,rfl,s4,ef⟩
    · rintro σ H4 ⟨v4,rfl,s4,ef⟩
      rw [Bb,List.drop_length] at ef
      refine ⟨_,_,_,rfl,s3.trans s4,?_⟩
      rw [ep]
      show (match (l.drop (i + 1)).find? (Eb R As k) with | some y => some (k,y) | Option.none => Bo (Eb R As) (l.drop (i + 1)))=_
      rw [ef]; rfl
  · rintro σ H1 ⟨v2,v3,v4,rfl,s1,ep⟩
    rw [Bb,List.drop_length] at ep
    rw [ep] at q
    exact q H1 s1
end
end Toy
namespace Toy
open PySem L2
seal PySem.wpAny
section
variable {P:Program} {w:World} {K:PySem.W.Frag} {mg:Str→Option Value} {base:Heap}
def NU (p:V) (i j:Int):List (Str×V):=Bm "second" (.int j) (Bm "first" (.int i) [("events",p)])
def FL (C:Addr):Sp:=fun vs H Q _ => ∃ (a:Addr) (p:V) (i j:Int),vs=[.ref a,p,.int i,.int j]∧H a=some (XI a C Option.none)∧i.natAbs.log2 < 1920∧j.natAbs.log2 < 1920 ∧
  ∀ d,H d=Option.none→Q .non (upd (upd H a (XI a C (some d))) d (XD d (NU p i j)))
structure Ee (K:PySem.W.Frag) (mg:Str→Option Value) (C CE fI:Addr):Prop where
  x:Jh K C CE fI
  u:XSup K CE
  e:PySem.W.findIn K (.ref C) "events" = some none
  f:PySem.W.findIn K (.ref C) "first" = some none
  s:PySem.W.findIn K (.ref C) "second" = some none
  mgE:mg "ChartError" = some (.ref CE)
theorem MQ:AA ["self", "events", "first", "second"] ["self", "events", "first", "second"] (Ae Fz):=⟨rfl,rfl,rfl,by decide +kernel,rfl,by decide +kernel,by decide +kernel⟩
theorem OL {fI C CE:Addr} {fd:FuncData} (F:Nk K "__init__" "Clash.__init__" Fz fI fd) (T:Ee K mg C CE fI):AD P w K mg base A9 1 fI fd ["self", "events", "first", "second"] (FL C):=by
  refine F.ok MQ (fun vs H Q E h => ?_) (fun cdv A outer s H vs Q E hr h => ?_)
  · obtain ⟨a,p,i,j,rfl,_⟩:=h
    rfl
  obtain ⟨a,p,i,j,rfl,ha,hi,hj,q⟩:=h
  refine ⟨_,Ad (AS (Ox T.x T.u rfl T.mgE (Aa (pv 0) (Aa (KE (BU DQ (BU (Iq (pv 2)) (BU DQ (BU (Iq (pv 3)) (BU DQ KC)))))) Ab))))
    (Ad (Ff T.x T.e (pv 0) (pv 1))
    (Ad (Ff T.x T.f (pv 0) (pv 2))
    (Aj (Ff T.x T.s (pv 0) (pv 3))))),?_⟩
  refine ⟨_,rfl,⟨⟨trivial,⟨_,rfl,i,rfl,rfl,hi⟩,trivial,⟨_,rfl,j,rfl,rfl,hj⟩,trivial,trivial⟩,fun y => ?_⟩⟩
  refine ⟨a,Option.none,.str y,rfl,ha,?_⟩
  refine ⟨_,rfl,_,rfl,a,rfl,.inl ⟨ha,fun d hd => ?_⟩⟩
  have nda:d≠a:=fun z => by rw [z,ha] at hd; cases hd
  have e1:upd (upd H a (XI a C (some d))) d (XD d [("events",p)]) a=some (XI a C (some d)):=by rw [Ak (Ne.symm nda),Ac]
  refine ⟨_,rfl,_,rfl,a,rfl,.inr ⟨d,_,e1,Ac,nda,(by show 1 < 100; decide),?_⟩⟩
  rw [Hu]
  have e2:upd (upd H a (XI a C (some d))) d (XD d (Bm "first" (.int i) [("events",p)])) a=some (XI a C (some d)):=by rw [Ak (Ne.symm nda),Ac]
  refine ⟨_,rfl,_,rfl,a,rfl,.inr ⟨d,_,e2,Ac,nda,?_,?_⟩⟩
  · have:=C7 "first" (.int i) [("events",p)]
    simp only [List.length_cons,List.length_nil] at this
    omega
  rw [Hu]
  exact q d hd
end
end Toy
namespace Toy
open PySem L2
seal PySem.wpAny
section
variable {P:Program} {w:World} {K:PySem.W.Frag} {mg:Str→Option Value} {base:Heap}
theorem Pr {K:PySem.W.Frag} {a:Addr} {xs:List V} {g:TG} {tt:TT} {te:TE} {D:Addr} {Q:VK} {σ : St} {H:Hp} (Pv:Nat→List V→St→Hp→Prop) (h0:Pv 0 [] σ (upd H D (.lst [])))
    (hl:∀ i ys σ H,i≤xs.length→H D=some (.lst ys)→Pv i ys σ H→A2 K H a xs)
    (hs:∀ i x ys σ H,xs[i]? = some x→H D=some (.lst ys)→Pv i ys σ H→g x σ H fun σ2 H2 => tt σ2 H2 fun b H3 =>
      if b=true then te σ2 H3 fun y H4 => H4 D=some (.lst ys)∧ys.length < sizeLine∧Pv (i + 1) (ys ++ [y]) σ2 (upd H4 D (.lst (ys ++ [y]))) else H3 D=some (.lst ys)∧Pv (i + 1) ys σ2 H3)
    (hd:∀ ys σ H,H D=some (.lst ys)→Pv xs.length ys σ H→Q (.ref D) H) :
    FG (Itt K a) g tt te D Q σ (upd H D (.lst [])):=by
  refine ⟨fun i m σ H => m=xs.length - i∧i≤xs.length∧∃ ys,H D=some (.lst ys)∧Pv i ys σ H,⟨xs.length,by simp,Nat.zero_le _,[],Ac,h0⟩,?_⟩
  rintro i m σ H ⟨rfl,hi,ys,hD,p⟩
  have hq:=hl i ys σ H hi hD p
  by_cases hlt:i < xs.length
  · refine .inr ⟨⟨xs,xs[i],hq,by simp [hlt]⟩,fun y σ' H' => H' D=some (.lst ys)∧ys.length < sizeLine∧Pv (i + 1) (ys ++ [y]) σ' (upd H' D (.lst (ys ++ [y]))),fun σ' H' => H' D=some (.lst ys)∧Pv (i + 1) ys σ' H',
      fun y σ' H' q => ⟨ys,q.1,q.2.1,xs.length - (i + 1),by omega,rfl,hlt,_,Ac,q.2.2⟩,fun σ' H' q => ⟨xs.length - (i + 1),by omega,rfl,hlt,ys,q⟩,fun x H' y => ?_⟩
    obtain ⟨e,y⟩:=y
    subst e
    exact hs i x ys σ _ (y xs hq) hD p
  · have e:i=xs.length:=by omega
    subst e
    exact .inl ⟨⟨xs,hq,Nat.le_refl _⟩,hd ys σ H hD p⟩
def JG (R:List Ai) (a:Aq) (ks:List Nat):List Nat:=ks.filter fun k => !Rm.wi (Af R) k (A6 R a)
def Js (R:List Ai) (mem:List Int) (a:Aq) (ks:List Nat):List Nat:=JG R a ks ++ Rm.ent (Ch R mem a.2.2.2.1.toNat) 16 (A6 R a)
def MH (C:Addr):Sp:=fun vs H Q _ => ∃ (c kt mt:Addr) (R:List Ai) (A:List Aq) (mem:List Int) (ks:List Nat) (i:Nat) (a:Aq),vs=[.ref c,.ref kt,.ref mt,.int i]∧A7 C H c R A∧AY R∧A[i]? = some a∧AW R a ∧
  H kt=some (.tup (cV ks))∧(∀ k∈ks,k < R.length)∧ks.length≤40∧H mt=some (.tup (mem.map V.int))∧Fb R mem ∧
  ∀ (t:Addr) (ns:List Int) (H':Hp),Ao H H'→ns.Perm (iN (Js R mem a ks))→ns.Pairwise (·≤·)→H' t=some (.tup (ns.map V.int))→Q (.ref t) H'
theorem Kz:AA ["chart", "kept", "memory", "number", "outer", "staying"] ["chart", "kept", "memory", "number"] (Ae En):=⟨rfl,rfl,rfl,by decide +kernel,rfl,by decide +kernel,by decide +kernel⟩
theorem OG {f C fa fw fr fe fh:Addr} {fd fda fdw fdr fde fdh:FuncData} (D:Am K mg "moved" En ["chart", "kept", "memory", "number"] f fd) (T:Dn K mg C) (Da:Am K mg "arrow_scope" Dz ["chart", "number"] fa fda) (Ga:AD P w K mg base A9 4 fa fda ["chart", "number"] (HX C))
    (Dw:Am K mg "within" BR ["chart", "room", "other"] fw fdw) (Dr:Am K mg "rising" Dx ["rooms"] fr fdr) (De:Am K mg "entered" Cl ["chart", "room", "goal", "memory"] fe fde) (Ge:AD P w K mg base A9 19 fe fde ["chart", "room", "goal", "memory"] (JL C 16)) :
    AD P w K mg base A9 20 f fd ["chart", "kept", "memory", "number"] (MH C):=by
  have Gw:AD P w K mg base A9 1 fw fdw ["chart", "room", "other"] (EJ C):=Fi Dw T
  have Gr:AD P w K mg base A9 1 fr fdr ["rooms"] (HQ K):=JW Dr T
  refine D.fn.ok Kz (fun vs H Q E h => ?_) (fun cdv A outer s H vs Q E hr h => ?_)
  · obtain ⟨c,kt,mt,R,As,mem,ks,i,a,rfl,_⟩:=h
    rfl
  obtain ⟨c,kt,mt,R,As,mem,ks,i,a,rfl,hC,hG,hia,hA,hk,hks,hk4,hm,hM,q⟩:=h
  refine ⟨_,Ad (Ar (i := 4) Kz.nd rfl (Or.inr rfl) (Ap Ga (hr.mono (by decide)) rfl Da.mg Da.fn.kp Da.bd .nil AF (Aa (pv 0) (Aa (pv 3) Ab))))
    (Ad (Fg (i := 5) ["room", "chart", "outer"] [Option.none,some 0,some 4] rfl Kz.nd rfl rfl (Ov (pv 1))
      (fun _ => AI (i := 0) (show (["room", "chart", "outer"]:List Str).Nodup by decide +kernel) rfl (Or.inl rfl))
      (fun _ => Es (Di (B8 (Ap Gw (hr.mono (by decide)) rfl Dw.mg Dw.fn.kp Dw.bd .nil AF (Aa (pv 1) (Aa (pv 0) (Aa (pv 2) Ab)))))))
      (fun _ => pv 0) (N:=["chart", "kept", "memory", "number", "outer", "staying"]) (ks:=(Ae En).names) rfl rfl (by decide +kernel) (by decide +kernel) (by decide +kernel) (by decide +kernel))
    (Aj (AM (Ap Gr (hr.mono (by decide)) rfl Dr.mg Dr.fn.kp Dr.bd .nil AF (Aa (AH Ix (pv 5) (Ap Ge hr rfl De.mg De.fn.kp De.bd .nil AF
      (Aa (pv 0) (Aa (pv 4) (Aa (An Aw (An Au (Bn (pv 0) rfl) (pv 3) (fun _ _ => rfl)) (AO T.tgt rfl) (fun _ _ => rfl)) (Aa (pv 2) Ab)))))) Ab))))),?_⟩
  refine ⟨_,rfl,_,rfl,c,R,As,i,a,rfl,hC,hG,hia,hA,?_⟩
  refine ⟨_,rfl,kt,rfl,⟨_,A2.of hk⟩,fun bk d hd => ?_⟩
  refine Pr (xs:=cV ks) (Pv:=fun j ys σ H' => ∃ v,σ = [v,some (.ref c),some (.int (A6 R a))]∧ys=cV ((ks.take j).filter fun k => !Rm.wi (Af R) k (A6 R a))∧Ao H H')
    ⟨_,rfl,rfl,Ag hd _⟩ (fun i ys σ H2 _ _ ⟨_,_,_,s2⟩ => A2.of (s2 _ _ hk)) ?_ ?_
  · rintro j x ys σ H2 hx hDi ⟨v,rfl,hys,(s2:Ao _ _)⟩
    obtain ⟨k,hk2,rfl⟩:=BX hx
    have hkb:=hks k (List.mem_of_getElem? hk2)
    have htk:ks.take (j + 1)=ks.take j ++ [k]:=by rw [List.take_add_one,hk2]; rfl
    refine ⟨_,rfl,_,rfl,_,rfl,c,R,As,k,A6 R a,rfl,hC.same s2,hG.tree,hkb,_,rfl,?_⟩
    cases hb:Rm.wi (Af R) k (A6 R a) with
    | false =>
      refine Bi ?_
      refine ⟨_,rfl,hDi,?_,_,rfl,?_,AR s2 hd _⟩
      · rw [hys,Bb]
        have a1:=List.length_filter_le (fun k => !Rm.wi (Af R) k (A6 R a)) (ks.take j)
        have a3:(ks.take j).length≤ks.length:=by rw [List.length_take]; omega
        exact Av (by omega)
      · rw [htk,List.filter_append,DK,← hys]
        have:([k].filter fun k => !Rm.wi (Af R) k (A6 R a))=[k]:=by simp [hb]
        rw [this]; rfl
    | true =>
      refine A1 ?_
      refine ⟨hDi,_,rfl,?_,s2⟩
      rw [htk,List.filter_append]
      have:([k].filter fun k => !Rm.wi (Af R) k (A6 R a))=[]:=by simp [hb]
      rw [this,List.append_nil]; exact hys
  · rintro ys σ H2 hD2 ⟨v,_,hys,(s2:Ao _ _)⟩
    rw [Bb,List.take_length] at hys
    obtain ⟨hi,rfl⟩:=List.getElem?_eq_some_iff.mp hia
    obtain ⟨dx,l,m,ps,qs,h1,h2,h3,h4,h5⟩:=(hC.same s2).ob
    obtain ⟨p,hp,hp2⟩:=By h5 hi
    obtain ⟨tn,et,ht⟩:=hA.tgt
    have hsl:=DU hA
    have hmost:=hG.most
    refine ⟨_,rfl,_,rfl,_,rfl,_,rfl,c,C,dx,_,_,rfl,h1,T.cl,T.nA,Bz l m,_,rfl,m,_,_,_,rfl,rfl,AE.of h4,hp,p,_,_,_,rfl,rfl,A2.of hp2,rfl,?_⟩
    refine ⟨_,rfl,c,mt,R,As,mem,A6 R As[i],tn,(by rw [et]; rfl),hC.same s2,hG,hsl,ht,s2 _ _ hm,hM,(by omega),fun el H3 hel s3 e3 => ?_⟩
    have hlen:=Rm.ent_len hG.tree (DD hG hM tn) 16 (A6 R As[i]) (by rw [Ay]; exact hsl)
    rw [Ay] at hlen
    have hst:(JG R As[i] ks).length≤ks.length:=List.length_filter_le _ _
    refine ⟨d,el,_,_,rfl,rfl,s3 _ _ hD2,e3,?_,fun pl hpl => ?_⟩
    · rw [hys,Bb,Bb]
      exact Fo (by have:=hst; unfold JG at this; omega)
    refine ⟨pl,iN (Js R mem As[i] ks),rfl,AE.of (by
      rw [Ac,hys,← DK]
      unfold Js JG iN cV
      rw [et,Int.toNat_natCast,List.map_map]),?_,fun kt' ns H4 s4 hpm hso e4 => ?_⟩
    · unfold iN Js
      rw [List.length_map,List.length_append,et,Int.toNat_natCast]
      omega
    exact q kt' ns H4 (s2.trans (s3.trans ((Ag hpl _).trans s4))) hpm hso e4
end
end Toy
namespace Toy
open PySem L2
seal PySem.wpAny
section
variable {P:Program} {w:World} {K:PySem.W.Frag} {mg:Str→Option Value} {base:Heap}
def Jq (R:List Ai) (m:List Int) (k:Nat):List Int:=if 0≤Rm.hold (Af R) k∧Ax R (Rm.hold (Af R) k).toNat = "keep" then m.set (Rm.hold (Af R) k).toNat (k:Int) else m
def Hk (R:List Ai) (ks:List Nat) (mem:List Int):List Int:=ks.foldl (Jq R) mem
theorem Lk (R:List Ai) (m:List Int) (k:Nat):(Jq R m k).length=m.length:=by unfold Jq; split <;> simp
theorem Ij (R:List Ai) (ks:List Nat):∀ mem:List Int,(Hk R ks mem).length=mem.length:=by
  induction ks with
  | nil => intro mem; rfl
  | cons k ks ih => intro mem; show (Hk R ks (Jq R mem k)).length=_; rw [ih,Lk]
theorem ixN_at {n k:Nat} (h:k < n):O0 n (k:Int)=some k:=by
  unfold O0
  rw [if_pos (by omega),if_pos (by omega),Int.toNat_natCast]
def spRem (C:Addr):Sp:=fun vs H Q _ => ∃ (c kt mt:Addr) (R:List Ai) (A:List Aq) (mem:List Int) (ks:List Nat),vs=[.ref c,.ref kt,.ref mt]∧A7 C H c R A∧AY R ∧
  H kt=some (.tup (cV ks))∧(∀ k∈ks,k < R.length)∧H mt=some (.tup (mem.map V.int))∧mem.length=R.length ∧
  ∀ (t:Addr) (H':Hp),Ao H H'→H' t=some (.tup ((Hk R ks mem).map V.int))→Q (.ref t) H'
theorem MO:AA ["chart", "kept", "memory", "behind", "room", "holder"] ["chart", "kept", "memory"] (Ae B1):=⟨rfl,rfl,rfl,by decide +kernel,rfl,by decide +kernel,by decide +kernel⟩
theorem ok_rem {f C:Addr} {fd:FuncData} (D:Am K mg "remembered" B1 ["chart", "kept", "memory"] f fd) (T:Dn K mg C):AD P w K mg base A9 1 f fd ["chart", "kept", "memory"] (spRem C):=by
  refine D.fn.ok MO (fun vs H Q E h => ?_) (fun cdv A outer s H vs Q E hr h => ?_)
  · obtain ⟨c,kt,mt,R,As,mem,ks,rfl,_⟩:=h
    rfl
  obtain ⟨c,kt,mt,R,As,mem,ks,rfl,hC,hG,hk,hks,hm,hml,q⟩:=h
  refine ⟨_,Ad (Ar (i := 3) MO.nd rfl (Or.inl rfl) (Ba Bw (by rfl) T.list (by decide +kernel) (Aa (pv 2) Ab)))
    (Ad (Bj PassesOwn.never rfl (Ov (pv 1)) (AI (i := 4) MO.nd rfl (Or.inl rfl))
      (Ad (Ar (i := 5) MO.nd rfl (Or.inl rfl) (An Aw (An Au (Bn (pv 0) rfl) (pv 4) (fun _ _ => rfl)) (AO T.hold rfl) (fun _ _ => rfl)))
      (Aj (A0 (PW.pt (DF (AB EG (pv 5) (AO T.nil rfl) (AT _))
          (CZ (AB Cz (An Aw (An Au (Bn (pv 0) rfl) (pv 5) (fun _ _ => rfl)) (AO T.kind rfl) (fun _ _ => rfl)) Be (AT _)))))
        (Aj (Me (pv 4) (Mf (pv 3) (pv 5) Ia))) AJ))))
    (Aj (AM (Ba Bv (by rfl) T.tup (by decide +kernel) (Aa (pv 3) Ab))))),?_⟩
  obtain ⟨dx,l,m,ps,qs,h1,h2,h3,h4,h5⟩:=hC.ob
  have hmost:=hG.most
  refine ⟨_,rfl,mt,_,rfl,.inr (A2.of hm),fun bd hbd => ?_⟩
  have s0:=Ag hbd (.lst (mem.map V.int))
  have e0:(upd H bd (.lst (mem.map V.int))) bd=some (.lst (mem.map V.int)):=Ac
  generalize upd H bd (.lst (mem.map V.int))=H0 at s0 e0 ⊢
  refine ⟨_,rfl,kt,rfl,⟨_,A2.of (s0 _ _ hk)⟩,?_⟩
  refine for_tup (xs:=cV ks) (fun i σ H4 => ∃ v4 v5,σ = [some (.ref c),some (.ref kt),some (.ref mt),some (.ref bd),v4,v5]∧Ao H H4∧H4 bd=some (.lst ((Hk R (ks.take i) mem).map V.int)))
    ⟨_,_,rfl,s0,e0⟩ (fun i σ H4 _ ⟨_,_,_,s4,_⟩ => A2.of (s4 _ _ hk)) ?_ ?_
  · rintro i x σ H4 hx ⟨v4,v5,rfl,(s4:Ao _ _),e4⟩
    obtain ⟨k,hk2,rfl⟩:=BX hx
    have hkb:=hks k (List.mem_of_getElem? hk2)
    have htk:ks.take (i + 1)=ks.take i ++ [k]:=by rw [List.take_add_one,hk2]; rfl
    have hfold:Hk R (ks.take (i + 1)) mem=Jq R (Hk R (ks.take i) mem) k:=by rw [htk]; unfold Hk; rw [List.foldl_append]; rfl
    obtain ⟨p,hp,hp2⟩:=BG h3 hkb
    have eh:Rm.hold (Af R) k=R[k].1:=Cp (List.getElem?_eq_getElem hkb)
    refine ⟨_,rfl,c,C,dx,_,_,rfl,s4 _ _ h1,T.cl,T.nR,Bc l m,_,rfl,l,_,_,_,rfl,rfl,AE.of (s4 _ _ h2),hp,p,_,_,_,rfl,rfl,A2.of (s4 _ _ hp2),rfl,?_⟩
    refine ⟨_,rfl,rfl,_,rfl,?_⟩
    have hup:Rm.hold (Af R) k = -1∨(0≤Rm.hold (Af R) k∧Rm.hold (Af R) k < (k:Int)):=by
      by_cases z:k=0
      · subst z; exact .inl hG.tree.root
      · exact .inr (hG.tree.up k (by omega) (by rw [Ay]; exact hkb))
    have no:¬ (0≤Rm.hold (Af R) k∧Ax R (Rm.hold (Af R) k).toNat = "keep")→H4 bd=some (.lst ((Hk R (ks.take (i + 1)) mem).map V.int)):=fun y => by
      rw [hfold]
      unfold Jq
      rw [if_neg y]
      exact e4
    by_cases z:R[k].1 = -1
    · rw [decide_eq_true (show V.int R[k].1=V.int (-1) by rw [z])]
      refine A1 ?_
      refine A1 ?_
      exact ⟨_,_,rfl,s4,no (by rw [eh,z]; intro y; exact absurd y.1 (by decide))⟩
    · rw [decide_eq_false (show ¬ V.int R[k].1=V.int (-1) from fun y => z (by injection y))]
      refine Bi ?_
      rw [eh] at hup
      have z0 : 0≤R[k].1∧R[k].1 < (k:Int):=hup.resolve_left z
      obtain ⟨hn,en⟩ : ∃ hn:Nat,R[k].1=(hn:Int):=⟨R[k].1.toNat,by omega⟩
      have hnl:hn < R.length:=by omega
      obtain ⟨pr,hpr,hpr2⟩:=BG h3 hnl
      rw [en]
      have e2:(Rm.hold (Af R) k).toNat=hn:=by rw [eh,en]; omega
      refine ⟨_,rfl,c,C,dx,_,_,rfl,s4 _ _ h1,T.cl,T.nR,Bc l m,_,rfl,l,_,_,_,rfl,rfl,AE.of (s4 _ _ h2),hpr,pr,_,_,_,rfl,rfl,A2.of (s4 _ _ hpr2),rfl,rfl,_,rfl,?_⟩
      by_cases hkp:R[hn].2 = "keep"
      · rw [decide_eq_true (show V.str R[hn].2=V.str "keep" by rw [hkp])]
        refine Bi ?_
        have hl2:(Hk R (ks.take i) mem).length=R.length:=by rw [Ij]; exact hml
        refine ⟨_,rfl,_,rfl,_,rfl,bd,_,(hn:Int),hn,rfl,rfl,e4,ixN_at (by rw [List.length_map,hl2]; exact hnl),?_⟩
        refine ⟨_,_,rfl,AR s4 hbd _,?_⟩
        rw [Ac,hfold,← List.map_set]
        unfold Jq
        rw [if_pos ⟨by rw [eh,en]; omega,by rw [e2,A4 hnl]; exact hkp⟩,e2]
      · rw [decide_eq_false (show ¬ V.str R[hn].2=V.str "keep" from fun y => hkp (by injection y))]
        refine A1 ?_
        exact ⟨_,_,rfl,s4,no (by rw [e2,A4 hnl]; intro y; exact hkp y.2)⟩
  · rintro σ H4 ⟨v4,v5,rfl,(s4:Ao _ _),e4⟩
    rw [Bb,List.take_length] at e4
    refine ⟨_,rfl,bd,_,rfl,.inl ⟨AE.of e4,fun t ht => ?_⟩⟩
    exact q t _ (s4.trans (Ag ht _)) Ac
end
end Toy
namespace Toy
open PySem L2
seal PySem.wpAny
section
variable {P:Program} {w:World} {K:PySem.W.Frag} {mg:Str→Option Value} {base:Heap}
def Fr (a:Aq) (ks:List Int) (ev:Int):Bool:=(decide (a.2.1=ev) && decide (a.1∈ks)) && (decide (a.2.2.1 = -1) || decide (a.2.2.1∈ks))
def Lf (K:PySem.W.Frag):Sp:=fun vs H Q _ => ∃ (p kt:Addr) (a:Aq) (ks:List Int) (ev:Int),vs=[.ref p,.ref kt,.int ev]∧H p=some (.tup (aV a))∧A2 K H kt (ks.map V.int)∧Q (.bl (Fr a ks ev)) H
theorem Oo:AA ["arrow", "kept", "event"] ["arrow", "kept", "event"] (Ae DO):=⟨rfl,rfl,rfl,by decide +kernel,rfl,by decide +kernel,by decide +kernel⟩
theorem Mj {f C:Addr} {fd:FuncData} (D:Am K mg "is_open" DO ["arrow", "kept", "event"] f fd) (T:Dn K mg C):AD P w K mg base A9 1 f fd ["arrow", "kept", "event"] (Lf K):=by
  refine D.fn.ok Oo (fun vs H Q E h => ?_) (fun cdv A outer s H vs Q E hr h => ?_)
  · obtain ⟨p,kt,a,ks,ev,rfl,_⟩:=h
    rfl
  obtain ⟨p,kt,a,ks,ev,rfl,hp,hk,q⟩:=h
  refine ⟨_,Ad (A0 (PW.pt (Fq (AB EG (An Aw (pv 0) (AO T.evt rfl) (fun _ _ => rfl)) (pv 2) (AT _)) (EW (AB Ew (An Aw (pv 0) (AO T.src rfl) (fun _ _ => rfl)) (pv 1) (by with_unfolding_all rfl))))) (Aj (AM Ir)) AJ)
    (Aj (AM (Oy (DR Cz (An Aw (pv 0) (AO T.grd rfl) (fun _ _ => rfl)) (AO T.nil rfl) (AT _)) (GO (DR BB (An Aw (pv 0) (AO T.grd rfl) (fun _ _ => rfl)) (pv 1) (by with_unfolding_all rfl)))))),?_⟩
  unfold Fr at q
  refine ⟨_,rfl,p,_,_,_,rfl,rfl,A2.of hp,rfl,_,rfl,rfl,_,rfl,?_⟩
  by_cases h1:a.2.1=ev
  · refine Gj (show V.int a.2.1=V.int ev by rw [h1]) ?_
    rw [decide_eq_true h1,Bool.true_and] at q
    refine ⟨_,rfl,p,_,_,_,rfl,rfl,A2.of hp,rfl,_,rfl,kt,_,rfl,.inr hk,rfl,BW _,_,rfl,?_⟩
    show if (!Hc (V.int a.1) (ks.map V.int))=true then _ else _
    rw [C3]
    by_cases h2:a.1∈ks
    · rw [decide_eq_true h2] at q ⊢
      rw [Bool.true_and] at q
      refine A1 ?_
      refine ⟨_,rfl,p,_,_,_,rfl,rfl,A2.of hp,rfl,rfl,_,rfl,?_⟩
      by_cases h3:a.2.2.1 = -1
      · rw [decide_eq_true (show V.int a.2.2.1=V.int (-1) by rw [h3])]
        rw [decide_eq_true h3,Bool.true_or] at q
        exact Bi q
      · rw [decide_eq_false (show ¬ V.int a.2.2.1=V.int (-1) from fun z => h3 (by injection z))]
        rw [decide_eq_false h3,Bool.false_or] at q
        refine A1 ?_
        refine ⟨_,rfl,p,_,_,_,rfl,rfl,A2.of hp,rfl,_,rfl,kt,_,rfl,.inr hk,rfl,BW _,?_⟩
        show Q (.bl (Hc (V.int a.2.2.1) (ks.map V.int))) H
        rw [C3]; exact q
    · rw [decide_eq_false h2] at q ⊢
      rw [Bool.false_and] at q
      exact Bi q
  · rw [decide_eq_false (show ¬ V.int a.2.1=V.int ev from fun z => h1 (by injection z))]
    rw [decide_eq_false h1,Bool.false_and,Bool.false_and] at q
    refine Bi ?_
    exact Bi q
def CN (A:List Aq) (ks:List Int) (ev:Int) (k:Nat):Bool:=match A[k]? with
  | some a => Fr a ks ev
  | Option.none => false
def AN (A:List Aq) (ks:List Int) (ev:Int):List Nat:=(List.range A.length).filter (CN A ks ev)
theorem EU {A:List Aq} {ks:List Int} {ev:Int}:∀ i∈AN A ks ev,i < A.length:=fun i hi => List.mem_range.mp (List.mem_filter.mp hi).1
theorem GN (A:List Aq) (ks:List Int) (ev:Int):(AN A ks ev).length≤A.length:=by
  unfold AN
  have:=List.length_filter_le (CN A ks ev) (List.range A.length)
  rwa [List.length_range] at this
def FJ (K:PySem.W.Frag) (C:Addr):Sp:=fun vs H Q _ => ∃ (c kt:Addr) (R:List Ai) (A:List Aq) (ks:List Int) (ev:Int),vs=[.ref c,.ref kt,.int ev]∧A7 C H c R A∧A2 K H kt (ks.map V.int) ∧
  ∀ (l:Addr) (H':Hp),H l=Option.none→Ao H H'→H' l=some (.lst (cV (AN A ks ev)))→Q (.ref l) H'
theorem Ao.sqt {K:PySem.W.Frag} {H H':Hp} {a:Addr} {xs:List V} (e:Ao H H') (h:A2 K H a xs):A2 K H' a xs:=by
  rcases h with (h | ⟨o,h⟩) | h
  · exact .inl (.inl (e _ _ h))
  · exact .inl (.inr ⟨o,e _ _ h⟩)
  · exact .inr h
theorem Ky:AA ["chart", "kept", "event"] ["chart", "kept", "event"] (Ae BJ):=⟨rfl,rfl,rfl,by decide +kernel,rfl,by decide +kernel,by decide +kernel⟩
theorem Iy {f C fo:Addr} {fd fdo:FuncData} (D:Am K mg "open_arrows" BJ ["chart", "kept", "event"] f fd) (T:Dn K mg C) (Do:Am K mg "is_open" DO ["arrow", "kept", "event"] fo fdo):AD P w K mg base A9 2 f fd ["chart", "kept", "event"] (FJ K C):=by
  have Go:AD P w K mg base A9 1 fo fdo ["arrow", "kept", "event"] (Lf K):=Mj Do T
  refine D.fn.ok Ky (fun vs H Q E h => ?_) (fun cdv A outer s H vs Q E hr h => ?_)
  · obtain ⟨c,kt,R,As,ks,ev,rfl,_⟩:=h
    rfl
  obtain ⟨c,kt,R,As,ks,ev,rfl,hC,hk,q⟩:=h
  refine ⟨_,Aj (AM (Cg ["number", "chart", "event", "kept"] [Option.none,some 0,some 2,some 1] rfl
    (AZ rfl T.range (Aa (AG At (by rfl) T.len PySem.boot_len (Aa (Bn (pv 0) rfl) Ab)) Ab))
    (fun _ => AI (i := 0) (show (["number", "chart", "event", "kept"]:List Str).Nodup by decide +kernel) rfl (Or.inl rfl))
    (fun _ => Es (B8 (Ap Go hr rfl Do.mg Do.fn.kp Do.bd .nil AF (Aa (An Au (Bn (pv 1) rfl) (pv 0) (fun _ _ => rfl)) (Aa (pv 3) (Aa (pv 2) Ab))))))
    (fun _ => pv 0) (N:=["chart", "kept", "event"]) (ks:=(Ae BJ).names) rfl rfl (by decide +kernel) (by decide +kernel) (by decide +kernel) (by decide +kernel))),?_⟩
  obtain ⟨dx,l,m,ps,qs,h1,h2,h3,h4,h5⟩:=hC.ob
  have hl:(qs.map V.ref).length=As.length:=by rw [List.length_map,h5.1,List.length_map]
  have hal:=hC.al
  refine ⟨_,rfl,c,C,dx,_,_,rfl,h1,T.cl,T.nA,Bz l m,m,_,rfl,.inl (AE.of h4),_,rfl,by rw [hl]; omega,by rw [hl]; omega,fun bk d hd => ?_⟩
  rw [hl]
  refine EB (Pv:=fun i ys σ H' => ∃ v,σ = [v,some (.ref c),some (.int ev),some (.ref kt)]∧ys=cV ((List.range i).filter (CN As ks ev))∧Ao H H') ⟨_,rfl,rfl,Ag hd _⟩ ?_ ?_
  · rintro i ys σ H1 hi hDi ⟨v,rfl,hys,(s1:Ao _ _)⟩
    have hi':i < As.length:=by omega
    obtain ⟨p,hp,hp2⟩:=By h5 hi'
    have ei:(0:Int) + (i:Int)=(i:Int):=by omega
    rw [ei]
    have eo:CN As ks ev i=Fr As[i] ks ev:=by unfold CN; rw [List.getElem?_eq_getElem hi']
    refine ⟨_,rfl,c,C,dx,_,_,rfl,s1 _ _ h1,T.cl,T.nA,Bz l m,_,rfl,m,_,_,_,rfl,rfl,AE.of (s1 _ _ h4),hp,_,rfl,_,rfl,p,kt,As[i],ks,ev,rfl,s1 _ _ hp2,Ao.sqt s1 hk,_,rfl,?_⟩
    rw [← eo]
    refine GS (fun z => ?_) (fun z => ?_)
    · refine ⟨_,rfl,hDi,?_,_,rfl,?_,AR s1 hd _⟩
      · rw [hys,Bb]
        have:=List.length_filter_le (CN As ks ev) (List.range i)
        rw [List.length_range] at this
        exact Av (by omega)
      · rw [Rm.range_filter_succ,if_pos z,DK,← hys]; rfl
    · refine ⟨hDi,_,rfl,?_,s1⟩
      rw [Rm.range_filter_succ,if_neg z,List.append_nil]; exact hys
  · rintro ys σ H1 hDn ⟨v,rfl,hys,(s1:Ao _ _)⟩
    refine q d H1 hd s1 ?_
    rw [hDn,hys]
    have e:((As.length:Int)).toNat=As.length:=by omega
    rw [e]; rfl
def BZ (A:List Aq) (k:Nat):Nat:=match A[k]? with
  | some a => a.1.toNat
  | Option.none => 0
def DH (R:List Ai) (A:List Aq) (rd:List Nat) (k:Nat):Bool:=rd.any fun o => Rm.li (Af R) (BZ A o) (BZ A k)
theorem Hv {R:List Ai} {A:List Aq} (hA:∀ a∈A,AW R a) {k:Nat} (hk:k < A.length):A[k].1=((BZ A k:Nat):Int)∧BZ A k < R.length:=by
  obtain ⟨s,es,hs⟩:=(hA _ (List.getElem_mem hk)).src
  unfold BZ
  rw [List.getElem?_eq_getElem hk]
  simp only
  rw [es,Int.toNat_natCast]
  exact ⟨rfl,hs⟩
def Of (C:Addr):Sp:=fun vs H Q _ => ∃ (c n:Addr) (R:List Ai) (A:List Aq) (k:Nat) (rd:List Nat),vs=[.ref c,.int k,.ref n]∧A7 C H c R A∧AY R∧(∀ a∈A,AW R a)∧k < A.length∧H n=some (.lst (cV rd))∧(∀ i∈rd,i < A.length)∧Q (.bl (DH R A rd k)) H
theorem Ma:AA ["chart", "number", "ready", "source", "other"] ["chart", "number", "ready"] (Ae G5):=⟨rfl,rfl,rfl,by decide +kernel,rfl,by decide +kernel,by decide +kernel⟩
theorem ok_over {f C fl fw:Addr} {fd fdl fdw:FuncData} (D:Am K mg "overruled" G5 ["chart", "number", "ready"] f fd) (T:Dn K mg C) (Dl:Am K mg "lies_in" ER ["chart", "room", "other"] fl fdl) (Dw:Am K mg "within" BR ["chart", "room", "other"] fw fdw):AD P w K mg base A9 3 f fd ["chart", "number", "ready"] (Of C):=by
  have Gl:AD P w K mg base A9 2 fl fdl ["chart", "room", "other"] (L7 C):=MU Dl T Dw
  refine D.fn.ok Ma (fun vs H Q E h => ?_) (fun cdv A outer s H vs Q E hr h => ?_)
  · obtain ⟨c,n,R,As,k,rd,rfl,_⟩:=h
    rfl
  obtain ⟨c,n,R,As,k,rd,rfl,hC,hG,hA,hk,hn,hlt,q⟩:=h
  refine ⟨_,Ad (Ar (i := 3) Ma.nd rfl (Or.inl rfl) (An Aw (An Au (Bn (pv 0) rfl) (pv 1) (fun _ _ => rfl)) (AO T.src rfl) (fun _ _ => rfl)))
    (Ad (Bj PassesOwn.never rfl (Bu (pv 2)) (AI (i := 4) Ma.nd rfl (Or.inl rfl))
      (Aj (A0 (B8 (Ap Gl hr rfl Dl.mg Dl.fn.kp Dl.bd .nil AF (Aa (pv 0) (Aa (An Aw (An Au (Bn (pv 0) rfl) (pv 4) (fun _ _ => rfl)) (AO T.src rfl) (fun _ _ => rfl)) (Aa (pv 3) Ab))))) (Aj (AM Ir)) AJ)))
    (Aj (AM Ir))),?_⟩
  obtain ⟨dx,l,m,ps,qs,h1,h2,h3,h4,h5⟩:=hC.ob
  obtain ⟨p,hp,hp2⟩:=By h5 hk
  obtain ⟨ek,hkl⟩:=Hv hA hk
  refine ⟨_,rfl,c,C,dx,_,_,rfl,h1,T.cl,T.nA,Bz l m,_,rfl,m,_,_,_,rfl,rfl,AE.of h4,hp,p,_,_,_,rfl,rfl,A2.of hp2,rfl,?_⟩
  refine ⟨_,rfl,n,rfl,⟨_,AE.of hn⟩,?_⟩
  refine B6 (xs:=cV rd) (fun i σ H1 => ∃ v,σ = [some (.ref c),some (.int k),some (.ref n),some (.int As[k].1),v]∧H1=H∧DH R As rd k=(rd.drop i).any fun o => Rm.li (Af R) (BZ As o) (BZ As k)) ⟨_,rfl,rfl,rfl⟩ (fun i σ H1 _ ⟨_,_,e1,_⟩ => by rw [e1]; exact AE.of hn) ?_ ?_
  · rintro i x σ H1 hx ⟨v,rfl,rfl,eo⟩
    obtain ⟨o,ho,rfl⟩:=BX hx
    have hob:=hlt o (List.mem_of_getElem? ho)
    obtain ⟨eo2,hol⟩:=Hv hA hob
    obtain ⟨p',hp',hp2'⟩:=By h5 hob
    have hd:rd.drop i=o :: rd.drop (i + 1):=by
      obtain ⟨hi,e⟩:=List.getElem?_eq_some_iff.mp ho
      rw [List.drop_eq_getElem_cons hi,e]
    rw [hd,List.any_cons] at eo
    refine ⟨_,rfl,_,rfl,c,C,dx,_,_,rfl,h1,T.cl,T.nA,Bz l m,_,rfl,m,_,_,_,rfl,rfl,AE.of h4,hp',p',_,_,_,rfl,rfl,A2.of hp2',rfl,_,rfl,c,R,As,BZ As o,BZ As k,(by rw [eo2,ek]; rfl),hC,hG.tree,hol,_,rfl,?_⟩
    cases hb:Rm.li (Af R) (BZ As o) (BZ As k) with
    | true =>
      rw [hb,Bool.true_or] at eo
      rw [eo] at q
      exact Bi q
    | false =>
      rw [hb,Bool.false_or] at eo
      refine A1 ?_
      exact ⟨_,rfl,rfl,eo⟩
  · rintro σ H1 ⟨v,rfl,rfl,eo⟩
    rw [Bb,List.drop_length] at eo
    rw [eo] at q
    exact q
def GG (R:List Ai) (A:List Aq) (ks:List Int) (ev:Int):List Nat:=(AN A ks ev).filter fun k => !DH R A (AN A ks ev) k
theorem DM {R:List Ai} {A:List Aq} {ks:List Int} {ev:Int}:∀ i∈GG R A ks ev,i < A.length:=fun i hi => EU i (List.mem_filter.mp hi).1
theorem EH (R:List Ai) (A:List Aq) (ks:List Int) (ev:Int):(GG R A ks ev).length≤A.length :=
  Nat.le_trans (List.length_filter_le _ _) (GN A ks ev)
theorem La (R:List Ai) (A:List Aq) (ks:List Int) (ev:Int):(GG R A ks ev).Pairwise (· < ·):=List.Pairwise.filter _ (List.Pairwise.filter _ List.pairwise_lt_range)
def HN (K:PySem.W.Frag) (C:Addr):Sp:=fun vs H Q _ => ∃ (c kt:Addr) (R:List Ai) (A:List Aq) (ks:List Int) (ev:Int),vs=[.ref c,.ref kt,.int ev]∧A7 C H c R A∧AY R∧(∀ a∈A,AW R a)∧A2 K H kt (ks.map V.int) ∧
  ∀ (l:Addr) (H':Hp),H l=Option.none→Ao H H'→H' l=some (.lst (cV (GG R A ks ev)))→Q (.ref l) H'
theorem Ic:AA ["chart", "kept", "event", "ready"] ["chart", "kept", "event"] (Ae Ce):=⟨rfl,rfl,rfl,by decide +kernel,rfl,by decide +kernel,by decide +kernel⟩
theorem Lr {f C fa fv:Addr} {fd fda fdv:FuncData} (D:Am K mg "takeable" Ce ["chart", "kept", "event"] f fd) (T:Dn K mg C) (Da:Am K mg "open_arrows" BJ ["chart", "kept", "event"] fa fda) (Ga:AD P w K mg base A9 2 fa fda ["chart", "kept", "event"] (FJ K C))
    (Dv:Am K mg "overruled" G5 ["chart", "number", "ready"] fv fdv) (Gv:AD P w K mg base A9 3 fv fdv ["chart", "number", "ready"] (Of C)):AD P w K mg base A9 4 f fd ["chart", "kept", "event"] (HN K C):=by
  refine D.fn.ok Ic (fun vs H Q E h => ?_) (fun cdv A outer s H vs Q E hr h => ?_)
  · obtain ⟨c,kt,R,As,ks,ev,rfl,_⟩:=h
    rfl
  obtain ⟨c,kt,R,As,ks,ev,rfl,hC,hG,hA,hk,q⟩:=h
  refine ⟨_,Ad (Ar (i := 3) Ic.nd rfl (Or.inr rfl) (Ap Ga (hr.mono (by decide)) rfl Da.mg Da.fn.kp Da.bd .nil AF (Aa (pv 0) (Aa (pv 1) (Aa (pv 2) Ab)))))
    (Aj (AM (Cg ["number", "chart", "ready"] [Option.none,some 0,some 3] rfl (Bu (pv 3))
      (fun _ => AI (i := 0) (show (["number", "chart", "ready"]:List Str).Nodup by decide +kernel) rfl (Or.inl rfl))
      (fun _ => Es (Di (B8 (Ap Gv hr rfl Dv.mg Dv.fn.kp Dv.bd .nil AF (Aa (pv 1) (Aa (pv 0) (Aa (pv 2) Ab)))))))
      (fun _ => pv 0) (N:=["chart", "kept", "event", "ready"]) (ks:=(Ae Ce).names) rfl rfl (by decide +kernel) (by decide +kernel) (by decide +kernel) (by decide +kernel)))),?_⟩
  have hal:=hC.al
  refine ⟨_,rfl,_,rfl,_,rfl,c,kt,R,As,ks,ev,rfl,hC,hk,fun rl H1 hrl s1 e1 => ?_⟩
  refine ⟨_,rfl,rl,rfl,⟨_,AE.of e1⟩,fun bk d hd => ?_⟩
  have hrd:=GN As ks ev
  refine Fk (xs:=cV (AN As ks ev)) (Pv:=fun i ys σ H' => ∃ v,σ = [v,some (.ref c),some (.ref rl)]∧ys=cV (((AN As ks ev).take i).filter fun k => !DH R As (AN As ks ev) k)∧Ao H1 H')
    ⟨_,rfl,rfl,Ag hd _⟩ (fun i ys σ H2 _ _ ⟨_,_,_,s2⟩ => AE.of (s2 _ _ e1)) ?_ ?_
  · rintro i x ys σ H2 hx hDi ⟨v,rfl,hys,(s2:Ao _ _)⟩
    obtain ⟨k,hk2,rfl⟩:=BX hx
    have hkb:=EU k (List.mem_of_getElem? hk2)
    have htk:(AN As ks ev).take (i + 1)=(AN As ks ev).take i ++ [k]:=by rw [List.take_add_one,hk2]; rfl
    refine ⟨_,rfl,_,rfl,_,rfl,c,rl,R,As,k,AN As ks ev,rfl,hC.same (s1.trans s2),hG,hA,hkb,s2 _ _ e1,EU,_,rfl,?_⟩
    cases hb:DH R As (AN As ks ev) k with
    | false =>
      refine Bi ?_
      refine ⟨_,rfl,hDi,?_,_,rfl,?_,AR s2 hd _⟩
      · rw [hys,Bb]
        have a1:=List.length_filter_le (fun k => !DH R As (AN As ks ev) k) ((AN As ks ev).take i)
        have a3:((AN As ks ev).take i).length≤(AN As ks ev).length:=by rw [List.length_take]; omega
        exact Av (by omega)
      · rw [htk,List.filter_append,DK,← hys]
        have:([k].filter fun k => !DH R As (AN As ks ev) k)=[k]:=by simp [hb]
        rw [this]; rfl
    | true =>
      refine A1 ?_
      refine ⟨hDi,_,rfl,?_,s2⟩
      rw [htk,List.filter_append]
      have:([k].filter fun k => !DH R As (AN As ks ev) k)=[]:=by simp [hb]
      rw [this,List.append_nil]; exact hys
  · rintro ys σ H2 hDn ⟨v,rfl,hys,(s2:Ao _ _)⟩
    rw [Bb,List.take_length] at hys
    exact q d H2 (s1.free hd) (s1.trans s2) (by rw [hDn,hys]; rfl)
end
end Toy
namespace Toy
open PySem L2
seal PySem.wpAny
section
variable {P:Program} {w:World} {K:PySem.W.Frag} {mg:Str→Option Value} {base:Heap}
structure Bq (H:Hp) (r:Addr) (R:List Ai):Prop where
  ob:∃ ps,H r=some (.lst (ps.map V.ref))∧AK H ps (R.map rV)
theorem Bq.same {H H':Hp} {r:Addr} {R:List Ai} (s:Ao H H') (h:Bq H r R):Bq H' r R:=by
  obtain ⟨ps,a,b⟩:=h.ob
  exact ⟨ps,s _ _ a,b.same s⟩
theorem Bq.len {H:Hp} {R:List Ai} {ps:List Addr} (h:AK H ps (R.map rV)):(ps.map V.ref).length=R.length:=by rw [List.length_map,h.1,List.length_map]
end
end Toy
namespace Toy
open PySem L2
seal PySem.wpAny
section
variable {P:Program} {w:World} {K:PySem.W.Frag} {mg:Str→Option Value} {base:Heap}
def CV (ns:List Int) (st m:Nat):List Int:=(List.range m).map fun k => Rm.cell ns (st + k)
theorem Jd (ns:List Int) (st m:Nat):(CV ns st m).length=m:=by simp [CV]
def MM (K:PySem.W.Frag):Sp:=fun vs H Q _ => ∃ (a:Addr) (ns:List Int) (st m:Nat),vs=[.ref a,.int st,.int m]∧AE K H a (ns.map V.int)∧m≤100 ∧
  ∀ (l:Addr) (H':Hp),H l=Option.none→Ao H H'→H' l=some (.lst ((CV ns st m).map V.int))→Q (.ref l) H'
theorem P1:AA ["script", "start", "many"] ["script", "start", "many"] (Ae Er):=⟨rfl,rfl,rfl,by decide +kernel,rfl,by decide +kernel,by decide +kernel⟩
theorem OM {f C fc:Addr} {fd fdc:FuncData} (D:Am K mg "_law_cells" Er ["script", "start", "many"] f fd) (T:Dn K mg C) (Dc:Am K mg "_law_cell_at" ET ["script", "k"] fc fdc):AD P w K mg base A9 2 f fd ["script", "start", "many"] (MM K):=by
  have Gc:AD P w K mg base A9 1 fc fdc ["script", "k"] (HV K):=HK Dc T
  refine D.fn.ok P1 (fun vs H Q E h => ?_) (fun cdv A outer s H vs Q E hr h => ?_)
  · obtain ⟨a,ns,st,m,rfl,_⟩:=h
    rfl
  obtain ⟨a,ns,st,m,rfl,hS,hm,q⟩:=h
  refine ⟨_,Aj (AM (Cg ["k", "script", "start"] [Option.none,some 0,some 1] rfl (AZ rfl T.range (Aa (pv 2) Ab)) (fun _ => AI (i := 0) (show (["k", "script", "start"]:List Str).Nodup by decide +kernel) rfl (Or.inl rfl)) (fun _ => Cr)
    (fun _ => Ap Gc hr rfl Dc.mg Dc.fn.kp Dc.bd .nil AF (Aa (pv 1) (Aa (AH BE (pv 2) (pv 0)) Ab))) (N:=["script", "start", "many"]) (ks:=(Ae Er).names) rfl rfl (by decide +kernel) (by decide +kernel) (by decide +kernel) (by decide +kernel))),?_⟩
  refine ⟨_,rfl,(m:Int),rfl,by omega,by omega,fun bk d hd => ?_⟩
  have em:((m:Int)).toNat=m:=by omega
  rw [em]
  refine E7 (Pv:=fun i ys σ H' => (∃ v,σ = [v,some (.ref a),some (.int st)])∧ys=((List.range i).map fun k => Rm.cell ns (st + k)).map V.int∧Ao H H') ⟨⟨_,rfl⟩,rfl,Ag hd _⟩ ?_ ?_
  · rintro i ys σ H1 hi hDi ⟨⟨v,rfl⟩,hys,(s1:Ao _ _)⟩
    have ei:(st:Int) + ((0:Int) + (i:Int))=((st + i:Nat):Int):=by omega
    refine ⟨_,rfl,_,rfl,_,rfl,_,_,rfl,rfl,a,ns,st + i,(by show [V.ref a,V.int ((st:Int) + ((0:Int) + (i:Int)))] = _; rw [ei]),s1.seq hS,hDi,?_,⟨_,rfl⟩,?_,AR s1 hd _⟩
    · rw [hys,List.length_map,List.length_map,List.length_range]; exact Av (by omega)
    · rw [hys,List.range_succ,List.map_append,List.map_append]; rfl
  · rintro ys σ H1 hDn ⟨⟨v,rfl⟩,hys,(s1:Ao _ _)⟩
    exact q d H1 hd s1 (by rw [hDn,hys]; rfl)
def evL (n:Nat) (one:Int) (free:Bool) (k:Nat):Int:=if free=true then one / (n:Int) % 4 else ((k:Int) + one / (n:Int) % (1 + (k:Int) % 2 * 3)) % 4
def gdL (n:Nat) (two:Int):Int:=if (n:Int)≤two / (n:Int) % (2 * (n:Int)) - 1 then -1 else two / (n:Int) % (2 * (n:Int)) - 1
def N4 (n:Nat) (cells:List Int) (free:Bool) (k:Nat):Aq :=
  (cells.getD (2 * k) 0 % (n:Int),evL n (cells.getD (2 * k) 0) free k,gdL n (cells.getD (2 * k + 1) 0),cells.getD (2 * k + 1) 0 % (n:Int),cells.getD (2 * k) 0 / 5 % 100)
def IK (R:List Ai) (a:Aq):Bool:=(Bt R a.1.toNat a.2.2.2.1.toNat).isSome
def arrowsL (R:List Ai) (cells:List Int) (free:Bool) (m:Nat):List Aq:=((List.range m).map (N4 R.length cells free)).filter (IK R)
theorem Gx (R:List Ai) (cells:List Int) (free:Bool) (m:Nat):arrowsL R cells free (m + 1)=arrowsL R cells free m ++ (if IK R (N4 R.length cells free m)=true then [N4 R.length cells free m] else []):=by
  unfold arrowsL
  rw [List.range_succ,List.map_append,List.filter_append]
  congr 1
  show [N4 R.length cells free m].filter (IK R)=_
  cases h:IK R (N4 R.length cells free m) <;> simp [h]
theorem Hh (R:List Ai) (cells:List Int) (free:Bool) (m:Nat):(arrowsL R cells free m).length≤m:=by
  unfold arrowsL
  have:=List.length_filter_le (IK R) ((List.range m).map (N4 R.length cells free))
  rw [List.length_map,List.length_range] at this
  exact this
theorem HL {x:Int} {n:Nat} (hn : 0 < n):∃ s:Nat,x % (n:Int)=(s:Int)∧s < n:=by
  have h1:=Int.emod_nonneg x (show (n:Int)≠0 by omega)
  have h2:=Int.emod_lt_of_pos x (show (0:Int) < (n:Int) by omega)
  exact ⟨(x % (n:Int)).toNat,by omega,by omega⟩
theorem K4 {R:List Ai} (hG:AY R) (cells:List Int) (free:Bool) (m:Nat):∀ a∈arrowsL R cells free m,AW R a:=by
  intro a ha
  unfold arrowsL at ha
  obtain ⟨h1,h2⟩:=List.mem_filter.mp ha
  obtain ⟨k,_,rfl⟩:=List.mem_map.mp h1
  have hpos:=hG.tree.pos
  rw [Ay] at hpos
  have d1:=Int.emod_nonneg (cells.getD (2 * k) 0 / 5) (show (100:Int)≠0 by decide)
  have d2:=Int.emod_lt_of_pos (cells.getD (2 * k) 0 / 5) (show (0:Int) < 100 by decide)
  refine ⟨HL hpos,?_,?_,HL hpos,⟨d1,by show _≤(99:Int); simp only [N4]; omega⟩,Option.isSome_iff_exists.mp h2⟩
  · show 0≤evL R.length (cells.getD (2 * k) 0) free k∧evL R.length (cells.getD (2 * k) 0) free k≤3
    unfold evL
    split
    · have e1:=Int.emod_nonneg (cells.getD (2 * k) 0 / (R.length:Int)) (show (4:Int)≠0 by decide)
      have e2:=Int.emod_lt_of_pos (cells.getD (2 * k) 0 / (R.length:Int)) (show (0:Int) < 4 by decide)
      omega
    · have e1:=Int.emod_nonneg ((k:Int) + cells.getD (2 * k) 0 / (R.length:Int) % (1 + (k:Int) % 2 * 3)) (show (4:Int)≠0 by decide)
      have e2:=Int.emod_lt_of_pos ((k:Int) + cells.getD (2 * k) 0 / (R.length:Int) % (1 + (k:Int) % 2 * 3)) (show (0:Int) < 4 by decide)
      omega
  · show -1≤gdL R.length (cells.getD (2 * k + 1) 0)∧gdL R.length (cells.getD (2 * k + 1) 0) < (R.length:Int)
    unfold gdL
    have e1:=Int.emod_nonneg (cells.getD (2 * k + 1) 0 / (R.length:Int)) (show (2 * (R.length:Int))≠0 by omega)
    split <;> omega
def Li:Sp:=fun vs H Q _ => ∃ (r c:Addr) (R:List Ai) (cells:List Int) (free:Bool),vs=[.ref r,.ref c,.bl free]∧Bq H r R∧AY R∧H c=some (.lst (cells.map V.int))∧cells.length≤40 ∧
  ∀ (l:Addr) (qs:List Addr) (H':Hp),H l=Option.none→Ao H H'→H' l=some (.lst (qs.map V.ref))→AK H' qs ((arrowsL R cells free (cells.length / 2)).map aV)→Q (.ref l) H'
theorem Ck:AA ["rooms", "cells", "free", "arrows", "many", "k", "one", "two", "event", "guard"] ["rooms", "cells", "free"] (Ae Cq):=⟨rfl,rfl,rfl,by decide +kernel,rfl,by decide +kernel,by decide +kernel⟩
theorem GW {cells:List Int} {k:Nat} (h:k < cells.length):Jl (cells.map V.int) (k:Int)=some (.int (cells.getD k 0)):=by
  rw [CP h,List.getD_eq_getElem?_getD,List.getElem?_eq_getElem h]; rfl
theorem ND {f C fs fh:Addr} {fd fds fdh:FuncData} (D:Am K mg "_law_arrows" Cq ["rooms", "cells", "free"] f fd) (T:Dn K mg C) (Ds:Am K mg "_law_scope" CY ["rooms", "source", "target"] fs fds) (Dh:Am K mg "_law_chain" Dd ["rooms", "k"] fh fdh):AD P w K mg base A9 3 f fd ["rooms", "cells", "free"] Li:=by
  have Gs:AD P w K mg base A9 2 fs fds ["rooms", "source", "target"] FK:=GP Ds T Dh
  refine D.fn.ok Ck (fun vs H Q E h => ?_) (fun cdv A outer s H vs Q E hr h => ?_)
  · obtain ⟨r,c,R,cells,free,rfl,_⟩:=h
    rfl
  obtain ⟨r,c,R,cells,free,rfl,hR,hG,hc,hcl,q⟩:=h
  obtain ⟨ps,hrr,hI⟩:=hR.ob
  have hl:(ps.map V.ref).length=R.length:=Bq.len hI
  have hpos:=hG.tree.pos
  rw [Ay] at hpos
  have hmost:=hG.most
  obtain ⟨t3,p3,r3⟩ : ∃ t,Jm (DW A9 P w K mg base ["rooms", "cells", "free", "arrows", "many", "k", "one", "two", "event", "guard"] "_law_arrows" (Ae Cq) f cdv A outer s H E).nox
        (match (Az Cq).getD 2 (.Pass ⟨0,0,0,0⟩) with | .For _ _ body _ _ => body.drop 6 | _ => []) t ∧
      ∀ (D':Ht) (ad:Addr) (qs:List Addr) (i:Nat) (H2:Hp),i < cells.length / 2→H ad=Option.none→Ao H H2→H2 ad=some (.lst (qs.map V.ref))→AK H2 qs ((arrowsL R cells free i).map aV) →
        (∀ v5 v6 v7 v8 v9 qs' H',Ao H H'→H' ad=some (.lst (qs'.map V.ref))→AK H' qs' ((arrowsL R cells free (i + 1)).map aV)→D'.nx [some (.ref r),some (.ref c),some (.bl free),some (.ref ad),some (.int (R.length:Int)),v5,v6,v7,v8,v9] H') →
        t D' [some (.ref r),some (.ref c),some (.bl free),some (.ref ad),some (.int (R.length:Int)),some (.int i),some (.int (cells.getD (2 * i) 0)),some (.int (cells.getD (2 * i + 1) 0)),some (.int (evL R.length (cells.getD (2 * i) 0) free i)),some (.int (gdL R.length (cells.getD (2 * i + 1) 0)))] H2:=by
    refine ⟨_,Aj (A0 (Os (pc_notN (Ap Gs hr rfl Ds.mg Ds.fn.kp Ds.bd .nil AF (Aa (pv 0) (Aa (AH Bp (pv 6) (pv 4)) (Aa (AH Bp (pv 7) (pv 4)) Ab))))))
      (Aj (AS (BC PySem.F.plainAttrs_list PySem.F.slot_list_append PySem.F.type_list_append AU (pv 3) (Aa (AX (Aa (AH Bp (pv 6) (pv 4)) (Aa (pv 8) (Aa (pv 9) (Aa (AH Bp (pv 7) (pv 4)) (Aa (AH Bp (AH BS (pv 6) Ah) Ah) Ab)))))) Ab)))) AJ),?_⟩
    intro D' ad qs i H2 hi had s2 e2 hJ k
    obtain ⟨sn,es,hs⟩:=HL (x:=cells.getD (2 * i) 0) hpos
    obtain ⟨tn,et,ht⟩:=HL (x:=cells.getD (2 * i + 1) 0) hpos
    refine ⟨_,rfl,_,rfl,_,rfl,_,_,rfl,rfl,(by omega),_,rfl,_,rfl,_,_,rfl,rfl,(by omega),r,ps,R,sn,tn,(by show [V.ref r,V.int (cells.getD (2 * i) 0 % (R.length:Int)),V.int (cells.getD (2 * i + 1) 0 % (R.length:Int))] = _; rw [es,et]),s2 _ _ hrr,hI.same s2,hG.tree,by omega,hs,ht,fun H3 s3 => ?_⟩
    have s23:=s2.trans s3
    have ehas:IK R (N4 R.length cells free i)=(Bt R sn tn).isSome:=by
      unfold IK N4
      simp only
      rw [es,et,Int.toNat_natCast,Int.toNat_natCast]
    refine ⟨_,rfl,?_⟩
    cases hsc:Bt R sn tn with
    | none =>
      refine A1 ?_
      refine k _ _ _ _ _ qs H3 s23 (s3 _ _ e2) ?_
      rw [Gx,ehas,hsc,if_neg (by decide),List.append_nil]
      exact hJ.same s3
    | some pp =>
      refine Bi ?_
      refine ⟨_,rfl,.inl ⟨rfl,_,AE.of (s3 _ _ e2)⟩,_,rfl,_,rfl,_,_,rfl,rfl,(by omega),_,rfl,_,rfl,_,rfl,_,rfl,_,_,rfl,rfl,(by omega),_,rfl,_,_,rfl,rfl,⟨by decide,by decide⟩,_,_,rfl,rfl,(by show (0:Int) < _; decide),(by show 5≤sizeLine; decide),fun t ht' => ?_⟩
      have nat:ad≠t:=Al (s3 _ _ e2) ht'
      refine ⟨ad,_,_,rfl,rfl,(by rw [Ak nat]; exact s3 _ _ e2),?_,?_⟩
      · rw [List.length_map,hJ.1,List.length_map]
        have:=Hh R cells free i
        exact Av (by omega)
      · have st:Ao H2 (upd H3 t (.tup (aV (N4 R.length cells free i)))):=s3.trans (Ag ht' _)
        have ne:∀ b u,H2 b=some u→b≠ad→(upd (upd H3 t (.tup (aV (N4 R.length cells free i)))) ad (.lst (qs.map V.ref ++ [V.ref t]))) b=some u:=fun b u e n => by
          rw [Ak n]; exact st _ _ e
        refine k _ _ _ _ _ (qs ++ [t]) _ (fun b u e => ne b u (s2 _ _ e) (Al e had)) ?_ ?_
        · rw [Ac,List.map_append]; rfl
        · rw [Gx,ehas,hsc,if_pos (by rfl),List.map_append]
          refine AK.snoc ⟨hJ.1,fun j p o a1 a2 => ne _ _ (hJ.2 j p o a1 a2) (F0 (hJ.2 j p o a1 a2) e2 (by intro z; cases z))⟩ ?_
          show (upd (upd H3 t (.tup (aV (N4 R.length cells free i)))) ad (.lst (qs.map V.ref ++ [V.ref t]))) t=_
          rw [Ak nat.symm,Ac]
  obtain ⟨t4,p4,r4⟩ : ∃ t,Jm (DW A9 P w K mg base ["rooms", "cells", "free", "arrows", "many", "k", "one", "two", "event", "guard"] "_law_arrows" (Ae Cq) f cdv A outer s H E).nox
        (match (Az Cq).getD 2 (.Pass ⟨0,0,0,0⟩) with | .For _ _ body _ _ => body.drop 4 | _ => []) t ∧
      ∀ (D':Ht) (ad:Addr) (qs:List Addr) (i:Nat) (H2:Hp) (v9:Option V),i < cells.length / 2→H ad=Option.none→Ao H H2→H2 ad=some (.lst (qs.map V.ref))→AK H2 qs ((arrowsL R cells free i).map aV) →
        (∀ v5 v6 v7 v8 v9 qs' H',Ao H H'→H' ad=some (.lst (qs'.map V.ref))→AK H' qs' ((arrowsL R cells free (i + 1)).map aV)→D'.nx [some (.ref r),some (.ref c),some (.bl free),some (.ref ad),some (.int (R.length:Int)),v5,v6,v7,v8,v9] H') →
        t D' [some (.ref r),some (.ref c),some (.bl free),some (.ref ad),some (.int (R.length:Int)),some (.int i),some (.int (cells.getD (2 * i) 0)),some (.int (cells.getD (2 * i + 1) 0)),some (.int (evL R.length (cells.getD (2 * i) 0) free i)),v9] H2:=by
    refine ⟨_,Ad (Ar (i := 9) Ck.nd rfl (Or.inl rfl) (AH Oz (AH Bp (AH BS (pv 7) (pv 4)) (AH Iw Ah (pv 4))) Ah))
      (Ad (A0 (AB op_ge (pv 9) (pv 4) (AT _)) (Aj (Ar (i := 9) Ck.nd rfl (Or.inl rfl) (EF C9 Ah))) AJ) p3),?_⟩
    intro D' ad qs i H2 v9 hi had s2 e2 hJ k
    refine ⟨_,rfl,_,rfl,_,_,rfl,rfl,⟨by omega,by omega⟩,_,rfl,_,_,rfl,rfl,.inl ⟨by decide,by decide⟩,_,_,rfl,rfl,(by show (0:Int) < 2 * (R.length:Int); omega),_,_,rfl,rfl,?_⟩
    refine ⟨_,rfl,_,rfl,_,_,rfl,rfl,_,rfl,?_⟩
    have fin:=r3 D' ad qs i H2 hi had s2 e2 hJ k
    refine GS (fun z => ?_) (fun z => ?_)
    · have z':(R.length:Int)≤cells.getD (2 * i + 1) 0 / (R.length:Int) % (2 * (R.length:Int)) - 1:=by simpa using z
      have eg:gdL R.length (cells.getD (2 * i + 1) 0) = -1:=by unfold gdL; rw [if_pos z']
      rw [eg] at fin
      exact ⟨1,rfl,fin⟩
    · have z':¬ (R.length:Int)≤cells.getD (2 * i + 1) 0 / (R.length:Int) % (2 * (R.length:Int)) - 1:=by simpa using z
      have eg:gdL R.length (cells.getD (2 * i + 1) 0)=cells.getD (2 * i + 1) 0 / (R.length:Int) % (2 * (R.length:Int)) - 1:=by unfold gdL; rw [if_neg z']
      rw [eg] at fin
      exact fin
  refine ⟨_,Ad (Ar (i := 3) Ck.nd rfl (Or.inl rfl) (Bf Ab))
    (Ad (Ar (i := 4) Ck.nd rfl (Or.inl rfl) (AG At (by rfl) T.len PySem.boot_len (Aa (pv 0) Ab)))
    (Ad (Bj PassesOwn.never rfl (AZ rfl T.range (Aa (AH BS (AG At (by rfl) T.len PySem.boot_len (Aa (pv 1) Ab)) Ah) Ab)) (AI (i := 5) Ck.nd rfl (Or.inl rfl))
      (Ad (Ar (i := 6) Ck.nd rfl (Or.inl rfl) (An Au (pv 1) (AH Iw Ah (pv 5)) (fun _ _ => rfl)))
      (Ad (Ar (i := 7) Ck.nd rfl (Or.inl rfl) (An Au (pv 1) (AH BE (AH Iw Ah (pv 5)) Ah) (fun _ _ => rfl)))
      (Ad (Ar (i := 8) Ck.nd rfl (Or.inl rfl) (AH Bp (AH BE (pv 5) (AH Bp (AH BS (pv 6) (pv 4)) (AH BE Ah (AH Iw (AH Bp (pv 5) Ah) Ah)))) Ah))
      (Ad (A0 (B8 (pv 2)) (Aj (Ar (i := 8) Ck.nd rfl (Or.inl rfl) (AH Bp (AH BS (pv 6) (pv 4)) Ah))) AJ) p4)))))
    (Aj (AM (pv 3))))),?_⟩
  refine ⟨(by show 0≤sizeLine; decide),fun ad had => ?_⟩
  have s1:Ao H (upd H ad (.lst [])):=Ag had _
  have ea:(upd H ad (.lst [])) ad=some (.lst []):=Ac
  generalize upd H ad (.lst [])=H1 at s1 ea ⊢
  refine ⟨_,rfl,r,_,rfl,.inl (AE.of (s1 _ _ hrr)),?_⟩
  rw [hl]
  refine ⟨_,rfl,c,_,rfl,.inl (AE.of (s1 _ _ hc)),_,_,rfl,rfl,⟨by decide,by decide⟩,(((cells.length / 2:Nat)):Int),?_,by omega,by omega,?_⟩
  · rw [List.length_map]
    have:(cells.length:Int) / 2=((cells.length / 2:Nat):Int):=by omega
    show [V.int ((cells.length:Int) / 2)] = _
    rw [this]
  have en:(((cells.length / 2:Nat)):Int).toNat=cells.length / 2:=by omega
  rw [en]
  refine Br (fun i σ H2 => ∃ v5 v6 v7 v8 v9 qs,σ = [some (.ref r),some (.ref c),some (.bl free),some (.ref ad),some (.int (R.length:Int)),v5,v6,v7,v8,v9]∧Ao H H2∧H2 ad=some (.lst (qs.map V.ref))∧AK H2 qs ((arrowsL R cells free i).map aV))
    ⟨_,_,_,_,_,[],rfl,s1,ea,⟨rfl,fun i p o e => by simp at e⟩⟩ ?_ ?_
  · rintro i σ H2 hi ⟨v5,v6,v7,v8,v9,qs,rfl,s2,e2,hJ⟩
    have ei:(0:Int) + (i:Int)=(i:Int):=by omega
    rw [ei]
    have i1 : 2 * i < cells.length:=by omega
    have i2 : 2 * i + 1 < cells.length:=by omega
    have e1:(2:Int) * (i:Int)=((2 * i:Nat):Int):=by omega
    have e1':(2:Int) * (i:Int) + 1=((2 * i + 1:Nat):Int):=by omega
    have x0:=Int.emod_nonneg (i:Int) (show (2:Int)≠0 by decide)
    refine ⟨_,rfl,_,rfl,_,_,rfl,rfl,.inl ⟨by decide,by decide⟩,c,_,_,_,rfl,rfl,AE.of (s2 _ _ hc),by rw [e1]; exact GW i1,?_⟩
    refine ⟨_,rfl,_,rfl,_,_,rfl,rfl,.inl ⟨by decide,by decide⟩,_,_,rfl,rfl,c,_,_,_,rfl,rfl,AE.of (s2 _ _ hc),by rw [e1']; exact GW i2,?_⟩
    refine ⟨_,rfl,_,rfl,_,rfl,_,_,rfl,rfl,⟨by omega,by omega⟩,_,rfl,_,_,rfl,rfl,(by show (0:Int) < _; decide),_,_,rfl,rfl,.inr ⟨by decide,by decide⟩,_,_,rfl,rfl,_,_,rfl,rfl,(by show (0:Int) < 1 + (i:Int) % 2 * 3; omega),_,_,rfl,rfl,_,_,rfl,rfl,(by show (0:Int) < _; decide),?_⟩
    refine ⟨_,rfl,_,rfl,?_⟩
    cases hfree:free with
    | true =>
      subst hfree
      refine Bi ?_
      refine ⟨_,rfl,_,rfl,_,_,rfl,rfl,⟨by omega,by omega⟩,_,_,rfl,rfl,(by show (0:Int) < _; decide),?_⟩
      exact r4 _ ad qs i H2 _ hi had s2 e2 hJ fun _ _ _ _ _ qs' H' a1 a2 a3 => ⟨_,_,_,_,_,qs',rfl,a1,a2,a3⟩
    | false =>
      subst hfree
      refine A1 ?_
      exact r4 _ ad qs i H2 _ hi had s2 e2 hJ fun _ _ _ _ _ qs' H' a1 a2 a3 => ⟨_,_,_,_,_,qs',rfl,a1,a2,a3⟩
  · rintro σ H2 ⟨v5,v6,v7,v8,v9,qs,rfl,s2,e2,hJ⟩
    refine ⟨_,rfl,?_⟩
    exact q ad qs H2 had s2 e2 hJ
end
end Toy
namespace Toy
open PySem L2
seal PySem.wpAny
section
variable {P:Program} {w:World} {K:PySem.W.Frag} {mg:Str→Option Value} {base:Heap}
theorem M4 (p:Nat→Bool):∀ (r t:List Nat),(∀ y∈r,p y=false)→(r ++ t).find? p=t.find? p
  | [],_,_ => rfl
  | x :: r,t,h => by
    show (x :: (r ++ t)).find? p=_
    rw [List.find?_cons,h x List.mem_cons_self]
    exact M4 p r t fun y hy => h y (List.mem_cons_of_mem _ hy)
theorem J7 (p q:Nat→Bool):∀ (r:List Nat),(∀ y∈r,p y=q y)→r.find? p=r.find? q
  | [],_ => rfl
  | x :: r,h => by
    rw [List.find?_cons,List.find?_cons,h x List.mem_cons_self,J7 p q r fun y hy => h y (List.mem_cons_of_mem _ hy)]
theorem Hd {cl:Nat→Nat→Bool} {l:List Nat} (hl:l.Pairwise (· < ·)) {i x:Nat} (hx:l[i]? = some x):l.find? (fun j => decide (x < j) && cl x j)=(l.drop (i + 1)).find? (cl x):=by
  obtain ⟨hi,ex⟩:=List.getElem?_eq_some_iff.mp hx
  have hd:l.drop i=x :: l.drop (i + 1):=by rw [List.drop_eq_getElem_cons hi,ex]
  have hsplit:l=l.take i ++ (x :: l.drop (i + 1)):=by rw [← hd,List.take_append_drop]
  have hp:=hl
  rw [hsplit] at hp
  obtain ⟨_,hp2,hp3⟩:=List.pairwise_append.mp hp
  have hp4:=List.pairwise_cons.mp hp2
  conv => lhs; rw [hsplit]
  rw [M4 _ _ _ fun y hy => by
    have:=hp3 y hy x List.mem_cons_self
    rw [decide_eq_false (by omega)]; rfl]
  rw [List.find?_cons,decide_eq_false (Nat.lt_irrefl x)]
  exact J7 _ _ _ fun y hy => by rw [decide_eq_true (hp4.1 y hy)]; rfl
structure BO (H:Hp) (a:Addr) (A:List Aq):Prop where
  ob:∃ qs,H a=some (.lst (qs.map V.ref))∧AK H qs (A.map aV)
theorem BO.same {H H':Hp} {a:Addr} {A:List Aq} (s:Ao H H') (h:BO H a A):BO H' a A:=by
  obtain ⟨ps,x,y⟩:=h.ob
  exact ⟨ps,s _ _ x,y.same s⟩
theorem KG {R:List Ai} {a:Aq} (hA:AW R a) {s t:Nat} (es:a.1=(s:Int)) (et:a.2.2.2.1=(t:Int)):optV (Bt R s t) = .int (A6 R a):=by
  obtain ⟨p,hp⟩:=hA.sc
  unfold A6
  rw [hp]
  rw [es,et,Int.toNat_natCast,Int.toNat_natCast] at hp
  rw [hp]; rfl
theorem J0 (hs:List Int) (i j:Nat):Hc (V.int j) (cV (Rm.chain hs i))=Rm.wi hs i j:=by
  unfold cV Rm.wi
  rw [C3]
  refine decide_eq_decide.mpr ⟨fun z => ?_,fun z => List.mem_map.mpr ⟨j,z,rfl⟩⟩
  obtain ⟨x,hx,e⟩:=List.mem_map.mp z
  have:x=j:=by omega
  rw [← this]; exact hx
def Oe:Sp:=fun vs H Q _ => ∃ (r a n:Addr) (R:List Ai) (A:List Aq) (l:List Nat),vs=[.ref r,.ref a,.ref n]∧Bq H r R∧BO H a A∧AY R∧(∀ x∈A,AW R x)∧H n=some (.lst (cV l))∧(∀ i∈l,i < A.length)∧l.Pairwise (· < ·)∧pairV Q H (Bo (Eb R A) l)
theorem GH:AA ["rooms", "arrows", "numbers", "k", "mine", "j", "other", "nested"] ["rooms", "arrows", "numbers"] (Ae G4):=⟨rfl,rfl,rfl,by decide +kernel,rfl,by decide +kernel,by decide +kernel⟩
theorem ok_pair {f C fs fh:Addr} {fd fds fdh:FuncData} (D:Am K mg "_law_pair" G4 ["rooms", "arrows", "numbers"] f fd) (T:Dn K mg C) (Ds:Am K mg "_law_scope" CY ["rooms", "source", "target"] fs fds) (Dh:Am K mg "_law_chain" Dd ["rooms", "k"] fh fdh):AD P w K mg base A9 3 f fd ["rooms", "arrows", "numbers"] Oe:=by
  have Gs:AD P w K mg base A9 2 fs fds ["rooms", "source", "target"] FK:=GP Ds T Dh
  have Gh:AD P w K mg base A9 1 fh fdh ["rooms", "k"] FP:=FZ Dh T
  refine D.fn.ok GH (fun vs H Q E h => ?_) (fun cdv A outer s H vs Q E hr h => ?_)
  · obtain ⟨r,a,n,R,As,l,rfl,_⟩:=h
    rfl
  obtain ⟨r,a,n,R,As,l,rfl,hR,hAt,hG,hA,hn,hlt,hri,q⟩:=h
  refine ⟨_,Ad (Bj PassesOwn.never rfl (Bu (pv 2)) (AI (i := 3) GH.nd rfl (Or.inl rfl))
      (Ad (Ar (i := 4) GH.nd rfl (Or.inl rfl) (Ap Gs hr rfl Ds.mg Ds.fn.kp Ds.bd .nil AF (Aa (pv 0) (Aa (An Aw (An Au (pv 1) (pv 3) (fun _ _ => rfl)) Ah (fun _ _ => rfl)) (Aa (An Aw (An Au (pv 1) (pv 3) (fun _ _ => rfl)) Ah (fun _ _ => rfl)) Ab)))))
      (Aj (Bj PassesOwn.never rfl (Bu (pv 2)) (AI (i := 5) GH.nd rfl (Or.inl rfl))
        (Ad (Ar (i := 6) GH.nd rfl (Or.inl rfl) (Ap Gs hr rfl Ds.mg Ds.fn.kp Ds.bd .nil AF (Aa (pv 0) (Aa (An Aw (An Au (pv 1) (pv 5) (fun _ _ => rfl)) Ah (fun _ _ => rfl)) (Aa (An Aw (An Au (pv 1) (pv 5) (fun _ _ => rfl)) Ah (fun _ _ => rfl)) Ab)))))
        (Ad (Ar (i := 7) GH.nd rfl (Or.inl rfl) (Oy (DR BB (pv 4) (Ap Gh (hr.mono (by decide)) rfl Dh.mg Dh.fn.kp Dh.bd .nil AF (Aa (pv 0) (Aa (pv 6) Ab))) (by with_unfolding_all rfl))
          (GO (DR BB (pv 6) (Ap Gh (hr.mono (by decide)) rfl Dh.mg Dh.fn.kp Dh.bd .nil AF (Aa (pv 0) (Aa (pv 4) Ab))) (by with_unfolding_all rfl)))))
        (Aj (A0 (PW.pt (DF (AB Lq (pv 5) (pv 3) (AT _)) (CZ (B8 (pv 7))))) (Aj (AM (AX (Aa (pv 3) (Aa (pv 5) Ab))))) AJ))))))))
    (Aj (AM Cj)),?_⟩
  obtain ⟨ps,hrr,hI⟩:=hR.ob
  obtain ⟨qs,haa,hJ⟩:=hAt.ob
  have hmost:=hG.most
  refine ⟨_,rfl,n,rfl,⟨_,AE.of hn⟩,?_⟩
  refine B6 (xs:=cV l) (fun i σ H1 => ∃ v3 v4 v5 v6 v7,σ = [some (.ref r),some (.ref a),some (.ref n),v3,v4,v5,v6,v7]∧Ao H H1∧Bo (Eb R As) l=Bo (Eb R As) (l.drop i)) ⟨_,_,_,_,_,rfl,Ao.refl _,rfl⟩ (fun i σ H1 _ ⟨_,_,_,_,_,_,s1,_⟩ => AE.of (s1 _ _ hn)) ?_ ?_
  · rintro i x σ H1 hx ⟨v3,v4,v5,v6,v7,rfl,s1,ep⟩
    obtain ⟨k,hk,rfl⟩:=BX hx
    have hkb:=hlt k (List.mem_of_getElem? hk)
    have hka:As[k]? = some As[k]:=List.getElem?_eq_getElem hkb
    have gk:=hA _ (List.getElem_mem hkb)
    obtain ⟨sk,esk,hsk⟩:=gk.src
    obtain ⟨tk,etk,htk⟩:=gk.tgt
    have hd:l.drop i=k :: l.drop (i + 1):=by
      obtain ⟨hi,e⟩:=List.getElem?_eq_some_iff.mp hk
      rw [List.drop_eq_getElem_cons hi,e]
    rw [hd] at ep
    obtain ⟨p,hp,hp2⟩:=By hJ hkb
    refine ⟨_,rfl,_,rfl,_,rfl,a,_,_,_,rfl,rfl,AE.of (s1 _ _ haa),hp,p,_,_,_,rfl,rfl,A2.of (s1 _ _ hp2),rfl,_,rfl,_,rfl,a,_,_,_,rfl,rfl,AE.of (s1 _ _ haa),hp,p,_,_,_,rfl,rfl,A2.of (s1 _ _ hp2),rfl,
      r,ps,R,sk,tk,(by rw [esk,etk]; rfl),s1 _ _ hrr,hI.same s1,hG.tree,by omega,hsk,htk,fun H2 s2 => ?_⟩
    rw [KG gk esk etk]
    have s12:=s1.trans s2
    refine ⟨_,rfl,n,rfl,⟨_,AE.of (s12 _ _ hn)⟩,?_⟩
    refine B6 (xs:=cV l) (fun m σ H3 => ∃ v5 v6 v7,σ = [some (.ref r),some (.ref a),some (.ref n),some (.int k),some (.int (A6 R As[k])),v5,v6,v7]∧Ao H H3∧l.find? (fun j => decide (k < j) && Eb R As k j)=(l.drop m).find? (fun j => decide (k < j) && Eb R As k j))
      ⟨_,_,_,rfl,s12,rfl⟩ (fun m σ H3 _ ⟨_,_,_,_,s3,_⟩ => AE.of (s3 _ _ hn)) ?_ ?_
    · rintro m y σ H3 hy ⟨v5,v6,v7,rfl,s3,ef⟩
      obtain ⟨j,hj,rfl⟩:=BX hy
      have hjb:=hlt j (List.mem_of_getElem? hj)
      have hja:As[j]? = some As[j]:=List.getElem?_eq_getElem hjb
      have gj:=hA _ (List.getElem_mem hjb)
      obtain ⟨sj,esj,hsj⟩:=gj.src
      obtain ⟨tj,etj,htj⟩:=gj.tgt
      have hd2:l.drop m=j :: l.drop (m + 1):=by
        obtain ⟨hm,e⟩:=List.getElem?_eq_some_iff.mp hj
        rw [List.drop_eq_getElem_cons hm,e]
      rw [hd2,List.find?_cons,K0 hka hja] at ef
      obtain ⟨p',hp',hp2'⟩:=By hJ hjb
      refine ⟨_,rfl,_,rfl,_,rfl,a,_,_,_,rfl,rfl,AE.of (s3 _ _ haa),hp',p',_,_,_,rfl,rfl,A2.of (s3 _ _ hp2'),rfl,_,rfl,_,rfl,a,_,_,_,rfl,rfl,AE.of (s3 _ _ haa),hp',p',_,_,_,rfl,rfl,A2.of (s3 _ _ hp2'),rfl,
        r,ps,R,sj,tj,(by rw [esj,etj]; rfl),s3 _ _ hrr,hI.same s3,hG.tree,by omega,hsj,htj,fun H4 s4 => ?_⟩
      rw [KG gj esj etj]
      have s34:=s3.trans s4
      have last:∀ (b:Bool) (H5:Hp),b=Nf R As[k] As[j]→Ao H H5→(tIfS (tAnd (N9 (tOp (P6 fun i j => .bl (decide (j < i))) (DT 5) (DT 3))) (tB (DT 7))) (tRet (PL (ED (DT 3) (ED (DT 5) Lb)))) tNext)
          { nx:=fun σ H3 => ∃ v5 v6 v7,σ = [some (.ref r),some (.ref a),some (.ref n),some (.int k),some (.int (A6 R As[k])),v5,v6,v7]∧Ao H H3∧l.find? (fun j => decide (k < j) && Eb R As k j)=(l.drop (m + 1)).find? (fun j => decide (k < j) && Eb R As k j),rt:=Q }
          [some (.ref r),some (.ref a),some (.ref n),some (.int k),some (.int (A6 R As[k])),some (.int j),some (.int (A6 R As[j])),some (.bl b)] H5:=by
        rintro b H5 rfl s5
        refine ⟨_,rfl,_,rfl,_,_,rfl,rfl,_,rfl,?_⟩
        by_cases hkj:k < j
        · rw [decide_eq_true (show (k:Int) < (j:Int) by omega)]
          rw [decide_eq_true hkj,Bool.true_and] at ef
          refine Bi ?_
          refine ⟨_,rfl,_,rfl,?_⟩
          cases hb:Nf R As[k] As[j] with
          | true =>
            rw [hb] at ef
            refine Bi ?_
            refine ⟨_,rfl,_,rfl,(by show 2≤sizeLine; decide),fun u hu => ?_⟩
            have ef':l.find? (fun j => decide (k < j) && Eb R As k j)=some j:=ef
            rw [Hd hri hk] at ef'
            rw [ep] at q
            have:Bo (Eb R As) (k :: l.drop (i + 1))=some (k,j):=by
              show (match (l.drop (i + 1)).find? (Eb R As k) with | some y => some (k,y) | Option.none => Bo (Eb R As) (l.drop (i + 1)))=_
              rw [ef']
            rw [this] at q
            exact q u _ (s5.trans (Ag hu _)) Ac
          | false =>
            rw [hb] at ef
            refine A1 ?_
            exact ⟨_,_,_,rfl,s5,ef⟩
        · rw [decide_eq_false (show ¬ (k:Int) < (j:Int) by omega)]
          rw [decide_eq_false hkj,Bool.false_and] at ef
          refine A1 ?_
          refine A1 ?_
          exact ⟨_,_,_,rfl,s5,ef⟩
      refine ⟨_,rfl,_,rfl,_,rfl,r,ps,R,A6 R As[j],rfl,s34 _ _ hrr,hI.same s34,hG.tree,by omega,DU gj,fun l1 H5 hl1 s5 e5 => ?_⟩
      have s35:=s34.trans s5
      refine ⟨l1,_,rfl,.inl (AE.of e5),rfl,BW _,_,rfl,?_⟩
      show if Hc (V.int (A6 R As[k]:Nat)) (cV (Rm.chain (Af R) (A6 R As[j])))=true then _ else _
      rw [J0]
      cases h1:Rm.wi (Af R) (A6 R As[j]) (A6 R As[k]) with
      | true =>
        refine Bi ?_
        exact last true H5 (by unfold Nf; rw [h1,Bool.or_true]) s35
      | false =>
        refine A1 ?_
        refine ⟨_,rfl,_,rfl,_,rfl,r,ps,R,A6 R As[k],rfl,s35 _ _ hrr,hI.same s35,hG.tree,by omega,DU gk,fun l2 H6 hl2 s6 e6 => ?_⟩
        refine ⟨l2,_,rfl,.inl (AE.of e6),rfl,BW _,?_⟩
        have e7:Hc (V.int (A6 R As[j]:Nat)) (cV (Rm.chain (Af R) (A6 R As[k])))=Nf R As[k] As[j]:=by
          rw [J0]; unfold Nf; rw [h1,Bool.or_false]
        exact last _ H6 e7 (s35.trans s6)
    · rintro σ H3 ⟨v5,v6,v7,rfl,s3,ef⟩
      rw [Bb,List.drop_length] at ef
      rw [Hd hri hk] at ef
      refine ⟨_,_,_,_,_,rfl,s3,?_⟩
      rw [ep]
      show (match (l.drop (i + 1)).find? (Eb R As k) with | some y => some (k,y) | Option.none => Bo (Eb R As) (l.drop (i + 1)))=_
      rw [ef]; rfl
  · rintro σ H1 ⟨v3,v4,v5,v6,v7,rfl,s1,ep⟩
    rw [Bb,List.drop_length] at ep
    rw [ep] at q
    exact q H1 s1
end
end Toy
namespace Toy
open PySem L2
seal PySem.wpAny
section
variable {P:Program} {w:World} {K:PySem.W.Frag} {mg:Str→Option Value} {base:Heap}
def Hb (xs:List Int):PyData:=.list (xs.map PyData.int)
theorem Gn {K:PySem.W.Frag} {H:Hp}:∀ xs:List Int,FE K H (xs.map V.int) (xs.map PyData.int)
  | [] => .nil
  | x :: r => .cons (.int x) (Gn r)
theorem LH:∀ xs:List Int,PyData.canLayAll0 (xs.map PyData.int)=true∧PyData.depthAll (xs.map PyData.int)=0∧PyData.eqvAll (xs.map PyData.int) (xs.map PyData.int)=true
  | [] => ⟨rfl,rfl,rfl⟩
  | x :: r => by
    obtain ⟨a,b,c⟩:=LH r
    refine ⟨?_,?_,?_⟩
    · simp only [List.map_cons,PyData.canLayAll0,PyData.canLay0,a,Bool.and_true]
    · simp only [List.map_cons,PyData.depthAll,PyData.depth,b]; rfl
    · simp only [List.map_cons,PyData.eqvAll,PyData.eqv,beq_self_eq_true,c,Bool.and_true]
theorem LG (xs:List Int):SeqAt.shaped (Hb xs)=true∧PyData.eqv (Hb xs) (Hb xs)=true:=by
  obtain ⟨a,b,c⟩:=LH xs
  refine ⟨?_,by unfold Hb; simpa only [PyData.eqv] using c⟩
  unfold SeqAt.shaped Hb
  rw [Bool.and_eq_true]
  refine ⟨by simpa only [PyData.canLay0] using a,decide_eq_true ?_⟩
  simp only [PyData.depth,b]; decide
end
end Toy
namespace Toy
open PySem L2
seal PySem.wpAny
section
variable {P:Program} {w:World} {K:PySem.W.Frag} {mg:Str→Option Value} {base:Heap}
def Ks (K:PySem.W.Frag):Sp:=fun vs H Q _ => ∃ (r a kd:Addr) (R:List Ai) (A:List Aq) (ks:List Int) (ev:Int),vs=[.ref r,.ref a,.ref kd,.int ev]∧Bq H r R∧BO H a A∧AY R∧(∀ x∈A,AW R x)∧A.length≤100∧AE K H kd (ks.map V.int) ∧
  ∀ (l:Addr) (H':Hp),H l=Option.none→Ao H H'→H' l=some (.lst (cV (GG R A ks ev)))→Q (.ref l) H'
theorem Ej:AA ["rooms", "arrows", "kept", "event", "ready", "k", "arrow", "found", "further"] ["rooms", "arrows", "kept", "event"] (Ae DV):=⟨rfl,rfl,rfl,by decide +kernel,rfl,by decide +kernel,by decide +kernel⟩
theorem NM (xs:List Int):PyData.eqv (Hb xs) (.list [])=xs.isEmpty:=by
  unfold Hb
  cases xs <;> simp [PyData.eqv,PyData.eqvAll]
theorem Lo (R:List Ai) (A:List Aq) (rd:List Nat) (k:Nat):(rd.filter fun j => Rm.li (Af R) (BZ A j) (BZ A k)).isEmpty = !DH R A rd k:=by
  unfold DH
  induction rd with
  | nil => rfl
  | cons x r ih =>
    rw [List.filter_cons,List.any_cons]
    cases h:Rm.li (Af R) (BZ A x) (BZ A k) with
    | true => rfl
    | false => simpa [h] using ih
theorem OH {f C fh:Addr} {fd fdh:FuncData} (D:Am K mg "_law_takeable" DV ["rooms", "arrows", "kept", "event"] f fd) (T:Dn K mg C) (Dh:Am K mg "_law_chain" Dd ["rooms", "k"] fh fdh):AD P w K mg base A9 2 f fd ["rooms", "arrows", "kept", "event"] (Ks K):=by
  have Gh:AD P w K mg base A9 1 fh fdh ["rooms", "k"] FP:=FZ Dh T
  refine D.fn.ok Ej (fun vs H Q E h => ?_) (fun cdv A outer s H vs Q E hr h => ?_)
  · obtain ⟨r,a,kd,R,As,ks,ev,rfl,_⟩:=h
    rfl
  obtain ⟨r,a,kd,R,As,ks,ev,rfl,hR,hAt,hG,hA,hal,hk,q⟩:=h
  refine ⟨_,Ad (Ar (i := 4) Ej.nd rfl (Or.inl rfl) (Bf Ab))
    (Ad (Bj PassesOwn.never rfl (AZ rfl T.range (Aa (AG At (by rfl) T.len PySem.boot_len (Aa (pv 1) Ab)) Ab)) (AI (i := 5) Ej.nd rfl (Or.inr rfl))
      (Ad (Ar (i := 6) Ej.nd rfl (Or.inl rfl) (An Au (pv 1) (pv 5) (fun _ _ => rfl)))
      (Aj (A0 (PW.pt (DF (AB BB (An Aw (pv 6) Ah (fun _ _ => rfl)) (pv 2) (by with_unfolding_all rfl)) (DF (AB Cz (An Aw (pv 6) Ah (fun _ _ => rfl)) (pv 3) (AT _))
          (CZ (PW.pt (Fq (AB Cz (An Aw (pv 6) Ah (fun _ _ => rfl)) (EF C9 Ah) (AT _)) (EW (AB BB (An Aw (pv 6) Ah (fun _ _ => rfl)) (pv 2) (by with_unfolding_all rfl)))))))))
        (Aj (AS (BC PySem.F.plainAttrs_list PySem.F.slot_list_append PySem.F.type_list_append AU (pv 4) (Aa (pv 5) Ab)))) AJ))))
    (Ad (Ar (i := 7) Ej.nd rfl (Or.inl rfl) (Bf Ab))
    (Ad (Bj PassesOwn.never rfl (Bu (pv 4)) (AI (i := 5) Ej.nd rfl (Or.inr rfl))
      (Ad (Fg (i := 8) ["j", "arrows", "k", "rooms"] [Option.none,some 1,some 5,some 0] rfl Ej.nd rfl rfl (Bu (pv 4)) (fun _ => AI (i := 0) (show (["j", "arrows", "k", "rooms"]:List Str).Nodup by decide +kernel) rfl (Or.inl rfl))
          (fun _ => Es (AB BB (An Aw (An Au (pv 1) (pv 2) (fun _ _ => rfl)) Ah (fun _ _ => rfl)) (DG Eh (Ap Gh hr rfl Dh.mg Dh.fn.kp Dh.bd .nil AF (Aa (pv 3) (Aa (An Aw (An Au (pv 1) (pv 0) (fun _ _ => rfl)) Ah (fun _ _ => rfl)) Ab))) (Et Ah) Eu) (by with_unfolding_all rfl))) (fun _ => pv 0)
          (N:=["rooms", "arrows", "kept", "event", "ready", "k", "arrow", "found", "further"]) (ks:=(Ae DV).names) rfl rfl (by decide +kernel) (by decide +kernel) (by decide +kernel) (by decide +kernel))
      (Aj (A0 (AB (op_eqD hr.units) (pv 8) (Bf Ab) (AT _)) (Aj (AS (BC PySem.F.plainAttrs_list PySem.F.slot_list_append PySem.F.type_list_append AU (pv 7) (Aa (pv 5) Ab)))) AJ))))
    (Aj (AM (pv 7)))))),?_⟩
  obtain ⟨ps,hrr,hI⟩:=hR.ob
  obtain ⟨qs,haa,hJ⟩:=hAt.ob
  have hmost:=hG.most
  have hlq:(qs.map V.ref).length=As.length:=by rw [List.length_map,hJ.1,List.length_map]
  refine ⟨(by show 0≤sizeLine; decide),fun rd hrd => ?_⟩
  have s1:Ao H (upd H rd (.lst [])):=Ag hrd _
  have e1:(upd H rd (.lst [])) rd=some (.lst []):=Ac
  generalize upd H rd (.lst [])=H1 at s1 e1 ⊢
  refine ⟨_,rfl,a,_,rfl,.inl (AE.of (s1 _ _ haa)),_,rfl,by rw [hlq]; omega,by rw [hlq]; omega,?_⟩
  rw [hlq]
  have en:((As.length:Int)).toNat=As.length:=by omega
  rw [en]
  refine Br (fun i σ H2 => ∃ v5 v6,σ = [some (.ref r),some (.ref a),some (.ref kd),some (.int ev),some (.ref rd),v5,v6,Option.none,Option.none]∧Ao H H2∧H2 rd=some (.lst (cV ((List.range i).filter (CN As ks ev))))) ⟨_,_,rfl,s1,e1⟩ ?_ ?_
  · rintro i σ H2 hi ⟨v5,v6,rfl,s2,e2⟩
    have ei:(0:Int) + (i:Int)=(i:Int):=by omega
    rw [ei]
    obtain ⟨p,hp,hp2⟩:=By hJ hi
    have hp3:=s2 _ _ hp2
    have eo:CN As ks ev i=Fr As[i] ks ev:=by unfold CN; rw [List.getElem?_eq_getElem hi]
    have lenOk:(cV ((List.range i).filter (CN As ks ev))).length < sizeLine:=by
      rw [Bb]
      have:=List.length_filter_le (CN As ks ev) (List.range i)
      rw [List.length_range] at this
      exact Av (by omega)
    have yes:Fr As[i] ks ev=true→(MA (tBM K "list" Hz (DT 4) (ED (DT 5) Lb)))
        { nx:=fun σ H2 => ∃ v5 v6,σ = [some (.ref r),some (.ref a),some (.ref kd),some (.int ev),some (.ref rd),v5,v6,Option.none,Option.none]∧Ao H H2∧H2 rd=some (.lst (cV ((List.range (i + 1)).filter (CN As ks ev)))),rt:=Q }
        [some (.ref r),some (.ref a),some (.ref kd),some (.int ev),some (.ref rd),some (.int i),some (.ref p),Option.none,Option.none] H2:=fun hb => by
      refine ⟨_,rfl,.inl ⟨rfl,_,AE.of e2⟩,_,rfl,rd,_,_,rfl,rfl,e2,lenOk,?_⟩
      refine ⟨_,_,rfl,AR s2 hrd _,?_⟩
      rw [Ac,Rm.range_filter_succ,if_pos (by rw [eo]; exact hb),DK]; rfl
    have no:Fr As[i] ks ev=false→∃ v5 v6,[some (V.ref r),some (.ref a),some (.ref kd),some (.int ev),some (.ref rd),some (.int i),some (.ref p),Option.none,Option.none] = [some (V.ref r),some (.ref a),some (.ref kd),some (.int ev),some (.ref rd),v5,v6,Option.none,Option.none]∧Ao H H2∧H2 rd=some (.lst (cV ((List.range (i + 1)).filter (CN As ks ev)))):=fun hb => by
      refine ⟨_,_,rfl,s2,?_⟩
      rw [Rm.range_filter_succ,if_neg (by rw [eo,hb]; decide),List.append_nil]; exact e2
    unfold Fr at yes no
    refine ⟨_,rfl,_,rfl,a,_,_,_,rfl,rfl,AE.of (s2 _ _ haa),hp,?_⟩
    refine ⟨_,rfl,p,_,_,_,rfl,rfl,A2.of hp3,rfl,_,rfl,kd,_,rfl,.inl (s2.seq hk),rfl,BW _,_,rfl,?_⟩
    show if Hc (V.int As[i].1) (ks.map V.int)=true then _ else _
    rw [C3]
    by_cases h2:As[i].1∈ks
    · rw [decide_eq_true h2]
      rw [decide_eq_true h2,Bool.and_true] at yes no
      refine Bi ?_
      refine ⟨_,rfl,p,_,_,_,rfl,rfl,A2.of hp3,rfl,_,rfl,rfl,_,rfl,?_⟩
      by_cases h1:As[i].2.1=ev
      · rw [decide_eq_true (show V.int As[i].2.1=V.int ev by rw [h1])]
        rw [decide_eq_true h1,Bool.true_and] at yes no
        refine Bi ?_
        refine ⟨_,rfl,p,_,_,_,rfl,rfl,A2.of hp3,rfl,1,rfl,rfl,_,rfl,?_⟩
        by_cases h3:As[i].2.2.1 = -1
        · rw [decide_eq_true (show V.int As[i].2.2.1=V.int (-1) by rw [h3])]
          rw [decide_eq_true h3,Bool.true_or] at yes no
          refine Bi ?_
          refine Bi ?_
          exact yes rfl
        · rw [decide_eq_false (show ¬ V.int As[i].2.2.1=V.int (-1) from fun z => h3 (by injection z))]
          rw [decide_eq_false h3,Bool.false_or] at yes no
          refine A1 ?_
          refine ⟨_,rfl,p,_,_,_,rfl,rfl,A2.of hp3,rfl,_,rfl,kd,_,rfl,.inl (s2.seq hk),rfl,BW _,_,rfl,?_⟩
          show if Hc (V.int As[i].2.2.1) (ks.map V.int)=true then _ else _
          rw [C3]
          by_cases h4:As[i].2.2.1∈ks
          · rw [decide_eq_true h4] at yes ⊢
            refine Bi ?_
            exact yes rfl
          · rw [decide_eq_false h4] at no ⊢
            refine A1 ?_
            exact no rfl
      · rw [decide_eq_false (show ¬ V.int As[i].2.1=V.int ev from fun z => h1 (by injection z))]
        rw [decide_eq_false h1,Bool.false_and] at no
        refine A1 ?_
        refine A1 ?_
        exact no rfl
    · rw [decide_eq_false h2]
      rw [decide_eq_false h2,Bool.and_false,Bool.false_and] at no
      refine A1 ?_
      refine A1 ?_
      exact no rfl
  rintro σ H2 ⟨v5,v6,rfl,s2,e2⟩
  have e2':H2 rd=some (.lst (cV (AN As ks ev))):=e2
  have hrdl:=GN As ks ev
  refine ⟨(by show 0≤sizeLine; decide),fun fd' hfd => ?_⟩
  have nrf:rd≠fd':=Al e2' hfd
  have hfd0:H fd'=Option.none:=s2.free hfd
  have s3:=s2.trans (Ag hfd (.lst []))
  have e3:(upd H2 fd' (.lst [])) fd'=some (.lst []):=Ac
  have er3:(upd H2 fd' (.lst [])) rd=some (.lst (cV (AN As ks ev))):=by rw [Ak nrf]; exact e2'
  generalize upd H2 fd' (.lst [])=H3 at s3 e3 er3 ⊢
  refine ⟨_,rfl,rd,rfl,⟨_,AE.of er3⟩,?_⟩
  refine B6 (xs:=cV (AN As ks ev)) (fun i σ H4 => ∃ v5 v6 v8,σ = [some (.ref r),some (.ref a),some (.ref kd),some (.int ev),some (.ref rd),v5,v6,some (.ref fd'),v8]∧Ao H H4∧H4 rd=some (.lst (cV (AN As ks ev)))∧H4 fd'=some (.lst (cV (((AN As ks ev).take i).filter fun k => !DH R As (AN As ks ev) k))))
    ⟨_,_,_,rfl,s3,er3,e3⟩ (fun i σ H4 _ ⟨_,_,_,_,_,e4,_⟩ => AE.of e4) ?_ ?_
  · rintro i x σ H4 hx ⟨v5',v6',v8,rfl,s4,er4,e4⟩
    obtain ⟨k,hk2,rfl⟩:=BX hx
    have hkb:=EU k (List.mem_of_getElem? hk2)
    obtain ⟨ek,hkl⟩:=Hv hA hkb
    obtain ⟨p,hp,hp2⟩:=By hJ hkb
    have htk:(AN As ks ev).take (i + 1)=(AN As ks ev).take i ++ [k]:=by rw [List.take_add_one,hk2]; rfl
    refine ⟨_,rfl,rd,rfl,⟨_,AE.of er4⟩,fun bk d hd => ?_⟩
    refine Fk (xs:=cV (AN As ks ev)) (Pv:=fun m ys σ H' => ∃ v,σ = [v,some (.ref a),some (.int k),some (.ref r)]∧ys=cV (((AN As ks ev).take m).filter fun j => Rm.li (Af R) (BZ As j) (BZ As k))∧Ao H4 H')
      ⟨_,rfl,rfl,Ag hd _⟩ (fun m ys σ H5 _ _ ⟨_,_,_,s5⟩ => AE.of (s5 _ _ er4)) ?_ ?_
    · rintro m y ys σ H5 hy hDi ⟨v,rfl,hys,(s5:Ao _ _)⟩
      obtain ⟨j,hj,rfl⟩:=BX hy
      have hjb:=EU j (List.mem_of_getElem? hj)
      obtain ⟨ej,hjl⟩:=Hv hA hjb
      obtain ⟨p',hp',hp2'⟩:=By hJ hjb
      have s45:=s4.trans s5
      have htm:(AN As ks ev).take (m + 1)=(AN As ks ev).take m ++ [j]:=by rw [List.take_add_one,hj]; rfl
      refine ⟨_,rfl,_,rfl,a,_,_,_,rfl,rfl,AE.of (s45 _ _ haa),hp,p,_,_,_,rfl,rfl,A2.of (s45 _ _ hp2),rfl,?_⟩
      refine ⟨_,rfl,_,rfl,_,rfl,a,_,_,_,rfl,rfl,AE.of (s45 _ _ haa),hp',p',_,_,_,rfl,rfl,A2.of (s45 _ _ hp2'),rfl,r,ps,R,BZ As j,(by rw [ej]; rfl),s45 _ _ hrr,hI.same s45,hG.tree,by omega,hjl,fun c1 H6 hc1 s6 e6 => ?_⟩
      refine ⟨1,rfl,c1,_,rfl,AE.of e6,fun c2 hc2 => ?_⟩
      have s7:=s6.trans (Ag hc2 (.lst (Cs (cV (Rm.chain (Af R) (BZ As j))) (some 1) Option.none)))
      have e7:(upd H6 c2 (.lst (Cs (cV (Rm.chain (Af R) (BZ As j))) (some 1) Option.none))) c2=some (.lst (cV (Rm.chain (Af R) (BZ As j)).tail)):=by rw [Ac,cut1,HM]
      have hD7:(upd H6 c2 (.lst (Cs (cV (Rm.chain (Af R) (BZ As j))) (some 1) Option.none))) d=some (.lst ys):=s7 _ _ hDi
      generalize upd H6 c2 (.lst (Cs (cV (Rm.chain (Af R) (BZ As j))) (some 1) Option.none))=H7 at s7 e7 hD7 ⊢
      refine ⟨c2,_,rfl,.inl (AE.of e7),rfl,BW _,_,rfl,?_⟩
      show if Hc (V.int As[k].1) (cV (Rm.chain (Af R) (BZ As j)).tail)=true then _ else _
      have ein:Hc (V.int As[k].1) (cV (Rm.chain (Af R) (BZ As j)).tail)=Rm.li (Af R) (BZ As j) (BZ As k):=by
        rw [ek]
        unfold cV Rm.li
        rw [C3]
        refine decide_eq_decide.mpr ⟨fun z => ?_,fun z => List.mem_map.mpr ⟨_,z,rfl⟩⟩
        obtain ⟨y,hy,e⟩:=List.mem_map.mp z
        have:y=BZ As k:=by omega
        rw [← this]; exact hy
      rw [ein]
      have s57:Ao H4 H7:=s5.trans s7
      cases hb:Rm.li (Af R) (BZ As j) (BZ As k) with
      | true =>
        refine Bi ?_
        refine ⟨_,rfl,hD7,?_,_,rfl,?_,AR s57 hd _⟩
        · rw [hys,Bb]
          have a1:=List.length_filter_le (fun j => Rm.li (Af R) (BZ As j) (BZ As k)) ((AN As ks ev).take m)
          have a3:((AN As ks ev).take m).length≤(AN As ks ev).length:=by rw [List.length_take]; omega
          exact Av (by omega)
        · rw [htm,List.filter_append,DK,← hys]
          have:([j].filter fun j => Rm.li (Af R) (BZ As j) (BZ As k))=[j]:=by simp [hb]
          rw [this]; rfl
      | false =>
        refine A1 ?_
        refine ⟨hD7,_,rfl,?_,s57⟩
        rw [htm,List.filter_append]
        have:([j].filter fun j => Rm.li (Af R) (BZ As j) (BZ As k))=[]:=by simp [hb]
        rw [this,List.append_nil]; exact hys
    rintro ys σ H5 hDn ⟨v,rfl,hys,(s5:Ao _ _)⟩
    rw [Bb,List.take_length] at hys
    have e5:=s5 _ _ e4
    have er5:=s5 _ _ er4
    have s45:=s4.trans s5
    have hDn':H5 d=some (.lst (cV ((AN As ks ev).filter fun j => Rm.li (Af R) (BZ As j) (BZ As k)))):=by rw [hDn,hys]
    refine ⟨_,rfl,(by show 0≤sizeLine; decide),fun ne hne => ?_⟩
    have s6:=Ag hne (.lst [])
    refine ⟨_,_,.lst (AE.of (s6 _ _ hDn')) (Gn _),.lst (AE.of Ac) .nil,(LG _).1,(by decide +kernel),_,rfl,?_⟩
    show if PyData.eqv (Hb (((AN As ks ev).filter fun j => Rm.li (Af R) (BZ As j) (BZ As k)).map fun (j:Nat) => (j:Int))) (.list [])=true then _ else _
    rw [NM,List.isEmpty_map,Lo]
    have e6:=s6 _ _ e5
    have er6:=s6 _ _ er5
    have s46:=s45.trans s6
    generalize upd H5 ne (.lst [])=H6 at e6 er6 s46 ⊢
    cases hb:DH R As (AN As ks ev) k with
    | false =>
      refine Bi ?_
      refine ⟨_,rfl,.inl ⟨rfl,_,AE.of e6⟩,_,rfl,fd',_,_,rfl,rfl,e6,?_,?_⟩
      · rw [Bb]
        have a1:=List.length_filter_le (fun k => !DH R As (AN As ks ev) k) ((AN As ks ev).take i)
        have a3:((AN As ks ev).take i).length≤(AN As ks ev).length:=by rw [List.length_take]; omega
        exact Av (by omega)
      · refine ⟨_,_,_,rfl,AR s46 hfd0 _,by rw [Ak nrf]; exact er6,?_⟩
        rw [Ac,htk,List.filter_append,DK]
        have:([k].filter fun k => !DH R As (AN As ks ev) k)=[k]:=by simp [hb]
        rw [this]; rfl
    | true =>
      refine A1 ?_
      refine ⟨_,_,_,rfl,s46,er6,?_⟩
      rw [htk,List.filter_append]
      have:([k].filter fun k => !DH R As (AN As ks ev) k)=[]:=by simp [hb]
      rw [this,List.append_nil]; exact e6
  · rintro σ H4 ⟨v5',v6',v8,rfl,s4,er4,e4⟩
    rw [Bb,List.take_length] at e4
    refine ⟨_,rfl,?_⟩
    exact q fd' H4 hfd0 s4 e4
end
end Toy
namespace Toy
open PySem L2
seal PySem.wpAny
section
variable {P:Program} {w:World} {K:PySem.W.Frag} {mg:Str→Option Value} {base:Heap}
def Bs (R:List Ai):List Int:=(List.range R.length).map fun k => if choosing R k=true then (((Rm.kidsN (Af R) k).headD 0:Nat):Int) else -1
theorem FD (R:List Ai):(Bs R).length=R.length:=by simp [Bs]
theorem DI {R:List Ai} {k:Nat} (h:k < R.length):(Bs R).getD k (-1)=if choosing R k=true then (((Rm.kidsN (Af R) k).headD 0:Nat):Int) else -1:=by
  unfold Bs
  rw [List.getD_eq_getElem?_getD,List.getElem?_map,List.getElem?_range h]; rfl
def Hw:Sp:=fun vs H Q _ => ∃ (r:Addr) (R:List Ai),vs=[.ref r]∧Bq H r R∧AY R ∧
  ∀ (l:Addr) (H':Hp),H l=Option.none→Ao H H'→H' l=some (.lst ((Bs R).map V.int))→Q (.ref l) H'
theorem Hx:AA ["rooms", "choice", "k", "inside"] ["rooms"] (Ae DE):=⟨rfl,rfl,rfl,by decide +kernel,rfl,by decide +kernel,by decide +kernel⟩
theorem Iz {f C:Addr} {fd:FuncData} (D:Am K mg "_law_first" DE ["rooms"] f fd) (T:Dn K mg C):AD P w K mg base A9 1 f fd ["rooms"] Hw:=by
  refine D.fn.ok Hx (fun vs H Q E h => ?_) (fun cdv A outer s H vs Q E hr h => ?_)
  · obtain ⟨r,R,rfl,_⟩:=h
    rfl
  obtain ⟨r,R,rfl,hR,hG,q⟩:=h
  refine ⟨_,Ad (Ar (i := 1) Hx.nd rfl (Or.inl rfl) (Bf Ab))
    (Ad (Bj PassesOwn.never rfl (AZ rfl T.range (Aa (AG At (by rfl) T.len PySem.boot_len (Aa (pv 0) Ab)) Ab)) (AI (i := 2) Hx.nd rfl (Or.inr rfl))
      (Ad (Fg (i := 3) ["j", "k", "rooms"] [Option.none,some 2,some 0] rfl Hx.nd rfl rfl
          (AZ rfl T.range (Aa (AG At (by rfl) T.len PySem.boot_len (Aa (pv 0) Ab)) Ab))
          (fun _ => AI (i := 0) (show (["j", "k", "rooms"]:List Str).Nodup by decide +kernel) rfl (Or.inl rfl))
          (fun _ => Es (AB Cz (An Aw (An Au (pv 2) (pv 0) (fun _ _ => rfl)) Ah (fun _ _ => rfl)) (pv 1) (AT _)))
          (fun _ => pv 0) (N:=["rooms", "choice", "k", "inside"]) (ks:=(Ae DE).names) rfl rfl (by decide +kernel) (by decide +kernel) (by decide +kernel) (by decide +kernel))
      (Aj (A0 (AB BB (An Aw (An Au (pv 0) (pv 2) (fun _ _ => rfl)) Ah (fun _ _ => rfl)) (AX (Aa Be (Aa Be Ab))) (by with_unfolding_all rfl))
        (Aj (AS (BC PySem.F.plainAttrs_list PySem.F.slot_list_append PySem.F.type_list_append AU (pv 1) (Aa (An Au (pv 3) Ah (fun _ _ => rfl)) Ab))))
        (Aj (AS (BC PySem.F.plainAttrs_list PySem.F.slot_list_append PySem.F.type_list_append AU (pv 1) (Aa (EF C9 Ah) Ab))))))))
    (Aj (AM (pv 1)))),?_⟩
  obtain ⟨ps,hrr,hI⟩:=hR.ob
  have hl:(ps.map V.ref).length=R.length:=Bq.len hI
  have hrl:=hG.most
  refine ⟨(by show 0≤sizeLine; decide),fun cd hcd => ?_⟩
  have s1:Ao H (upd H cd (.lst [])):=Ag hcd _
  have ec:(upd H cd (.lst [])) cd=some (.lst []):=Ac
  generalize upd H cd (.lst [])=H1 at s1 ec ⊢
  refine ⟨_,rfl,r,_,rfl,.inl (AE.of (s1 _ _ hrr)),_,rfl,by rw [hl]; omega,by rw [hl]; omega,?_⟩
  rw [hl]
  refine Br (fun i σ H2 => ∃ v v',σ = [some (.ref r),some (.ref cd),v,v']∧Ao H H2∧H2 cd=some (.lst (((List.range i).map fun k => if choosing R k=true then (((Rm.kidsN (Af R) k).headD 0:Nat):Int) else -1).map V.int)))
    ⟨_,_,rfl,s1,ec⟩ ?_ ?_
  · rintro i σ H2 hi ⟨v,v',rfl,s2,e2⟩
    have hi':i < R.length:=by omega
    have ei:(0:Int) + (i:Int)=(i:Int):=by omega
    rw [ei]
    refine ⟨_,rfl,r,_,rfl,.inl (AE.of (s2 _ _ hrr)),_,rfl,by rw [hl]; omega,by rw [hl]; omega,fun bk d hd => ?_⟩
    rw [hl]
    refine EB (Pv:=fun n ys σ H' => ∃ v,σ = [v,some (.int i),some (.ref r)]∧ys=cV ((List.range n).filter fun j => decide (Rm.hold (Af R) j=i))∧Ao H2 H') ⟨_,rfl,rfl,Ag hd _⟩ ?_ ?_
    · rintro n ys σ H3 hn hDn ⟨v,rfl,hys,(s3:Ao _ _)⟩
      have hn':n < R.length:=by omega
      obtain ⟨p,hp,hp2⟩:=BG hI hn'
      have en:(0:Int) + (n:Int)=(n:Int):=by omega
      have eh:Rm.hold (Af R) n=R[n].1:=Cp (List.getElem?_eq_getElem hn')
      have s23:=s2.trans s3
      refine ⟨_,rfl,_,rfl,r,_,_,_,rfl,rfl,AE.of (s23 _ _ hrr),by rw [en]; exact hp,p,_,_,_,rfl,rfl,A2.of (s23 _ _ hp2),rfl,_,rfl,rfl,_,rfl,?_⟩
      refine GS (fun z => ?_) (fun z => ?_)
      · have z':R[n].1=i:=by simpa using z
        refine ⟨_,rfl,hDn,?_,⟨_,rfl,?_,AR s3 hd _⟩⟩
        · rw [hys,Bb]
          have:=List.length_filter_le (fun j => decide (Rm.hold (Af R) j=(i:Int))) (List.range n)
          rw [List.length_range] at this
          exact Av (by omega)
        · rw [Rm.range_filter_succ,if_pos (by rw [eh]; exact decide_eq_true z'),DK,← hys,en]; rfl
      · have z':¬ R[n].1=i:=by simpa using z
        refine ⟨hDn,⟨_,rfl,?_,s3⟩⟩
        rw [Rm.range_filter_succ,if_neg (by rw [eh]; simpa using z'),List.append_nil]; exact hys
    rintro ys σ H3 hDn ⟨v,rfl,hys,(s3:Ao _ _)⟩
    have ein:H3 d=some (.lst (cV (Rm.kidsN (Af R) i))):=by
      rw [hDn,hys]
      unfold Rm.kidsN
      rw [Ay]
      have e:((R.length:Int)).toNat=R.length:=by omega
      rw [e]
    have s23:=s2.trans s3
    obtain ⟨p,hp,hp2⟩:=BG hI hi'
    have lenOk:(((List.range i).map fun k => if choosing R k=true then (((Rm.kidsN (Af R) k).headD 0:Nat):Int) else -1).map V.int).length < sizeLine:=by
      rw [List.length_map,List.length_map,List.length_range]; exact Av (by omega)
    refine ⟨_,rfl,_,rfl,r,_,_,_,rfl,rfl,AE.of (s23 _ _ hrr),hp,p,_,_,_,rfl,rfl,A2.of (s23 _ _ hp2),rfl,(by show 2≤sizeLine; decide),fun t ht => ?_⟩
    refine ⟨t,_,rfl,.inr (A2.of Ac),rfl,by decide +kernel,_,rfl,?_⟩
    have s4:=Ag ht (.tup [.str "one",.str "keep"])
    have e4:(upd H3 t (.tup [.str "one",.str "keep"])) cd=some (.lst (((List.range i).map fun k => if choosing R k=true then (((Rm.kidsN (Af R) k).headD 0:Nat):Int) else -1).map V.int)):=s4 _ _ (s3 _ _ e2)
    have s24:=s23.trans s4
    have ein4:=s4 _ _ ein
    generalize upd H3 t (.tup [.str "one",.str "keep"])=H4 at e4 s24 ein4 ⊢
    show if Hc (V.str R[i].2) [V.str "one",V.str "keep"] = true then _ else _
    have ech:choosing R i=decide (R[i].2 = "one"∨R[i].2 = "keep"):=by
      unfold choosing; rw [List.getElem?_eq_getElem hi']
    rw [KN,← ech]
    cases hc:choosing R i with
    | true =>
      refine Bi ?_
      have hne:=DC hG hi' hc
      have e0:(cV (Rm.kidsN (Af R) i))[0]? = some (.int ((Rm.kidsN (Af R) i).headD 0:Nat)):=by
        cases hz:Rm.kidsN (Af R) i with
        | nil => exact absurd hz hne
        | cons x t => rfl
      refine ⟨_,rfl,.inl ⟨rfl,_,AE.of e4⟩,_,rfl,d,_,_,_,rfl,rfl,AE.of ein4,BN (j := 0) e0,cd,_,_,rfl,rfl,e4,lenOk,?_⟩
      refine ⟨_,_,rfl,AR s24 hcd _,?_⟩
      rw [Ac,List.range_succ,List.map_append,List.map_append]
      show _=some (HO.lst (_ ++ [V.int (if choosing R i=true then _ else _)]))
      rw [if_pos hc]
    | false =>
      refine A1 ?_
      refine ⟨_,rfl,.inl ⟨rfl,_,AE.of e4⟩,1,rfl,cd,_,_,rfl,rfl,e4,lenOk,?_⟩
      refine ⟨_,_,rfl,AR s24 hcd _,?_⟩
      rw [Ac,List.range_succ,List.map_append,List.map_append]
      show _=some (HO.lst (_ ++ [V.int (if choosing R i=true then _ else _)]))
      rw [if_neg (by rw [hc]; decide)]
  · rintro σ H2 ⟨v,v',rfl,s2,e2⟩
    refine ⟨_,rfl,?_⟩
    refine q cd H2 hcd s2 ?_
    rw [e2]
    have e:((R.length:Int)).toNat=R.length:=by omega
    rw [e]; rfl
def CU (R:List Ai) (chs:List Int) (p k:Nat):Bool:=decide (Ax R p = "all") || decide (chs.getD p (-1)=(k:Int))
def Cn (R:List Ai) (chs:List Int):List Nat:=(List.range R.length).filter (Rm.kb (CU R chs) (Af R))
def Kt:Sp:=fun vs H Q _ => ∃ (r c:Addr) (R:List Ai) (chs:List Int),vs=[.ref r,.ref c]∧Bq H r R∧AY R∧H c=some (.lst (chs.map V.int))∧chs.length=R.length ∧
  ∀ (l:Addr) (H':Hp),H l=Option.none→Ao H H'→H' l=some (.lst (cV (Cn R chs)))→Q (.ref l) H'
theorem KA:AA ["rooms", "choice", "kept", "k", "holder"] ["rooms", "choice"] (Ae ES):=⟨rfl,rfl,rfl,by decide +kernel,rfl,by decide +kernel,by decide +kernel⟩
theorem IM {chs:List Int} {p:Nat} (h:p < chs.length):Jl (chs.map V.int) (p:Int)=some (.int (chs.getD p (-1))):=by
  rw [CP h,List.getD_eq_getElem?_getD,List.getElem?_eq_getElem h]; rfl
theorem KI {f C:Addr} {fd:FuncData} (D:Am K mg "_law_kept" ES ["rooms", "choice"] f fd) (T:Dn K mg C):AD P w K mg base A9 1 f fd ["rooms", "choice"] Kt:=by
  refine D.fn.ok KA (fun vs H Q E h => ?_) (fun cdv A outer s H vs Q E hr h => ?_)
  · obtain ⟨r,c,R,chs,rfl,_⟩:=h
    rfl
  obtain ⟨r,c,R,chs,rfl,hR,hG,hc,hcl,q⟩:=h
  refine ⟨_,Ad (Ar (i := 2) KA.nd rfl (Or.inl rfl) (Bf (Aa Ah Ab)))
    (Ad (Bj PassesOwn.never rfl (JS rfl T.range (Aa Ah (Aa (AG At (by rfl) T.len PySem.boot_len (Aa (pv 0) Ab)) Ab))) (AI (i := 3) KA.nd rfl (Or.inl rfl))
      (Ad (Ar (i := 4) KA.nd rfl (Or.inl rfl) (An Aw (An Au (pv 0) (pv 3) (fun _ _ => rfl)) Ah (fun _ _ => rfl)))
      (Aj (A0 (PW.pt (DF (AB BB (pv 4) (pv 2) (by with_unfolding_all rfl)) (CZ (PW.pt (Fq (AB Cz (An Aw (An Au (pv 0) (pv 4) (fun _ _ => rfl)) Ah (fun _ _ => rfl)) Be (AT _))
          (EW (AB Cz (An Au (pv 1) (pv 4) (fun _ _ => rfl)) (pv 3) (AT _))))))))
        (Aj (AS (BC PySem.F.plainAttrs_list PySem.F.slot_list_append PySem.F.type_list_append AU (pv 2) (Aa (pv 3) Ab)))) AJ))))
    (Aj (AM (pv 2)))),?_⟩
  obtain ⟨ps,hrr,hI⟩:=hR.ob
  have hl:(ps.map V.ref).length=R.length:=Bq.len hI
  have hrl:=hG.most
  have hpos:=hG.tree.pos
  rw [Ay] at hpos
  refine ⟨(by show 1≤sizeLine; decide),fun kd hkd => ?_⟩
  have s1:Ao H (upd H kd (.lst [.int 0])):=Ag hkd _
  have ek:(upd H kd (.lst [.int 0])) kd=some (.lst (cV [0])):=Ac
  generalize upd H kd (.lst [.int 0])=H1 at s1 ek ⊢
  refine ⟨_,rfl,r,_,rfl,.inl (AE.of (s1 _ _ hrr)),1,(R.length:Int),(by rw [hl]),⟨by decide,by decide,by omega,by omega⟩,?_⟩
  have em:((R.length:Int) - 1).toNat=R.length - 1:=by omega
  rw [em]
  have kb0:(List.range 1).filter (Rm.kb (CU R chs) (Af R))=[0]:=by
    rw [Rm.range_filter_succ _ 0,if_pos (Rm.kb_root hG.tree)]; rfl
  refine Br (fun i σ H2 => ∃ v v',σ = [some (.ref r),some (.ref c),some (.ref kd),v,v']∧Ao H H2∧H2 kd=some (.lst (cV ((List.range (i + 1)).filter (Rm.kb (CU R chs) (Af R))))))
    ⟨_,_,rfl,s1,by rw [ek,kb0]⟩ ?_ ?_
  · rintro i σ H2 hi ⟨v,v',rfl,s2,e2⟩
    have hi':i + 1 < R.length:=by omega
    have ei:(1:Int) + (i:Int)=((i + 1:Nat):Int):=by omega
    rw [ei]
    obtain ⟨p,hp,hp2⟩:=BG hI hi'
    have eh:Rm.hold (Af R) (i + 1)=R[i + 1].1:=Cp (List.getElem?_eq_getElem hi')
    have hu:=hG.tree.up (i + 1) (by omega) (by rw [Ay]; exact hi')
    have hkb:=Rm.kb_up (ok:=CU R chs) hG.tree (k:=i + 1) (by omega) (by rw [Ay]; exact hi')
    rw [eh] at hu hkb
    obtain ⟨h0,eh0⟩ : ∃ h0:Nat,R[i + 1].1=(h0:Int):=⟨R[i + 1].1.toNat,by omega⟩
    have hlt:h0 < i + 1:=by omega
    have hltR:h0 < R.length:=by omega
    rw [eh0,Int.toNat_natCast] at hkb
    obtain ⟨p3,hp3,hp4⟩:=BG hI hltR
    have ein:Hc (V.int (h0:Int)) (cV ((List.range (i + 1)).filter (Rm.kb (CU R chs) (Af R))))=Rm.kb (CU R chs) (Af R) h0:=by
      unfold cV
      rw [C3]
      by_cases hb:Rm.kb (CU R chs) (Af R) h0=true
      · rw [hb]
        exact decide_eq_true (List.mem_map.mpr ⟨h0,List.mem_filter.mpr ⟨List.mem_range.mpr hlt,hb⟩,rfl⟩)
      · rw [Bool.not_eq_true] at hb
        rw [hb]
        refine decide_eq_false fun z => ?_
        obtain ⟨y,hy,e⟩:=List.mem_map.mp z
        have:y=h0:=by omega
        rw [this] at hy
        have:=(List.mem_filter.mp hy).2
        rw [hb] at this; cases this
    have lenOk:(cV ((List.range (i + 1)).filter (Rm.kb (CU R chs) (Af R)))).length < sizeLine:=by
      rw [Bb]
      have:=List.length_filter_le (Rm.kb (CU R chs) (Af R)) (List.range (i + 1))
      rw [List.length_range] at this
      exact Av (by omega)
    have yes:Rm.kb (CU R chs) (Af R) (i + 1)=true→(MA (tBM K "list" Hz (DT 2) (ED (DT 3) Lb)))
        { nx:=fun σ H2 => ∃ v v',σ = [some (.ref r),some (.ref c),some (.ref kd),v,v']∧Ao H H2∧H2 kd=some (.lst (cV ((List.range (i + 1 + 1)).filter (Rm.kb (CU R chs) (Af R))))),rt:=Q } [some (.ref r),some (.ref c),some (.ref kd),some (.int ((i + 1:Nat):Int)),some (.int R[i + 1].1)] H2:=fun hb => by
      refine ⟨_,rfl,.inl ⟨rfl,_,AE.of e2⟩,_,rfl,kd,_,_,rfl,rfl,e2,lenOk,?_⟩
      refine ⟨_,_,rfl,AR s2 hkd _,?_⟩
      rw [Ac,Rm.range_filter_succ _ (i + 1),if_pos hb,DK]; rfl
    have no:Rm.kb (CU R chs) (Af R) (i + 1)=false→∃ v v',[some (.ref r),some (.ref c),some (.ref kd),some (.int ((i + 1:Nat):Int)),some (.int R[i + 1].1)] = [some (V.ref r),some (.ref c),some (.ref kd),v,v']∧Ao H H2∧H2 kd=some (.lst (cV ((List.range (i + 1 + 1)).filter (Rm.kb (CU R chs) (Af R))))):=fun hb => by
      refine ⟨_,_,rfl,s2,?_⟩
      rw [Rm.range_filter_succ _ (i + 1),if_neg (by rw [hb]; decide),List.append_nil]; exact e2
    refine ⟨_,rfl,_,rfl,r,_,_,_,rfl,rfl,AE.of (s2 _ _ hrr),hp,p,_,_,_,rfl,rfl,A2.of (s2 _ _ hp2),rfl,?_⟩
    refine ⟨_,rfl,_,rfl,kd,_,rfl,.inl (AE.of e2),rfl,BW _,_,rfl,?_⟩
    show if Hc (V.int R[i + 1].1) (cV ((List.range (i + 1)).filter (Rm.kb (CU R chs) (Af R))))=true then _ else _
    rw [eh0,ein]
    rw [eh0] at yes no
    cases hb0:Rm.kb (CU R chs) (Af R) h0 with
    | false =>
      rw [hb0,Bool.false_and] at hkb
      refine A1 ?_
      refine A1 ?_
      exact no hkb
    | true =>
      rw [hb0,Bool.true_and] at hkb
      refine Bi ?_
      refine ⟨_,rfl,_,rfl,r,_,_,_,rfl,rfl,AE.of (s2 _ _ hrr),hp3,p3,_,_,_,rfl,rfl,A2.of (s2 _ _ hp4),rfl,rfl,_,rfl,?_⟩
      have eok:CU R chs h0 (i + 1)=(decide (R[h0].2 = "all") || decide (chs.getD h0 (-1)=((i + 1:Nat):Int))):=by unfold CU; rw [A4 hltR]
      rw [eok] at hkb
      by_cases hall:R[h0].2 = "all"
      · rw [decide_eq_true (show V.str R[h0].2=V.str "all" by rw [hall])]
        refine Bi ?_
        refine Bi ?_
        rw [decide_eq_true hall,Bool.true_or] at hkb
        exact yes hkb
      · rw [decide_eq_false (show ¬ V.str R[h0].2=V.str "all" from fun z => hall (by injection z))]
        refine A1 ?_
        rw [decide_eq_false hall,Bool.false_or] at hkb
        refine ⟨_,rfl,_,rfl,c,_,_,_,rfl,rfl,AE.of (s2 _ _ hc),IM (by rw [hcl]; exact hltR),_,rfl,rfl,_,rfl,?_⟩
        by_cases hch:chs.getD h0 (-1)=((i + 1:Nat):Int)
        · rw [decide_eq_true (show V.int (chs.getD h0 (-1))=V.int ((i + 1:Nat):Int) by rw [hch])]
          refine Bi ?_
          rw [decide_eq_true hch] at hkb
          exact yes hkb
        · rw [decide_eq_false (show ¬ V.int (chs.getD h0 (-1))=V.int ((i + 1:Nat):Int) from fun z => hch (by injection z))]
          refine A1 ?_
          rw [decide_eq_false hch] at hkb
          exact no hkb
  · rintro σ H2 ⟨v,v',rfl,s2,e2⟩
    refine ⟨_,rfl,?_⟩
    refine q kd H2 hkd s2 ?_
    have e:R.length - 1 + 1=R.length:=by omega
    rw [e2,e]; rfl
end
end Toy
namespace Toy
open PySem L2
seal PySem.wpAny
section
variable {P:Program} {w:World} {K:PySem.W.Frag} {mg:Str→Option Value} {base:Heap}
theorem Jb {hs:List Int}:∀ i:Nat,(Rm.chain hs i).Pairwise (· > ·):=by
  intro i
  induction i using Nat.strongRecOn with
  | ind i ih =>
    by_cases z : 0≤Rm.hold hs i∧Rm.hold hs i < (i:Int)
    · rw [Rm.chain_up z,List.pairwise_cons]
      refine ⟨fun y hy => ?_,ih _ (by omega)⟩
      have:=Rm.chain_le _ hy
      omega
    · rw [Rm.chain,dif_neg z]; simp
def EE (hs:List Int) (t g:Nat):List Nat:=(Rm.chain hs t).take (((Rm.chain hs t).map fun (j:Nat) => (j:Int)).idxOf (g:Int))
theorem MS {hs:List Int} {t g k:Nat} (hg:g∈Rm.chain hs t) (hk:k∈EE hs t g):k∈Rm.chain hs t∧g < k:=by
  unfold EE at hk
  refine ⟨List.mem_of_mem_take hk,?_⟩
  obtain ⟨i,hi,e⟩:=List.mem_take_iff_getElem.mp hk
  have hm:(g:Int)∈(Rm.chain hs t).map fun (j:Nat) => (j:Int):=List.mem_map.mpr ⟨g,hg,rfl⟩
  have hj:=List.idxOf_lt_length_iff.mpr hm
  have hj2:=hj
  rw [List.length_map] at hj2
  have eg:=List.getElem_idxOf hj
  rw [List.getElem_map] at eg
  have hlt:i < ((Rm.chain hs t).map fun (j:Nat) => (j:Int)).idxOf (g:Int):=by omega
  have:=List.pairwise_iff_getElem.mp (Jb (hs:=hs) t) i _ (by omega) hj2 hlt
  omega
def K6 (R:List Ai) (g:Nat) (l:List Int) (k:Nat):List Int:=if (decide (Ax R k = "one") && Rm.li (Af R) k g)=true then l.set k ((Bs R).getD k (-1)) else l
def N0 (R:List Ai) (l:List Int) (k:Nat):List Int:=if Ax R (Rm.hold (Af R) k).toNat = "all" then l else l.set (Rm.hold (Af R) k).toNat (k:Int)
def BI (a:Aq):Nat:=a.2.2.2.1.toNat
def BH (R:List Ai) (chs:List Int) (a:Aq):List Int:=(EE (Af R) (BI a) (A6 R a)).foldl (N0 R) ((List.range R.length).foldl (K6 R (A6 R a)) chs)
theorem MC {R:List Ai} {g k:Nat} (l:List Int) (h:(decide (Ax R k = "one") && Rm.li (Af R) k g)=true):K6 R g l k=l.set k ((Bs R).getD k (-1)):=by unfold K6; rw [if_pos h]
theorem stA_no {R:List Ai} {g k:Nat} (l:List Int) (h:(decide (Ax R k = "one") && Rm.li (Af R) k g)=false):K6 R g l k=l:=by unfold K6; rw [if_neg (by rw [h]; decide)]
theorem PV {R:List Ai} {k:Nat} (l:List Int) (h:Ax R (Rm.hold (Af R) k).toNat = "all"):N0 R l k=l:=by unfold N0; rw [if_pos h]
theorem MB {R:List Ai} {k:Nat} (l:List Int) (h:¬ Ax R (Rm.hold (Af R) k).toNat = "all"):N0 R l k=l.set (Rm.hold (Af R) k).toNat (k:Int):=by unfold N0; rw [if_neg h]
theorem DN (R:List Ai) (g:Nat) (l:List Int) (k:Nat):(K6 R g l k).length=l.length:=by unfold K6; split <;> simp
theorem FH (R:List Ai) (l:List Int) (k:Nat):(N0 R l k).length=l.length:=by unfold N0; split <;> simp
theorem CQ {f:List Int→Nat→List Int} (hf:∀ l k,(f l k).length=l.length):∀ (ks:List Nat) (l:List Int),(ks.foldl f l).length=l.length
  | [],_ => rfl
  | k :: r,l => by rw [List.foldl_cons,CQ hf r,hf]
theorem J3 (R:List Ai) (chs:List Int) (a:Aq):(BH R chs a).length=chs.length:=by
  unfold BH
  rw [CQ (FH R),CQ (DN R _)]
theorem IR (f:List Int→Nat→List Int) (l:List Int) (i:Nat):(List.range (i + 1)).foldl f l=f ((List.range i).foldl f l) i:=by
  rw [List.range_succ,List.foldl_append]; rfl
theorem J6 {f:List Int→Nat→List Int} {l:List Int} {ks:List Nat} {i k:Nat} (hk:ks[i]? = some k):(ks.take (i + 1)).foldl f l=f ((ks.take i).foldl f l) k:=by
  have:ks.take (i + 1)=ks.take i ++ [k]:=by rw [List.take_add_one,hk]; rfl
  rw [this,List.foldl_append]; rfl
theorem M0 {n k:Nat} (h:k < n):O0 n (k:Int)=some k:=by
  unfold O0
  rw [if_pos (by omega),if_pos (by omega),Int.toNat_natCast]
theorem Km {R:List Ai} {a:Aq} (h:AW R a):a.2.2.2.1=((BI a:Nat):Int)∧BI a < R.length:=by
  obtain ⟨t,et,ht⟩:=h.tgt
  unfold BI
  rw [et,Int.toNat_natCast]
  exact ⟨rfl,ht⟩
theorem DA {R:List Ai} {a:Aq} (h:AW R a):A6 R a∈Rm.chain (Af R) (BI a):=by
  obtain ⟨p,hp⟩:=h.sc
  unfold A6
  rw [hp]
  have:=(FR hp).2.2
  unfold Rm.li at this
  have:=of_decide_eq_true this
  exact List.mem_of_mem_tail this
def Oi:Sp:=fun vs H Q _ => ∃ (r c p:Addr) (R:List Ai) (chs:List Int) (a:Aq),vs=[.ref r,.ref c,.ref p]∧Bq H r R∧AY R∧H c=some (.lst (chs.map V.int))∧chs.length=R.length∧H p=some (.tup (aV a))∧AW R a ∧
  ∀ (l:Addr) (H':Hp),H l=Option.none→Ao H H'→H' l=some (.lst ((BH R chs a).map V.int))→Q (.ref l) H'
theorem Fv:AA ["rooms", "choice", "arrow", "ring", "first", "turned", "k", "chain"] ["rooms", "choice", "arrow"] (Ae G7):=⟨rfl,rfl,rfl,by decide +kernel,rfl,by decide +kernel,by decide +kernel⟩
theorem cutTo (xs:List V) (k:Nat):Cs xs Option.none (some (k:Int))=xs.take k:=by
  unfold Cs
  rw [HT.sIx_nat,HT.sIx_none,List.drop_zero,Nat.sub_zero]
  by_cases h:k≤xs.length
  · rw [Nat.min_eq_left h]
  · rw [Nat.min_eq_right (by omega),List.take_length,List.take_of_length_le (by omega)]
theorem cV_take (l:List Nat) (k:Nat):(cV l).take k=cV (l.take k):=by unfold cV; rw [List.map_take,List.map_take]
theorem ok_gone {f C fs fh ff:Addr} {fd fds fdh fdf:FuncData} (D:Am K mg "_law_gone" G7 ["rooms", "choice", "arrow"] f fd) (T:Dn K mg C) (Ds:Am K mg "_law_scope" CY ["rooms", "source", "target"] fs fds) (Dh:Am K mg "_law_chain" Dd ["rooms", "k"] fh fdh) (Df:Am K mg "_law_first" DE ["rooms"] ff fdf) :
    AD P w K mg base A9 3 f fd ["rooms", "choice", "arrow"] Oi:=by
  have Gs:AD P w K mg base A9 2 fs fds ["rooms", "source", "target"] FK:=GP Ds T Dh
  have Gh:AD P w K mg base A9 1 fh fdh ["rooms", "k"] FP:=FZ Dh T
  have Gf:AD P w K mg base A9 1 ff fdf ["rooms"] Hw:=Iz Df T
  refine D.fn.ok Fv (fun vs H Q E h => ?_) (fun cdv A outer s H vs Q E hr h => ?_)
  · obtain ⟨r,c,p,R,chs,a,rfl,_⟩:=h
    rfl
  obtain ⟨r,c,p,R,chs,a,rfl,hR,hG,hc,hcl,hp,hA,q⟩:=h
  have hr1:Ca 1 _:=hr.mono (by decide)
  refine ⟨_,Ad (Ar (i := 3) Fv.nd rfl (Or.inl rfl) (Ap Gs hr rfl Ds.mg Ds.fn.kp Ds.bd .nil AF (Aa (pv 0) (Aa (An Aw (pv 2) Ah (fun _ _ => rfl)) (Aa (An Aw (pv 2) Ah (fun _ _ => rfl)) Ab)))))
    (Ad (Ar (i := 4) Fv.nd rfl (Or.inl rfl) (Ap Gf hr1 rfl Df.mg Df.fn.kp Df.bd .nil AF (Aa (pv 0) Ab)))
    (Ad (Ar (i := 5) Fv.nd rfl (Or.inl rfl) (Ba Bw (by rfl) T.list (by decide +kernel) (Aa (pv 1) Ab)))
    (Ad (Bj PassesOwn.never rfl (AZ rfl T.range (Aa (AG At (by rfl) T.len PySem.boot_len (Aa (pv 0) Ab)) Ab)) (AI (i := 6) Fv.nd rfl (Or.inl rfl))
      (Aj (A0 (PW.pt (DF (AB Cz (An Aw (An Au (pv 0) (pv 6) (fun _ _ => rfl)) Ah (fun _ _ => rfl)) Be (AT _))
          (CZ (AB BB (pv 3) (DG Eh (Ap Gh hr1 rfl Dh.mg Dh.fn.kp Dh.bd .nil AF (Aa (pv 0) (Aa (pv 6) Ab))) (Et Ah) Eu) (by with_unfolding_all rfl)))))
        (Aj (Me (An Au (pv 4) (pv 6) (fun _ _ => rfl)) (Mf (pv 5) (pv 6) Ia))) AJ)))
    (Ad (Ar (i := 7) Fv.nd rfl (Or.inl rfl) (Ap Gh hr1 rfl Dh.mg Dh.fn.kp Dh.bd .nil AF (Aa (pv 0) (Aa (An Aw (pv 2) Ah (fun _ _ => rfl)) Ab))))
    (Ad (Bj PassesOwn.never rfl (Bu (DG Eh (pv 7) Eu (Et (BC PySem.F.plainAttrs_list PySem.F.slot_list_index PySem.F.type_list_index OR (pv 7) (Aa (pv 3) Ab))))) (AI (i := 6) Fv.nd rfl (Or.inl rfl))
      (Aj (A0 (AB EG (An Aw (An Au (pv 0) (An Aw (An Au (pv 0) (pv 6) (fun _ _ => rfl)) Ah (fun _ _ => rfl)) (fun _ _ => rfl)) Ah (fun _ _ => rfl)) Be (AT _))
        (Aj (Me (pv 6) (Mf (pv 5) (An Aw (An Au (pv 0) (pv 6) (fun _ _ => rfl)) Ah (fun _ _ => rfl)) Ia))) AJ)))
    (Aj (AM (pv 5)))))))),?_⟩
  obtain ⟨ps,hrr,hI⟩:=hR.ob
  have hl:(ps.map V.ref).length=R.length:=Bq.len hI
  have hmost:=hG.most
  obtain ⟨sn,es,hs⟩:=hA.src
  obtain ⟨et,htl⟩:=Km hA
  refine ⟨_,rfl,_,rfl,p,_,_,_,rfl,rfl,A2.of hp,rfl,_,rfl,p,_,_,_,rfl,rfl,A2.of hp,rfl,r,ps,R,sn,BI a,(by rw [es,et]; rfl),hrr,hI,hG.tree,by omega,hs,htl,fun H1 s1 => ?_⟩
  rw [KG hA es et]
  refine ⟨_,rfl,r,R,rfl,hR.same s1,hG,fun fl H2 hfl s2 e2 => ?_⟩
  have s12:=s1.trans s2
  refine ⟨_,rfl,c,_,rfl,.inl (AE.of (s12 _ _ hc)),fun td htd => ?_⟩
  have htd0:H td=Option.none:=s12.free htd
  have nft:fl≠td:=Al e2 htd
  have s3:=s12.trans (Ag htd (.lst (chs.map V.int)))
  have e3:(upd H2 td (.lst (chs.map V.int))) td=some (.lst (chs.map V.int)):=Ac
  have ef3:(upd H2 td (.lst (chs.map V.int))) fl=some (.lst ((Bs R).map V.int)):=by rw [Ak nft]; exact e2
  generalize upd H2 td (.lst (chs.map V.int))=H3 at s3 e3 ef3 ⊢
  refine ⟨_,rfl,r,_,rfl,.inl (AE.of (s3 _ _ hrr)),_,rfl,by rw [hl]; omega,by rw [hl]; omega,?_⟩
  rw [hl]
  have en:((R.length:Int)).toNat=R.length:=by omega
  rw [en]
  refine Br (fun i σ H4 => ∃ v6,σ = [some (.ref r),some (.ref c),some (.ref p),some (.int (A6 R a)),some (.ref fl),some (.ref td),v6,Option.none]∧Ao H H4∧H4 fl=some (.lst ((Bs R).map V.int))∧H4 td=some (.lst (((List.range i).foldl (K6 R (A6 R a)) chs).map V.int)))
    ⟨_,rfl,s3,ef3,e3⟩ ?_ ?_
  · rintro i σ H4 hi ⟨v6,rfl,s4,ef4,e4⟩
    have ei:(0:Int) + (i:Int)=(i:Int):=by omega
    rw [ei]
    obtain ⟨pr,hpr,hpr2⟩:=BG hI hi
    have hcl2:((List.range i).foldl (K6 R (A6 R a)) chs).length=R.length:=by rw [CQ (DN R _)]; exact hcl
    refine ⟨_,rfl,_,rfl,r,_,_,_,rfl,rfl,AE.of (s4 _ _ hrr),hpr,pr,_,_,_,rfl,rfl,A2.of (s4 _ _ hpr2),rfl,rfl,_,rfl,?_⟩
    have keep:(decide (Ax R i = "one") && Rm.li (Af R) i (A6 R a))=false→∀ H5,Ao H H5→H5 fl=some (.lst ((Bs R).map V.int))→H5 td=some (.lst (((List.range i).foldl (K6 R (A6 R a)) chs).map V.int)) →
        ∃ v6,[some (V.ref r),some (.ref c),some (.ref p),some (.int (A6 R a)),some (.ref fl),some (.ref td),some (.int (i:Int)),Option.none] = [some (V.ref r),some (.ref c),some (.ref p),some (.int (A6 R a)),some (.ref fl),some (.ref td),v6,Option.none]∧Ao H H5∧H5 fl=some (.lst ((Bs R).map V.int))∧H5 td=some (.lst (((List.range (i + 1)).foldl (K6 R (A6 R a)) chs).map V.int)):=fun hb H5 s5 ef5 e5 => by
      refine ⟨_,rfl,s5,ef5,?_⟩
      rw [IR,stA_no _ hb,e5]
    by_cases hone:R[i].2 = "one"
    · rw [decide_eq_true (show V.str R[i].2=V.str "one" by rw [hone])]
      have hk1:Ax R i = "one" := by rw [A4 hi]; exact hone
      refine Bi ?_
      refine ⟨_,rfl,_,rfl,_,rfl,r,ps,R,i,rfl,s4 _ _ hrr,hI.same s4,hG.tree,by omega,hi,fun c1 H5 hc1 s5 e5 => ?_⟩
      refine ⟨1,rfl,c1,_,rfl,AE.of e5,fun c2 hc2 => ?_⟩
      have s6:=s5.trans (Ag hc2 (.lst (Cs (cV (Rm.chain (Af R) i)) (some 1) Option.none)))
      have e6:(upd H5 c2 (.lst (Cs (cV (Rm.chain (Af R) i)) (some 1) Option.none))) c2=some (.lst (cV (Rm.chain (Af R) i).tail)):=by rw [Ac,cut1,HM]
      generalize upd H5 c2 (.lst (Cs (cV (Rm.chain (Af R) i)) (some 1) Option.none))=H6 at s6 e6 ⊢
      refine ⟨c2,_,rfl,.inl (AE.of e6),rfl,BW _,_,rfl,?_⟩
      show if Hc (V.int (A6 R a:Nat)) (cV (Rm.chain (Af R) i).tail)=true then _ else _
      have ein:Hc (V.int (A6 R a:Nat)) (cV (Rm.chain (Af R) i).tail)=Rm.li (Af R) i (A6 R a):=by
        unfold cV Rm.li
        rw [C3]
        refine decide_eq_decide.mpr ⟨fun z => ?_,fun z => List.mem_map.mpr ⟨_,z,rfl⟩⟩
        obtain ⟨y,hy,e⟩:=List.mem_map.mp z
        have:y=A6 R a:=by omega
        rw [← this]; exact hy
      rw [ein]
      cases hb:Rm.li (Af R) i (A6 R a) with
      | true =>
        refine Bi ?_
        refine ⟨_,rfl,_,rfl,fl,_,_,_,rfl,rfl,AE.of (s6 _ _ ef4),IM (by rw [FD]; exact hi),?_⟩
        refine ⟨_,rfl,_,rfl,td,_,(i:Int),i,rfl,rfl,s6 _ _ e4,M0 (by rw [List.length_map,hcl2]; exact hi),?_⟩
        refine ⟨_,rfl,AR (s4.trans s6) htd0 _,by rw [Ak nft]; exact s6 _ _ ef4,?_⟩
        rw [Ac,IR,← List.map_set,MC _ (by rw [hk1,hb]; decide +kernel)]
      | false =>
        refine A1 ?_
        exact keep (by rw [hb,Bool.and_false]) H6 (s4.trans s6) (s6 _ _ ef4) (s6 _ _ e4)
    · rw [decide_eq_false (show ¬ V.str R[i].2=V.str "one" from fun z => hone (by injection z))]
      have hk1:¬ Ax R i = "one" := by rw [A4 hi]; exact hone
      refine A1 ?_
      refine A1 ?_
      exact keep (by rw [decide_eq_false hk1,Bool.false_and]) H4 s4 ef4 e4
  rintro σ H4 ⟨v6,rfl,s4,ef4,e4⟩
  refine ⟨_,rfl,_,rfl,p,_,_,_,rfl,rfl,A2.of (s4 _ _ hp),rfl,r,ps,R,BI a,(by rw [et]; rfl),s4 _ _ hrr,hI.same s4,hG.tree,by omega,htl,fun cd H5 hcd s5 e5 => ?_⟩
  have s45:=s4.trans s5
  have ntc:td≠cd:=Al e4 hcd
  have hin:=DA hA
  have hchl:=Kb (hs:=Af R) (BI a)
  have hsm:∀ y∈(Rm.chain (Af R) (BI a)).map (fun (j:Nat) => (j:Int)),0≤y∧y < 65536:=fun y hy => by
    obtain ⟨x,hx,rfl⟩:=List.mem_map.mp hy
    have:=Rm.chain_le _ hx
    omega
  refine ⟨_,rfl,_,rfl,.inl ⟨rfl,_,AE.of e5⟩,_,rfl,cd,(Rm.chain (Af R) (BI a)).map (fun (j:Nat) => (j:Int)),_,rfl,rfl,AE.of e5,hsm,by rw [List.length_map]; omega,List.mem_map.mpr ⟨_,hin,rfl⟩,_,rfl,cd,_,rfl,AE.of e5,fun sl hsl => ?_⟩
  have nts:td≠sl:=Al (s5 _ _ e4) hsl
  have s6:=s45.trans (Ag hsl (.lst (Cs (cV (Rm.chain (Af R) (BI a))) Option.none (some ((((Rm.chain (Af R) (BI a)).map fun (j:Nat) => (j:Int)).idxOf (A6 R a:Int):Nat):Int)))))
  have e6:(upd H5 sl (.lst (Cs (cV (Rm.chain (Af R) (BI a))) Option.none (some ((((Rm.chain (Af R) (BI a)).map fun (j:Nat) => (j:Int)).idxOf (A6 R a:Int):Nat):Int))))) sl=some (.lst (cV (EE (Af R) (BI a) (A6 R a)))):=by
    rw [Ac,cutTo,cV_take]; rfl
  have et6:(upd H5 sl (.lst (Cs (cV (Rm.chain (Af R) (BI a))) Option.none (some ((((Rm.chain (Af R) (BI a)).map fun (j:Nat) => (j:Int)).idxOf (A6 R a:Int):Nat):Int))))) td=some (.lst (((List.range R.length).foldl (K6 R (A6 R a)) chs).map V.int)):=by
    rw [Ak nts]; exact s5 _ _ e4
  generalize upd H5 sl (.lst (Cs (cV (Rm.chain (Af R) (BI a))) Option.none (some ((((Rm.chain (Af R) (BI a)).map fun (j:Nat) => (j:Int)).idxOf (A6 R a:Int):Nat):Int))))=H6 at s6 e6 et6 ⊢
  refine ⟨sl,rfl,⟨_,AE.of e6⟩,?_⟩
  have hclA:((List.range R.length).foldl (K6 R (A6 R a)) chs).length=R.length:=by rw [CQ (DN R _)]; exact hcl
  generalize hchA:(List.range R.length).foldl (K6 R (A6 R a)) chs=chA at hclA et6
  refine B6 (xs:=cV (EE (Af R) (BI a) (A6 R a))) (fun i σ H7 => ∃ v6,σ = [some (.ref r),some (.ref c),some (.ref p),some (.int (A6 R a)),some (.ref fl),some (.ref td),v6,some (.ref cd)]∧Ao H H7∧H7 sl=some (.lst (cV (EE (Af R) (BI a) (A6 R a))))∧H7 td=some (.lst ((((EE (Af R) (BI a) (A6 R a)).take i).foldl (N0 R) chA).map V.int)))
    ⟨_,rfl,s6,e6,et6⟩ (fun i σ H7 _ ⟨_,_,_,e7,_⟩ => AE.of e7) ?_ ?_
  · rintro i x σ H7 hx ⟨v6',rfl,s7,e7,et7⟩
    obtain ⟨k,hk,rfl⟩:=BX hx
    obtain ⟨hk1,hk2⟩:=MS hin (List.mem_of_getElem? hk)
    have hkl:k < R.length:=by
      have:=Rm.chain_le _ hk1
      omega
    have hu:=hG.tree.up k (by omega) (by rw [Ay]; exact hkl)
    have eh:Rm.hold (Af R) k=R[k].1:=Cp (List.getElem?_eq_getElem hkl)
    obtain ⟨h0,eh0⟩ : ∃ h0:Nat,R[k].1=(h0:Int):=⟨R[k].1.toNat,by rw [eh] at hu; omega⟩
    have hh:(Rm.hold (Af R) k).toNat=h0:=by rw [eh,eh0,Int.toNat_natCast]
    have h0l:h0 < R.length:=by rw [eh,eh0] at hu; omega
    have hclB:(((EE (Af R) (BI a) (A6 R a)).take i).foldl (N0 R) chA).length=R.length:=by rw [CQ (FH R)]; exact hclA
    obtain ⟨p1,hp1,hp1'⟩:=BG hI hkl
    obtain ⟨p2,hp2,hp2'⟩:=BG hI h0l
    refine ⟨_,rfl,_,rfl,_,rfl,r,_,_,_,rfl,rfl,AE.of (s7 _ _ hrr),hp1,p1,_,_,_,rfl,rfl,A2.of (s7 _ _ hp1'),rfl,r,_,_,_,rfl,rfl,AE.of (s7 _ _ hrr),(by show Jl _ R[k].1=_; rw [eh0]; exact hp2),p2,_,_,_,rfl,rfl,A2.of (s7 _ _ hp2'),rfl,rfl,_,rfl,?_⟩
    by_cases hall:R[h0].2 = "all"
    · refine Gj (show V.str R[h0].2=V.str "all" by rw [hall]) ?_
      refine ⟨_,rfl,s7,e7,?_⟩
      rw [J6 hk,et7,PV _ (by rw [hh,A4 h0l]; exact hall)]
    · rw [decide_eq_false (show ¬ V.str R[h0].2=V.str "all" from fun z => hall (by injection z))]
      refine Bi ?_
      refine ⟨_,rfl,_,rfl,_,rfl,_,rfl,r,_,_,_,rfl,rfl,AE.of (s7 _ _ hrr),hp1,p1,_,_,_,rfl,rfl,A2.of (s7 _ _ hp1'),rfl,td,_,(h0:Int),h0,rfl,(by show V.int R[k].1=_; rw [eh0]),et7,M0 (by rw [List.length_map,hclB]; exact h0l),?_⟩
      have nst:sl≠td:=nts.symm
      refine ⟨_,rfl,AR s7 htd0 _,by rw [Ak nst]; exact e7,?_⟩
      rw [Ac,J6 hk,← List.map_set,MB _ (by rw [hh,A4 h0l]; exact hall),hh]
  · rintro σ H7 ⟨v6',rfl,s7,e7,et7⟩
    rw [Bb,List.take_length] at et7
    refine ⟨_,rfl,?_⟩
    refine q td H7 htd0 s7 ?_
    rw [et7]; unfold BH; rw [hchA]
end
end Toy
namespace Toy
open PySem L2
seal PySem.wpAny
section
variable {P:Program} {w:World} {K:PySem.W.Frag} {mg:Str→Option Value} {base:Heap}
def Hi (A:List Aq) (k:Nat):Aq:=(A[k]?).getD (0,0,0,0,0)
theorem B9 {A:List Aq} {k:Nat} (h:k < A.length):Hi A k=A[k]:=by unfold Hi; rw [List.getElem?_eq_getElem h]; rfl
def Bd (R:List Ai) (A:List Aq) (chs:List Int) (l:List Nat):List Int:=l.foldl (fun ch k => BH R ch (Hi A k)) chs
theorem E8 (R:List Ai) (A:List Aq):∀ (l:List Nat) (chs:List Int),(Bd R A chs l).length=chs.length
  | [],_ => rfl
  | k :: r,chs => by
    show (Bd R A (BH R chs (Hi A k)) r).length=_
    rw [E8 R A r,J3]
def HW:Sp:=fun vs H Q _ => ∃ (r a c t:Addr) (R:List Ai) (A:List Aq) (chs:List Int) (l:List Nat),vs=[.ref r,.ref a,.ref c,.ref t]∧Bq H r R∧BO H a A∧AY R∧(∀ x∈A,AW R x)∧H c=some (.lst (chs.map V.int))∧chs.length=R.length∧H t=some (.lst (cV l))∧(∀ i∈l,i < A.length) ∧
  ∀ (d:Addr) (H':Hp),Ao H H'→H' d=some (.lst ((Bd R A chs l).map V.int))→Q (.ref d) H'
theorem Ih:AA ["rooms", "arrows", "choice", "taken", "k"] ["rooms", "arrows", "choice", "taken"] (Ae Dy):=⟨rfl,rfl,rfl,by decide +kernel,rfl,by decide +kernel,by decide +kernel⟩
theorem NB {f fg:Addr} {fd fdg:FuncData} (D:Am K mg "_law_behind" Dy ["rooms", "arrows", "choice", "taken"] f fd) (Dg:Am K mg "_law_gone" G7 ["rooms", "choice", "arrow"] fg fdg) (Gg:AD P w K mg base A9 3 fg fdg ["rooms", "choice", "arrow"] Oi) :
    AD P w K mg base A9 4 f fd ["rooms", "arrows", "choice", "taken"] HW:=by
  refine D.fn.ok Ih (fun vs H Q E h => ?_) (fun cdv A outer s H vs Q E hr h => ?_)
  · obtain ⟨r,a,c,t,R,As,chs,l,rfl,_⟩:=h
    rfl
  obtain ⟨r,a,c,t,R,As,chs,l,rfl,hR,hAt,hG,hA,hc,hcl,ht,hlt,q⟩:=h
  refine ⟨_,Ad (Bj PassesOwn.never rfl (Bu (pv 3)) (AI (i := 4) Ih.nd rfl (Or.inl rfl))
      (Aj (Ar (i := 2) Ih.nd rfl (Or.inl rfl) (Ap Gg hr rfl Dg.mg Dg.fn.kp Dg.bd .nil AF (Aa (pv 0) (Aa (pv 2) (Aa (An Au (pv 1) (pv 4) (fun _ _ => rfl)) Ab)))))))
    (Aj (AM (pv 2))),?_⟩
  obtain ⟨qs,haa,hJ⟩:=hAt.ob
  refine ⟨_,rfl,t,rfl,⟨_,AE.of ht⟩,?_⟩
  refine B6 (xs:=cV l) (fun i σ H1 => ∃ d v,σ = [some (.ref r),some (.ref a),some (.ref d),some (.ref t),v]∧Ao H H1∧H1 d=some (.lst ((Bd R As chs (l.take i)).map V.int))) ⟨_,_,rfl,Ao.refl _,hc⟩ (fun i σ H1 _ ⟨_,_,_,s1,_⟩ => AE.of (s1 _ _ ht)) ?_ ?_
  · rintro i x σ H1 hx ⟨d,v,rfl,s1,e1⟩
    obtain ⟨k,hk,rfl⟩:=BX hx
    have hkb:=hlt k (List.mem_of_getElem? hk)
    obtain ⟨p,hp,hp2⟩:=By hJ hkb
    refine ⟨_,rfl,_,rfl,_,rfl,_,rfl,a,_,_,_,rfl,rfl,AE.of (s1 _ _ haa),hp,r,d,p,R,_,As[k],rfl,hR.same s1,hG,e1,by rw [E8]; exact hcl,s1 _ _ hp2,hA _ (List.getElem_mem hkb),fun d2 H2 hd2 s2 e2 => ?_⟩
    refine ⟨d2,_,rfl,s1.trans s2,?_⟩
    have:Bd R As chs (l.take (i + 1))=BH R (Bd R As chs (l.take i)) As[k]:=by
      unfold Bd
      have ht':l.take (i + 1)=l.take i ++ [k]:=by rw [List.take_add_one,hk]; rfl
      rw [ht',List.foldl_append]
      show BH R _ (Hi As k)=_
      rw [B9 hkb]
    rw [this]; exact e2
  · rintro σ H1 ⟨d,v,rfl,s1,e1⟩
    rw [Bb,List.take_length] at e1
    refine ⟨_,rfl,?_⟩
    exact q d H1 s1 e1
def kI (R:List Ai) (chs:List Int):List Int:=(Cn R chs).map fun (j:Nat) => (j:Int)
end
end Toy
namespace Toy
open PySem L2
seal PySem.wpAny
section
variable {P:Program} {w:World} {K:PySem.W.Frag} {mg:Str→Option Value} {base:Heap}
def CG (R:List Ai) (chs:List Int):List Int:=(List.range R.length).map fun k => if Ax R k = "keep" then chs.getD k (-1) else -1
def Kq:Sp:=fun vs H Q _ => ∃ (r c:Addr) (R:List Ai) (chs:List Int),vs=[.ref r,.ref c]∧Bq H r R∧AY R∧H c=some (.lst (chs.map V.int))∧chs.length=R.length ∧
  ∀ (t k m:Addr) (H':Hp),Ao H H'→H' t=some (.tup [.ref k,.ref m])→H' k=some (.tup (cV (Cn R chs)))→H' m=some (.tup ((CG R chs).map V.int))→Q (.ref t) H'
theorem Kw:AA ["rooms", "choice", "memory", "k"] ["rooms", "choice"] (Ae El):=⟨rfl,rfl,rfl,by decide +kernel,rfl,by decide +kernel,by decide +kernel⟩
theorem Ls {f C fk:Addr} {fd fdk:FuncData} (D:Am K mg "_law_state" El ["rooms", "choice"] f fd) (T:Dn K mg C) (Dk:Am K mg "_law_kept" ES ["rooms", "choice"] fk fdk):AD P w K mg base A9 2 f fd ["rooms", "choice"] Kq:=by
  have Gk:AD P w K mg base A9 1 fk fdk ["rooms", "choice"] Kt:=KI Dk T
  refine D.fn.ok Kw (fun vs H Q E h => ?_) (fun cdv A outer s H vs Q E hr h => ?_)
  · obtain ⟨r,c,R,chs,rfl,_⟩:=h
    rfl
  obtain ⟨r,c,R,chs,rfl,hR,hG,hc,hcl,q⟩:=h
  refine ⟨_,Ad (Ar (i := 2) Kw.nd rfl (Or.inl rfl) (Bf Ab))
    (Ad (Bj PassesOwn.never rfl (AZ rfl T.range (Aa (AG At (by rfl) T.len PySem.boot_len (Aa (pv 0) Ab)) Ab)) (AI (i := 3) Kw.nd rfl (Or.inl rfl))
      (Aj (A0 (AB Cz (An Aw (An Au (pv 0) (pv 3) (fun _ _ => rfl)) Ah (fun _ _ => rfl)) Be (AT _))
        (Aj (AS (BC PySem.F.plainAttrs_list PySem.F.slot_list_append PySem.F.type_list_append AU (pv 2) (Aa (An Au (pv 1) (pv 3) (fun _ _ => rfl)) Ab))))
        (Aj (AS (BC PySem.F.plainAttrs_list PySem.F.slot_list_append PySem.F.type_list_append AU (pv 2) (Aa (EF C9 Ah) Ab)))))))
    (Aj (AM (AX (Aa (Ba Bv (by rfl) T.tup (by decide +kernel) (Aa (Ap Gk hr rfl Dk.mg Dk.fn.kp Dk.bd .nil AF (Aa (pv 0) (Aa (pv 1) Ab))) Ab))
      (Aa (Ba Bv (by rfl) T.tup (by decide +kernel) (Aa (pv 2) Ab)) Ab)))))),?_⟩
  obtain ⟨ps,hrr,hI⟩:=hR.ob
  have hl:(ps.map V.ref).length=R.length:=Bq.len hI
  have hrl:=hG.most
  refine ⟨(by show 0≤sizeLine; decide),fun md hmd => ?_⟩
  have s1:Ao H (upd H md (.lst [])):=Ag hmd _
  have em:(upd H md (.lst [])) md=some (.lst []):=Ac
  generalize upd H md (.lst [])=H1 at s1 em ⊢
  refine ⟨_,rfl,r,_,rfl,.inl (AE.of (s1 _ _ hrr)),_,rfl,by rw [hl]; omega,by rw [hl]; omega,?_⟩
  rw [hl]
  refine Br (fun i σ H2 => ∃ v,σ = [some (.ref r),some (.ref c),some (.ref md),v]∧Ao H H2∧H2 md=some (.lst (((List.range i).map fun k => if Ax R k = "keep" then chs.getD k (-1) else -1).map V.int)))
    ⟨_,rfl,s1,em⟩ ?_ ?_
  · rintro i σ H2 hi ⟨v,rfl,s2,e2⟩
    have hi':i < R.length:=by omega
    have ei:(0:Int) + (i:Int)=(i:Int):=by omega
    rw [ei]
    obtain ⟨p,hp,hp2⟩:=BG hI hi'
    have lenOk:(((List.range i).map fun k => if Ax R k = "keep" then chs.getD k (-1) else -1).map V.int).length < sizeLine:=by
      rw [List.length_map,List.length_map,List.length_range]; exact Av (by omega)
    refine ⟨_,rfl,_,rfl,r,_,_,_,rfl,rfl,AE.of (s2 _ _ hrr),hp,p,_,_,_,rfl,rfl,A2.of (s2 _ _ hp2),rfl,rfl,_,rfl,?_⟩
    by_cases hkp:R[i].2 = "keep"
    · rw [decide_eq_true (show V.str R[i].2=V.str "keep" by rw [hkp])]
      refine Bi ?_
      have hkk:Ax R i = "keep" := by rw [A4 hi']; exact hkp
      refine ⟨_,rfl,.inl ⟨rfl,_,AE.of e2⟩,_,rfl,_,rfl,c,_,_,_,rfl,rfl,AE.of (s2 _ _ hc),IM (by rw [hcl]; exact hi'),md,_,_,rfl,rfl,e2,lenOk,?_⟩
      refine ⟨_,rfl,AR s2 hmd _,?_⟩
      rw [Ac,List.range_succ,List.map_append,List.map_append]
      show _=some (HO.lst (_ ++ [V.int (if Ax R i = "keep" then _ else _)]))
      rw [if_pos hkk]
    · rw [decide_eq_false (show ¬ V.str R[i].2=V.str "keep" from fun z => hkp (by injection z))]
      refine A1 ?_
      have hkk:¬ Ax R i = "keep" := by rw [A4 hi']; exact hkp
      refine ⟨_,rfl,.inl ⟨rfl,_,AE.of e2⟩,1,rfl,md,_,_,rfl,rfl,e2,lenOk,?_⟩
      refine ⟨_,rfl,AR s2 hmd _,?_⟩
      rw [Ac,List.range_succ,List.map_append,List.map_append]
      show _=some (HO.lst (_ ++ [V.int (if Ax R i = "keep" then _ else _)]))
      rw [if_neg hkk]
  · rintro σ H2 ⟨v,rfl,s2,e2⟩
    refine ⟨_,rfl,_,rfl,r,c,R,chs,rfl,hR.same s2,hG,s2 _ _ hc,hcl,fun kl H3 hkl s3 e3 => ?_⟩
    refine ⟨kl,_,rfl,.inl ⟨AE.of e3,fun t1 ht1 => ?_⟩⟩
    have s4:=Ag ht1 (.tup (cV (Cn R chs)))
    refine ⟨_,rfl,md,_,rfl,.inl ⟨AE.of (s4 _ _ (s3 _ _ e2)),fun t2 ht2 => ?_⟩⟩
    refine ⟨(by show 2≤sizeLine; decide),fun t ht => ?_⟩
    have s5:=Ag ht2 (.tup (((List.range ((R.length:Int)).toNat).map fun k => if Ax R k = "keep" then chs.getD k (-1) else -1).map V.int))
    have s6:=Ag ht (.tup [.ref t1,.ref t2])
    refine q t t1 t2 _ (s2.trans (s3.trans (s4.trans (s5.trans s6)))) Ac (s6 _ _ (s5 _ _ Ac)) ?_
    rw [s6 _ _ Ac]
    have e:((R.length:Int)).toNat=R.length:=by omega
    rw [e]; rfl
end
end Toy
namespace Toy
open PySem L2
seal PySem.wpAny
section
variable {P:Program} {w:World} {K:PySem.W.Frag} {mg:Str→Option Value} {base:Heap}
def Oc:Sp:=fun vs H Q _ => ∃ (f d:Addr) (xs:List Int),vs=[.ref f,.ref d]∧H f=some (.tup (xs.map V.int))∧H d=some (.tup (xs.map V.int))∧xs.length≤100∧Q (.bl true) H
theorem scRow:AA ["found", "due", "k"] ["found", "due"] (Ae Jp):=⟨rfl,rfl,rfl,by decide +kernel,rfl,by decide +kernel,by decide +kernel⟩
theorem OE {f C:Addr} {fd:FuncData} (D:Am K mg "_law_row" Jp ["found", "due"] f fd) (T:Dn K mg C):AD P w K mg base A9 1 f fd ["found", "due"] Oc:=by
  refine D.fn.ok scRow (fun vs H Q E h => ?_) (fun cdv A outer s H vs Q E hr h => ?_)
  · obtain ⟨a,d,xs,rfl,_⟩:=h
    rfl
  obtain ⟨a,d,xs,rfl,ha,hd,hx,q⟩:=h
  refine ⟨_,Ad (A0 (PW.pt (Fq (Di (B8 (AG CB (by rfl) T.inst (by decide +kernel) (Aa (pv 0) (Aa (Fh (by rfl) T.tup (by decide +kernel) (v:=.ty "tuple") rfl) Ab)))))
      (EW (AB EG (AG At (by rfl) T.len PySem.boot_len (Aa (pv 0) Ab)) (AG At (by rfl) T.len PySem.boot_len (Aa (pv 1) Ab)) (AT _))))) Bh AJ)
    (Ad (Bj PassesOwn.never rfl (AZ rfl T.range (Aa (AG At (by rfl) T.len PySem.boot_len (Aa (pv 1) Ab)) Ab)) (AI (i := 2) scRow.nd rfl (Or.inl rfl))
      (Aj (A0 (PW.pt (Fq (B8 (AG CB (by rfl) T.inst (by decide +kernel) (Aa (An Aw (pv 0) (pv 2) (fun _ _ => rfl)) (Aa (Fh (by rfl) T.tbool (by decide +kernel) (v:=.ty "bool") rfl) Ab))))
        (Fq (Di (B8 (AG CB (by rfl) T.inst (by decide +kernel) (Aa (An Aw (pv 0) (pv 2) (fun _ _ => rfl)) (Aa (Fh (by rfl) T.tint (by decide +kernel) (v:=.ty "int") rfl) Ab)))))
        (EW (AB EG (An Aw (pv 0) (pv 2) (fun _ _ => rfl)) (An Aw (pv 1) (pv 2) (fun _ _ => rfl)) (AT _)))))) Bh AJ)))
    (Aj (AM Ir))),?_⟩
  refine ⟨_,rfl,_,_,_,_,rfl,.tup ha,T.pp,_,rfl,?_⟩
  refine A1 ?_
  refine ⟨_,rfl,a,_,rfl,.inr (A2.of ha),_,rfl,d,_,rfl,.inr (A2.of hd),rfl,_,rfl,?_⟩
  refine Gj rfl ?_
  refine ⟨_,rfl,d,_,rfl,.inr (A2.of hd),_,rfl,by rw [List.length_map]; omega,by rw [List.length_map]; omega,?_⟩
  rw [List.length_map]
  refine Br (fun i σ H1 => ∃ v,σ = [some (.ref a),some (.ref d),v]∧H1=H) ⟨_,rfl,rfl⟩ ?_ ?_
  · rintro i σ H1 hi ⟨v,rfl,rfl⟩
    have hi':i < xs.length:=by omega
    have ek:(0:Int) + (i:Int)=(i:Int):=by omega
    rw [ek]
    refine ⟨_,rfl,_,rfl,a,_,_,_,rfl,rfl,A2.of ha,CP hi',_,_,_,_,rfl,.int _,T.ib,_,rfl,?_⟩
    refine A1 ?_
    refine ⟨_,rfl,_,rfl,a,_,_,_,rfl,rfl,A2.of ha,CP hi',_,_,_,_,rfl,.int _,T.ii,_,rfl,?_⟩
    refine A1 ?_
    refine ⟨_,rfl,_,rfl,a,_,_,_,rfl,rfl,A2.of ha,CP hi',_,rfl,_,rfl,d,_,_,_,rfl,rfl,A2.of hd,CP hi',rfl,_,rfl,?_⟩
    refine Gj rfl ?_
    exact ⟨_,rfl,rfl⟩
  · rintro σ H1 ⟨v,rfl,rfl⟩
    exact q
end
end Toy
namespace Toy
open PySem L2
seal PySem.wpAny
section
variable {P:Program} {w:World} {K:PySem.W.Frag} {mg:Str→Option Value} {base:Heap}
def Ob:Sp:=fun vs H Q _ => ∃ (f d fk fm dk dm:Addr) (ks ms:List Int),vs=[.ref f,.ref d]∧H f=some (.tup [.ref fk,.ref fm])∧H d=some (.tup [.ref dk,.ref dm])∧H fk=some (.tup (ks.map V.int))∧H dk=some (.tup (ks.map V.int)) ∧
  H fm=some (.tup (ms.map V.int))∧H dm=some (.tup (ms.map V.int))∧ks.length≤100∧ms.length≤100∧Q (.bl true) H
theorem scSame:AA ["found", "due"] ["found", "due"] (Ae G2):=⟨rfl,rfl,rfl,by decide +kernel,rfl,by decide +kernel,by decide +kernel⟩
theorem ok_same {f C fr:Addr} {fd fdr:FuncData} (D:Am K mg "_law_same_state" G2 ["found", "due"] f fd) (T:Dn K mg C) (Dr:Am K mg "_law_row" Jp ["found", "due"] fr fdr):AD P w K mg base A9 2 f fd ["found", "due"] Ob:=by
  have Gr:AD P w K mg base A9 1 fr fdr ["found", "due"] Oc:=OE Dr T
  refine D.fn.ok scSame (fun vs H Q E h => ?_) (fun cdv A outer s H vs Q E hr h => ?_)
  · obtain ⟨f,d,fk,fm,dk,dm,ks,ms,rfl,_⟩:=h
    rfl
  obtain ⟨f,d,fk,fm,dk,dm,ks,ms,rfl,hf,hd,hfk,hdk,hfm,hdm,hk,hm,q⟩:=h
  refine ⟨_,Ad (A0 (PW.pt (Fq (Di (B8 (AG CB (by rfl) T.inst (by decide +kernel) (Aa (pv 0) (Aa (Fh (by rfl) T.tup (by decide +kernel) (v:=.ty "tuple") rfl) Ab)))))
      (EW (AB EG (AG At (by rfl) T.len PySem.boot_len (Aa (pv 0) Ab)) Ah (AT _))))) Bh AJ)
    (Aj (AM (Mg (Ap Gr hr rfl Dr.mg Dr.fn.kp Dr.bd .nil AF (Aa (An Aw (pv 0) Ah (fun _ _ => rfl)) (Aa (An Aw (pv 1) Ah (fun _ _ => rfl)) Ab)))
      (GO (Ap Gr hr rfl Dr.mg Dr.fn.kp Dr.bd .nil AF (Aa (An Aw (pv 0) Ah (fun _ _ => rfl)) (Aa (An Aw (pv 1) Ah (fun _ _ => rfl)) Ab))))))),?_⟩
  refine ⟨_,rfl,_,_,_,_,rfl,.tup hf,T.pp,_,rfl,?_⟩
  refine A1 ?_
  refine ⟨_,rfl,f,_,rfl,.inr (A2.of hf),rfl,_,rfl,?_⟩
  refine Gj rfl ?_
  refine ⟨_,rfl,f,_,_,_,rfl,rfl,A2.of hf,rfl,_,rfl,d,_,_,_,rfl,rfl,A2.of hd,rfl,fk,dk,ks,rfl,hfk,hdk,hk,_,rfl,?_⟩
  refine Bi ?_
  exact ⟨_,rfl,f,_,_,_,rfl,rfl,A2.of hf,rfl,_,rfl,d,_,_,_,rfl,rfl,A2.of hd,rfl,fm,dm,ms,rfl,hfm,hdm,hm,q⟩
end
end Toy
namespace Toy
open PySem L2
seal PySem.wpAny
section
variable {P:Program} {w:World} {K:PySem.W.Frag} {mg:Str→Option Value} {base:Heap}
theorem Mm {R:List Ai}:CG R (Bs R)=GQ R:=by
  unfold CG GQ
  refine List.map_congr_left fun k hk => ?_
  have hk':=List.mem_range.mp hk
  by_cases h:Ax R k = "keep"
  · rw [if_pos h,if_pos h,DI hk',if_pos (Co hk' h)]
  · rw [if_neg h,if_neg h]
theorem Mr {R:List Ai} (hG:AY R) {p:Nat} (hp:p < R.length):Ax R p = "plain"∨Ax R p = "one"∨Ax R p = "all"∨Ax R p = "keep" := by
  rw [A4 hp]; exact (hG.kind p R[p] (List.getElem?_eq_getElem hp)).1
theorem E4 {R:List Ai} (hG:AY R) {p k:Nat} (hk:k∈Rm.kidsN (Af R) p):(Ax R p = "all"∧choosing R p=false)∨(¬ Ax R p = "all"∧choosing R p=true):=by
  have hlt:p < R.length:=by
    have a:=(Rm.mem_kidsN.mp hk).1
    rw [Ay] at a
    exact Nat.lt_trans (Rm.kid_gt hG.tree hk) a
  rw [BP hlt]
  rcases Mr hG hlt with e | e | e | e
  · exfalso
    rw [A4 hlt] at e
    have h1:=((hG.kind p R[p] (List.getElem?_eq_getElem hlt)).2).mp e
    rw [Rm.kids_kidsN] at h1
    rw [List.map_eq_nil_iff.mp h1] at hk
    cases hk
  · right; rw [e]; exact ⟨by decide +kernel,by decide +kernel⟩
  · left; rw [e]; exact ⟨rfl,by decide +kernel⟩
  · right; rw [e]; exact ⟨by decide +kernel,by decide +kernel⟩
theorem Oa {R:List Ai} (hG:AY R):∀ k,0 < k→k < (Af R).length→(CU R (Bs R) (Rm.hold (Af R) k).toNat k=true ↔ k∈Ch R (GQ R) 0 (Rm.hold (Af R) k).toNat):=by
  intro k h0 hk
  have hu:=hG.tree.up k h0 hk
  have hkl:=hk
  rw [Ay] at hkl
  obtain ⟨p,ep⟩ : ∃ p:Nat,Rm.hold (Af R) k=(p:Int):=⟨(Rm.hold (Af R) k).toNat,by omega⟩
  rw [ep,Int.toNat_natCast]
  have hkid:k∈Rm.kidsN (Af R) p:=Rm.mem_kidsN.mpr ⟨hk,ep⟩
  have hp:p < R.length:=by omega
  unfold CU Ch
  rw [DI hp]
  rcases E4 hG hkid with ⟨a,b⟩ | ⟨a,b⟩
  · rw [decide_eq_true a,Bool.true_or,if_neg (by rw [b]; decide)]
    exact ⟨fun _ => hkid,fun _ => rfl⟩
  · rw [decide_eq_false a,Bool.false_or,if_pos b,if_pos b]
    have tw:((Rm.kidsN (Af R) p).filter fun q => Rm.wi (Af R) 0 q)=[]:=by
      rw [List.filter_eq_nil_iff]
      intro q hq z
      have:=Rm.kid_gt hG.tree hq
      rw [Rm.wi_end (Nat.zero_le q)] at z
      have:=of_decide_eq_true z
      omega
    rw [if_neg (by rw [tw]; simp)]
    rw [decide_eq_true_eq]
    by_cases hkp:Ax R p = "keep"
    · rw [if_pos hkp,LA hp,if_pos hkp,Int.toNat_natCast,List.mem_singleton]
      omega
    · rw [if_neg hkp,List.mem_singleton]
      omega
end
end Toy
namespace Toy
open PySem L2
seal PySem.wpAny
section
variable {P:Program} {w:World} {K:PySem.W.Frag} {mg:Str→Option Value} {base:Heap}
theorem CI {l:List Int} {i j:Nat} {x:Int} (h:i < l.length):(l.set i x).getD j (-1)=if j=i then x else l.getD j (-1):=by
  rw [List.getD_eq_getElem?_getD,List.getD_eq_getElem?_getD]
  by_cases z:j=i
  · subst z
    rw [List.getElem?_set_self h,if_pos rfl]; rfl
  · rw [List.getElem?_set_ne (fun y => z y.symm),if_neg z]
theorem EA {f:List Int→Nat→List Int} {n p:Nat} {v:Int} (hlen:∀ l k,(f l k).length=l.length) {yes:Nat→Prop}:∀ (ks:List Nat) (l:List Int),l.length=n→(∀ k∈ks,yes k→∀ l:List Int,l.length=n→(f l k).getD p (-1)=v)→(∀ k∈ks,¬ yes k→∀ l:List Int,(f l k).getD p (-1)=l.getD p (-1)) →
    ((∃ k∈ks,yes k)→(ks.foldl f l).getD p (-1)=v)∧((∀ k∈ks,¬ yes k)→(ks.foldl f l).getD p (-1)=l.getD p (-1))
  | [],l,_,_,_ => ⟨fun ⟨k,hk,_⟩ => by simp at hk,fun _ => rfl⟩
  | k :: ks,l,hl,hy,hn => by
    obtain ⟨i1,i2⟩:=EA hlen ks (f l k) ((hlen l k).trans hl) (fun x hx => hy x (List.mem_cons_of_mem _ hx)) (fun x hx => hn x (List.mem_cons_of_mem _ hx))
    rw [List.foldl_cons]
    refine ⟨fun ⟨x,hx,hyx⟩ => ?_,fun h => ?_⟩
    · by_cases z:∃ k∈ks,yes k
      · exact i1 z
      · have no:∀ y∈ks,¬ yes y:=fun y hy hyy => z ⟨y,hy,hyy⟩
        rw [i2 no]
        rcases List.mem_cons.mp hx with e | e
        · subst e; exact hy x List.mem_cons_self hyx l hl
        · exact absurd hyx (no x e)
    · rw [i2 fun y hy => h y (List.mem_cons_of_mem _ hy)]
      exact hn k List.mem_cons_self (h k List.mem_cons_self) l
structure Ef (R:List Ai) (chs:List Int):Prop where
  len:chs.length=R.length
  pick:∀ p,p < R.length→choosing R p=true→∃ k∈Rm.kidsN (Af R) p,chs.getD p (-1)=(k:Int)
theorem IS {R:List Ai} (hG:AY R):Ef R (Bs R):=by
  refine ⟨FD R,fun p hp hc => ⟨_,IJ (DC hG hp hc),?_⟩⟩
  rw [DI hp,if_pos hc]
def Fs (R:List Ai) (a:Aq) (p k:Nat):Prop:=k∈Rm.chain (Af R) (BI a)∧Rm.hold (Af R) k=(p:Int)∧A6 R a < k
theorem HH {hs:List Int} {t g k:Nat} (hg:g∈Rm.chain hs t):k∈EE hs t g ↔ k∈Rm.chain hs t∧g < k:=by
  refine ⟨MS hg,fun ⟨hk,hgk⟩ => ?_⟩
  unfold EE
  have hm:(g:Int)∈(Rm.chain hs t).map fun (j:Nat) => (j:Int):=List.mem_map.mpr ⟨g,hg,rfl⟩
  have hj:=List.idxOf_lt_length_iff.mpr hm
  have hj2:=hj
  rw [List.length_map] at hj2
  have eg:=List.getElem_idxOf hj
  rw [List.getElem_map] at eg
  obtain ⟨i,hi,e⟩:=List.mem_iff_getElem.mp hk
  refine List.mem_take_iff_getElem.mpr ⟨i,?_,e⟩
  have hlt:i < ((Rm.chain hs t).map fun (j:Nat) => (j:Int)).idxOf (g:Int):=by
    rcases Nat.lt_trichotomy i (((Rm.chain hs t).map fun (j:Nat) => (j:Int)).idxOf (g:Int)) with y | y | y
    · exact y
    · have eg':((Rm.chain hs t)[i]:Int)=(g:Int):=by
        simp only [y]; exact eg
      omega
    · have:=List.pairwise_iff_getElem.mp (Jb (hs:=hs) t) _ i hj2 hi y
      omega
  omega
theorem I0 {hs:List Int}:∀ (t:Nat) {k k':Nat},k∈Rm.chain hs t→k'∈Rm.chain hs t→Rm.hold hs k=Rm.hold hs k'→0≤Rm.hold hs k→Rm.hold hs k < (k:Int)→Rm.hold hs k' < (k':Int)→k=k':=by
  intro t k k' hk hk' e h0 h1 h2
  rcases Nat.lt_trichotomy k k' with z | z | z
  · have:=Rm.chain_mono t hk hk' (by omega)
    rw [Rm.chain_up ⟨by omega,h2⟩] at this
    rcases List.mem_cons.mp this with y | y
    · exact y
    · have:=Rm.chain_le _ y
      omega
  · exact z
  · have:=Rm.chain_mono t hk' hk (by omega)
    rw [Rm.chain_up ⟨by omega,h1⟩] at this
    rcases List.mem_cons.mp this with y | y
    · exact y.symm
    · have:=Rm.chain_le _ y
      omega
theorem N7 {R:List Ai} (hG:AY R):∀ {t:Nat} {g:Nat},t < R.length→g∈(Rm.chain (Af R) t).tail→∃ k,k∈Rm.chain (Af R) t∧Rm.hold (Af R) k=(g:Int)∧g < k:=by
  intro t
  induction t using Nat.strongRecOn with
  | ind t ih =>
    intro g ht hg
    by_cases z : 0≤Rm.hold (Af R) t∧Rm.hold (Af R) t < (t:Int)
    · rw [Rm.chain_up z] at hg ⊢
      have hg':g∈Rm.chain (Af R) (Rm.hold (Af R) t).toNat:=hg
      by_cases e:g=(Rm.hold (Af R) t).toNat
      · exact ⟨t,List.mem_cons_self,by omega,by omega⟩
      · have hc:Rm.chain (Af R) (Rm.hold (Af R) t).toNat=(Rm.hold (Af R) t).toNat :: (Rm.chain (Af R) (Rm.hold (Af R) t).toNat).tail:=by rw [Rm.chain]; split <;> rfl
        rw [hc] at hg'
        rcases List.mem_cons.mp hg' with y | y
        · exact absurd y e
        · obtain ⟨k,k1,k2,k3⟩:=ih _ (by omega) (by omega) y
          exact ⟨k,List.mem_cons_of_mem _ k1,k2,k3⟩
    · rw [Rm.chain,dif_neg z] at hg
      simp at hg
section
variable {R:List Ai} {a:Aq} {chs:List Int}
theorem Ps {R:List Ai} (hG:AY R) {t k:Nat} (ht:t < R.length) (hk:k∈Rm.chain (Af R) t):k < R.length:=Nat.lt_of_le_of_lt (Rm.chain_le _ hk) ht
theorem CH (hG:AY R) (hA:AW R a) {k:Nat} (hk:k∈EE (Af R) (BI a) (A6 R a)):k∈Rm.chain (Af R) (BI a)∧A6 R a < k∧0≤Rm.hold (Af R) k∧Rm.hold (Af R) k < (k:Int)∧k < R.length:=by
  obtain ⟨h1,h2⟩:=(HH (DA hA)).mp hk
  have hl:=Ps hG (Km hA).2 h1
  have:=hG.tree.up k (by omega) (by rw [Ay]; exact hl)
  exact ⟨h1,h2,this.1,this.2,hl⟩
theorem Gq (hG:AY R) (hA:AW R a) (hc:chs.length=R.length) {p k:Nat} (hw:Fs R a p k) (hp:p < R.length) (hn:¬ Ax R p = "all"):(BH R chs a).getD p (-1)=(k:Int):=by
  obtain ⟨w1,w2,w3⟩:=hw
  have hkp:k∈EE (Af R) (BI a) (A6 R a):=(HH (DA hA)).mpr ⟨w1,w3⟩
  obtain ⟨_,_,q3,q4,_⟩:=CH hG hA hkp
  unfold BH
  refine (EA (n:=R.length) (yes:=fun x => Rm.hold (Af R) x=(p:Int)) (FH R) _ _ (by rw [CQ (DN R _)]; exact hc) (fun x hx hy l hl => ?_) (fun x hx hy l => ?_)).1 ⟨k,hkp,w2⟩
  · obtain ⟨c1,c2,c3,c4,_⟩:=CH hG hA hx
    have hy':Rm.hold (Af R) x=(p:Int):=hy
    have e:x=k:=I0 (BI a) c1 w1 (by rw [hy',w2]) c3 c4 q4
    subst e
    have e2:(Rm.hold (Af R) x).toNat=p:=by omega
    rw [MB l (by rw [e2]; exact hn),e2,CI (by omega),if_pos rfl]
  · obtain ⟨c1,c2,c3,c4,_⟩:=CH hG hA hx
    have hy':¬ Rm.hold (Af R) x=(p:Int):=hy
    unfold N0
    split
    · rfl
    · by_cases hlen:(Rm.hold (Af R) x).toNat < l.length
      · rw [CI hlen,if_neg (by omega)]
      · rw [List.set_eq_of_length_le (by omega)]
theorem D0 (hG:AY R) (hA:AW R a) (hc:chs.length=R.length) {p:Nat} (hw:∀ k,¬ Fs R a p k) (hp:p < R.length) :
    (BH R chs a).getD p (-1)=if (decide (Ax R p = "one") && Rm.li (Af R) p (A6 R a))=true then (Bs R).getD p (-1) else chs.getD p (-1):=by
  unfold BH
  rw [(EA (n:=R.length) (v := 0) (yes:=fun x => Rm.hold (Af R) x=(p:Int)) (FH R) _ _ (by rw [CQ (DN R _)]; exact hc) (fun x hx hy l hl => ?_) (fun x hx hy l => ?_)).2 fun x hx hy => ?_]
  · obtain ⟨f1,f2⟩:=EA (f:=K6 R (A6 R a)) (n:=R.length) (p:=p) (v:=(Bs R).getD p (-1)) (yes:=fun x => x=p∧(decide (Ax R p = "one") && Rm.li (Af R) p (A6 R a))=true) (DN R _) (List.range R.length) chs hc (fun x hx hy l hl => by
        obtain ⟨e,hy⟩:=hy
        subst e
        rw [MC l hy,CI (by omega),if_pos rfl]) (fun x hx hy l => by
        unfold K6
        split
        · rename_i hz
          have nx:¬ p=x:=fun e => hy ⟨e.symm,by rw [e]; exact hz⟩
          by_cases hlen:x < l.length
          · rw [CI hlen,if_neg nx]
          · rw [List.set_eq_of_length_le (by omega)]
        · rfl)
    by_cases z:(decide (Ax R p = "one") && Rm.li (Af R) p (A6 R a))=true
    · rw [if_pos z]; exact f1 ⟨p,List.mem_range.mpr hp,rfl,z⟩
    · rw [if_neg z]; exact f2 fun x _ hy => z hy.2
  · obtain ⟨c1,c2,_⟩:=CH hG hA hx
    exact absurd ⟨c1,hy,c2⟩ (hw x)
  · obtain ⟨c1,c2,c3,c4,_⟩:=CH hG hA hx
    have hy':¬ Rm.hold (Af R) x=(p:Int):=hy
    unfold N0
    split
    · rfl
    · by_cases hlen:(Rm.hold (Af R) x).toNat < l.length
      · rw [CI hlen,if_neg (by omega)]
      · rw [List.set_eq_of_length_le (by omega)]
  · obtain ⟨c1,c2,_⟩:=CH hG hA hx
    exact hw x ⟨c1,hy,c2⟩
theorem GD (hG:AY R) (hA:AW R a) {p k:Nat} (hw:Fs R a p k):p < R.length∧k∈Rm.kidsN (Af R) p∧Rm.wi (Af R) p (A6 R a)=true∧Rm.wi (Af R) (BI a) k=true:=by
  obtain ⟨w1,w2,w3⟩:=hw
  obtain ⟨c1,c2,c3,c4,c5⟩:=CH hG hA ((HH (DA hA)).mpr ⟨w1,w3⟩)
  have hk:k∈Rm.kidsN (Af R) p:=Rm.mem_kidsN.mpr ⟨by rw [Ay]; exact c5,w2⟩
  have hm:=Rm.chain_mono (BI a) (DA hA) w1 (by omega)
  rw [Rm.chain_kid hG.tree hk] at hm
  refine ⟨by omega,hk,?_,decide_eq_true w1⟩
  rcases List.mem_cons.mp hm with y | y
  · omega
  · exact decide_eq_true y
theorem KQ (hG:AY R) (hA:AW R a) (hc:Ef R chs):Ef R (BH R chs a):=by
  refine ⟨by rw [J3]; exact hc.len,fun p hp hch => ?_⟩
  have hna:¬ Ax R p = "all" := fun z => by
    rw [BP hp,z] at hch
    revert hch; decide +kernel
  by_cases hw:∃ k,Fs R a p k
  · obtain ⟨k,hw⟩:=hw
    exact ⟨k,(GD hG hA hw).2.1,Gq hG hA hc.len hw hp hna⟩
  · rw [D0 hG hA hc.len (fun k z => hw ⟨k,z⟩) hp]
    split
    · exact (IS hG).pick p hp hch
    · exact hc.pick p hp hch
theorem Ki (hG:AY R) {A:List Aq} (hA:∀ x∈A,AW R x):∀ (l:List Nat) (chs:List Int),(∀ i∈l,i < A.length)→Ef R chs→Ef R (Bd R A chs l)
  | [],_,_,h => h
  | k :: l,chs,hl,h => by
    have hk:=hl k List.mem_cons_self
    exact Ki hG hA l _ (fun i hi => hl i (List.mem_cons_of_mem _ hi)) (KQ hG (by rw [B9 hk]; exact hA _ (List.getElem_mem hk)) h)
theorem IL (hG:AY R) (hA:AW R a) (hc:chs.length=R.length) {p:Nat} (hp:p < R.length) (hw:Rm.wi (Af R) p (A6 R a)=false):(BH R chs a).getD p (-1)=chs.getD p (-1):=by
  rw [D0 hG hA hc (fun k z => by rw [(GD hG hA z).2.2.1] at hw; cases hw) hp,if_neg]
  rw [Rm.li_eq,hw]
  simp
theorem E3 (hG:AY R) (hA:AW R a) (hc:chs.length=R.length):∀ k,k < R.length→(Rm.wi (Af R) k (A6 R a)=false∨k=A6 R a)→Rm.kb (CU R (BH R chs a)) (Af R) k=Rm.kb (CU R chs) (Af R) k:=by
  intro k
  induction k using Nat.strongRecOn with
  | ind k ih =>
    intro hk hw
    by_cases z:k=0
    · subst z; rw [Rm.kb_root hG.tree,Rm.kb_root hG.tree]
    · have hl:k < (Af R).length:=by rw [Ay]; exact hk
      have hu:=hG.tree.up k (by omega) hl
      rw [Rm.kb_up hG.tree (by omega) hl,Rm.kb_up hG.tree (by omega) hl]
      have hpl:(Rm.hold (Af R) k).toNat < R.length:=by omega
      have hpw:Rm.wi (Af R) (Rm.hold (Af R) k).toNat (A6 R a)=false:=by
        cases y:Rm.wi (Af R) (Rm.hold (Af R) k).toNat (A6 R a) with
        | false => rfl
        | true =>
          have y1:A6 R a∈Rm.chain (Af R) (Rm.hold (Af R) k).toNat:=of_decide_eq_true y
          have le:=Rm.chain_le _ y1
          rcases hw with hw | hw
          · have:Rm.wi (Af R) k (A6 R a)=true:=decide_eq_true (by rw [Rm.chain_up hu]; exact List.mem_cons_of_mem _ y1)
            rw [this] at hw; cases hw
          · omega
      rw [ih _ (by omega) hpl (.inl hpw)]
      congr 1
      unfold CU
      rw [IL hG hA hc hpl hpw]
theorem ok_in (hG:AY R) (hA:AW R a) (hc:Ef R chs) {mem:List Int} (hm:∀ p,p < R.length→Ax R p = "keep"→Rm.wi (Af R) p (A6 R a)=true→mem.getD p (-1)=chs.getD p (-1)) {p k:Nat} (hk:k∈Rm.kidsN (Af R) p) (hp:p < R.length) (hw:Rm.wi (Af R) p (A6 R a)=true) :
    CU R (BH R chs a) p k=true ↔ k∈Ch R mem (BI a) p:=by
  unfold CU Ch
  rcases E4 hG hk with ⟨h1,h2⟩ | ⟨h1,h2⟩
  · rw [if_neg (by rw [h2]; decide),decide_eq_true h1]
    simp [hk]
  · rw [if_pos h2,decide_eq_false h1,Bool.false_or,decide_eq_true_eq]
    have gi:A6 R a∈Rm.chain (Af R) p:=of_decide_eq_true hw
    have gle:=Rm.chain_le _ gi
    have kid_way:∀ x∈Rm.kidsN (Af R) p,Rm.wi (Af R) (BI a) x=true→Fs R a p x:=fun x hx hy => by
      have:=Rm.kid_gt hG.tree hx
      exact ⟨of_decide_eq_true hy,(Rm.mem_kidsN.mp hx).2,by omega⟩
    by_cases hex:∃ x,Fs R a p x
    · obtain ⟨x,hx⟩:=hex
      obtain ⟨_,wx2,_,wx4⟩:=GD hG hA hx
      rw [Gq hG hA hc.len hx hp h1]
      have hmemx:x∈(Rm.kidsN (Af R) p).filter fun y => Rm.wi (Af R) (BI a) y:=List.mem_filter.mpr ⟨wx2,wx4⟩
      rw [if_pos (fun z => by rw [z] at hmemx; simp at hmemx),List.mem_filter]
      have key:∀ y∈Rm.kidsN (Af R) p,Rm.wi (Af R) (BI a) y=true→y=x:=fun y hy hyw => by
        have wy:=kid_way y hy hyw
        have g1:=Rm.kid_gt hG.tree hy
        have g2:=Rm.kid_gt hG.tree wx2
        exact I0 (BI a) wy.1 hx.1 (by rw [wy.2.1,hx.2.1]) (by rw [wy.2.1]; omega) (by rw [wy.2.1]; omega) (by rw [hx.2.1]; omega)
      constructor
      · intro z
        have:k=x:=by omega
        rw [this]; exact ⟨wx2,wx4⟩
      · rintro ⟨z1,z2⟩
        rw [key k z1 z2]
    · have none:((Rm.kidsN (Af R) p).filter fun y => Rm.wi (Af R) (BI a) y)=[]:=List.filter_eq_nil_iff.mpr fun x hx hy => hex ⟨x,kid_way x hx hy⟩
      rw [none,if_neg (fun z => z rfl),D0 hG hA hc.len (fun x z => hex ⟨x,z⟩) hp]
      have hkk:=BP hp
      rw [h2] at hkk
      have hkk':Ax R p = "one"∨Ax R p = "keep" := of_decide_eq_true hkk.symm
      by_cases hkeep:Ax R p = "keep"
      · rw [if_pos hkeep,decide_eq_false (show ¬ Ax R p = "one" by rw [hkeep]; decide +kernel),Bool.false_and,if_neg (by decide),hm p hp hkeep hw]
        obtain ⟨y,hy,ey⟩:=hc.pick p hp h2
        rw [ey,Int.toNat_natCast]
        simp
        omega
      · have hone:Ax R p = "one" := hkk'.resolve_right hkeep
        have hpg:p≠A6 R a:=fun e => by
          obtain ⟨q,hq⟩:=hA.sc
          have hli:=(FR hq).2.2
          have hsc:A6 R a=q:=by unfold A6; rw [hq]; rfl
          have hli':A6 R a∈(Rm.chain (Af R) (BI a)).tail:=by rw [hsc]; exact of_decide_eq_true hli
          exact hex (by rw [e]; exact N7 hG (Km hA).2 hli')
        rw [if_neg hkeep,decide_eq_true hone,Bool.true_and,Rm.li_eq,hw,decide_eq_false hpg]
        rw [if_pos (by decide),DI hp,if_pos h2]
        simp
        omega
end
theorem Cm {R:List Ai} {chs:List Int} {k:Nat}:k∈Cn R chs ↔ k < R.length∧Rm.kb (CU R chs) (Af R) k=true:=by
  unfold Cn
  rw [List.mem_filter,List.mem_range]
theorem IH (R:List Ai) (chs:List Int):(Cn R chs).Nodup:=List.Pairwise.filter _ List.nodup_range
theorem LF (R:List Ai) (chs:List Int):(Cn R chs).length≤R.length:=by
  have:=List.length_filter_le (Rm.kb (CU R chs) (Af R)) (List.range R.length)
  rw [List.length_range] at this
  exact this
theorem Gd {R:List Ai} (hG:AY R) {ok:Nat→Nat→Bool} {k:Nat} (h0 : 0 < k) (hk:k < R.length) (h:Rm.kb ok (Af R) k=true):Rm.kb ok (Af R) (Rm.hold (Af R) k).toNat=true∧ok (Rm.hold (Af R) k).toNat k=true:=by
  rw [Rm.kb_up hG.tree h0 (by rw [Ay]; exact hk),Bool.and_eq_true] at h
  exact h
theorem OZ {R:List Ai} (hG:AY R) {ok:Nat→Nat→Bool}:∀ {k g:Nat},k < R.length→g∈Rm.chain (Af R) k→Rm.kb ok (Af R) k=true→Rm.kb ok (Af R) g=true:=by
  intro k
  induction k using Nat.strongRecOn with
  | ind k ih =>
    intro g hk hg h
    by_cases z : 0≤Rm.hold (Af R) k∧Rm.hold (Af R) k < (k:Int)
    · rw [Rm.chain_up z] at hg
      rcases List.mem_cons.mp hg with e | e
      · rw [e]; exact h
      · have h0 : 0 < k:=by omega
        exact ih _ (by omega) (by omega) e (Gd hG h0 hk h).1
    · rw [Rm.chain,dif_neg z] at hg
      rw [List.mem_singleton.mp hg]; exact h
section
variable {R:List Ai} {a:Aq} {chs mem:List Int}
theorem Pn (hG:AY R) (hA:AW R a) (hc:Ef R chs) (hM:Fb R mem) (hm:∀ p,p < R.length→Ax R p = "keep"→Rm.wi (Af R) p (A6 R a)=true→mem.getD p (-1)=chs.getD p (-1)) (hk:Rm.kb (CU R chs) (Af R) (A6 R a)=true) :
    ∀ k,k∈Rm.ent (Ch R mem (BI a)) 16 (A6 R a) ↔ k < R.length∧Rm.wi (Af R) k (A6 R a)=true∧Rm.kb (CU R (BH R chs a)) (Af R) k=true:=by
  have P:=DD hG hM (BI a)
  have hs:=DU hA
  have hsl:A6 R a < (Af R).length:=by rw [Ay]; exact hs
  have hself:Rm.wi (Af R) (A6 R a) (A6 R a)=true:=decide_eq_true (Rm.chain_self _ _)
  have hkg:Rm.kb (CU R (BH R chs a)) (Af R) (A6 R a)=true:=by rw [E3 hG hA hc.len _ hs (.inr rfl)]; exact hk
  intro k
  induction k using Nat.strongRecOn with
  | ind k ih =>
    constructor
    · intro h
      obtain ⟨h1,h2⟩:=Rm.ent_sub hG.tree P 16 _ k hsl h
      rw [Ay] at h1
      refine ⟨h1,decide_eq_true h2,?_⟩
      rcases Rm.ent_back hG.tree P 16 _ k hsl h with e | ⟨b1,b2,b3⟩
      · rw [e]; exact hkg
      · have hu:=hG.tree.up k b3 (by rw [Ay]; exact h1)
        obtain ⟨i1,i2,i3⟩:=(ih _ (by omega)).mp b2
        rw [Rm.kb_up hG.tree b3 (by rw [Ay]; exact h1),i3,Bool.true_and]
        have hkid:k∈Rm.kidsN (Af R) (Rm.hold (Af R) k).toNat:=Rm.mem_kidsN.mpr ⟨by rw [Ay]; exact h1,by omega⟩
        exact (ok_in hG hA hc hm hkid i1 i2).mpr b1
    · rintro ⟨h1,h2,h3⟩
      by_cases e:k=A6 R a
      · rw [e]
        exact List.mem_cons_self
      · have hg:A6 R a∈Rm.chain (Af R) k:=of_decide_eq_true h2
        have hle:=Rm.chain_le _ hg
        have h0 : 0 < k:=by omega
        have hl:k < (Af R).length:=by rw [Ay]; exact h1
        have hu:=hG.tree.up k h0 hl
        rw [Rm.chain_up hu] at hg
        have hg':A6 R a∈Rm.chain (Af R) (Rm.hold (Af R) k).toNat:=by
          rcases List.mem_cons.mp hg with y | y
          · exact absurd y.symm e
          · exact y
        obtain ⟨j1,j2⟩:=Gd hG h0 h1 h3
        have hpl:(Rm.hold (Af R) k).toNat < R.length:=by omega
        have hw:=decide_eq_true hg'
        have hp:=(ih _ (by omega)).mpr ⟨hpl,hw,j1⟩
        have hkid:k∈Rm.kidsN (Af R) (Rm.hold (Af R) k).toNat:=Rm.mem_kidsN.mpr ⟨hl,by omega⟩
        exact Rm.ent_next hG.tree P 16 _ _ k hsl (by rw [Ay]; have:=hG.most; omega) hp ((ok_in hG hA hc hm hkid hpl hw).mp j2)
theorem mov_mem (hG:AY R) (hA:AW R a) (hc:Ef R chs) (hM:Fb R mem) (hm:∀ p,p < R.length→Ax R p = "keep"→Rm.wi (Af R) p (A6 R a)=true→mem.getD p (-1)=chs.getD p (-1)) (hk:Rm.kb (CU R chs) (Af R) (A6 R a)=true) :
    ∀ k,k∈Js R mem a (Cn R chs) ↔ k∈Cn R (BH R chs a):=by
  intro k
  unfold Js JG
  rw [List.mem_append,List.mem_filter,Cm,Cm]
  have he:=Pn hG hA hc hM hm hk k
  have e1:k∈Rm.ent (Ch R mem a.2.2.2.1.toNat) 16 (A6 R a) ↔ k < R.length∧Rm.wi (Af R) k (A6 R a)=true∧Rm.kb (CU R (BH R chs a)) (Af R) k=true:=he
  rw [e1]
  cases hw:Rm.wi (Af R) k (A6 R a) with
  | true => simp
  | false =>
    constructor
    · rintro (⟨⟨x1,x2⟩,_⟩ | ⟨_,x,_⟩)
      · exact ⟨x1,by rw [E3 hG hA hc.len k x1 (.inl hw)]; exact x2⟩
      · cases x
    · rintro ⟨x1,x2⟩
      exact .inl ⟨⟨x1,by rw [← E3 hG hA hc.len k x1 (.inl hw)]; exact x2⟩,by rfl⟩
theorem NI (hG:AY R) (hA:AW R a) (hM:Fb R mem):(Js R mem a (Cn R chs)).Nodup:=by
  have hsl:A6 R a < (Af R).length:=by rw [Ay]; exact DU hA
  have P:=DD hG hM a.2.2.2.1.toNat
  unfold Js JG
  rw [List.nodup_append]
  refine ⟨List.Pairwise.filter _ (IH R chs),Rm.ent_nodup hG.tree P 16 _ hsl,fun x hx y hy e => ?_⟩
  subst e
  have h1:=(List.mem_filter.mp hx).2
  have h2:=(Rm.ent_sub hG.tree P 16 _ x hsl hy).2
  rw [show Rm.wi (Af R) x (A6 R a)=true from decide_eq_true h2] at h1
  cases h1
theorem Ml (hG:AY R) (hA:AW R a) (hc:Ef R chs) (hM:Fb R mem) (hm:∀ p,p < R.length→Ax R p = "keep"→Rm.wi (Af R) p (A6 R a)=true→mem.getD p (-1)=chs.getD p (-1)) (hk:Rm.kb (CU R chs) (Af R) (A6 R a)=true)
    {ns:List Int} (hp:ns.Perm (iN (Js R mem a (Cn R chs)))) (hs:ns.Pairwise (·≤·)):ns=kI R (BH R chs a):=by
  have hq:(Js R mem a (Cn R chs)).Perm (Cn R (BH R chs a)):=(List.perm_ext_iff_of_nodup (NI hG hA hM) (IH R _)).mpr (mov_mem hG hA hc hM hm hk)
  refine (hp.trans (hq.map _)).eq_of_pairwise (fun a b _ _ h1 h2 => Int.le_antisymm h1 h2) hs ?_
  unfold kI
  rw [List.pairwise_map]
  exact (List.Pairwise.filter _ List.pairwise_lt_range).imp fun h => by omega
end
theorem DY {R:List Ai} {chs:List Int} {p:Nat} (hp:p < R.length):(CG R chs).getD p (-1)=if Ax R p = "keep" then chs.getD p (-1) else -1:=by
  unfold CG
  rw [List.getD_eq_getElem?_getD,List.getElem?_map,List.getElem?_range hp]; rfl
theorem memL_ok {R:List Ai} {chs:List Int} (hc:Ef R chs):Fb R (CG R chs):=by
  refine ⟨by simp [CG],fun r hr hk => ?_⟩
  rw [DY hr,if_pos hk]
  exact hc.pick r hr (Co hr hk)
def Nm (R:List Ai) (A:List Aq) (l:List Nat):Prop:=l.Pairwise fun i j => Nf R (Hi A i) (Hi A j)=false
theorem Jg {R:List Ai} {A:List Aq}:∀ {l:List Nat},(∀ i∈l,i < A.length)→Bo (Eb R A) l=Option.none→Nm R A l
  | [],_,_ => List.Pairwise.nil
  | x :: l,hl,h => by
    have h':(match l.find? (Eb R A x) with | some y => some (x,y) | Option.none => Bo (Eb R A) l)=Option.none:=h
    cases z:l.find? (Eb R A x) with
    | some y => rw [z] at h'; cases h'
    | none =>
      rw [z] at h'
      refine List.Pairwise.cons (fun y hy => ?_) (Jg (fun i hi => hl i (List.mem_cons_of_mem _ hi)) h')
      have q:=List.find?_eq_none.mp z y hy
      have hx:=hl x List.mem_cons_self
      have hyl:=hl y (List.mem_cons_of_mem _ hy)
      rw [K0 (List.getElem?_eq_getElem hx) (List.getElem?_eq_getElem hyl)] at q
      rw [B9 hx,B9 hyl]
      simpa using q
theorem Nd {R:List Ai} {a b:Aq} (h:Nf R a b=false):Rm.wi (Af R) (A6 R a) (A6 R b)=false∧Rm.wi (Af R) (A6 R b) (A6 R a)=false:=by
  unfold Nf at h
  rwa [Bool.or_eq_false_iff] at h
theorem Pt {R:List Ai} {a b:Aq} (h:Nf R a b=false) {p:Nat} (ha:Rm.wi (Af R) p (A6 R a)=true) (hb:Rm.wi (Af R) p (A6 R b)=true):False:=by
  obtain ⟨h1,h2⟩:=Nd h
  have ga:A6 R a∈Rm.chain (Af R) p:=of_decide_eq_true ha
  have gb:A6 R b∈Rm.chain (Af R) p:=of_decide_eq_true hb
  rcases Nat.le_total (A6 R a) (A6 R b) with z | z
  · have:=Rm.chain_mono p ga gb z
    rw [show Rm.wi (Af R) (A6 R b) (A6 R a)=true from decide_eq_true this] at h2; cases h2
  · have:=Rm.chain_mono p gb ga z
    rw [show Rm.wi (Af R) (A6 R a) (A6 R b)=true from decide_eq_true this] at h1; cases h1
structure LY (R:List Ai) (A:List Aq) (chs0 chs:List Int) (l:List Nat):Prop where
  ch:Ef R chs
  same:∀ k∈l,∀ p,p < R.length→Rm.wi (Af R) p (A6 R (Hi A k))=true→chs.getD p (-1)=chs0.getD p (-1)
  kept:∀ k∈l,Rm.kb (CU R chs) (Af R) (A6 R (Hi A k))=true
theorem LY.next {R:List Ai} (hG:AY R) {A:List Aq} (hA:∀ x∈A,AW R x) {chs0 chs:List Int} {k:Nat} {l:List Nat} (h:LY R A chs0 chs (k :: l)) (hl:∀ i∈k :: l,i < A.length) (ap:Nm R A (k :: l)):LY R A chs0 (BH R chs (Hi A k)) l:=by
  have ga:∀ i∈k :: l,AW R (Hi A i):=fun i hi => by rw [B9 (hl i hi)]; exact hA _ (List.getElem_mem _)
  have gk:=ga k List.mem_cons_self
  refine ⟨KQ hG gk h.ch,fun j hj p hp hw => ?_,fun j hj => ?_⟩
  · have hc:=List.rel_of_pairwise_cons ap hj
    have hn:Rm.wi (Af R) p (A6 R (Hi A k))=false:=by
      cases z:Rm.wi (Af R) p (A6 R (Hi A k)) with
      | false => rfl
      | true => exact (Pt hc z hw).elim
    rw [IL hG gk h.ch.len hp hn]
    exact h.same j (List.mem_cons_of_mem _ hj) p hp hw
  · have hc:=List.rel_of_pairwise_cons ap hj
    rw [E3 hG gk h.ch.len _ (DU (ga j (List.mem_cons_of_mem _ hj))) (.inl (Nd hc).2)]
    exact h.kept j (List.mem_cons_of_mem _ hj)
theorem P4 {R:List Ai} (hG:AY R) {chs mem:List Int} (hm:mem.length=R.length) {p:Nat} (hp:p < R.length) :
    (Hk R (Cn R chs) mem).getD p (-1)=if Ax R p = "keep"∧Rm.kb (CU R chs) (Af R) p=true∧(∃ k,k < R.length∧Rm.hold (Af R) k=(p:Int)∧chs.getD p (-1)=(k:Int)) then chs.getD p (-1) else mem.getD p (-1):=by
  unfold Hk
  have hf:=EA (f:=Jq R) (n:=R.length) (p:=p) (v:=chs.getD p (-1)) (yes:=fun x => Rm.hold (Af R) x=(p:Int)∧Ax R p = "keep") (Lk R) (Cn R chs) mem hm (fun x hx hy l hl => by
      obtain ⟨y1,y2⟩:=hy
      obtain ⟨k1,k2⟩:=Cm.mp hx
      have h0 : 0 < x:=by
        rcases Nat.eq_zero_or_pos x with z | z
        · rw [z,hG.tree.root] at y1; omega
        · exact z
      have e2:(Rm.hold (Af R) x).toNat=p:=by omega
      obtain ⟨_,j2⟩:=Gd hG h0 k1 k2
      rw [e2] at j2
      unfold CU at j2
      rw [decide_eq_false (show ¬ Ax R p = "all" by rw [y2]; decide +kernel),Bool.false_or,decide_eq_true_eq] at j2
      unfold Jq
      rw [if_pos ⟨by omega,by rw [e2]; exact y2⟩,e2,CI (by omega),if_pos rfl,j2]) (fun x hx hy l => by
      unfold Jq
      split
      · rename_i hz
        have ne:¬ p=(Rm.hold (Af R) x).toNat:=fun e => hy ⟨by omega,by rw [e]; exact hz.2⟩
        by_cases hlen:(Rm.hold (Af R) x).toNat < l.length
        · rw [CI hlen,if_neg ne]
        · rw [List.set_eq_of_length_le (by omega)]
      · rfl)
  by_cases z:Ax R p = "keep"∧Rm.kb (CU R chs) (Af R) p=true∧(∃ k,k < R.length∧Rm.hold (Af R) k=(p:Int)∧chs.getD p (-1)=(k:Int))
  · rw [if_pos z]
    obtain ⟨z1,z2,k,k1,k2,k3⟩:=z
    refine hf.1 ⟨k,Cm.mpr ⟨k1,?_⟩,k2,z1⟩
    have h0 : 0 < k:=by
      rcases Nat.eq_zero_or_pos k with y | y
      · rw [y,hG.tree.root] at k2; omega
      · exact y
    rw [Rm.kb_up hG.tree h0 (by rw [Ay]; exact k1),k2,Int.toNat_natCast,z2,Bool.true_and]
    unfold CU
    rw [k3,decide_eq_true rfl,Bool.or_true]
  · rw [if_neg z]
    refine hf.2 fun x hx hy => z ?_
    obtain ⟨y1,y2⟩:=hy
    obtain ⟨k1,k2⟩:=Cm.mp hx
    have h0 : 0 < x:=by
      rcases Nat.eq_zero_or_pos x with q | q
      · rw [q,hG.tree.root] at y1; omega
      · exact q
    obtain ⟨j1,j2⟩:=Gd hG h0 k1 k2
    have e2:(Rm.hold (Af R) x).toNat=p:=by omega
    rw [e2] at j1 j2
    unfold CU at j2
    rw [decide_eq_false (show ¬ Ax R p = "all" by rw [y2]; decide +kernel),Bool.false_or,decide_eq_true_eq] at j2
    exact ⟨y2,j1,x,k1,y1,j2⟩
def Ji (R:List Ai) (chs0 chs:List Int):Prop := ∀ p,p < R.length→Ax R p = "keep"→Rm.kb (CU R chs) (Af R) p=false→chs.getD p (-1)=chs0.getD p (-1)
theorem P3 {R:List Ai} (hG:AY R) {chs0 chs:List Int} (hc:Ef R chs) (h0:chs0.length=R.length) (hs:Ji R chs0 chs):Hk R (Cn R chs) (CG R chs0)=CG R chs:=by
  have hl0:(CG R chs0).length=R.length:=by simp [CG]
  refine List.ext_getElem? fun p => ?_
  by_cases hp:p < R.length
  · have e:∀ l:List Int,l.length=R.length→l[p]? = some (l.getD p (-1)):=fun l hl => by rw [List.getD_eq_getElem?_getD,List.getElem?_eq_getElem (by omega)]; rfl
    rw [e _ (by rw [Ij]; exact hl0),e (CG R chs) (by simp [CG]),P4 hG hl0 hp,DY hp,DY hp]
    by_cases hk:Ax R p = "keep"
    · rw [if_pos hk,if_pos hk]
      cases z:Rm.kb (CU R chs) (Af R) p with
      | true =>
        obtain ⟨k,k1,k2⟩:=hc.pick p hp (Co hp hk)
        obtain ⟨m1,m2⟩:=Rm.mem_kidsN.mp k1
        rw [if_pos ⟨hk,rfl,k,by rw [Ay] at m1; exact m1,m2,k2⟩]
      | false =>
        rw [if_neg (fun y => by cases y.2.1),hs p hp hk z]
    · rw [if_neg hk,if_neg (fun y => hk y.1),if_neg hk]
  · rw [List.getElem?_eq_none (by rw [Ij]; omega),List.getElem?_eq_none (by simp [CG]; omega)]
theorem Ji.next {R:List Ai} (hG:AY R) {a:Aq} (hA:AW R a) {chs0 chs mem:List Int} (hc:Ef R chs) (h:Ji R chs0 chs) (hsame:∀ p,p < R.length→Rm.wi (Af R) p (A6 R a)=true→chs.getD p (-1)=chs0.getD p (-1))
    (hk:Rm.kb (CU R chs) (Af R) (A6 R a)=true) (hM:Fb R mem) (hm:∀ p,p < R.length→Ax R p = "keep"→Rm.wi (Af R) p (A6 R a)=true→mem.getD p (-1)=chs.getD p (-1)):Ji R chs0 (BH R chs a):=by
  intro p hp hkeep hnk
  cases hw:Rm.wi (Af R) p (A6 R a) with
  | false =>
    rw [IL hG hA hc.len hp hw]
    refine h p hp hkeep ?_
    rw [← E3 hG hA hc.len p hp (.inl hw)]; exact hnk
  | true =>
    by_cases hway:∃ k,Fs R a p k
    ·
      exfalso
      obtain ⟨k,hway⟩:=hway
      have hself:∀ q,q∈Rm.chain (Af R) (BI a)→Rm.wi (Af R) q (A6 R a)=true→q < R.length→Rm.kb (CU R (BH R chs a)) (Af R) q=true:=by
        intro q
        induction q using Nat.strongRecOn with
        | ind q ih =>
          intro hq hqw hql
          by_cases e:q=A6 R a
          · rw [e,E3 hG hA hc.len _ (DU hA) (.inr rfl)]; exact hk
          · have gq:A6 R a∈Rm.chain (Af R) q:=of_decide_eq_true hqw
            have hle:=Rm.chain_le _ gq
            have h0 : 0 < q:=by omega
            have hl:q < (Af R).length:=by rw [Ay]; exact hql
            have hu:=hG.tree.up q h0 hl
            have gq':A6 R a∈Rm.chain (Af R) (Rm.hold (Af R) q).toNat:=by
              rw [Rm.chain_up hu] at gq
              rcases List.mem_cons.mp gq with y | y
              · exact absurd y.symm e
              · exact y
            have hpt:(Rm.hold (Af R) q).toNat∈Rm.chain (Af R) (BI a):=Rm.chain_trans _ (show (Rm.hold (Af R) q).toNat∈Rm.chain (Af R) q by rw [Rm.chain_up hu]; exact List.mem_cons_of_mem _ (Rm.chain_self _ _)) hq
            have hpl:(Rm.hold (Af R) q).toNat < R.length:=by omega
            rw [Rm.kb_up hG.tree h0 hl,ih _ (by omega) hpt (decide_eq_true gq') hpl,Bool.true_and]
            have ow:Fs R a (Rm.hold (Af R) q).toNat q:=⟨hq,by omega,by omega⟩
            unfold CU
            by_cases hall:Ax R (Rm.hold (Af R) q).toNat = "all"
            · rw [decide_eq_true hall,Bool.true_or]
            · rw [Gq hG hA hc.len ow hpl hall,decide_eq_true rfl,Bool.or_true]
      obtain ⟨_,w2,w3,_⟩:=GD hG hA hway
      have hpt:p∈Rm.chain (Af R) (BI a):=Rm.chain_trans _ (show p∈Rm.chain (Af R) k by rw [Rm.chain_kid hG.tree w2]; exact List.mem_cons_of_mem _ (Rm.chain_self _ _)) hway.1
      rw [hself p hpt w3 hp] at hnk
      cases hnk
    · rw [D0 hG hA hc.len (fun k z => hway ⟨k,z⟩) hp,decide_eq_false (show ¬ Ax R p = "one" by rw [hkeep]; decide +kernel),Bool.false_and,if_neg (by decide)]
      exact hsame p hp hw
end
end Toy
namespace Toy
open PySem L2
seal PySem.wpAny
section
variable {P:Program} {w:World} {K:PySem.W.Frag} {mg:Str→Option Value} {base:Heap}
def AV (A:List Aq) (l:List Nat):List Int:=l.map fun k => (Hi A k).2.2.2.2
def tkL (R:List Ai) (A:List Aq) (chs:List Int) (ev:Int):List Nat:=GG R A (kI R chs) ev
def JI (C CC:Addr):Sp:=fun vs H Q E => ∃ (c st kt mt:Addr) (R:List Ai) (A:List Aq) (chs:List Int) (ev:Int),vs=[.ref c,.ref st,.int ev]∧A7 C H c R A∧AY R∧(∀ a∈A,AW R a) ∧
  H st=some (.tup [.ref kt,.ref mt])∧H kt=some (.tup ((kI R chs).map V.int))∧H mt=some (.tup ((CG R chs).map V.int))∧Ef R chs ∧
  (∀ i j,Bo (Eb R A) (tkL R A chs ev)=some (i,j)→∀ (d tp:Addr) (H':Hp),Ao H H'→H' d=some (XD d (NU (.ref tp) (i:Int) (j:Int)))→H' tp=some (.tup [.int ev])→E (.ref CC) (some d) H') ∧
  (Bo (Eb R A) (tkL R A chs ev)=Option.none→∀ (t s' kt' mt' dd:Addr) (H':Hp),Ao H H'→H' t=some (.tup [.ref s',.ref dd])→H' s'=some (.tup [.ref kt',.ref mt'])→H' kt'=some (.tup ((kI R (Bd R A chs (tkL R A chs ev))).map V.int)) →
    H' mt'=some (.tup ((CG R (Bd R A chs (tkL R A chs ev))).map V.int))→H' dd=some (.tup ((AV A (tkL R A chs ev)).map V.int))→Q (.ref t) H')
theorem JE {R:List Ai} (hG:AY R) {A:List Aq} (hA:∀ x∈A,AW R x) {chs:List Int} {ev:Int}:∀ k∈tkL R A chs ev,Rm.kb (CU R chs) (Af R) (A6 R (Hi A k))=true:=by
  intro k hk
  have hlt:=DM k hk
  have h1:=(List.mem_filter.mp (List.mem_filter.mp hk).1).2
  unfold CN at h1
  rw [List.getElem?_eq_getElem hlt] at h1
  have h2:Fr A[k] (kI R chs) ev=true:=h1
  unfold Fr at h2
  rw [Bool.and_eq_true,Bool.and_eq_true] at h2
  have hs:A[k].1∈kI R chs:=of_decide_eq_true h2.1.2
  obtain ⟨s,hs1,hs2⟩:=List.mem_map.mp hs
  obtain ⟨k1,k2⟩:=Cm.mp hs1
  rw [B9 hlt]
  have ga:=hA _ (List.getElem_mem hlt)
  obtain ⟨q,hq⟩:=ga.sc
  have hsc:A6 R A[k] = q:=by unfold A6; rw [hq]; rfl
  have hm:=(FR hq).1
  have es:A[k].1.toNat=s:=by rw [← hs2]; simp
  rw [es] at hm
  rw [hsc]
  exact OZ hG k1 (List.mem_of_mem_tail hm) k2
theorem Iu {cl:Nat→Nat→Bool}:∀ {l:List Nat} {i j:Nat},Bo cl l=some (i,j)→i∈l∧j∈l
  | [],_,_,h => by cases h
  | x :: l,i,j,h => by
    have h':(match l.find? (cl x) with | some y => some (x,y) | Option.none => Bo cl l)=some (i,j):=h
    cases z:l.find? (cl x) with
    | some y =>
      rw [z] at h'
      cases h'
      exact ⟨List.mem_cons_self,List.mem_cons_of_mem _ (List.mem_of_find?_eq_some z)⟩
    | none =>
      rw [z] at h'
      obtain ⟨a,b⟩:=Iu h'
      exact ⟨List.mem_cons_of_mem _ a,List.mem_cons_of_mem _ b⟩
theorem LW (R:List Ai) (A:List Aq) (chs:List Int) {l:List Nat} {i k:Nat} (hk:l[i]? = some k):Bd R A chs (l.take (i + 1))=BH R (Bd R A chs (l.take i)) (Hi A k):=by
  unfold Bd
  rw [List.take_add_one,hk,List.foldl_append]; rfl
theorem Cu:AA ["chart", "state", "event", "kept", "memory", "taken", "pair", "number", "deeds"] ["chart", "state", "event"] (Ae CK):=⟨rfl,rfl,rfl,by decide +kernel,rfl,by decide +kernel,by decide +kernel⟩
theorem Mh {f C CC CE fI ft fc fm fr:Addr} {fd fdI fdt fdc fdm fdr:FuncData} (D:Am K mg "stepped" CK ["chart", "state", "event"] f fd) (T:Dn K mg C) (X:Ee K mg CC CE fI) (mgX:mg "Clash" = some (.ref CC)) (kpX:PySem.W.keepIn K (.ref CC)=true) (bX:C8 K fdI ["self", "events", "first", "second"] []) (GX:AD P w K mg base A9 1 fI fdI ["self", "events", "first", "second"] (FL CC))
    (Dt:Am K mg "takeable" Ce ["chart", "kept", "event"] ft fdt) (Gt:AD P w K mg base A9 4 ft fdt ["chart", "kept", "event"] (HN K C)) (Dc:Am K mg "clash_of" C6 ["chart", "numbers"] fc fdc) (Gc:AD P w K mg base A9 6 fc fdc ["chart", "numbers"] (JM C))
    (Dm:Am K mg "moved" En ["chart", "kept", "memory", "number"] fm fdm) (Gm:AD P w K mg base A9 20 fm fdm ["chart", "kept", "memory", "number"] (MH C)) (Dr:Am K mg "remembered" B1 ["chart", "kept", "memory"] fr fdr) :
    AD P w K mg base (JB true P w) 21 f fd ["chart", "state", "event"] (JI C CC):=by
  have Gr:AD P w K mg base A9 1 fr fdr ["chart", "kept", "memory"] (spRem C):=ok_rem Dr T
  refine D.fn.okX Cu (fun vs H Q E h => ?_) (fun cdv A outer s H vs Q E hr h => ?_)
  · obtain ⟨c,st,kt,mt,R,As,chs,ev,rfl,_⟩:=h
    rfl
  obtain ⟨c,st,kt,mt,R,As,chs,ev,rfl,hC,hG,hA,hst,hkt,hmt,hch,qE,qQ⟩:=h
  refine ⟨_,Ad (Ar (i := 3) Cu.nd rfl (Or.inl rfl) (An Aw (pv 1) Ah (fun _ _ => rfl)))
    (Ad (Ar (i := 4) Cu.nd rfl (Or.inl rfl) (An Aw (pv 1) Ah (fun _ _ => rfl)))
    (Ad (Ar (i := 5) Cu.nd rfl (Or.inl rfl) (Ap Gt (hr.mono (by decide)) rfl Dt.mg Dt.fn.kp Dt.bd .nil AF (Aa (pv 0) (Aa (pv 3) (Aa (pv 2) Ab)))))
    (Ad (Ar (i := 6) Cu.nd rfl (Or.inl rfl) (Ap Gc (hr.mono (by decide)) rfl Dc.mg Dc.fn.kp Dc.bd .nil AF (Aa (pv 0) (Aa (pv 5) Ab))))
    (Ad (A0 (AB FY (pv 6) Cj (AT _)) (Aj (Nw (E:=E) (E0:=fun _ _ _ => False) (CX:=A9) X.x GX (fun _ _ _ _ _ z => z) JC rfl (hr.mono (by decide)) bX rfl mgX kpX (Aa (AX (Aa (pv 2) Ab)) (Aa (An Aw (pv 6) Ah (fun _ _ => rfl)) (Aa (An Aw (pv 6) Ah (fun _ _ => rfl)) Ab))))) AJ)
    (Ad (Bj EY rfl (Bu (pv 5)) (AI (i := 7) Cu.nd rfl (Or.inl rfl))
      (Aj (Ar (i := 3) Cu.nd rfl (Or.inl rfl) (Ap Gm hr rfl Dm.mg Dm.fn.kp Dm.bd .nil AF (Aa (pv 0) (Aa (pv 3) (Aa (pv 4) (Aa (pv 7) Ab))))))))
    (Ad (Ar (i := 8) Cu.nd rfl (Or.inl rfl) (Ba Bv (by rfl) T.tup (by decide +kernel) (Aa (Cg ["number", "chart"] [Option.none,some 0] rfl (Bu (pv 5)) (fun _ => AI (i := 0) (show (["number", "chart"]:List Str).Nodup by decide +kernel) rfl (Or.inl rfl)) (fun _ => Cr)
      (fun _ => An Aw (An Au (Bn (pv 1) rfl) (pv 0) (fun _ _ => rfl)) (AO T.ded rfl) (fun _ _ => rfl))
      (N:=["chart", "state", "event", "kept", "memory", "taken", "pair", "number", "deeds"]) (ks:=(Ae CK).names) rfl rfl (by decide +kernel) (by decide +kernel) (by decide +kernel) (by decide +kernel)) Ab)))
    (Aj (AM (AX (Aa (AX (Aa (pv 3) (Aa (Ap Gr (hr.mono (by decide)) rfl Dr.mg Dr.fn.kp Dr.bd .nil AF (Aa (pv 0) (Aa (pv 3) (Aa (pv 4) Ab)))) Ab))) (Aa (pv 8) Ab))))))))))),?_⟩
  have hal:=hC.al
  have hrl:=hG.most
  refine ⟨_,rfl,st,_,_,_,rfl,rfl,A2.of hst,rfl,?_⟩
  refine ⟨_,rfl,st,_,_,_,rfl,rfl,A2.of hst,rfl,?_⟩
  refine ⟨_,rfl,_,rfl,_,rfl,c,kt,R,As,kI R chs,ev,rfl,hC,hG,hA,A2.of hkt,fun tk H1 htk s1 e1 => ?_⟩
  have e1':H1 tk=some (.lst (cV (tkL R As chs ev))):=e1
  have hlt:∀ i∈tkL R As chs ev,i < As.length:=fun i hi => DM i hi
  have hln:(tkL R As chs ev).length≤100:=Nat.le_trans (EH R As (kI R chs) ev) hal
  have hkp:=JE (chs:=chs) (ev:=ev) hG hA
  refine ⟨_,rfl,_,rfl,c,tk,R,As,tkL R As chs ev,rfl,hC.same s1,hG,hA,e1',hln,hlt,?_⟩
  cases hp:Bo (Eb R As) (tkL R As chs ev) with
  | some ij =>
    obtain ⟨i,j⟩:=ij
    intro pt H2 s2 e2
    have s02:=s1.trans s2
    refine ⟨_,rfl,rfl,_,rfl,?_⟩
    refine Bi ?_
    refine ⟨_,rfl,(by show 1≤sizeLine; decide),fun tp htp => ?_⟩
    have s3:=Ag htp (.tup [.int ev])
    have etp:(upd H2 tp (.tup [.int ev])) tp=some (.tup [.int ev]):=Ac
    generalize upd H2 tp (.tup [.int ev])=H3 at s3 etp ⊢
    have sm:∀ x:Nat,x≤100→((x:Int)).natAbs.log2 < 1920:=fun x hx => by
      have e:((x:Int)).natAbs=x:=Int.natAbs_natCast x
      rw [e]
      by_cases z:x=0
      · subst z; decide
      · exact (Nat.log2_lt z).mpr (Nat.lt_of_le_of_lt hx (by decide +kernel))
    have hij:i≤100∧j≤100:=by
      have hm:=Iu hp
      exact ⟨by have:=hlt i hm.1; omega,by have:=hlt j hm.2; omega⟩
    refine ⟨_,rfl,pt,_,_,_,rfl,rfl,A2.of (s3 _ _ e2),rfl,_,rfl,pt,_,_,_,rfl,rfl,A2.of (s3 _ _ e2),rfl,(by show 3≤100; decide),fun ax hax => ?_⟩
    refine ⟨ax,.ref tp,(i:Int),(j:Int),rfl,Ac,sm i hij.1,sm j hij.2,fun d hd => ⟨rfl,d,?_,?_⟩⟩
    · have nda:d≠ax:=fun z => by rw [z,Ac] at hd; cases hd
      rw [Ak (Ne.symm nda),Ac]
    · have nda:d≠ax:=fun z => by rw [z,Ac] at hd; cases hd
      have hd3:H3 d=Option.none:=by rw [Ak nda] at hd; exact hd
      have kp:∀ x o,H3 x=some o→Mw (upd (upd (upd H3 ax (XI ax CC Option.none)) ax (XI ax CC (some d))) d (XD d (NU (.ref tp) (i:Int) (j:Int)))) ax x=some o:=fun x o e => by
        have n1:x≠ax:=Al e hax
        rw [Dj n1,Ak (Al e hd3),Ak n1,Ak n1]; exact e
      refine qE i j hp d tp _ (fun x o e => kp x o (s3 _ _ (s02 _ _ e))) ?_ (kp _ _ etp)
      rw [Dj nda,Ac]
  | none =>
    intro H2 s2
    have s02:=s1.trans s2
    have e2:=s2 _ _ e1'
    refine ⟨_,rfl,rfl,_,rfl,?_⟩
    refine A1 ?_
    have ap:=Jg hlt hp
    have hM:=memL_ok hch
    refine ⟨_,rfl,tk,rfl,⟨_,AE.of e2⟩,?_⟩
    generalize htl:tkL R As chs ev=l at e2 hlt hln hkp hp ap qQ
    refine B6 (K:=K) (xs:=cV l) (fun i σ H3 => ∃ v7 k3,σ = [some (.ref c),some (.ref st),some (.int ev),some (.ref k3),some (.ref mt),some (.ref tk),some .non,v7,Option.none]∧Ao H2 H3∧H3 k3=some (.tup ((kI R (Bd R As chs (l.take i))).map V.int))∧LY R As chs (Bd R As chs (l.take i)) (l.drop i)∧Ji R chs (Bd R As chs (l.take i)))
      ⟨_,kt,rfl,Ao.refl _,s02 _ _ hkt,⟨hch,fun k _ p _ _ => rfl,fun k hk => hkp k hk⟩,fun p _ _ _ => rfl⟩ ?_ ?_ ?_
    · rintro i σ H3 hi ⟨v7,k3,rfl,(s3:Ao _ _),_⟩
      exact AE.of (s3 _ _ e2)
    · rintro i x σ H3 hx ⟨v7,k3,rfl,(s3:Ao _ _),e3,hah,hsy⟩
      obtain ⟨k,hk,rfl⟩:=BX hx
      have hkl:=hlt k (List.mem_of_getElem? hk)
      have hd:l.drop i=k :: l.drop (i + 1):=by
        obtain ⟨hi,e⟩:=List.getElem?_eq_some_iff.mp hk
        rw [List.drop_eq_getElem_cons hi,e]
      rw [hd] at hah
      have hld:∀ y∈k :: l.drop (i + 1),y < As.length:=fun y hy => hlt y (by rw [← hd] at hy; exact List.mem_of_mem_drop hy)
      have apd:Nm R As (k :: l.drop (i + 1)):=by rw [← hd]; exact List.Pairwise.sublist (List.drop_sublist i l) ap
      have s03:=s02.trans s3
      have ga:AW R (Hi As k):=by rw [B9 hkl]; exact hA _ (List.getElem_mem hkl)
      have hak:As[k]? = some (Hi As k):=by rw [B9 hkl]; exact List.getElem?_eq_getElem hkl
      have hmm:∀ p,p < R.length→Ax R p = "keep"→Rm.wi (Af R) p (A6 R (Hi As k))=true→(CG R chs).getD p (-1)=(Bd R As chs (l.take i)).getD p (-1):=fun p hp hkk hw => by
        rw [DY hp,if_pos hkk,hah.same k List.mem_cons_self p hp hw]
      refine ⟨_,rfl,_,rfl,_,rfl,_,rfl,c,k3,mt,R,As,CG R chs,Cn R (Bd R As chs (l.take i)),k,Hi As k,rfl,hC.same s03,hG,hak,ga,e3,fun y hy => (Cm.mp hy).1,Nat.le_trans (LF R _) (by omega),s03 _ _ hmt,hM,fun t ns H4 s4 hperm hsrt e4 => ?_⟩
      have ens:=Ml hG ga hah.ch hM hmm (hah.kept k List.mem_cons_self) hperm hsrt
      rw [ens] at e4
      have eb:=LW R As chs hk
      refine ⟨_,t,rfl,s3.trans s4,by rw [eb]; exact e4,by rw [eb]; exact hah.next hG hA hld apd,?_⟩
      rw [eb]
      exact hsy.next hG ga hah.ch (hah.same k List.mem_cons_self) (hah.kept k List.mem_cons_self) hM hmm
    · rintro σ H3 ⟨v7,k3,rfl,(s3:Ao _ _),e3,hah,hsy⟩
      rw [Bb,List.take_length] at e3 hah hsy
      have s03:=s02.trans s3
      obtain ⟨dx,la,ma,ps,qs,h1,h2,h3,h4,h5⟩:=(hC.same s03).ob
      refine ⟨_,rfl,tk,rfl,⟨_,AE.of (s3 _ _ e2)⟩,fun bk D hD => ?_⟩
      refine Cc (K:=K) (xs:=cV l) (Pv:=fun j ys σ H' => ∃ v,σ = [v,some (.ref c)]∧ys=(AV As (l.take j)).map V.int∧Ao H3 H') ⟨_,rfl,rfl,Ag hD _⟩ ?_ ?_ ?_
      · rintro j ys σ H' hj hDj ⟨v,rfl,_,(s':Ao _ _)⟩
        exact AE.of (s' _ _ (s3 _ _ e2))
      · rintro j x ys σ H' hx hDj ⟨v,rfl,hys,(s':Ao _ _)⟩
        obtain ⟨k,hk,rfl⟩:=BX hx
        have hkl:=hlt k (List.mem_of_getElem? hk)
        obtain ⟨p,hp1,hp2⟩:=By h5 hkl
        have hjl:=(List.getElem?_eq_some_iff.mp hk).1
        refine ⟨_,rfl,c,C,dx,_,_,rfl,s' _ _ h1,T.cl,T.nA,Bz la ma,_,rfl,ma,_,_,_,rfl,rfl,AE.of (s' _ _ h4),hp1,p,_,_,_,rfl,rfl,A2.of (s' _ _ hp2),rfl,hDj,?_,⟨_,rfl,?_,AR s' hD _⟩⟩
        · rw [hys,List.length_map]
          unfold AV
          rw [List.length_map,List.length_take]; exact Av (by omega)
        · unfold AV at hys ⊢
          rw [List.take_add_one,hk,List.map_append,List.map_append,← hys]
          show ys ++ [V.int As[k].2.2.2.2] = ys ++ [V.int (Hi As k).2.2.2.2]
          rw [B9 hkl]
      · rintro ys σ H4 hD4 ⟨v,rfl,hys,(s4:Ao _ _)⟩
        rw [Bb,List.take_length] at hys
        subst hys
        refine ⟨D,_,rfl,.inl ⟨AE.of hD4,fun dd hdd => ?_⟩⟩
        have s5:=Ag hdd (.tup ((AV As l).map V.int))
        have edd:(upd H4 dd (.tup ((AV As l).map V.int))) dd=some (.tup ((AV As l).map V.int)):=Ac
        generalize upd H4 dd (.tup ((AV As l).map V.int))=H5 at s5 edd ⊢
        have s35:=s4.trans s5
        have s05:=s03.trans s35
        refine ⟨_,rfl,_,rfl,_,rfl,_,rfl,c,k3,mt,R,As,CG R chs,Cn R (Bd R As chs l),rfl,hC.same s05,hG,s35 _ _ e3,fun y hy => (Cm.mp hy).1,s05 _ _ hmt,by simp [CG],fun m6 H6 s6 e6 => ?_⟩
        rw [P3 hG hah.ch hch.len hsy] at e6
        refine ⟨(by show 2≤sizeLine; decide),fun sp hsp => ?_⟩
        have s7:=Ag hsp (.tup [.ref k3,.ref m6])
        refine ⟨_,rfl,(by show 2≤sizeLine; decide),fun t ht => ?_⟩
        have s8:=Ag ht (.tup [.ref sp,.ref dd])
        have s58:=s6.trans (s7.trans s8)
        exact qQ hp t sp k3 m6 dd _ (s05.trans s58) Ac (s8 _ _ Ac) ((s35.trans s58) _ _ e3) ((s7.trans s8) _ _ e6) (s58 _ _ edd)
end
end Toy
namespace Toy
open PySem L2
seal PySem.wpAny
section
variable {P:Program} {w:World} {K:PySem.W.Frag} {mg:Str→Option Value} {base:Heap}
def p2 {α : Type} (a b : α) (x:Int) : α:=if x=0 then a else b
def p3 {α : Type} (a b c : α) (x:Int) : α:=if x=0 then a else if x=1 then b else c
theorem at2 {f : α→V} {a b : α} {x:Int}:Jl [f a,f b] (x % 2)=some (f (p2 a b (x % 2))):=by
  rcases (by omega:x % 2=0∨x % 2=1) with h | h <;> rw [h] <;> rfl
theorem at3 {f : α→V} {a b c : α} {x:Int}:Jl [f a,f b,f c] (x % 3)=some (f (p3 a b c (x % 3))):=by
  rcases (by omega:x % 3=0∨x % 3=1∨x % 3=2) with h | h | h <;> rw [h] <;> rfl
abbrev J5 (x:Int):Str:=p2 "keep" "one" x
def LZ (c:Int):List Ai:=([(-1, "one"),(0, "all"),(1,J5 (c / 4 % 2)),(1,J5 (c / 8 % 2))]:List Ai) ++ (List.range (2 + c % 2).toNat).map (fun _ => ((2, "plain"):Ai)) ++ (List.range (2 + c / 2 % 2).toNat).map (fun _ => ((3, "plain"):Ai)) ++ ([(0, "plain")]:List Ai)
def frD (ns:List Int) (st:Nat) (i:Nat):Int:=Rm.cell ns (st + 1 + i % 5) / (1 + ((0:Int) + (i:Int)) / 5 * 3) % 2
def frDs (ns:List Int) (st:Nat):List Int:=(List.range 10).map (frD ns st)
def Pf (c:Int) (ds:List Int):List Aq:=(List.range (2 + c % 2).toNat).map fun (i:Nat) => ((4 + ((0:Int) + (i:Int)),0,-1,4 + (((0:Int) + (i:Int)) + 1) % (2 + c % 2),ds.getD i 0):Aq)
def Pe (c:Int) (ds:List Int):List Aq:=(List.range (2 + c / 2 % 2).toNat).map fun (i:Nat) => ((4 + (2 + c % 2) + ((0:Int) + (i:Int)),p3 0 0 3 (c / 16 % 3),-1,4 + (2 + c % 2) + (((0:Int) + (i:Int)) + 1) % (2 + c / 2 % 2),ds.getD (3 + i) 0):Aq)
def frA2 (c:Int) (ds:List Int):Aq:=(1,1,p3 (-1) 5 (4 + (2 + c % 2) + 1) (c / 48 % 3),4 + (2 + c % 2) + (2 + c / 2 % 2),ds.getD 6 0)
def frA3 (c:Int) (ds:List Int):Aq:=(4 + (2 + c % 2) + (2 + c / 2 % 2),2,-1,p3 1 2 5 (c / 144 % 3),ds.getD 7 0)
def frA4 (c:Int):Aq:=(5,3,-1,4 + (2 + c % 2) + (2 + c / 2 % 2),7)
def frA5 (c:Int):Aq:=(4 + (2 + c % 2) + 1,3,-1,4 + (2 + c % 2),8)
def PJ (cl:Bool) (c:Int) (ds:List Int):List Aq:=Pf c ds ++ Pe c ds ++ [frA2 c ds] ++ [frA3 c ds] ++ (if cl=true∧c / 432 % 3=1 then [frA4 c] ++ [frA5 c] else [])
theorem frA_len (cl:Bool) (c:Int) (ds:List Int):(PJ cl c ds).length≤20:=by
  have h1:(2 + c % 2).toNat≤3:=by omega
  have h2:(2 + c / 2 % 2).toNat≤3:=by omega
  unfold PJ Pf Pe
  simp only [List.length_append,List.length_map,List.length_range,List.length_cons,List.length_nil]
  split <;> simp <;> omega
def O5 (R:List Ai):Bool:=decide (0 < R.length) && decide (R.length≤16) && decide (Rm.hold (Af R) 0 = -1) && ((List.range R.length).all fun i => decide (i=0) || (decide (0≤Rm.hold (Af R) i) && decide (Rm.hold (Af R) i < (i:Int)))) &&
  ((List.range R.length).all fun i => (decide (Ax R i = "plain") || decide (Ax R i = "one") || decide (Ax R i = "all") || decide (Ax R i = "keep")) && (decide (Ax R i = "plain") == (Rm.kids (Af R) i).isEmpty))
theorem O4 {R:List Ai} (h:O5 R=true):AY R:=by
  unfold O5 at h
  simp only [Bool.and_eq_true,decide_eq_true_eq,List.all_eq_true,List.mem_range,Bool.or_eq_true,beq_iff_eq] at h
  obtain ⟨⟨⟨⟨h1,h2⟩,h3⟩,h4⟩,h5⟩:=h
  refine ⟨⟨by rw [Ay]; exact h1,h3,fun i h0 hi => ?_⟩,h2,fun i r hr => ?_⟩
  · rw [Ay] at hi
    rcases h4 i hi with z | z
    · omega
    · exact z
  · obtain ⟨hi,rfl⟩:=List.getElem?_eq_some_iff.mp hr
    obtain ⟨a,b⟩:=h5 i hi
    rw [A4 hi] at a b
    refine ⟨?_,?_⟩
    · rcases a with ((a | a) | a) | a
      · exact .inl a
      · exact .inr (.inl a)
      · exact .inr (.inr (.inl a))
      · exact .inr (.inr (.inr a))
    · rw [← List.isEmpty_iff,← b,decide_eq_true_eq]
def NQ (x y:Nat) (k1 k2:Str):List Ai:=([(-1, "one"),(0, "all"),(1,k1),(1,k2)]:List Ai) ++ (List.range (2 + x)).map (fun _ => ((2, "plain"):Ai)) ++ (List.range (2 + y)).map (fun _ => ((3, "plain"):Ai)) ++ ([(0, "plain")]:List Ai)
def KF (x y:Nat):List (Nat×Nat):=((List.range (2 + x)).map fun i => (4 + i,4 + (i + 1) % (2 + x))) ++ ((List.range (2 + y)).map fun i => (4 + (2 + x) + i,4 + (2 + x) + (i + 1) % (2 + y))) ++
  [(1,4 + (2 + x) + (2 + y)),(4 + (2 + x) + (2 + y),1),(4 + (2 + x) + (2 + y),2),(4 + (2 + x) + (2 + y),5),(5,4 + (2 + x) + (2 + y)),(4 + (2 + x) + 1,4 + (2 + x))]
def frAll:Bool:=[0,1].all fun x => [0,1].all fun y => (["keep", "one"]:List Str).all fun k1 => (["keep", "one"]:List Str).all fun k2 => O5 (NQ x y k1 k2) && decide ((NQ x y k1 k2).length=9 + x + y) && ((KF x y).all fun p => (Bt (NQ x y k1 k2) p.1 p.2).isSome)
theorem Pc:frAll=true:=by decide +kernel
theorem Pa (c:Int):LZ c=NQ (c % 2).toNat (c / 2 % 2).toNat (J5 (c / 4 % 2)) (J5 (c / 8 % 2)):=by
  unfold LZ NQ
  rw [show (2 + c % 2).toNat=2 + (c % 2).toNat by omega,show (2 + c / 2 % 2).toNat=2 + (c / 2 % 2).toNat by omega]
theorem KR (x:Int):J5 x∈(["keep", "one"]:List Str):=by
  unfold J5 p2
  split
  · exact .head _
  · exact .tail _ (.head _)
theorem LM (c:Int):AY (LZ c)∧(LZ c).length=9 + (c % 2).toNat + (c / 2 % 2).toNat∧∀ p∈KF (c % 2).toNat (c / 2 % 2).toNat,∃ q,Bt (LZ c) p.1 p.2=some q:=by
  have h:=Pc
  unfold frAll at h
  simp only [List.all_eq_true,Bool.and_eq_true,decide_eq_true_eq] at h
  have h2:=h (c % 2).toNat (by rcases (by omega:c % 2=0∨c % 2=1) with e | e <;> rw [e] <;> decide) (c / 2 % 2).toNat (by rcases (by omega:c / 2 % 2=0∨c / 2 % 2=1) with e | e <;> rw [e] <;> decide) (J5 (c / 4 % 2)) (KR _) (J5 (c / 8 % 2)) (KR _)
  rw [← Pa] at h2
  exact ⟨O4 h2.1.1,h2.1.2,fun p hp => Option.isSome_iff_exists.mp (h2.2 p hp)⟩
theorem Pd (cl:Bool) (c:Int) (ds:List Int) (hd:∀ i,0≤ds.getD i 0∧ds.getD i 0≤99):∀ a∈PJ cl c ds,AW (LZ c) a:=by
  obtain ⟨hG,hl,hp⟩:=LM c
  obtain ⟨x,ex,hx⟩ : ∃ x:Nat,c % 2=(x:Int)∧x≤1:=⟨(c % 2).toNat,by omega,by omega⟩
  obtain ⟨y,ey,hy⟩ : ∃ y:Nat,c / 2 % 2=(y:Int)∧y≤1:=⟨(c / 2 % 2).toNat,by omega,by omega⟩
  rw [ex,ey,Int.toNat_natCast,Int.toNat_natCast] at hl hp
  have mk:∀ (s t:Nat) (e g d:Int),(s,t)∈KF x y→s < (LZ c).length→t < (LZ c).length→0≤e∧e≤3→-1≤g∧g < ((LZ c).length:Int)→0≤d∧d≤99→∀ (s' t':Int),s'=(s:Int)→t'=(t:Int)→AW (LZ c) (s',e,g,t',d):=by
    rintro s t e g d hpm hs ht he hg hd' _ _ rfl rfl
    refine ⟨⟨s,rfl,hs⟩,he,hg,⟨t,rfl,ht⟩,hd',?_⟩
    show ∃ p,Bt (LZ c) ((s:Int)).toNat ((t:Int)).toNat=some p
    rw [Int.toNat_natCast,Int.toNat_natCast]
    exact hp _ hpm
  rw [hl] at mk
  intro a ha
  unfold PJ at ha
  rw [List.mem_append,List.mem_append,List.mem_append,List.mem_append] at ha
  have tl:∀ (q:Nat×Nat),q∈[(1,4 + (2 + x) + (2 + y)),(4 + (2 + x) + (2 + y),1),(4 + (2 + x) + (2 + y),2),(4 + (2 + x) + (2 + y),5),(5,4 + (2 + x) + (2 + y)),(4 + (2 + x) + 1,4 + (2 + x))]→q∈KF x y:=fun q hq => List.mem_append_right _ hq
  rcases ha with (((ha | ha) | ha) | ha) | ha
  · unfold Pf at ha
    obtain ⟨i,hi,rfl⟩:=List.mem_map.mp ha
    rw [List.mem_range,ex] at hi
    have hi':i < 2 + x:=by omega
    have hm:=Nat.mod_lt (i + 1) (show 0 < 2 + x by omega)
    refine mk (4 + i) (4 + (i + 1) % (2 + x)) 0 (-1) _ (List.mem_append_left _ (List.mem_append_left _ (List.mem_map.mpr ⟨i,List.mem_range.mpr hi',rfl⟩))) (by omega) (by omega) (by omega) (by omega) (hd _) _ _ (by omega) ?_
    rw [ex,show ((0:Int) + (i:Int) + 1)=((i + 1:Nat):Int) by omega,show (2:Int) + (x:Int)=((2 + x:Nat):Int) by omega,← Int.natCast_emod]
    omega
  · unfold Pe at ha
    obtain ⟨i,hi,rfl⟩:=List.mem_map.mp ha
    rw [List.mem_range,ey] at hi
    have hi':i < 2 + y:=by omega
    have hm:=Nat.mod_lt (i + 1) (show 0 < 2 + y by omega)
    refine mk (4 + (2 + x) + i) (4 + (2 + x) + (i + 1) % (2 + y)) _ (-1) _ (List.mem_append_left _ (List.mem_append_right _ (List.mem_map.mpr ⟨i,List.mem_range.mpr hi',rfl⟩))) (by omega) (by omega) ?_ (by omega) (hd _) _ _ (by omega) ?_
    · unfold p3
      split
      · decide
      · split <;> decide
    · rw [ex,ey,show ((0:Int) + (i:Int) + 1)=((i + 1:Nat):Int) by omega,show (2:Int) + (y:Int)=((2 + y:Nat):Int) by omega,← Int.natCast_emod]
      omega
  · cases List.mem_singleton.mp ha
    refine mk 1 (4 + (2 + x) + (2 + y)) 1 _ _ (tl _ (.head _)) (by omega) (by omega) (by omega) ?_ (hd _) _ _ rfl (by omega)
    unfold p3
    split
    · omega
    · split <;> omega
  · cases List.mem_singleton.mp ha
    unfold frA3 p3
    by_cases z1:c / 144 % 3=0
    · rw [if_pos z1]
      exact mk (4 + (2 + x) + (2 + y)) 1 2 (-1) _ (tl _ (.tail _ (.head _))) (by omega) (by omega) (by omega) (by omega) (hd _) _ _ (by omega) rfl
    · rw [if_neg z1]
      by_cases z2:c / 144 % 3=1
      · rw [if_pos z2]
        exact mk (4 + (2 + x) + (2 + y)) 2 2 (-1) _ (tl _ (.tail _ (.tail _ (.head _)))) (by omega) (by omega) (by omega) (by omega) (hd _) _ _ (by omega) rfl
      · rw [if_neg z2]
        exact mk (4 + (2 + x) + (2 + y)) 5 2 (-1) _ (tl _ (.tail _ (.tail _ (.tail _ (.head _))))) (by omega) (by omega) (by omega) (by omega) (hd _) _ _ (by omega) rfl
  · split at ha
    · rw [List.mem_append] at ha
      rcases ha with ha | ha
      · cases List.mem_singleton.mp ha
        exact mk 5 (4 + (2 + x) + (2 + y)) 3 (-1) _ (tl _ (.tail _ (.tail _ (.tail _ (.tail _ (.head _)))))) (by omega) (by omega) (by omega) (by omega) (by decide) _ _ rfl (by omega)
      · cases List.mem_singleton.mp ha
        exact mk (4 + (2 + x) + 1) (4 + (2 + x)) 3 (-1) _ (tl _ (.tail _ (.tail _ (.tail _ (.tail _ (.tail _ (.head _))))))) (by omega) (by omega) (by omega) (by omega) (by decide) _ _ (by omega) (by omega)
    · cases ha
theorem frDs_ok (ns:List Int) (st i:Nat) : 0≤(frDs ns st).getD i 0∧(frDs ns st).getD i 0≤99:=by
  unfold frDs
  rw [List.getD_eq_getElem?_getD,List.getElem?_map]
  cases h:(List.range 10)[i]? with
  | none => exact ⟨Int.le_refl 0,by show (0:Int)≤99; decide⟩
  | some j =>
    show 0≤frD ns st j∧frD ns st j≤99
    unfold frD
    omega
end
end Toy
namespace Toy
open PySem L2
seal PySem.wpAny
section
variable {P:Program} {w:World} {K:PySem.W.Frag} {mg:Str→Option Value} {base:Heap}
theorem AK.app {H:Hp} {ps qs:List Addr} {os ts:List (List V)} (h:AK H ps os) (k:AK H qs ts):AK H (ps ++ qs) (os ++ ts):=by
  refine ⟨by simp [h.1,k.1],fun i p o a b => ?_⟩
  have hl:=h.1
  by_cases hi:i < ps.length
  · rw [List.getElem?_append_left hi] at a
    rw [List.getElem?_append_left (by omega)] at b
    exact h.2 i p o a b
  · rw [List.getElem?_append_right (by omega)] at a
    rw [List.getElem?_append_right (by omega)] at b
    rw [hl] at a
    exact k.2 _ p o a b
theorem AK.none {H:Hp}:AK H [] []:=⟨rfl,fun i p o a _ => by cases a⟩
theorem AK.put {H H1:Hp} {d t:Addr} {ps:List Addr} {os:List (List V)} {o:List V} (hd:H d=Option.none) (s1:Ao H H1) (hD:H1 d=some (.lst (ps.map V.ref))) (hI:AK H1 ps os) (ht:H1 t=Option.none) :
    Ao H (upd (upd H1 t (.tup o)) d (.lst (ps.map V.ref ++ [V.ref t])))∧AK (upd (upd H1 t (.tup o)) d (.lst (ps.map V.ref ++ [V.ref t]))) (ps ++ [t]) (os ++ [o]):=by
  have ndt:d≠t:=Al hD ht
  refine ⟨AR (s1.trans (Ag ht _)) hd _,AK.snoc ⟨hI.1,fun i p u a b => ?_⟩ ?_⟩
  · have e:=hI.2 i p u a b
    rw [Ak (F0 e hD (by intro z; cases z)),Ak (Al e ht)]; exact e
  · rw [Ak ndt.symm,Ac]
theorem EC {H:Hp} {n:Nat} {D:Addr} {te:TE} {f:Nat→List V} {Q:VK} {τ : List (Option V)} {v0:Option V} (hn:n≤100) (hD:H D=Option.none)
    (hte:∀ (i:Nat) H' Q,i < n→Ao H H'→(∀ t,H' t=Option.none→Q (.ref t) (upd H' t (.tup (f i))))→te (some (.int ((0:Int) + (i:Int))) :: τ) H' Q)
    (q:∀ ps H',Ao H H'→H' D=some (.lst (ps.map V.ref))→AK H' ps ((List.range n).map f)→Q (.ref D) H'):FG (PK 0 n) (IN 0) N8 te D Q (v0 :: τ) (upd H D (.lst [])):=by
  refine E7 (Pv:=fun i ys σ H' => ∃ v ps,σ = v :: τ∧ys=ps.map V.ref∧Ao H H'∧AK H' ps ((List.range i).map f)) ⟨_,[],rfl,rfl,Ag hD _,AK.none⟩ ?_ ?_
  · rintro i ys σ H' hi hDi ⟨v,ps,rfl,rfl,(s:Ao _ _),hI⟩
    refine hte i _ _ hi s fun t ht => ?_
    have nDt:D≠t:=Al hDi ht
    have lp:=hI.1
    rw [List.length_map,List.length_range] at lp
    obtain ⟨s2,hI2⟩:=AK.put (o:=f i) hD s hDi hI ht
    refine ⟨by rw [Ak nDt]; exact hDi,by rw [List.length_map,lp]; exact Av (by omega),⟨_,ps ++ [t],rfl,by rw [List.map_append]; rfl,s2,?_⟩⟩
    rw [List.range_succ,List.map_append]
    exact hI2
  · rintro ys σ H' hDn ⟨v,ps,rfl,rfl,(s:Ao _ _),hI⟩
    exact q ps H' s hDn hI
theorem AK.cat {H H1:Hp} {p:Addr} {ps qs:List Addr} {os us:List (List V)} (h:AK H ps os) (s:Ao H H1) (k:AK H1 qs us) (hp:H1 p=Option.none) :
    Ao H (upd H1 p (.lst (ps.map V.ref ++ qs.map V.ref)))∧(upd H1 p (.lst (ps.map V.ref ++ qs.map V.ref))) p=some (.lst ((ps ++ qs).map V.ref))∧AK (upd H1 p (.lst (ps.map V.ref ++ qs.map V.ref))) (ps ++ qs) (os ++ us):=by
  have s2:=Ag hp (.lst (ps.map V.ref ++ qs.map V.ref))
  exact ⟨s.trans s2,by rw [Ac,List.map_append],(h.same (s.trans s2)).app (k.same s2)⟩
theorem AK.add {H H1:Hp} {d t:Addr} {ps:List Addr} {B:List Aq} (o:List V) (x:Aq) (ho:o=aV x) (hd:H d=Option.none) (s1:Ao H H1) (hD:H1 d=some (.lst (ps.map V.ref))) (hI:AK H1 ps (B.map aV)) (ht:H1 t=Option.none) :
    Ao H (upd (upd H1 t (.tup o)) d (.lst (ps.map V.ref ++ [V.ref t])))∧(upd (upd H1 t (.tup o)) d (.lst (ps.map V.ref ++ [V.ref t]))) d=some (.lst ((ps ++ [t]).map V.ref))∧AK (upd (upd H1 t (.tup o)) d (.lst (ps.map V.ref ++ [V.ref t]))) (ps ++ [t]) ((B ++ [x]).map aV):=by
  subst ho
  obtain ⟨a,b⟩:=AK.put (o:=aV x) hd s1 hD hI ht
  exact ⟨a,by rw [Ac,List.map_append]; rfl,by rw [List.map_append]; exact b⟩
theorem KW {ds:List Int} {i:Nat} {k:Int} (e:k=(i:Int)) (h:i < ds.length):Jl (ds.map V.int) k=some (.int (ds.getD i 0)):=by
  subst e; exact GW h
def Lg (K:PySem.W.Frag):Sp:=fun vs H Q _ => ∃ (a:Addr) (ns:List Int) (st:Nat) (cl:Bool),vs=[.ref a,.int st,.bl cl]∧AE K H a (ns.map V.int) ∧
  ∀ (t r ar:Addr) (ps qs:List Addr) (H':Hp),Ao H H'→H' t=some (.tup [.ref r,.ref ar])→H' r=some (.lst (ps.map V.ref))→AK H' ps ((LZ (Rm.cell ns st)).map rV)→H' ar=some (.lst (qs.map V.ref))→AK H' qs ((PJ cl (Rm.cell ns st) (frDs ns st)).map aV)→Q (.ref t) H'
theorem B5:AA ["script", "start", "clashing_v", "cell", "one", "other", "far", "out", "rooms", "deeds", "arrows", "event"] ["script", "start", "clashing_v"] (Ae Cf):=⟨rfl,rfl,rfl,by decide +kernel,rfl,by decide +kernel,by decide +kernel⟩
theorem Ny {f C fc:Addr} {fd fdc:FuncData} (D:Am K mg "_law_framed" Cf ["script", "start", "clashing_v"] f fd) (T:Dn K mg C) (Dc:Am K mg "_law_cell_at" ET ["script", "k"] fc fdc):AD P w K mg base A9 2 f fd ["script", "start", "clashing_v"] (Lg K):=by
  have Gc:AD P w K mg base A9 1 fc fdc ["script", "k"] (HV K):=HK Dc T
  refine D.fn.ok B5 (fun vs H Q E h => ?_) (fun cdv A outer s H vs Q E hr h => ?_)
  · obtain ⟨a,ns,st,cl,rfl,_⟩:=h
    rfl
  obtain ⟨a,ns,st,cl,rfl,hS,q⟩:=h
  refine ⟨_,Ad (Ar (i := 3) B5.nd rfl (Or.inl rfl) (Ap Gc hr rfl Dc.mg Dc.fn.kp Dc.bd .nil AF (Aa (pv 0) (Aa (pv 1) Ab))))
    (Ad (Ar (i := 4) B5.nd rfl (Or.inr rfl) (AH BE Ah (AH Bp (pv 3) Ah)))
    (Ad (Ar (i := 5) B5.nd rfl (Or.inr rfl) (AH BE Ah (AH Bp (AH BS (pv 3) Ah) Ah)))
    (Ad (Ar (i := 6) B5.nd rfl (Or.inr rfl) (AH BE Ah (pv 4)))
    (Ad (Ar (i := 7) B5.nd rfl (Or.inl rfl) (AH BE (pv 6) (pv 5)))
    (Ad (Ar (i := 8) B5.nd rfl (Or.inl rfl) (Bf (Aa (AX (Aa (EF C9 Ah) (Aa Be Ab))) (Aa (AX (Aa Ah (Aa Be Ab)))
      (Aa (AX (Aa Ah (Aa (An Au (Bf (Aa Be (Aa Be Ab))) (AH Bp (AH BS (pv 3) Ah) Ah) (fun _ _ => rfl)) Ab)))
      (Aa (AX (Aa Ah (Aa (An Au (Bf (Aa Be (Aa Be Ab))) (AH Bp (AH BS (pv 3) Ah) Ah) (fun _ _ => rfl)) Ab))) Ab))))))
    (Ad (Ar (i := 8) B5.nd rfl (Or.inl rfl) (AH Ix (AH Ix (AH Ix (pv 8)
        (Cg ["k"] [Option.none] rfl (AZ rfl T.range (Aa (pv 4) Ab)) (fun _ => AI (i := 0) (show (["k"]:List Str).Nodup by decide +kernel) rfl (Or.inl rfl)) (fun _ => Cr) (fun _ => AX (Aa Ah (Aa Be Ab))) (N:=["script", "start", "clashing_v", "cell", "one", "other", "far", "out", "rooms", "deeds", "arrows", "event"]) (ks:=(Ae Cf).names) rfl rfl (by decide +kernel) (by decide +kernel) (by decide +kernel) (by decide +kernel)))
        (Cg ["k"] [Option.none] rfl (AZ rfl T.range (Aa (pv 5) Ab)) (fun _ => AI (i := 0) (show (["k"]:List Str).Nodup by decide +kernel) rfl (Or.inl rfl)) (fun _ => Cr) (fun _ => AX (Aa Ah (Aa Be Ab))) (N:=["script", "start", "clashing_v", "cell", "one", "other", "far", "out", "rooms", "deeds", "arrows", "event"]) (ks:=(Ae Cf).names) rfl rfl (by decide +kernel) (by decide +kernel) (by decide +kernel) (by decide +kernel)))
        (Bf (Aa (AX (Aa Ah (Aa Be Ab))) Ab))))
    (Ad (Ar (i := 9) B5.nd rfl (Or.inr rfl) (Cg ["k", "script", "start"] [Option.none,some 0,some 1] rfl (AZ rfl T.range (Aa Ah Ab)) (fun _ => AI (i := 0) (show (["k", "script", "start"]:List Str).Nodup by decide +kernel) rfl (Or.inl rfl)) (fun _ => Cr)
        (fun _ => AH Bp (AH BS (Ap Gc hr rfl Dc.mg Dc.fn.kp Dc.bd .nil AF (Aa (pv 1) (Aa (AH BE (AH BE (pv 2) Ah) (AH Bp (pv 0) Ah)) Ab))) (AH BE Ah (AH Iw (AH BS (pv 0) Ah) Ah))) Ah)
        (N:=["script", "start", "clashing_v", "cell", "one", "other", "far", "out", "rooms", "deeds", "arrows", "event"]) (ks:=(Ae Cf).names) rfl rfl (by decide +kernel) (by decide +kernel) (by decide +kernel) (by decide +kernel)))
    (Ad (Fg (i := 10) ["k", "one", "deeds"] [Option.none,some 4,some 9] rfl B5.nd rfl rfl (AZ rfl T.range (Aa (pv 4) Ab)) (fun _ => AI (i := 0) (show (["k", "one", "deeds"]:List Str).Nodup by decide +kernel) rfl (Or.inl rfl)) (fun _ => Cr)
        (fun _ => AX (Aa (AH BE Ah (pv 0)) (Aa Ah (Aa (EF C9 Ah) (Aa (AH BE Ah (AH Bp (AH BE (pv 0) Ah) (pv 1))) (Aa (An Au (pv 2) (pv 0) (fun _ _ => rfl)) Ab))))))
        (N:=["script", "start", "clashing_v", "cell", "one", "other", "far", "out", "rooms", "deeds", "arrows", "event"]) (ks:=(Ae Cf).names) rfl rfl (by decide +kernel) (by decide +kernel) (by decide +kernel) (by decide +kernel))
    (Ad (Ar (i := 11) B5.nd rfl (Or.inr rfl) (An Au (Bf (Aa Ah (Aa Ah (Aa Ah Ab)))) (AH Bp (AH BS (pv 3) Ah) Ah) (fun _ _ => rfl)))
    (Ad (Ar (i := 10) B5.nd rfl (Or.inl rfl) (AH Ix (pv 10)
        (Cg ["k", "far", "event", "other", "deeds"] [Option.none,some 6,some 11,some 5,some 9] rfl (AZ rfl T.range (Aa (pv 5) Ab)) (fun _ => AI (i := 0) (show (["k", "far", "event", "other", "deeds"]:List Str).Nodup by decide +kernel) rfl (Or.inl rfl)) (fun _ => Cr)
          (fun _ => AX (Aa (AH BE (pv 1) (pv 0)) (Aa (pv 2) (Aa (EF C9 Ah) (Aa (AH BE (pv 1) (AH Bp (AH BE (pv 0) Ah) (pv 3))) (Aa (An Au (pv 4) (AH BE Ah (pv 0)) (fun _ _ => rfl)) Ab))))))
          (N:=["script", "start", "clashing_v", "cell", "one", "other", "far", "out", "rooms", "deeds", "arrows", "event"]) (ks:=(Ae Cf).names) rfl rfl (by decide +kernel) (by decide +kernel) (by decide +kernel) (by decide +kernel))))
    (Ad (AS (BC PySem.F.plainAttrs_list PySem.F.slot_list_append PySem.F.type_list_append AU (pv 10) (Aa (AX (Aa Ah (Aa Ah (Aa (An Au (Bf (Aa (EF C9 Ah) (Aa Ah (Aa (AH BE (pv 6) Ah) Ab)))) (AH Bp (AH BS (pv 3) Ah) Ah) (fun _ _ => rfl)) (Aa (pv 7) (Aa (An Au (pv 9) Ah (fun _ _ => rfl)) Ab)))))) Ab)))
    (Ad (AS (BC PySem.F.plainAttrs_list PySem.F.slot_list_append PySem.F.type_list_append AU (pv 10) (Aa (AX (Aa (pv 7) (Aa Ah (Aa (EF C9 Ah) (Aa (An Au (Bf (Aa Ah (Aa Ah (Aa Ah Ab)))) (AH Bp (AH BS (pv 3) Ah) Ah) (fun _ _ => rfl)) (Aa (An Au (pv 9) Ah (fun _ _ => rfl)) Ab)))))) Ab)))
    (Ad (A0 (PW.pt (DF (B8 (pv 2)) (CZ (AB Cz (AH Bp (AH BS (pv 3) Ah) Ah) Ah (AT _)))))
        (Ad (AS (BC PySem.F.plainAttrs_list PySem.F.slot_list_append PySem.F.type_list_append AU (pv 10) (Aa (AX (Aa Ah (Aa Ah (Aa (EF C9 Ah) (Aa (pv 7) (Aa Ah Ab)))))) Ab)))
        (Aj (AS (BC PySem.F.plainAttrs_list PySem.F.slot_list_append PySem.F.type_list_append AU (pv 10) (Aa (AX (Aa (AH BE (pv 6) Ah) (Aa Ah (Aa (EF C9 Ah) (Aa (pv 6) (Aa Ah Ab)))))) Ab))))) AJ)
    (Aj (AM (AX (Aa (pv 8) (Aa (pv 10) Ab)))))))))))))))))),?_⟩
  refine ⟨_,rfl,_,rfl,a,ns,st,rfl,hS,?_⟩
  generalize hc:Rm.cell ns st=c at q ⊢
  refine ⟨_,rfl,_,_,rfl,rfl,(by show (0:Int) < 2; decide),_,_,rfl,rfl,?_⟩
  refine ⟨_,rfl,_,_,rfl,rfl,⟨by decide,by decide⟩,_,_,rfl,rfl,(by show (0:Int) < 2; decide),_,_,rfl,rfl,?_⟩
  refine ⟨_,rfl,_,_,rfl,rfl,?_⟩
  refine ⟨_,rfl,_,rfl,_,_,rfl,rfl,?_⟩
  refine ⟨1,rfl,(by show 2≤sizeLine; decide),fun t1 h1 => ?_⟩
  have s1:=Ag h1 (.tup [.int (-1),.str "one"])
  have e1:(upd H t1 (.tup [.int (-1),.str "one"])) t1=some (.tup [.int (-1),.str "one"]):=Ac
  generalize upd H t1 (.tup [.int (-1),.str "one"])=H1 at s1 e1 ⊢
  refine ⟨(by show 2≤sizeLine; decide),fun t2 h2 => ?_⟩
  have s2:=Ag h2 (.tup [.int 0,.str "all"])
  have e2:(upd H1 t2 (.tup [.int 0,.str "all"])) t2=some (.tup [.int 0,.str "all"]):=Ac
  generalize upd H1 t2 (.tup [.int 0,.str "all"])=H2 at s2 e2 ⊢
  refine ⟨(by show 2≤sizeLine; decide),fun l3 hl3 => ?_⟩
  have u3:=Ag hl3 (.lst [.str "keep",.str "one"])
  refine ⟨_,rfl,_,_,rfl,rfl,⟨by decide,by decide⟩,_,_,rfl,rfl,(by show (0:Int) < 2; decide),l3,_,_,_,rfl,rfl,AE.of Ac,at2 (f:=V.str),(by show 2≤sizeLine; decide),fun t3 h3 => ?_⟩
  have s3:=u3.trans (Ag h3 (.tup [.int 1,.str (J5 (c / 4 % 2))]))
  have e3:(upd (upd H2 l3 (.lst [.str "keep",.str "one"])) t3 (.tup [.int 1,.str (J5 (c / 4 % 2))])) t3=some (.tup [.int 1,.str (J5 (c / 4 % 2))]):=Ac
  generalize upd (upd H2 l3 (.lst [.str "keep",.str "one"])) t3 (.tup [.int 1,.str (J5 (c / 4 % 2))])=H3 at s3 e3 ⊢
  refine ⟨(by show 2≤sizeLine; decide),fun l4 hl4 => ?_⟩
  have u4:=Ag hl4 (.lst [.str "keep",.str "one"])
  refine ⟨_,rfl,_,_,rfl,rfl,⟨by decide,by decide⟩,_,_,rfl,rfl,(by show (0:Int) < 2; decide),l4,_,_,_,rfl,rfl,AE.of Ac,at2 (f:=V.str),(by show 2≤sizeLine; decide),fun t4 h4 => ?_⟩
  have s4:=u4.trans (Ag h4 (.tup [.int 1,.str (J5 (c / 8 % 2))]))
  have e4:(upd (upd H3 l4 (.lst [.str "keep",.str "one"])) t4 (.tup [.int 1,.str (J5 (c / 8 % 2))])) t4=some (.tup [.int 1,.str (J5 (c / 8 % 2))]):=Ac
  generalize upd (upd H3 l4 (.lst [.str "keep",.str "one"])) t4 (.tup [.int 1,.str (J5 (c / 8 % 2))])=H4 at s4 e4 ⊢
  refine ⟨(by show 4≤sizeLine; decide),fun r0 hr0 => ?_⟩
  have s5:=Ag hr0 (.lst [.ref t1,.ref t2,.ref t3,.ref t4])
  have e5:(upd H4 r0 (.lst [.ref t1,.ref t2,.ref t3,.ref t4])) r0=some (.lst ([t1,t2,t3,t4].map V.ref)):=Ac
  generalize upd H4 r0 (.lst [.ref t1,.ref t2,.ref t3,.ref t4])=H5 at s5 e5 ⊢
  have s05:=s1.trans (s2.trans (s3.trans (s4.trans s5)))
  have I5:AK H5 [t1,t2,t3,t4] [[.int (-1),.str "one"],[.int 0,.str "all"],[.int 1,.str (J5 (c / 4 % 2))],[.int 1,.str (J5 (c / 8 % 2))]] :=
    (((AK.none.snoc (s5 _ _ (s4 _ _ (s3 _ _ (s2 _ _ e1))))).snoc (s5 _ _ (s4 _ _ (s3 _ _ e2)))).snoc (s5 _ _ (s4 _ _ e3))).snoc (s5 _ _ e4)
  clear e1 e2 e3 e4 s1 s2 s3 s4 u3 u4 hl3 hl4 h1 h2 h3 h4 s5 hr0
  generalize [t1,t2,t3,t4] = ps5 at e5 I5
  have l5:(ps5.map V.ref).length=4:=by rw [List.length_map,I5.1]; rfl
  refine ⟨_,rfl,_,rfl,_,rfl,(by omega),(by omega),fun bk d1 hd1 => ?_⟩
  refine EC (f:=fun _ => [.int 2,.str "plain"]) (by omega) hd1 (fun i H' Q hi s' k => ⟨(by show 2≤sizeLine; decide),k⟩) ?_
  intro ps6 H6 s6 e6 I6
  have l6:(ps6.map V.ref).length=(2 + c % 2).toNat:=by rw [List.length_map,I6.1,List.length_map,List.length_range]
  refine ⟨r0,d1,_,_,rfl,rfl,s6 _ _ e5,e6,(by rw [l5,l6]; exact Fo (by omega)),fun p7 hp7 => ?_⟩
  obtain ⟨s7,e7,I7⟩:=I5.cat s6 I6 hp7
  generalize upd H6 p7 (.lst (ps5.map V.ref ++ ps6.map V.ref))=H7 at s7 e7 I7 ⊢
  refine ⟨_,rfl,_,rfl,(by omega),(by omega),fun bk d2 hd2 => ?_⟩
  refine EC (f:=fun _ => [.int 3,.str "plain"]) (by omega) hd2 (fun i H' Q hi s' k => ⟨(by show 2≤sizeLine; decide),k⟩) ?_
  intro ps8 H8 s8 e8 I8
  have l7:((ps5 ++ ps6).map V.ref).length=4 + (2 + c % 2).toNat:=by rw [List.map_append,List.length_append,l5,l6]
  have l8:(ps8.map V.ref).length=(2 + c / 2 % 2).toNat:=by rw [List.length_map,I8.1,List.length_map,List.length_range]
  refine ⟨p7,d2,_,_,rfl,rfl,s8 _ _ e7,e8,(by rw [l7,l8]; exact Fo (by omega)),fun p9 hp9 => ?_⟩
  obtain ⟨s9,e9,I9⟩:=I7.cat s8 I8 hp9
  generalize upd H8 p9 (.lst ((ps5 ++ ps6).map V.ref ++ ps8.map V.ref))=H9 at s9 e9 I9 ⊢
  refine ⟨(by show 2≤sizeLine; decide),fun t9 ht9 => ?_⟩
  have u9:=Ag ht9 (.tup [.int 0,.str "plain"])
  refine ⟨(by show 1≤sizeLine; decide),fun l9 hl9 => ?_⟩
  have u10:=Ag hl9 (.lst [.ref t9])
  have I10:AK (upd (upd H9 t9 (.tup [.int 0,.str "plain"])) l9 (.lst [.ref t9])) [t9] [[.int 0,.str "plain"]]:=AK.snoc (ps:=[]) (os:=[]) AK.none (u10 _ _ Ac)
  have e10:(upd (upd H9 t9 (.tup [.int 0,.str "plain"])) l9 (.lst [.ref t9])) l9=some (.lst ([t9].map V.ref)):=Ac
  have s10:=u9.trans u10
  generalize upd (upd H9 t9 (.tup [.int 0,.str "plain"])) l9 (.lst [.ref t9])=H10 at s10 e10 I10 ⊢
  refine ⟨p9,l9,_,_,rfl,rfl,s10 _ _ e9,e10,(by rw [List.map_append,List.length_append,l7,l8]; exact Fo (by show _ + 1≤1000; omega)),fun r hr0 => ?_⟩
  obtain ⟨s11,e11,I11⟩:=I9.cat s10 I10 hr0
  generalize upd H10 r (.lst ((ps5 ++ ps6 ++ ps8).map V.ref ++ [t9].map V.ref))=H11 at s11 e11 I11 ⊢
  have s011:=s05.trans (s7.trans (s9.trans s11))
  have I11':AK H11 (ps5 ++ ps6 ++ ps8 ++ [t9]) ((LZ c).map rV):=by
    unfold LZ
    rw [List.map_append,List.map_append,List.map_append,List.map_map,List.map_map]
    exact I11
  generalize ps5 ++ ps6 ++ ps8 ++ [t9] = ps at e11 I11'
  clear I11 I10 e10 s10 u9 u10 I9 e9 s9 I8 e8 s8 I7 e7 s7 I6 e6 s6 e5 I5 s05 s11
  refine ⟨10,rfl,by decide,by decide,fun bk dd hdd => ?_⟩
  refine E7 (Pv:=fun i ys σ H' => (∃ v,σ = [v,some (.ref a),some (.int st)])∧ys=((List.range i).map (frD ns st)).map V.int∧Ao H11 H') ⟨⟨_,rfl⟩,rfl,Ag hdd _⟩ ?_ ?_
  · rintro i ys σ H1 hi hDi ⟨⟨v,rfl⟩,hys,(s1:Ao _ _)⟩
    have hi':i < 10:=hi
    have ei:(st:Int) + 1 + ((0:Int) + (i:Int)) % 5=((st + 1 + i % 5:Nat):Int):=by omega
    refine ⟨_,rfl,_,rfl,_,_,rfl,rfl,_,rfl,_,_,rfl,rfl,(by show (0:Int) < 5; decide),_,_,rfl,rfl,a,ns,st + 1 + i % 5,(by show [V.ref a,V.int ((st:Int) + 1 + ((0:Int) + (i:Int)) % 5)] = _; rw [ei]),(s011.trans s1).seq hS,?_⟩
    refine ⟨_,rfl,_,_,rfl,rfl,⟨by decide,by decide⟩,_,_,rfl,rfl,.inr ⟨by decide,by decide⟩,_,_,rfl,rfl,_,_,rfl,rfl,⟨?_,?_⟩,_,_,rfl,rfl,(by show (0:Int) < 2; decide),hDi,?_,⟨_,rfl⟩,?_,AR s1 hdd _⟩
    · show (0:Int) < 1 + ((0:Int) + (i:Int)) / 5 * 3; omega
    · show 1 + ((0:Int) + (i:Int)) / 5 * 3 < (1073741824:Int); omega
    · rw [hys,List.length_map,List.length_map,List.length_range]; exact Av (by omega)
    · rw [hys,List.range_succ,List.map_append,List.map_append]; rfl
  rintro ys σ H12 hDn ⟨⟨v,rfl⟩,hys,(s12:Ao _ _)⟩
  have e12:H12 dd=some (.lst ((frDs ns st).map V.int)):=by rw [hDn,hys]; rfl
  have ld:(frDs ns st).length=10:=by unfold frDs; rw [List.length_map,List.length_range]
  generalize frDs ns st=ds at e12 ld q
  have e12r:=s12 _ _ e11
  have I12r:=I11'.same s12
  have s012:=s011.trans s12
  clear hys hDn e11 I11' s12 s011 hdd
  refine ⟨_,rfl,_,rfl,(by omega),(by omega),fun bk a0 ha0 => ?_⟩
  refine EC (f:=fun (i:Nat) => aV ((4 + ((0:Int) + (i:Int)),0,-1,4 + (((0:Int) + (i:Int)) + 1) % (2 + c % 2),ds.getD i 0):Aq)) (by omega) ha0 (fun i H' Q hi s' k => ?_) ?_
  · refine ⟨_,rfl,_,_,rfl,rfl,1,rfl,_,rfl,_,_,rfl,rfl,_,rfl,_,_,rfl,rfl,(by show (0:Int) < 2 + c % 2; omega),_,_,rfl,rfl,_,rfl,_,rfl,dd,_,_,_,rfl,rfl,AE.of (s' _ _ e12),KW (i:=i) (by omega) (by omega),(by show 5≤sizeLine; decide),k⟩
  intro qs0 H13 s13 e13 I13
  have l13:(qs0.map V.ref).length=(2 + c % 2).toNat:=by rw [List.length_map,I13.1,List.length_map,List.length_range]
  refine ⟨(by show 3≤sizeLine; decide),fun l14 hl14 => ?_⟩
  have s14:=Ag hl14 (.lst [.int 0,.int 0,.int 3])
  refine ⟨_,rfl,_,_,rfl,rfl,⟨by decide,by decide⟩,_,_,rfl,rfl,(by show (0:Int) < 3; decide),l14,_,_,_,rfl,rfl,AE.of Ac,at3 (f:=V.int),?_⟩
  generalize upd H13 l14 (.lst [.int 0,.int 0,.int 3])=H14 at s14 ⊢
  have e14:=s14 _ _ e13
  have I14:=I13.same s14
  have d14:=s14 _ _ (s13 _ _ e12)
  refine ⟨_,rfl,_,rfl,_,rfl,(by omega),(by omega),fun bk a1 ha1 => ?_⟩
  refine EC (f:=fun (i:Nat) => aV ((4 + (2 + c % 2) + ((0:Int) + (i:Int)),p3 0 0 3 (c / 16 % 3),-1,4 + (2 + c % 2) + (((0:Int) + (i:Int)) + 1) % (2 + c / 2 % 2),ds.getD (3 + i) 0):Aq)) (by omega) ha1 (fun i H' Q hi s' k => ?_) ?_
  · refine ⟨_,rfl,_,rfl,_,_,rfl,rfl,_,rfl,1,rfl,_,rfl,_,rfl,_,_,rfl,rfl,_,rfl,_,_,rfl,rfl,(by show (0:Int) < 2 + c / 2 % 2; omega),_,_,rfl,rfl,_,rfl,_,rfl,_,_,rfl,rfl,dd,_,_,_,rfl,rfl,AE.of (s' _ _ d14),KW (i := 3 + i) (by omega) (by omega),(by show 5≤sizeLine; decide),k⟩
  intro qs1 H15 s15 e15 I15
  have l15:(qs1.map V.ref).length=(2 + c / 2 % 2).toNat:=by rw [List.length_map,I15.1,List.length_map,List.length_range]
  refine ⟨a0,a1,_,_,rfl,rfl,s15 _ _ e14,e15,(by rw [l13,l15]; exact Fo (by omega)),fun ar har => ?_⟩
  obtain ⟨s16,e16,I16⟩:=I14.cat s15 I15 har
  generalize upd H15 ar (.lst (qs0.map V.ref ++ qs1.map V.ref))=H16 at s16 e16 I16 ⊢
  have s1216:=s13.trans (s14.trans s16)
  have lq:(qs0 ++ qs1).length≤6:=by
    rw [List.length_map] at l13 l15
    rw [List.length_append]; omega
  have I16':AK H16 (qs0 ++ qs1) ((Pf c ds ++ Pe c ds).map aV):=by
    unfold Pf Pe
    rw [List.map_append,List.map_map,List.map_map]
    exact I16
  have har12:H12 ar=Option.none:=(s13.trans (s14.trans s15)).free har
  generalize qs0 ++ qs1=q16 at e16 I16' lq
  clear I16 e15 I15 e14 I14 e13 I13
  have d16:=s1216 _ _ e12
  have l16:(q16.map V.ref).length < sizeLine:=by rw [List.length_map]; exact Av (by omega)
  refine ⟨_,rfl,.inl ⟨rfl,_,AE.of e16⟩,1,rfl,_,rfl,_,_,rfl,rfl,(by show 3≤sizeLine; decide),fun l17 hl17 => ?_⟩
  have u17:=Ag hl17 (.lst [.int (-1),.int 5,.int (4 + (2 + c % 2) + 1)])
  refine ⟨_,rfl,_,_,rfl,rfl,⟨by decide,by decide⟩,_,_,rfl,rfl,(by show (0:Int) < 3; decide),l17,_,_,_,rfl,rfl,AE.of Ac,at3 (f:=V.int),_,rfl,_,rfl,dd,_,_,_,rfl,rfl,AE.of (u17 _ _ d16),KW (i := 6) rfl (by omega),(by show 5≤sizeLine; decide),fun t17 ht17 => ?_⟩
  have v17:=s1216.trans u17
  obtain ⟨s17,e17,I17⟩:=AK.add [.int 1,.int 1,.int (p3 (-1) 5 (4 + (2 + c % 2) + 1) (c / 48 % 3)),.int (4 + (2 + c % 2) + (2 + c / 2 % 2)),.int (ds.getD 6 0)] (frA2 c ds) rfl har12 v17 (u17 _ _ e16) (I16'.same u17) ht17
  have n17:=Al (u17 _ _ e16) ht17
  refine ⟨ar,_,_,rfl,rfl,(by rw [Ak n17]; exact u17 _ _ e16),l16,?_⟩
  generalize upd (upd (upd H16 l17 (.lst [.int (-1),.int 5,.int (4 + (2 + c % 2) + 1)])) t17 (.tup [.int 1,.int 1,.int (p3 (-1) 5 (4 + (2 + c % 2) + 1) (c / 48 % 3)),.int (4 + (2 + c % 2) + (2 + c / 2 % 2)),.int (ds.getD 6 0)])) ar (.lst (q16.map V.ref ++ [V.ref t17]))=H17 at s17 e17 I17 ⊢
  have lq17:(q16 ++ [t17]).length≤7:=by rw [List.length_append]; show _ + 1≤7; omega
  generalize q16 ++ [t17] = q17 at e17 I17 lq17
  clear e16 I16' v17 u17 n17 d16 s1216 s16
  have d17:=s17 _ _ e12
  refine ⟨_,rfl,.inl ⟨rfl,_,AE.of e17⟩,_,rfl,1,rfl,(by show 3≤sizeLine; decide),fun l18 hl18 => ?_⟩
  have u18:=Ag hl18 (.lst [.int 1,.int 2,.int 5])
  refine ⟨_,rfl,_,_,rfl,rfl,⟨by decide,by decide⟩,_,_,rfl,rfl,(by show (0:Int) < 3; decide),l18,_,_,_,rfl,rfl,AE.of Ac,at3 (f:=V.int),_,rfl,dd,_,_,_,rfl,rfl,AE.of (u18 _ _ d17),KW (i := 7) rfl (by omega),(by show 5≤sizeLine; decide),fun t18 ht18 => ?_⟩
  have v18:=s17.trans u18
  obtain ⟨s18,e18,I18⟩:=AK.add [.int (4 + (2 + c % 2) + (2 + c / 2 % 2)),.int 2,.int (-1),.int (p3 1 2 5 (c / 144 % 3)),.int (ds.getD 7 0)] (frA3 c ds) rfl har12 v18 (u18 _ _ e17) (I17.same u18) ht18
  have n18:=Al (u18 _ _ e17) ht18
  refine ⟨ar,_,_,rfl,rfl,(by rw [Ak n18]; exact u18 _ _ e17),by rw [List.length_map]; exact Av (by omega),?_⟩
  generalize upd (upd (upd H17 l18 (.lst [.int 1,.int 2,.int 5])) t18 (.tup [.int (4 + (2 + c % 2) + (2 + c / 2 % 2)),.int 2,.int (-1),.int (p3 1 2 5 (c / 144 % 3)),.int (ds.getD 7 0)])) ar (.lst (q17.map V.ref ++ [V.ref t18]))=H18 at s18 e18 I18 ⊢
  have lq18:(q17 ++ [t18]).length≤8:=by rw [List.length_append]; show _ + 1≤8; omega
  generalize q17 ++ [t18] = q18 at e18 I18 lq18
  clear e17 I17 v18 u18 n18 d17 s17
  have fin:∀ (q19:List Addr) (H19:Hp) (B:List Aq),Ao H12 H19→H19 ar=some (.lst (q19.map V.ref))→AK H19 q19 (B.map aV)→B=PJ cl c ds→tRet (PL (ED (DT 8) (ED (DT 10) Lb))) { nx:=fun x H' => Q V.non H',rt:=Q }
      [some (.ref a),some (.int st),some (.bl cl),some (.int c),some (.int (2 + c % 2)),some (.int (2 + c / 2 % 2)),some (.int (4 + (2 + c % 2))),some (.int (4 + (2 + c % 2) + (2 + c / 2 % 2))),some (.ref r),some (.ref dd),some (.ref ar),some (.int (p3 0 0 3 (c / 16 % 3)))] H19:=by
    rintro q19 H19 B s19 e19 I19 rfl
    refine ⟨_,rfl,_,rfl,(by show 2≤sizeLine; decide),fun t ht => ?_⟩
    have u:=Ag ht (.tup [.ref r,.ref ar])
    exact q t r ar ps q19 _ (s012.trans (s19.trans u)) Ac (u _ _ (s19 _ _ e12r)) ((I12r.same s19).same u) (u _ _ e19) (I19.same u)
  refine ⟨_,rfl,cl,rfl,?_⟩
  cases cl with
  | false =>
    refine A1 ?_
    refine A1 ?_
    refine fin q18 H18 _ s18 e18 I18 ?_
    unfold PJ
    rw [if_neg (fun y => nomatch y.1),List.append_nil]
  | true =>
    refine Bi ?_
    refine ⟨_,rfl,_,_,rfl,rfl,⟨by decide,by decide⟩,_,_,rfl,rfl,(by show (0:Int) < 3; decide),rfl,_,rfl,?_⟩
    refine GS (fun z => ?_) (fun z => ?_)
    · have z':c / 432 % 3=1:=by simpa using z
      refine ⟨_,rfl,.inl ⟨rfl,_,AE.of e18⟩,1,rfl,_,rfl,(by show 5≤sizeLine; decide),fun t19 ht19 => ?_⟩
      obtain ⟨s19,e19,I19⟩:=AK.add [.int 5,.int 3,.int (-1),.int (4 + (2 + c % 2) + (2 + c / 2 % 2)),.int 7] (frA4 c) rfl har12 s18 e18 I18 ht19
      have n19:=Al e18 ht19
      refine ⟨ar,_,_,rfl,rfl,(by rw [Ak n19]; exact e18),by rw [List.length_map]; exact Av (by omega),?_⟩
      generalize upd (upd H18 t19 (.tup [.int 5,.int 3,.int (-1),.int (4 + (2 + c % 2) + (2 + c / 2 % 2)),.int 7])) ar (.lst (q18.map V.ref ++ [V.ref t19]))=H19 at s19 e19 I19 ⊢
      have lq19:(q18 ++ [t19]).length≤9:=by rw [List.length_append]; show _ + 1≤9; omega
      generalize q18 ++ [t19] = q19 at e19 I19 lq19
      refine ⟨_,rfl,.inl ⟨rfl,_,AE.of e19⟩,_,rfl,_,_,rfl,rfl,1,rfl,_,rfl,(by show 5≤sizeLine; decide),fun t20 ht20 => ?_⟩
      obtain ⟨s20,e20,I20⟩:=AK.add [.int (4 + (2 + c % 2) + 1),.int 3,.int (-1),.int (4 + (2 + c % 2)),.int 8] (frA5 c) rfl har12 s19 e19 I19 ht20
      have n20:=Al e19 ht20
      refine ⟨ar,_,_,rfl,rfl,(by rw [Ak n20]; exact e19),by rw [List.length_map]; exact Av (by omega),?_⟩
      refine fin (q19 ++ [t20]) _ _ s20 e20 I20 ?_
      unfold PJ
      rw [if_pos ⟨rfl,z'⟩,List.append_assoc _ [frA4 c] [frA5 c]]
    · have z':¬ c / 432 % 3=1:=by simpa using z
      refine fin q18 H18 _ s18 e18 I18 ?_
      unfold PJ
      rw [if_neg (fun y => z' y.2),List.append_nil]
end
end Toy
namespace Toy
open PySem L2
seal PySem.wpAny
section
variable {P:Program} {w:World} {K:PySem.W.Frag} {mg:Str→Option Value} {base:Heap}
theorem GL {K:PySem.W.Frag} {H H':Hp} {a:Addr} {xs:List V} (e:Ao H H') (h:A2 K H a xs):A2 K H' a xs:=by
  rcases h with (h | ⟨o,h⟩) | h
  · exact .inl (.inl (e _ _ h))
  · exact .inl (.inr ⟨o,e _ _ h⟩)
  · exact .inr h
theorem Jf {X:Cx} {K:PySem.W.Frag} (hK:X.K=K):Hj X (.type "tuple") (fun xs H Q => ∃ p ys,xs=[.ref p]∧((AE K H p ys∧∀ l,H l=Option.none→Q (.ref l) (upd H l (.tup ys)))∨(A2 K H p ys∧Q (.ref p) H))):=by
  subst hK
  exact Bv
theorem OB {X:Cx} {K:PySem.W.Frag} (hK:X.K=K):Gz X (binaryOp .Add) (Oq K):=by
  subst hK
  exact HJ
theorem NA {fI C CE:Addr} {fd:FuncData} (F:Nk K "__init__" "Clash.__init__" Fz fI fd) (T:Ee K mg C CE fI):Kj P w K mg base A9 1 fI fd ["self", "events", "first", "second"] (FL C):=by
  refine F.okH MQ (fun vs H Q E h => ?_) (fun cdv A outer s H vs Q E hr h => ?_)
  · obtain ⟨a,p,i,j,rfl,_⟩:=h
    rfl
  obtain ⟨a,p,i,j,rfl,ha,hi,hj,q⟩:=h
  refine ⟨_,Ad (AS (Ox T.x T.u rfl T.mgE (Aa (pv 0) (Aa (KE (BU DQ (BU (Iq (pv 2)) (BU DQ (BU (Iq (pv 3)) (BU DQ KC)))))) Ab))))
    (Ad (Ff T.x T.e (pv 0) (pv 1))
    (Ad (Ff T.x T.f (pv 0) (pv 2))
    (Aj (Ff T.x T.s (pv 0) (pv 3))))),?_⟩
  refine ⟨_,rfl,⟨⟨trivial,⟨_,rfl,i,rfl,rfl,hi⟩,trivial,⟨_,rfl,j,rfl,rfl,hj⟩,trivial,trivial⟩,fun y => ?_⟩⟩
  refine ⟨a,Option.none,.str y,rfl,ha,?_⟩
  refine ⟨_,rfl,_,rfl,a,rfl,.inl ⟨ha,fun d hd => ?_⟩⟩
  have nda:d≠a:=fun z => by rw [z,ha] at hd; cases hd
  have e1:upd (upd H a (XI a C (some d))) d (XD d [("events",p)]) a=some (XI a C (some d)):=by rw [Ak (Ne.symm nda),Ac]
  refine ⟨_,rfl,_,rfl,a,rfl,.inr ⟨d,_,e1,Ac,nda,(by show 1 < 100; decide),?_⟩⟩
  rw [Hu]
  have e2:upd (upd H a (XI a C (some d))) d (XD d (Bm "first" (.int i) [("events",p)])) a=some (XI a C (some d)):=by rw [Ak (Ne.symm nda),Ac]
  refine ⟨_,rfl,_,rfl,a,rfl,.inr ⟨d,_,e2,Ac,nda,?_,?_⟩⟩
  · have:=C7 "first" (.int i) [("events",p)]
    simp only [List.length_cons,List.length_nil] at this
    omega
  rw [Hu]
  exact q d hd
def ME (K:PySem.W.Frag) (C CC:Addr):Sp:=fun vs H Q E => ∃ (c ah st kt mt:Addr) (R:List Ai) (A:List Aq) (chs evs:List Int) (ev:Int),vs=[.ref c,.ref ah,.ref st,.int ev]∧A7 C H c R A∧AY R∧(∀ a∈A,AW R a) ∧
  (AE K H ah (evs.map V.int)∨A2 K H ah (evs.map V.int))∧evs.length≤100∧H st=some (.tup [.ref kt,.ref mt])∧H kt=some (.tup ((kI R chs).map V.int))∧H mt=some (.tup ((CG R chs).map V.int))∧Ef R chs ∧
  (∀ i j,Bo (Eb R A) (tkL R A chs ev)=some (i,j)→∀ (d tp:Addr) (H':Hp),Ao H H'→H' d=some (XD d (NU (.ref tp) (i:Int) (j:Int)))→H' tp=some (.tup ((evs ++ [ev]).map V.int))→E (.ref CC) (some d) H') ∧
  (Bo (Eb R A) (tkL R A chs ev)=Option.none→∀ (t s' kt' mt' dd:Addr) (H':Hp),Ao H H'→H' t=some (.tup [.ref s',.ref dd])→H' s'=some (.tup [.ref kt',.ref mt'])→H' kt'=some (.tup ((kI R (Bd R A chs (tkL R A chs ev))).map V.int)) →
    H' mt'=some (.tup ((CG R (Bd R A chs (tkL R A chs ev))).map V.int))→H' dd=some (.tup ((AV A (tkL R A chs ev)).map V.int))→Q (.ref t) H')
theorem IZ (p:V) (i j:Int):(NU p i j).lookup ("first" : Str)=some (.int i):=by
  unfold NU
  rw [A3,if_neg (by decide +kernel),A3,if_pos rfl]
theorem He (p:V) (i j:Int):(NU p i j).lookup ("second" : Str)=some (.int j):=by
  unfold NU
  rw [A3,if_pos rfl]
theorem MV {x:Nat} (hx:x≤100):((x:Int)).natAbs.log2 < 1920:=by
  have e:((x:Int)).natAbs=x:=Int.natAbs_natCast x
  rw [e]
  by_cases z:x=0
  · subst z; decide
  · exact (Nat.log2_lt z).mpr (Nat.lt_of_le_of_lt hx (by decide +kernel))
theorem MN:AA ["chart", "ahead", "state", "event", "refusal"] ["chart", "ahead", "state", "event"] (Ae EO):=⟨rfl,rfl,rfl,by decide +kernel,rfl,by decide +kernel,by decide +kernel⟩
theorem OD {f C CC CE fI fs:Addr} {fd fdI fds:FuncData} (D:Am K mg "step_behind" EO ["chart", "ahead", "state", "event"] f fd) (T:Dn K mg C) (X:Ee K mg CC CE fI) (mgX:mg "Clash" = some (.ref CC)) (kpX:PySem.W.keepIn K (.ref CC)=true) (bX:C8 K fdI ["self", "events", "first", "second"] [])
    (GX:Kj P w K mg base A9 1 fI fdI ["self", "events", "first", "second"] (FL CC)) (bC:PySem.W.subIn K (.ref CC) (.type "BaseException")=some true) (kC:PySem.W.kitCls K (.ref CC) (.ref CC)=some true)
    (Ds:Am K mg "stepped" CK ["chart", "state", "event"] fs fds) (Gs:AD P w K mg base (JB true P w) 21 fs fds ["chart", "state", "event"] (JI C CC)) :
    AD P w K mg base (JB false P w) 22 f fd ["chart", "ahead", "state", "event"] (ME K C CC):=by
  refine D.fn.okX MN (fun vs H Q E h => ?_) (fun cdv A outer s H vs Q E hr h => ?_)
  · obtain ⟨c,ah,st,kt,mt,R,As,chs,evs,ev,rfl,_⟩:=h
    rfl
  obtain ⟨c,ah,st,kt,mt,R,As,chs,evs,ev,rfl,hC,hG,hA,hah,hel,hst,hkt,hmt,hch,qE,qQ⟩:=h
  refine ⟨_,Aj (Nv (MR Gs rfl hr rfl Ds.mg Ds.fn.kp Ds.bd (Aa (pv 0) (Aa (pv 2) (Aa (pv 3) Ab))))
    (Ow (i := 4) (E0:=fun _ _ _ => False) X.x GX (fun _ _ _ _ _ z => z) (hr.mono (by decide)) bX Mp rfl rfl mgX bC MN.nd rfl rfl rfl mgX kpX
      (fun _ => Aa (AH (OB (K:=K) rfl) (Ba (T := "tuple") (Jf (K:=K) rfl) (by rfl) T.tup (by decide +kernel) (Aa (pv 1) Ab)) (AX (Aa (pv 3) Ab))) (Aa (Ln X.x X.f (pv 4)) (Aa (Ln X.x X.s (pv 4)) Ab))))),?_⟩
  refine ⟨_,rfl,_,rfl,_,rfl,c,st,kt,mt,R,As,chs,ev,rfl,hC,hG,hA,hst,hkt,hmt,hch,fun i j hp d tp H1 s1 hd htp => ⟨kC,fun x hx => ?_⟩,fun hn t s' kt' mt' dd H1 s1 g1 g2 g3 g4 g5 => qQ hn t s' kt' mt' dd H1 s1 g1 g2 g3 g4 g5⟩
  have s2:=s1.trans (Ag hx (NV x (.ref CC) (some d)))
  have ex:(upd H1 x (NV x (.ref CC) (some d))) x=some (NV x (.ref CC) (some d)):=Ac
  have ed:=Ag hx (NV x (.ref CC) (some d)) _ _ hd
  generalize upd H1 x (NV x (.ref CC) (some d))=H2 at s2 ex ed ⊢
  have hlt:∀ k∈tkL R As chs ev,k < As.length:=fun k hk => DM k hk
  have hal:=hC.al
  have hij:i≤100∧j≤100:=by
    have hm:=Iu hp
    exact ⟨by have:=hlt i hm.1; omega,by have:=hlt j hm.2; omega⟩
  have fin:∀ (tq:Addr) (H3:Hp),Ao H2 H3→H3 tq=some (.tup ((evs ++ [ev]).map V.int)) →
      ED (tXn CC (DT 4) "first") (ED (tXn CC (DT 4) "second") Lb) [some (.ref c),some (.ref ah),some (.ref st),some (.int ev),some (.ref x)] H3 (fun xs H4 => (V.ref tq :: xs).length≤100∧∀ a',H4 a'=Option.none →
        FL CC (.ref a' :: V.ref tq :: xs) (upd H4 a' (XI a' CC Option.none)) (fun v H5 => v = .non∧x≠a'∧∃ d',H5 a'=some (XI a' CC (some d'))∧H5 x=some (NV x (.ref CC) (some d))∧E (.ref CC) (some d') (Mw H5 a')) fun _ _ _ => False):=by
    intro tq H3 s3 e3
    have ex3:=s3 _ _ ex
    have ed3:=s3 _ _ ed
    refine ⟨_,rfl,x,d,_,_,rfl,ex3,ed3,IZ _ _ _,_,rfl,x,d,_,_,rfl,ex3,ed3,He _ _ _,(by show 3≤100; decide),fun ax hax => ?_⟩
    refine ⟨ax,.ref tq,(i:Int),(j:Int),rfl,Ac,MV hij.1,MV hij.2,fun dx hdx => ?_⟩
    have nda:dx≠ax:=fun z => by rw [z,Ac] at hdx; cases hdx
    have hd3:H3 dx=Option.none:=by rw [Ak nda] at hdx; exact hdx
    have kp:∀ y o,H3 y=some o→(upd (upd (upd H3 ax (XI ax CC Option.none)) ax (XI ax CC (some dx))) dx (XD dx (NU (.ref tq) (i:Int) (j:Int)))) y=some o:=fun y o e => by
      have n1:y≠ax:=Al e hax
      rw [Ak (Al e hd3),Ak n1,Ak n1]; exact e
    refine ⟨rfl,Al ex3 hax,dx,?_,kp _ _ ex3,?_⟩
    · rw [Ak (Ne.symm nda),Ac]
    · have kq:∀ y o,H3 y=some o→Mw (upd (upd (upd H3 ax (XI ax CC Option.none)) ax (XI ax CC (some dx))) dx (XD dx (NU (.ref tq) (i:Int) (j:Int)))) ax y=some o:=fun y o e => by
        rw [Dj (Al e hax)]; exact kp y o e
      refine qE i j hp dx tq _ (fun y o e => kq y o (s3 _ _ (s2 _ _ e))) ?_ (kq _ _ e3)
      rw [Dj nda,Ac]
  have mid:∀ (tl:Addr) (H3:Hp),Ao H2 H3→A2 K H3 tl (evs.map V.int)→∀ (t1:Addr),H3 t1=Option.none→Oq K (.ref tl) (.ref t1) (upd H3 t1 (.tup [.int ev])) fun v H4 => ∃ tq:Addr,v = .ref tq∧Ao H2 H4∧H4 tq=some (.tup ((evs ++ [ev]).map V.int)):=by
    intro tl H3 s3 h3 t1 ht1
    have s4:=Ag ht1 (.tup [.int ev])
    refine ⟨tl,t1,_,_,rfl,rfl,GL s4 h3,A2.of Ac,(fun z => by cases z),?_,fun z => ?_,fun z p hp' => ?_⟩
    · rw [List.length_map]; exact Fo (by show _ + 1≤1000; omega)
    · have ze:evs=[]:=List.map_eq_nil_iff.mp z
      refine ⟨t1,rfl,s3.trans s4,?_⟩
      rw [Ac,ze]; rfl
    · refine ⟨p,rfl,(s3.trans s4).trans (Ag hp' _),?_⟩
      rw [Ac,List.map_append]; rfl
  rcases hah with hl | ht
  · refine ⟨_,rfl,ah,_,rfl,.inl ⟨s2.seq hl,fun tl htl => ?_⟩⟩
    have s3:=Ag htl (.tup (evs.map V.int))
    refine ⟨_,rfl,(by show 1≤sizeLine; decide),fun t1 ht1 => ?_⟩
    obtain ⟨a1,b1,xs,ys,x1,x2,y1,y2,y3,y4,y5,y6⟩:=mid tl _ s3 (A2.of Ac) t1 ht1
    exact ⟨a1,b1,xs,ys,x1,x2,y1,y2,y3,y4,fun z => by obtain ⟨tq,e,s5,e5⟩:=y5 z; cases e; exact fin _ _ s5 e5,fun z p hp' => by obtain ⟨tq,e,s5,e5⟩:=y6 z p hp'; cases e; exact fin _ _ s5 e5⟩
  · refine ⟨_,rfl,ah,_,rfl,.inr ⟨GL s2 ht,?_⟩⟩
    refine ⟨_,rfl,(by show 1≤sizeLine; decide),fun t1 ht1 => ?_⟩
    obtain ⟨a1,b1,xs,ys,x1,x2,y1,y2,y3,y4,y5,y6⟩:=mid ah _ (Ao.refl _) (GL s2 ht) t1 ht1
    exact ⟨a1,b1,xs,ys,x1,x2,y1,y2,y3,y4,fun z => by obtain ⟨tq,e,s5,e5⟩:=y5 z; cases e; exact fin _ _ s5 e5,fun z p hp' => by obtain ⟨tq,e,s5,e5⟩:=y6 z p hp'; cases e; exact fin _ _ s5 e5⟩
end
end Toy
namespace Toy
open PySem L2
seal PySem.wpAny
section
variable {P:Program} {w:World} {K:PySem.W.Frag} {mg:Str→Option Value} {base:Heap}
structure RC (R:List Ai) (chs:List Int):Prop where
  ok:Ef R chs
  non:∀ p,p < R.length→choosing R p=false→chs.getD p (-1) = -1
  one:∀ p,p < R.length→Ax R p = "one"→Rm.kb (CU R chs) (Af R) p=false→chs.getD p (-1)=(Bs R).getD p (-1)
theorem Pi {R:List Ai} (hG:AY R):RC R (Bs R):=⟨IS hG,fun p hp hc => by rw [DI hp,if_neg (by rw [hc]; decide)],fun _ _ _ _ => rfl⟩
section
variable {R:List Ai} {a:Aq} {chs:List Int}
theorem O6 (hG:AY R) (hA:AW R a) (hc:chs.length=R.length) {p:Nat} (hp:p < R.length) (hn:choosing R p=false):(BH R chs a).getD p (-1)=chs.getD p (-1):=by
  have none:¬ Ax R p = "one" := fun z => by rw [BP hp,decide_eq_true (Or.inl z)] at hn; cases hn
  unfold BH
  rw [(EA (n:=R.length) (v := 0) (yes:=fun _ => False) (FH R) _ _ (by rw [CQ (DN R _)]; exact hc) (fun x hx hy l hl => hy.elim) (fun x hx hy l => ?_)).2 fun x hx hy => hy]
  · exact (EA (f:=K6 R (A6 R a)) (n:=R.length) (p:=p) (v := 0) (yes:=fun _ => False) (DN R _) (List.range R.length) chs hc (fun x hx hy l hl => hy.elim) (fun x hx hy l => by
        unfold K6
        split
        · rename_i hz
          rw [Bool.and_eq_true] at hz
          have nx:¬ p=x:=fun e => none (by rw [e]; exact of_decide_eq_true hz.1)
          by_cases hlen:x < l.length
          · rw [CI hlen,if_neg nx]
          · rw [List.set_eq_of_length_le (by omega)]
        · rfl)).2 fun x hx hy => hy
  · obtain ⟨c1,c2,c3,c4,c5⟩:=CH hG hA hx
    unfold N0
    split
    · rfl
    · rename_i hz
      have nx:¬ p=(Rm.hold (Af R) x).toNat:=fun e => by
        rw [← e] at hz
        have hk:x∈Rm.kidsN (Af R) p:=Rm.mem_kidsN.mpr ⟨by rw [Ay]; exact c5,by omega⟩
        rcases E4 hG hk with ⟨h1,_⟩ | ⟨_,h2⟩
        · exact hz h1
        · rw [hn] at h2; cases h2
      by_cases hlen:(Rm.hold (Af R) x).toNat < l.length
      · rw [CI hlen,if_neg nx]
      · rw [List.set_eq_of_length_le (by omega)]
theorem N5 (hG:AY R) (hA:AW R a) (hc:Ef R chs) (hk:Rm.kb (CU R chs) (Af R) (A6 R a)=true):∀ k,k∈Rm.chain (Af R) (BI a)→A6 R a≤k→Rm.kb (CU R (BH R chs a)) (Af R) k=true:=by
  intro k
  induction k using Nat.strongRecOn with
  | ind k ih =>
    intro h1 h2
    by_cases z:k=A6 R a
    · rw [z,E3 hG hA hc.len _ (DU hA) (.inr rfl)]; exact hk
    · obtain ⟨_,_,c3,c4,c5⟩:=CH hG hA ((HH (DA hA)).mpr ⟨h1,by omega⟩)
      have hl:k < (Af R).length:=by rw [Ay]; exact c5
      have hw:Fs R a (Rm.hold (Af R) k).toNat k:=⟨h1,by omega,by omega⟩
      obtain ⟨w1,w2,w3,w4⟩:=GD hG hA hw
      have hpc:(Rm.hold (Af R) k).toNat∈Rm.chain (Af R) (BI a):=Rm.chain_trans _ (by rw [Rm.chain_up ⟨c3,c4⟩]; exact List.mem_cons_of_mem _ (Rm.chain_self _ _)) h1
      rw [Rm.kb_up hG.tree (by omega) hl,ih _ (by omega) hpc (Rm.chain_le _ (of_decide_eq_true w3)),Bool.true_and]
      unfold CU
      by_cases ha:Ax R (Rm.hold (Af R) k).toNat = "all"
      · rw [decide_eq_true ha,Bool.true_or]
      · rw [Gq hG hA hc.len hw w1 ha,decide_eq_true (rfl:((k:Nat):Int)=(k:Int)),Bool.or_true]
theorem gone_rc (hG:AY R) (hA:AW R a) (h:RC R chs) (hk:Rm.kb (CU R chs) (Af R) (A6 R a)=true):RC R (BH R chs a):=by
  refine ⟨KQ hG hA h.ok,fun p hp hn => by rw [O6 hG hA h.ok.len hp hn]; exact h.non p hp hn,fun p hp ho hb => ?_⟩
  by_cases hw:∃ k,Fs R a p k
  · obtain ⟨k,hw⟩:=hw
    obtain ⟨w1,w2,w3,w4⟩:=GD hG hA hw
    have hpc:p∈Rm.chain (Af R) (BI a):=Rm.chain_trans _ (by rw [Rm.chain_kid hG.tree w2]; exact List.mem_cons_of_mem _ (Rm.chain_self _ _)) hw.1
    rw [N5 hG hA h.ok hk p hpc (Rm.chain_le _ (of_decide_eq_true w3))] at hb
    cases hb
  · rw [D0 hG hA h.ok.len (fun k z => hw ⟨k,z⟩) hp]
    split
    · rfl
    · rename_i hz
      rw [decide_eq_true ho,Bool.true_and,Rm.li_eq] at hz
      refine h.one p hp ho ?_
      rw [← E3 hG hA h.ok.len p hp ?_]
      · exact hb
      · by_cases e:p=A6 R a
        · exact .inr e
        · left
          cases y:Rm.wi (Af R) p (A6 R a) with
          | false => rfl
          | true => rw [y,decide_eq_false e] at hz; exact absurd rfl hz
end
theorem Kh {R:List Ai} (hG:AY R) {A:List Aq} (hA:∀ x∈A,AW R x) {chs0:List Int}:∀ (l:List Nat) (chs:List Int),LY R A chs0 chs l→(∀ i∈l,i < A.length)→Nm R A l→RC R chs→RC R (Bd R A chs l)
  | [],_,_,_,_,h => h
  | k :: l,chs,hah,hl,ap,h => by
    have gk:AW R (Hi A k):=by rw [B9 (hl k List.mem_cons_self)]; exact hA _ (List.getElem_mem _)
    exact Kh hG hA l _ (hah.next hG hA hl ap) (fun i hi => hl i (List.mem_cons_of_mem _ hi)) (List.Pairwise.of_cons ap) (gone_rc hG gk h (hah.kept k List.mem_cons_self))
theorem Kn {R:List Ai} (hG:AY R) {A:List Aq} (hA:∀ x∈A,AW R x) {chs:List Int} {ev:Int} (h:RC R chs) (hp:Bo (Eb R A) (tkL R A chs ev)=Option.none):RC R (Bd R A chs (tkL R A chs ev)) :=
  Kh (chs0:=chs) hG hA _ _ ⟨h.ok,fun _ _ _ _ _ => rfl,JE hG hA⟩ (fun i hi => DM i hi) (Jg (fun i hi => DM i hi) hp) h
theorem Jt {c c':List Int} (hl:c.length=c'.length) (h:∀ p,p < c.length→c.getD p (-1)=c'.getD p (-1)):c=c':=by
  refine List.ext_getElem hl fun i h1 h2 => ?_
  have:=h i h1
  rw [List.getD_eq_getElem?_getD,List.getD_eq_getElem?_getD,List.getElem?_eq_getElem h1,List.getElem?_eq_getElem h2] at this
  exact this
theorem Nq {R:List Ai} (hG:AY R) {c c':List Int} (h:RC R c) (h':RC R c') (hk:kI R c=kI R c') (hm:CG R c=CG R c'):c=c':=by
  have ek:Cn R c=Cn R c':=by
    unfold kI at hk
    exact (List.map_inj_right fun x y e => by omega).mp hk
  have kb:∀ p,p < R.length→Rm.kb (CU R c) (Af R) p=Rm.kb (CU R c') (Af R) p:=fun p hp => by
    have i1:=Cm (R:=R) (chs:=c) (k:=p)
    have i2:=Cm (R:=R) (chs:=c') (k:=p)
    rw [ek] at i1
    have i3:=i1.symm.trans i2
    cases x:Rm.kb (CU R c) (Af R) p with
    | true => exact ((i3.mp ⟨hp,x⟩).2).symm
    | false =>
      cases y:Rm.kb (CU R c') (Af R) p with
      | false => rfl
      | true => rw [(i3.mpr ⟨hp,y⟩).2] at x; cases x
  refine Jt (h.ok.len.trans h'.ok.len.symm) fun p hp => ?_
  rw [h.ok.len] at hp
  cases hc:choosing R p with
  | false => rw [h.non p hp hc,h'.non p hp hc]
  | true =>
    by_cases hkp:Ax R p = "keep"
    · have e:(CG R c).getD p (-1)=(CG R c').getD p (-1):=by rw [hm]
      rw [DY hp,DY hp,if_pos hkp,if_pos hkp] at e
      exact e
    · have ho:Ax R p = "one" := by
        rw [BP hp] at hc
        exact (of_decide_eq_true hc).resolve_right hkp
      cases hb:Rm.kb (CU R c) (Af R) p with
      | false => rw [h.one p hp ho hb,h'.one p hp ho (by rw [← kb p hp]; exact hb)]
      | true =>
        obtain ⟨k,k1,k2⟩:=h.ok.pick p hp hc
        obtain ⟨m1,m2⟩:=Rm.mem_kidsN.mp k1
        have hgt:=Rm.kid_gt hG.tree k1
        rw [Ay] at m1
        have e2:(Rm.hold (Af R) k).toNat=p:=by omega
        have hkk:Rm.kb (CU R c) (Af R) k=true:=by
          rw [Rm.kb_up hG.tree (by omega) (by rw [Ay]; exact m1),e2,hb,Bool.true_and]
          unfold CU
          rw [k2,decide_eq_true (rfl:((k:Nat):Int)=(k:Int)),Bool.or_true]
        rw [kb k m1] at hkk
        obtain ⟨_,j2⟩:=Gd hG (by omega) m1 hkk
        rw [e2] at j2
        unfold CU at j2
        rw [decide_eq_false (show ¬ Ax R p = "all" by rw [ho]; decide +kernel),Bool.false_or,decide_eq_true_eq] at j2
        rw [k2,j2]
theorem Lz {α : Type} [DecidableEq α]:∀ (l m:List α),l.Nodup→(∀ x∈l,x∈m)→l.length≤m.length
  | [],m,_,_ => Nat.zero_le _
  | x :: l,m,hn,hs => by
    have hx:=hs x List.mem_cons_self
    obtain ⟨n1,n2⟩:=List.nodup_cons.mp hn
    have:=Lz l (m.erase x) n2 fun y hy => (List.mem_erase_of_ne (fun e => n1 (by rw [← e]; exact hy))).mpr (hs y (List.mem_cons_of_mem _ hy))
    rw [List.length_erase_of_mem hx] at this
    have hp:=List.length_pos_of_mem hx
    rw [List.length_cons]
    omega
def prodL (f:Nat→List Int):Nat→List (List Int)
  | 0 => [[]]
  | n + 1 => (prodL f n).flatMap fun l => (f n).map fun x => l ++ [x]
def prodN (f:Nat→List Int):Nat→Nat
  | 0 => 1
  | n + 1 => prodN f n * (f n).length
theorem JR (f:Nat→List Int):∀ n,(prodL f n).length=prodN f n
  | 0 => rfl
  | n + 1 => by
    unfold prodL prodN
    rw [List.length_flatMap,← JR f n]
    generalize prodL f n=L
    induction L with
    | nil => simp
    | cons a L ih => rw [List.map_cons,List.sum_cons,ih,List.length_map,List.length_cons,Nat.succ_mul]; omega
theorem JQ (f:Nat→List Int):∀ (n:Nat) (c:List Int),c.length=n→(∀ p,p < n→c.getD p (-1)∈f p)→c∈prodL f n
  | 0,c,hl,_ => by
    rw [List.length_eq_zero_iff.mp hl]
    exact List.mem_singleton.mpr rfl
  | n + 1,c,hl,h => by
    unfold prodL
    have ec:c=c.take n ++ [c.getD n (-1)]:=by
      have hn:n < c.length:=by omega
      rw [List.getD_eq_getElem?_getD,List.getElem?_eq_getElem hn]
      have:=List.take_append_drop n c
      rw [List.drop_eq_getElem_cons hn,List.drop_eq_nil_of_le (by omega)] at this
      exact this.symm
    refine List.mem_flatMap.mpr ⟨c.take n,JQ f n _ (by rw [List.length_take]; omega) fun p hp => ?_,List.mem_map.mpr ⟨_,h n (Nat.lt_succ_self n),ec.symm⟩⟩
    have:=h p (by omega)
    rw [List.getD_eq_getElem?_getD,List.getElem?_take_of_lt hp,← List.getD_eq_getElem?_getD]
    exact this
def Iv (R:List Ai) (p:Nat):List Int:=if choosing R p=true then (Rm.kidsN (Af R) p).map fun (k:Nat) => (k:Int) else [-1]
def E2 (R:List Ai):Nat:=prodN (Iv R) R.length
theorem Pj {R:List Ai} {n:Nat} (h:E2 R≤n) {cs:List (List Int)} (hn:cs.Nodup) (hc:∀ c∈cs,RC R c):cs.length≤n:=by
  refine Nat.le_trans (Lz cs (prodL (Iv R) R.length) hn fun c hm => ?_) (by rw [JR]; exact h)
  have hr:=hc c hm
  refine JQ _ _ _ hr.ok.len fun p hp => ?_
  unfold Iv
  cases z:choosing R p with
  | true =>
    rw [if_pos rfl]
    obtain ⟨k,k1,k2⟩:=hr.ok.pick p hp z
    exact List.mem_map.mpr ⟨k,k1,k2.symm⟩
  | false =>
    rw [if_neg (by decide)]
    exact List.mem_singleton.mpr (hr.non p hp z)
def Fm (f:Nat→Nat):Nat→Nat
  | 0 => 0
  | n + 1 => Fm f n + f n
theorem Le (f g:Nat→Nat):∀ n,Fm (fun p => f p + g p) n=Fm f n + Fm g n
  | 0 => rfl
  | n + 1 => by
    show Fm (fun p => f p + g p) n + (f n + g n)=Fm f n + f n + (Fm g n + g n)
    rw [Le f g n]; omega
theorem Fc {f:Nat→Nat}:∀ n,(∀ p,p < n→f p=0)→Fm f n=0
  | 0,_ => rfl
  | n + 1,h => by
    show Fm f n + f n=0
    rw [Fc n fun p hp => h p (by omega),h n (Nat.lt_succ_self n)]
theorem Ld (x:Int):∀ n,Fm (fun p => if x=(p:Int) then 1 else 0) n≤1
  | 0 => Nat.zero_le _
  | n + 1 => by
    show Fm (fun p => if x=(p:Int) then 1 else 0) n + (if x=(n:Int) then 1 else 0)≤1
    by_cases z:x=(n:Int)
    · rw [if_pos z,Fc n fun p hp => if_neg (by omega)]; decide
    · rw [if_neg z]; exact Ld x n
theorem Lc {hs:List Int} (h0:Rm.hold hs 0 = -1) (n:Nat):∀ m,Fm (fun p => ((List.range m).filter fun j => decide (Rm.hold hs j=(p:Int))).length) n≤m - 1
  | 0 => Nat.le_of_eq (Fc n fun p _ => rfl)
  | m + 1 => by
    have e:(fun p => ((List.range (m + 1)).filter fun j => decide (Rm.hold hs j=((p:Nat):Int))).length)=fun (p:Nat) => ((List.range m).filter fun j => decide (Rm.hold hs j=(p:Int))).length + (if Rm.hold hs m=(p:Int) then 1 else 0):=by
      funext p
      rw [Rm.range_filter_succ,List.length_append]
      by_cases z:Rm.hold hs m=(p:Int)
      · rw [if_pos z,if_pos (decide_eq_true z)]; rfl
      · rw [if_neg z,if_neg (by rw [decide_eq_false z]; decide)]; rfl
    rw [e,Le]
    have ih:=Lc h0 n m
    by_cases z:m=0
    · subst z
      rw [Fc n fun p _ => if_neg (by rw [h0]; omega)]
      omega
    · have:=Ld (Rm.hold hs m) n
      omega
theorem cube_le:∀ k:Nat,k < 17→k * k * k≤3 ^ k:=by decide
theorem JP {f:Nat→List Int} {g:Nat→Nat}:∀ n,(∀ p,p < n→(f p).length * (f p).length * (f p).length≤3 ^ g p)→prodN f n * prodN f n * prodN f n≤3 ^ Fm g n
  | 0,_ => Nat.le_refl 1
  | n + 1,h => by
    have ih:=JP n fun p hp => h p (by omega)
    have h1:=h n (Nat.lt_succ_self n)
    show prodN f n * (f n).length * (prodN f n * (f n).length) * (prodN f n * (f n).length)≤3 ^ (Fm g n + g n)
    rw [Nat.pow_add]
    refine Nat.le_trans (Nat.le_of_eq ?_) (Nat.mul_le_mul ih h1)
    generalize prodN f n=a
    generalize (f n).length=b
    simp only [Nat.mul_assoc,Nat.mul_left_comm,Nat.mul_comm]
theorem NJ {R:List Ai} (hG:AY R) (h9:R.length≤9):E2 R≤29:=by
  have hc:=JP (f:=Iv R) (g:=fun p => (Rm.kidsN (Af R) p).length) R.length fun p hp => by
    unfold Iv
    split
    · rw [List.length_map]
      refine cube_le _ ?_
      have:=List.length_filter_le (fun j => decide (Rm.hold (Af R) j=(p:Int))) (List.range (Af R).length)
      rw [List.length_range,Ay] at this
      have:(Rm.kidsN (Af R) p).length≤R.length:=by unfold Rm.kidsN; rw [Ay]; exact this
      omega
    · exact Nat.pos_of_ne_zero (fun z => by have:=Nat.pow_eq_zero.mp z; omega)
  have hs:=Lc hG.tree.root R.length (Af R).length
  rw [Ay] at hs
  have hs':Fm (fun p => (Rm.kidsN (Af R) p).length) R.length≤8:=by
    refine Nat.le_trans ?_ (show R.length - 1≤8 by omega)
    refine Nat.le_trans (Nat.le_of_eq ?_) hs
    congr 1
    funext p
    unfold Rm.kidsN
    rw [Ay]
  have h3 : 3 ^ Fm (fun p => (Rm.kidsN (Af R) p).length) R.length≤3 ^ 8:=Nat.pow_le_pow_right (by decide) hs'
  show prodN (Iv R) R.length≤29
  generalize prodN (Iv R) R.length=a at hc
  refine Nat.le_of_not_lt fun z => ?_
  have : 30 * 30 * 30≤a * a * a:=Nat.mul_le_mul (Nat.mul_le_mul z z) z
  have : 30 * 30 * 30≤3 ^ 8:=Nat.le_trans this (Nat.le_trans hc h3)
  revert this; decide
def frFew:Bool:=[0,1].all fun x => [0,1].all fun y => (["keep", "one"]:List Str).all fun k1 => (["keep", "one"]:List Str).all fun k2 => decide (E2 (NQ x y k1 k2)≤29)
theorem Pb:frFew=true:=by decide +kernel
theorem fr_few (c:Int):E2 (LZ c)≤29:=by
  have h:=Pb
  unfold frFew at h
  simp only [List.all_eq_true,decide_eq_true_eq] at h
  have h2:=h (c % 2).toNat (by rcases (by omega:c % 2=0∨c % 2=1) with e | e <;> rw [e] <;> decide) (c / 2 % 2).toNat (by rcases (by omega:c / 2 % 2=0∨c / 2 % 2=1) with e | e <;> rw [e] <;> decide) (J5 (c / 4 % 2)) (KR _) (J5 (c / 8 % 2)) (KR _)
  rw [← Pa] at h2
  exact h2
end
end Toy
namespace Toy
open PySem L2
seal PySem.wpAny
section
variable {P:Program} {w:World} {K:PySem.W.Frag} {mg:Str→Option Value} {base:Heap}
def Kv (n:Nat) (ds:List PyData):Prop:=PyData.canLayAll0 ds=true∧PyData.depthAll ds≤n∧PyData.eqvAll ds ds=true
def HZ (n:Nat) (d:PyData):Prop:=PyData.canLay0 d=true∧PyData.depth d≤n∧PyData.eqv d d=true
theorem HY {β : Type} {g : β→PyData} {n:Nat}:∀ bs:List β,(∀ b∈bs,HZ n (g b))→Kv n (bs.map g)
  | [],_ => ⟨rfl,by simp [PyData.depthAll],rfl⟩
  | b :: bs,h => by
    obtain ⟨i1,i2,i3⟩:=HY bs fun x hx => h x (List.mem_cons_of_mem _ hx)
    obtain ⟨j1,j2,j3⟩:=h b List.mem_cons_self
    refine ⟨?_,?_,?_⟩
    · simp only [List.map_cons,PyData.canLayAll0,i1,j1,Bool.and_true]
    · simp only [List.map_cons,PyData.depthAll]; omega
    · simp only [List.map_cons,PyData.eqvAll,i3,j3,Bool.and_true]
theorem L8 {n:Nat} {ds:List PyData} (h:Kv n ds):HZ (n + 1) (.list ds):=by
  obtain ⟨a,b,c⟩:=h
  exact ⟨by simpa only [PyData.canLay0] using a,by simp only [PyData.depth]; omega,by simpa only [PyData.eqv] using c⟩
theorem EK {n:Nat} {ds:List PyData} (h:Kv n ds):HZ (n + 1) (.tuple ds):=by
  obtain ⟨a,b,c⟩:=h
  exact ⟨by simpa only [PyData.canLay0] using a,by simp only [PyData.depth]; omega,by simpa only [PyData.eqv] using c⟩
theorem Nr (i:Int):HZ 0 (.int i):=⟨rfl,by simp [PyData.depth],by simp only [PyData.eqv,beq_self_eq_true]⟩
theorem Fu (xs:List Int):Kv 0 (xs.map PyData.int):=HY xs fun i _ => Nr i
theorem Ct {n:Nat} {d:PyData} (h:HZ n d) (hn:n≤8):SeqAt.shaped d=true:=by
  obtain ⟨a,b,_⟩:=h
  unfold SeqAt.shaped
  rw [Bool.and_eq_true]
  exact ⟨a,decide_eq_true (by omega)⟩
end
end Toy
namespace Toy
open PySem L2
seal PySem.wpAny
section
variable {P:Program} {w:World} {K:PySem.W.Frag} {mg:Str→Option Value} {base:Heap}
def Z {α β : Type} (R : α→β→Prop) (xs:List α) (ys:List β):Prop:=xs.length=ys.length∧∀ (i:Nat) x y,xs[i]? = some x→ys[i]? = some y→R x y
theorem Z.nil {α β : Type} {R : α→β→Prop}:Z R [] []:=⟨rfl,fun i x y h => by simp at h⟩
theorem Z.mono {α β : Type} {R S : α→β→Prop} {xs:List α} {ys:List β} (h:Z R xs ys) (m:∀ x y,R x y→S x y):Z S xs ys:=⟨h.1,fun i x y a b => m _ _ (h.2 i x y a b)⟩
theorem Z.monoM {α β : Type} {R S : α→β→Prop} {xs:List α} {ys:List β} (h:Z R xs ys) (m:∀ x y,x∈xs→R x y→S x y):Z S xs ys:=⟨h.1,fun i x y a b => m _ _ (List.mem_of_getElem? a) (h.2 i x y a b)⟩
theorem Z.at {α β : Type} {R : α→β→Prop} {xs:List α} {ys:List β} (h:Z R xs ys) {i:Nat} {y : β} (e:ys[i]? = some y):∃ x,xs[i]? = some x∧R x y:=by
  obtain ⟨hi,_⟩:=List.getElem?_eq_some_iff.mp e
  have hi':i < xs.length:=by rw [h.1]; exact hi
  exact ⟨xs[i],List.getElem?_eq_getElem hi',h.2 i _ y (List.getElem?_eq_getElem hi') e⟩
theorem Z.at1 {α β : Type} {R : α→β→Prop} {xs:List α} {ys:List β} (h:Z R xs ys) {i:Nat} {x : α} (e:xs[i]? = some x):∃ y,ys[i]? = some y∧R x y:=by
  obtain ⟨hi,_⟩:=List.getElem?_eq_some_iff.mp e
  have hi':i < ys.length:=by rw [← h.1]; exact hi
  exact ⟨ys[i],List.getElem?_eq_getElem hi',h.2 i x _ e (List.getElem?_eq_getElem hi')⟩
theorem Z.snoc {α β : Type} {R : α→β→Prop} {xs:List α} {ys:List β} {x : α} {y : β} (h:Z R xs ys) (r:R x y):Z R (xs ++ [x]) (ys ++ [y]):=by
  refine ⟨by simp [h.1],fun i p q a b => ?_⟩
  by_cases hi:i < xs.length
  · rw [List.getElem?_append_left hi] at a
    rw [List.getElem?_append_left (by rw [← h.1]; exact hi)] at b
    exact h.2 i p q a b
  · have hl:=h.1
    rw [List.getElem?_append_right (by omega)] at a
    rw [List.getElem?_append_right (by omega)] at b
    have e1:i - xs.length=0:=by
      cases z:i - xs.length with
      | zero => rfl
      | succ n => rw [z] at a; simp at a
    have e2:i - ys.length=0:=by omega
    rw [e1] at a
    rw [e2] at b
    simp at a b
    subst a b
    exact r
theorem Z.cons {α β : Type} {R : α→β→Prop} {xs:List α} {ys:List β} {x : α} {y : β} (h:Z R xs ys) (r:R x y):Z R (x :: xs) (y :: ys):=by
  refine ⟨by simp [h.1],fun i p q a b => ?_⟩
  cases i with
  | zero => simp at a b; subst a b; exact r
  | succ i => exact h.2 i p q (by simpa using a) (by simpa using b)
theorem Z.uncons {α β : Type} {R : α→β→Prop} {xs:List α} {ys:List β} {x : α} {y : β} (h:Z R (x :: xs) (y :: ys)):R x y∧Z R xs ys :=
  ⟨h.2 0 x y rfl rfl,by have:=h.1; simpa using this,fun i p q a b => h.2 (i + 1) p q (by simpa using a) (by simpa using b)⟩
abbrev Hs:=Int×List Int
abbrev FF:=List (List Hs)
def C4 (H:Hp) (v:V) (ds:List Int):Prop := ∃ d,v = .ref d∧H d=some (.tup (ds.map V.int))
def BQ (H:Hp) (v:V) (e:Hs):Prop := ∃ t u,v = .ref t∧H t=some (.tup [.int e.1,u])∧C4 H u e.2
def Jj (H:Hp) (p:Addr) (r:List Hs):Prop := ∃ vs,H p=some (.lst vs)∧Z (BQ H) vs r
def Cd (H:Hp) (ps:List Addr) (M:FF):Prop:=Z (Jj H) ps M
def GB (l:Addr) (H H':Hp):Prop := ∀ x o,H x=some o→x≠l→H' x=some o
theorem C4.keep {H H':Hp} {l:Addr} {v:V} {ds:List Int} (k:GB l H H') (hl:∀ ys,H l≠some (.tup ys)) (h:C4 H v ds):C4 H' v ds:=by
  obtain ⟨d,e,h⟩:=h
  exact ⟨d,e,k _ _ h fun z => hl _ (by rw [← z]; exact h)⟩
theorem BQ.keep {H H':Hp} {l:Addr} {v:V} {e:Hs} (k:GB l H H') (hl:∀ ys,H l≠some (.tup ys)) (h:BQ H v e):BQ H' v e:=by
  obtain ⟨t,u,e1,h1,h2⟩:=h
  exact ⟨t,u,e1,k _ _ h1 (fun z => hl _ (by rw [← z]; exact h1)),h2.keep k hl⟩
theorem Jj.keep {H H':Hp} {l p:Addr} {r:List Hs} (k:GB l H H') (hl:∀ ys,H l≠some (.tup ys)) (n:p≠l) (h:Jj H p r):Jj H' p r:=by
  obtain ⟨vs,h1,h2⟩:=h
  exact ⟨vs,k _ _ h1 n,h2.mono fun _ _ z => z.keep k hl⟩
theorem Cd.keep {H H':Hp} {l:Addr} {ps:List Addr} {M:FF} (k:GB l H H') (hl:∀ ys,H l≠some (.tup ys)) (n:∀ p∈ps,p≠l) (h:Cd H ps M):Cd H' ps M :=
  h.monoM fun p _ hp z => z.keep k hl (n p hp)
theorem C4.same {H H':Hp} {v:V} {ds:List Int} (s:Ao H H') (h:C4 H v ds):C4 H' v ds:=by
  obtain ⟨d,e,h⟩:=h
  exact ⟨d,e,s _ _ h⟩
theorem BQ.same {H H':Hp} {v:V} {e:Hs} (s:Ao H H') (h:BQ H v e):BQ H' v e:=by
  obtain ⟨t,u,e1,h1,h2⟩:=h
  exact ⟨t,u,e1,s _ _ h1,h2.same s⟩
theorem Jj.same {H H':Hp} {p:Addr} {r:List Hs} (s:Ao H H') (h:Jj H p r):Jj H' p r:=by
  obtain ⟨vs,h1,h2⟩:=h
  exact ⟨vs,s _ _ h1,h2.mono fun _ _ z => z.same s⟩
theorem Cd.same {H H':Hp} {ps:List Addr} {M:FF} (s:Ao H H') (h:Cd H ps M):Cd H' ps M:=h.mono fun _ _ z => z.same s
theorem Ey {H:Hp} {l:Addr} {xs:List V} (h:H l=some (.lst xs)):∀ ys,H l≠some (.tup ys):=fun ys z => by rw [h] at z; cases z
theorem kf1:¬ (("states" : Str) = "rows"):=by decide +kernel
theorem kf2:¬ (("states" : Str) = "ways"):=by decide +kernel
theorem kf3:¬ (("rows" : Str) = "ways"):=by decide +kernel
def IU (s r y:Addr):List (Str×V):=Bm "ways" (.ref y) (Bm "rows" (.ref r) (Bm "states" (.ref s) []))
theorem KT (s r y:Addr):(IU s r y).lookup ("states" : Str)=some (.ref s):=by
  unfold IU
  rw [A3,if_neg kf2,A3,if_neg kf1,A3,if_pos rfl]
theorem Mu (s r y:Addr):(IU s r y).lookup ("rows" : Str)=some (.ref r):=by
  unfold IU
  rw [A3,if_neg kf3,A3,if_pos rfl]
structure G0 (C:Addr) (H:Hp) (c s r y:Addr) (ps:List Addr) (S:List V) (M:FF) (W:List V):Prop where
  ob:∃ dx,H c=some (.ins C dx (IU s r y))
  hs:H s=some (.lst S)
  hr:H r=some (.lst (ps.map V.ref))
  hm:Cd H ps M
  hw:H y=some (.lst W)
theorem G0.same {C:Addr} {H H':Hp} {c s r y:Addr} {ps:List Addr} {S W:List V} {M:FF} (e:Ao H H') (h:G0 C H c s r y ps S M W):G0 C H' c s r y ps S M W:=by
  obtain ⟨⟨dx,h1⟩,h2,h3,h4,h5⟩:=h
  exact ⟨⟨dx,e _ _ h1⟩,e _ _ h2,e _ _ h3,h4.same e,e _ _ h5⟩
structure Kk (K:PySem.W.Frag) (mg:Str→Option Value) (C:Addr):Prop where
  cl:Cls K C
  nS:DL K C "states"
  nR:DL K C "rows"
  nW:DL K C "ways"
  mgC:mg "Flat" = some (.ref C)
  list:mg "list" = none
end
end Toy
namespace Toy
open PySem L2
seal PySem.wpAny
section
variable {P:Program} {w:World} {K:PySem.W.Frag} {mg:Str→Option Value} {base:Heap}
def GA (H:Hp) (ps:List Addr) (vss:List (List V)):Prop:=Z (fun p vs => H p=some (.lst vs)) ps vss
def MK (C:Addr):Sp:=fun vs H Q _ => ∃ (c dx s r y:Addr) (qs:List Addr) (ss:List V) (vss:List (List V)) (ws:List V),vs=[.ref c,.ref s,.ref r,.ref y]∧H c=some (.ins C dx [])∧H s=some (.lst ss)∧H r=some (.lst (qs.map V.ref))∧GA H qs vss∧H y=some (.lst ws)∧qs.length≤100 ∧
  ∀ (s' r' y':Addr) (ps:List Addr) (H':Hp),GB c H H'→H' c=some (.ins C dx (IU s' r' y'))→H s'=Option.none→H' s'=some (.lst ss)→H r'=Option.none→H' r'=some (.lst (ps.map V.ref))→GA H' ps vss→(∀ p∈ps,H p=Option.none∧p≠r')→H y'=Option.none→H' y'=some (.lst ws)→Q .non H'
theorem P0:AA ["self", "states", "rows", "ways"] ["self", "states", "rows", "ways"] (Ae Fy):=⟨rfl,rfl,rfl,by decide +kernel,rfl,by decide +kernel,by decide +kernel⟩
theorem OJ {f C:Addr} {fd:FuncData} (F:Nk K "__init__" "Flat.__init__" Fy f fd) (T:Kk K mg C):AD P w K mg base A9 1 f fd ["self", "states", "rows", "ways"] (MK C):=by
  refine F.ok P0 (fun vs H Q E h => ?_) (fun cdv A outer s H vs Q E hr h => ?_)
  · obtain ⟨c,dx,s,r,y,qs,ss,vss,ws,rfl,_⟩:=h
    rfl
  obtain ⟨c,dx,sa,ra,ya,qs,ss,vss,ws,rfl,hc,hs,hra,hqs,hy,hl,q⟩:=h
  refine ⟨_,Ad (Io (pv 0) (Ba Bw (by rfl) T.list (by decide +kernel) (Aa (pv 1) Ab)) rfl)
    (Ad (Io (pv 0) (Cg ["row"] [Option.none] rfl (Bu (pv 2)) (fun _ => AI (i := 0) (show (["row"]:List Str).Nodup by decide +kernel) rfl (Or.inl rfl)) (fun _ => Cr)
      (fun _ => Ba Bw (by rfl) T.list (by decide +kernel) (Aa (pv 0) Ab))
      (N:=["self", "states", "rows", "ways"]) (ks:=(Ae Fy).names) rfl rfl (by decide +kernel) (by decide +kernel) (by decide +kernel) (by decide +kernel)) rfl)
    (Aj (Io (pv 0) (Ba Bw (by rfl) T.list (by decide +kernel) (Aa (pv 3) Ab)) rfl))),?_⟩
  refine ⟨_,rfl,sa,_,rfl,.inl (AE.of hs),fun l1 hl1 => ?_⟩
  have n1:c≠l1:=Al hc hl1
  refine ⟨_,rfl,c,C,dx,_,rfl,(by rw [Ak n1]; exact hc),T.cl,T.nS,(by show 0 < 1000; decide),?_⟩
  have k1:GB c H (upd (upd H l1 (.lst ss)) c (.ins C dx (Bm "states" (.ref l1) []))):=fun x o e n => by rw [Ak n,Ak (Al e hl1)]; exact e
  have c1:(upd (upd H l1 (.lst ss)) c (.ins C dx (Bm "states" (.ref l1) []))) c=some (.ins C dx (Bm "states" (.ref l1) [])):=Ac
  have e1:(upd (upd H l1 (.lst ss)) c (.ins C dx (Bm "states" (.ref l1) []))) l1=some (.lst ss):=by rw [Ak n1.symm,Ac]
  have f1:∀ x,(upd (upd H l1 (.lst ss)) c (.ins C dx (Bm "states" (.ref l1) []))) x=Option.none→H x=Option.none:=fun x e => by
    cases z:H x with
    | none => rfl
    | some o =>
      by_cases n:x=c
      · rw [n,c1] at e; cases e
      · rw [k1 x o z n] at e; cases e
  generalize upd (upd H l1 (.lst ss)) c (.ins C dx (Bm "states" (.ref l1) []))=H1 at k1 c1 e1 f1 ⊢
  have ntc:∀ {p xs},H p=some (.lst xs)→p≠c:=fun e => F0 e hc (by intro z; cases z)
  have r1:H1 ra=some (.lst (qs.map V.ref)):=k1 _ _ hra (ntc hra)
  refine ⟨_,rfl,ra,rfl,⟨_,AE.of r1⟩,fun bk D hD => ?_⟩
  refine Cc (K:=K) (xs:=qs.map V.ref) (Pv:=fun i ys σ H' => ∃ v ps,σ = [v]∧ys=ps.map V.ref∧Ao H1 H'∧GA H' ps (vss.take i)∧∀ p∈ps,H1 p=Option.none∧p≠D) ⟨_,[],rfl,rfl,Ag hD _,by rw [List.take_zero]; exact Z.nil,fun p hp => by simp at hp⟩ ?_ ?_ ?_
  · rintro i ys σ H' hi hDi ⟨v,ps,rfl,rfl,s2,_,_⟩
    exact AE.of (s2 _ _ r1)
  · rintro i x ys σ H' hx hDi ⟨v,ps,rfl,rfl,s2,hL,hps⟩
    obtain ⟨qa,hqa,rfl⟩ : ∃ qa,qs[i]? = some qa∧V.ref qa=x:=by
      rw [List.getElem?_map] at hx
      cases z:qs[i]? with
      | none => rw [z] at hx; simp at hx
      | some p => rw [z] at hx; exact ⟨p,rfl,by simpa using hx⟩
    obtain ⟨vs,hvs,hq⟩:=hqs.at1 hqa
    refine ⟨_,rfl,qa,vs,rfl,.inl (AE.of (s2 _ _ (k1 _ _ hq (ntc hq)))),fun l hl => ?_⟩
    have nDl:D≠l:=Al hDi hl
    have hi:i < vss.length:=(List.getElem?_eq_some_iff.mp hvs).1
    refine ⟨by rw [Ak nDl]; exact hDi,?_,⟨_,ps ++ [l],rfl,by rw [List.map_append]; rfl,?_,?_,fun p hp => ?_⟩⟩
    · have z:=hL.1
      rw [List.length_take] at z
      have z2:=hqs.1
      rw [List.length_map]
      exact Av (by omega)
    · exact AR (AR s2 (s2.free hl) _) hD _
    · rw [List.take_succ,hvs]
      refine Z.snoc (hL.monoM fun p vs hp e => ?_) ?_
      · show (upd (upd H' l (.lst _)) D _) p=_
        rw [Ak (hps p hp).2,Ak (Al e hl)]; exact e
      · show (upd (upd H' l (.lst _)) D _) l=_
        rw [Ak nDl.symm,Ac]
    · rcases List.mem_append.mp hp with z | z
      · exact hps p z
      · have z':p=l:=by simpa using z
        subst z'
        exact ⟨s2.free hl,nDl.symm⟩
  · rintro ys σ H2 hD2 ⟨v,ps,rfl,rfl,s2,hL,hps⟩
    have ecl:(qs.map V.ref).length=vss.length:=by rw [List.length_map,hqs.1]
    rw [ecl,List.take_length] at hL
    refine ⟨_,rfl,c,C,dx,_,rfl,s2 _ _ c1,T.cl,T.nR,(by show 1 < 1000; decide),?_⟩
    have c2:=s2 _ _ c1
    have ncD:c≠D:=Al c1 hD
    have npc:∀ p∈ps,p≠c:=fun p hp z => by
      have y:=(hps p hp).1
      rw [z,c1] at y
      cases y
    have k2:GB c H2 (upd H2 c (.ins C dx (Bm "rows" (.ref D) (Bm "states" (.ref l1) [])))):=fun x o e n => by rw [Ak n]; exact e
    have c3:(upd H2 c (.ins C dx (Bm "rows" (.ref D) (Bm "states" (.ref l1) [])))) c=some (.ins C dx (Bm "rows" (.ref D) (Bm "states" (.ref l1) []))):=Ac
    have f3:∀ x,(upd H2 c (.ins C dx (Bm "rows" (.ref D) (Bm "states" (.ref l1) [])))) x=Option.none→H2 x=Option.none:=fun x e => by
      by_cases n:x=c
      · rw [n,c3] at e; cases e
      · rw [Ak n] at e; exact e
    generalize upd H2 c (.ins C dx (Bm "rows" (.ref D) (Bm "states" (.ref l1) [])))=H3 at k2 c3 f3 ⊢
    have y3:H3 ya=some (.lst ws):=k2 _ _ (s2 _ _ (k1 _ _ hy (ntc hy))) (ntc hy)
    refine ⟨_,rfl,ya,_,rfl,.inl (AE.of y3),fun l3 hl3 => ?_⟩
    have n3:c≠l3:=Al c3 hl3
    refine ⟨_,rfl,c,C,dx,_,rfl,(by rw [Ak n3]; exact c3),T.cl,T.nW,(by show 2 < 1000; decide),?_⟩
    have k4:GB c H3 (upd (upd H3 l3 (.lst ws)) c (.ins C dx (Bm "ways" (.ref l3) (Bm "rows" (.ref D) (Bm "states" (.ref l1) []))))):=fun x o e n => by rw [Ak n,Ak (Al e hl3)]; exact e
    have hl3':=f3 _ hl3
    have hl3H:H1 l3=Option.none:=s2.free hl3'
    refine q l1 D l3 ps _ (fun x o e n => k4 _ _ (k2 _ _ (s2 _ _ (k1 _ _ e n)) n) n) Ac hl1 (k4 _ _ (k2 _ _ (s2 _ _ e1) n1.symm) n1.symm) (f1 _ hD) (k4 _ _ (k2 _ _ hD2 ncD.symm) ncD.symm) (hL.monoM fun p vs hp e => k4 _ _ (k2 _ _ e (npc p hp)) (npc p hp)) (fun p hp => ⟨f1 _ (hps p hp).1,(hps p hp).2⟩) (f1 _ hl3H) ?_
    rw [Ak n3.symm,Ac]
end
end Toy
namespace Toy
open PySem L2
seal PySem.wpAny
section
variable {P:Program} {w:World} {K:PySem.W.Frag} {mg:Str→Option Value} {base:Heap}
inductive Fa where
  | clash (evs:List Int) (i j:Nat)
  | many
structure FS where
  cs:List (List Int)
  ws:List (List Int)
  rows:List (List Hs)
  row:List Hs
def nxE (R:List Ai) (A:List Aq) (c:List Int) (e:Int):List Int:=Bd R A c (tkL R A c e)
def N3 (R:List Ai) (A:List Aq) (c:List Int) (e:Int):List Int:=AV A (tkL R A c e)
def KS (R:List Ai) (A:List Aq) (c w:List Int) (S:FS) (e:Int):Except Fa FS :=
  if nxE R A c e∈S.cs then .ok ⟨S.cs,S.ws,S.rows,S.row ++ [(((S.cs.idxOf (nxE R A c e):Nat):Int),N3 R A c e)]⟩
  else if S.cs.length=30 then .error .many
  else .ok ⟨S.cs ++ [nxE R A c e],S.ws ++ [w ++ [e]],S.rows,S.row ++ [(((S.cs.length:Nat):Int),N3 R A c e)]⟩
def E5 (R:List Ai) (A:List Aq) (c w:List Int) (S:FS) (e:Int):Except Fa FS :=
  match Bo (Eb R A) (tkL R A c e) with
  | some (i,j) => .error (.clash (w ++ [e]) i j)
  | Option.none => KS R A c w S e
def D1 (R:List Ai) (A:List Aq) (c w:List Int):List Int→FS→Except Fa FS
  | [],S => .ok S
  | e :: r,S => match E5 R A c w S e with
    | .error x => .error x
    | .ok S' => D1 R A c w r S'
def Ho (R:List Ai) (A:List Aq) (n:Nat) (S:FS):Except Fa FS:=D1 R A (S.cs.getD n []) (S.ws.getD n []) [0,1,2,3] ⟨S.cs,S.ws,S.rows,[]⟩
def DJ (R:List Ai) (A:List Aq):Nat→Nat→FS→Except Fa FS
  | 0,_,S => .ok S
  | f + 1,n,S => if n < S.cs.length then
      match Ho R A n S with
      | .error x => .error x
      | .ok S' => DJ R A f (n + 1) ⟨S'.cs,S'.ws,S'.rows ++ [S'.row],[]⟩
    else .ok S
def fS0 (R:List Ai):FS:=⟨[Bs R],[[]],[],[]⟩
def Du (R:List Ai) (A:List Aq):Except Fa FS:=DJ R A 31 0 (fS0 R)
structure FI (R:List Ai) (S:FS):Prop where
  rc:∀ c∈S.cs,RC R c
  nd:S.cs.Nodup
  wl:S.ws.length=S.cs.length
  le:S.cs.length≤30
  wb:∀ (i:Nat) w,S.ws[i]? = some w→w.length≤i
theorem IT {R:List Ai} (hG:AY R):FI R (fS0 R):=by
  refine ⟨fun c hc => ?_,List.nodup_cons.mpr ⟨by simp,List.nodup_nil⟩,rfl,by show 1≤30; decide,fun i w h => ?_⟩
  · rw [List.mem_singleton.mp hc]; exact Pi hG
  · cases i with
    | zero => cases h; exact Nat.le_refl 0
    | succ i => cases h
theorem FI.push {R:List Ai} {S:FS} (h:FI R S) {c w:List Int} {r:List Hs} (hc:RC R c) (hn:¬ c∈S.cs) (hl:S.cs.length≠30) (hw:w.length≤S.cs.length):FI R ⟨S.cs ++ [c],S.ws ++ [w],S.rows,r⟩:=by
  have hle:=h.le
  refine ⟨fun x hx => ?_,?_,?_,?_,fun i x hx => ?_⟩
  · rcases List.mem_append.mp hx with z | z
    · exact h.rc x z
    · rw [List.mem_singleton.mp z]; exact hc
  · refine List.nodup_append.mpr ⟨h.nd,List.nodup_cons.mpr ⟨by simp,List.nodup_nil⟩,fun x hx y hy e => ?_⟩
    rw [e,List.mem_singleton.mp hy] at hx
    exact hn hx
  · show (S.ws ++ [w]).length=(S.cs ++ [c]).length
    rw [List.length_append,List.length_append,h.wl]; rfl
  · show (S.cs ++ [c]).length≤30
    rw [List.length_append]
    simp only [List.length_cons,List.length_nil]
    omega
  · have hx':(S.ws ++ [w])[i]? = some x:=hx
    by_cases z:i < S.ws.length
    · rw [List.getElem?_append_left z] at hx'
      exact h.wb i x hx'
    · rw [List.getElem?_append_right (by omega)] at hx'
      cases e:i - S.ws.length with
      | zero => rw [e] at hx'; cases hx'; have:=h.wl; omega
      | succ k => rw [e] at hx'; cases hx'
theorem FI.row {R:List Ai} {S:FS} (h:FI R S) {rs:List (List Hs)} {r:List Hs}:FI R ⟨S.cs,S.ws,rs,r⟩:=⟨h.rc,h.nd,h.wl,h.le,h.wb⟩
def Hq (R:List Ai) (H:Hp) (p:Addr) (c:List Int):Prop := ∃ kt mt,H p=some (.tup [.ref kt,.ref mt])∧H kt=some (.tup ((kI R c).map V.int))∧H mt=some (.tup ((CG R c).map V.int))
def E9 (H:Hp) (p:Addr) (w:List Int):Prop:=H p=some (.tup (w.map V.int))
def TS (H H':Hp):Prop := ∀ x ys,H x=some (.tup ys)→H' x=some (.tup ys)
theorem A8 {H H':Hp} (s:Ao H H'):TS H H':=fun x _ e => s x _ e
theorem TS.trans {H H' H'':Hp} (a:TS H H') (b:TS H' H''):TS H H'':=fun x ys e => b _ _ (a _ _ e)
theorem Ci {H:Hp} {a:Addr} {xs:List V} {o:HO} (h:H a=some (.lst xs)):TS H (upd H a o):=fun x ys e => by
  rw [Ak (fun z => by rw [z,h] at e; cases e)]; exact e
theorem Hq.ts {R:List Ai} {H H':Hp} {p:Addr} {c:List Int} (t:TS H H') (h:Hq R H p c):Hq R H' p c:=by
  obtain ⟨kt,mt,a,b,d⟩:=h
  exact ⟨kt,mt,t _ _ a,t _ _ b,t _ _ d⟩
theorem BQ.ts {H H':Hp} {v:V} {e:Hs} (t:TS H H') (h:BQ H v e):BQ H' v e:=by
  obtain ⟨a,u,e1,h1,d,e2,h2⟩:=h
  exact ⟨a,u,e1,t _ _ h1,d,e2,t _ _ h2⟩
structure BY (R:List Ai) (H:Hp) (sl wl rl:Addr) (ps qs rs:List Addr) (S:FS):Prop where
  es:H sl=some (.lst (ps.map V.ref))
  st:Z (Hq R H) ps S.cs
  ew:H wl=some (.lst (qs.map V.ref))
  wt:Z (E9 H) qs S.ws
  er:H rl=some (.lst (rs.map V.ref))
  rt:Cd H rs S.rows
  n1:sl≠wl
  n2:sl≠rl
  n3:wl≠rl
  nr:∀ p∈rs,p≠sl∧p≠wl∧p≠rl
section
variable {R:List Ai} {H H':Hp} {sl wl rl:Addr} {ps qs rs:List Addr} {S:FS}
theorem BY.same (h:BY R H sl wl rl ps qs rs S) (s:Ao H H'):BY R H' sl wl rl ps qs rs S :=
  ⟨s _ _ h.es,h.st.mono fun _ _ z => z.ts (A8 s),s _ _ h.ew,h.wt.mono fun _ _ z => s _ _ z,s _ _ h.er,h.rt.same s,h.n1,h.n2,h.n3,h.nr⟩
theorem BY.setRow (h:BY R H sl wl rl ps qs rs S) {r:List Hs}:BY R H sl wl rl ps qs rs ⟨S.cs,S.ws,S.rows,r⟩:=⟨h.es,h.st,h.ew,h.wt,h.er,h.rt,h.n1,h.n2,h.n3,h.nr⟩
theorem BY.other (h:BY R H sl wl rl ps qs rs S) {l:Addr} {xs:List V} {o:HO} (hl:H l=some (.lst xs)) (a1:l≠sl) (a2:l≠wl) (a3:l≠rl) (a4:∀ p∈rs,p≠l):BY R (upd H l o) sl wl rl ps qs rs S:=by
  have t:TS H (upd H l o):=Ci hl
  refine ⟨by rw [Ak a1.symm]; exact h.es,h.st.mono fun _ _ z => z.ts t,by rw [Ak a2.symm]; exact h.ew,h.wt.mono fun _ _ z => t _ _ z,by rw [Ak a3.symm]; exact h.er,?_,h.n1,h.n2,h.n3,h.nr⟩
  exact h.rt.keep (fun x o e n => by rw [Ak n]; exact e) (Ey hl) a4
theorem BY.push (h:BY R H sl wl rl ps qs rs S) {p q:Addr} {c w:List Int} {r:List Hs} (hp:Hq R H p c) (s:Ao (upd H sl (.lst (ps.map V.ref ++ [.ref p]))) H') (hq:E9 H' q w) :
    BY R (upd H' wl (.lst (qs.map V.ref ++ [.ref q]))) sl wl rl (ps ++ [p]) (qs ++ [q]) rs ⟨S.cs ++ [c],S.ws ++ [w],S.rows,r⟩:=by
  have t1:TS H (upd H sl (.lst (ps.map V.ref ++ [.ref p]))):=Ci h.es
  have ew:H' wl=some (.lst (qs.map V.ref)):=s _ _ (by rw [Ak h.n1.symm]; exact h.ew)
  have t2:=(t1.trans (A8 s)).trans (Ci (o:=.lst (qs.map V.ref ++ [.ref q])) ew)
  refine ⟨?_,?_,?_,?_,?_,?_,h.n1,h.n2,h.n3,h.nr⟩
  · rw [Ak h.n1,s _ _ Ac,List.map_append]; rfl
  · exact Z.snoc (h.st.mono fun _ _ z => z.ts t2) (hp.ts t2)
  · rw [Ac,List.map_append]; rfl
  · exact Z.snoc (h.wt.mono fun _ _ z => t2 _ _ z) (Ci ew _ _ hq)
  · rw [Ak h.n3.symm]; exact s _ _ (by rw [Ak h.n2.symm]; exact h.er)
  · refine Cd.keep (l:=wl) (fun x o e n => by rw [Ak n]; exact e) (Ey ew) (fun p hp => (h.nr p hp).2.1) (Cd.same s ?_)
    exact h.rt.keep (fun x o e n => by rw [Ak n]; exact e) (Ey h.es) (fun p hp => (h.nr p hp).1)
theorem BY.rowed (h:BY R H sl wl rl ps qs rs S) {l:Addr} {vs:List V} {r:List Hs} (hl:H l=some (.lst vs)) (hv:Z (BQ H) vs r) (a1:l≠sl) (a2:l≠wl) (a3:l≠rl) :
    BY R (upd H rl (.lst (rs.map V.ref ++ [.ref l]))) sl wl rl ps qs (rs ++ [l]) ⟨S.cs,S.ws,S.rows ++ [r],[]⟩:=by
  have t:TS H (upd H rl (.lst (rs.map V.ref ++ [.ref l]))):=Ci h.er
  refine ⟨by rw [Ak h.n2]; exact h.es,h.st.mono fun _ _ z => z.ts t,by rw [Ak h.n3]; exact h.ew,h.wt.mono fun _ _ z => t _ _ z,by rw [Ac,List.map_append]; rfl,?_,h.n1,h.n2,h.n3,fun p hp => ?_⟩
  · refine Z.snoc (h.rt.keep (fun x o e n => by rw [Ak n]; exact e) (Ey h.er) (fun p hp => (h.nr p hp).2.2)) ⟨vs,?_,hv.mono fun _ _ z => z.ts t⟩
    rw [Ak a3]; exact hl
  · rcases List.mem_append.mp hp with z | z
    · exact h.nr p z
    · rw [List.mem_singleton.mp z]; exact ⟨a1,a2,a3⟩
end
def JH (R:List Ai) (c:List Int):PyData:=.tuple [.tuple ((kI R c).map PyData.int),.tuple ((CG R c).map PyData.int)]
theorem GU:∀ a b:List Int,PyData.eqvAll (a.map PyData.int) (b.map PyData.int)=decide (a=b)
  | [],[] => rfl
  | [],_ :: _ => rfl
  | _ :: _,[] => rfl
  | x :: a,y :: b => by
    simp only [List.map_cons,PyData.eqvAll,PyData.eqv,GU a b]
    by_cases z:x=y
    · subst z
      simp
    · simp [z]
theorem Kp {R:List Ai} (hG:AY R) {c c':List Int} (h:RC R c) (h':RC R c'):(JH R c).eqv (JH R c')=decide (c=c'):=by
  unfold JH
  simp only [PyData.eqv,PyData.eqvAll,GU,Bool.and_true]
  by_cases z:c=c'
  · subst z; simp
  · rw [decide_eq_false z,Bool.and_eq_false_iff]
    by_cases y:kI R c=kI R c'
    · right; exact decide_eq_false fun x => z (Nq hG h h' y x)
    · left; exact decide_eq_false y
theorem DX (R:List Ai) (c:List Int):HZ 2 (JH R c):=by
  obtain ⟨a1,a2,a3⟩:=EK (Fu (kI R c))
  obtain ⟨b1,b2,b3⟩:=EK (Fu (CG R c))
  exact EK ⟨by simp only [PyData.canLayAll0,a1,b1,Bool.and_true],by simp only [PyData.depthAll]; omega,by simp only [PyData.eqvAll,a3,b3,Bool.and_true]⟩
theorem G1 {K:PySem.W.Frag} {R:List Ai} {H:Hp} {p:Addr} {c:List Int} (h:Hq R H p c):K7 K H (.ref p) (JH R c):=by
  obtain ⟨kt,mt,a,b,d⟩:=h
  exact .tup (A2.of a) (.cons (.tup (A2.of b) (Gn _)) (.cons (.tup (A2.of d) (Gn _)) .nil))
theorem Kl {K:PySem.W.Frag} {H:Hp} {β : Type} {S:Addr→β→Prop} {D : β→PyData} (hS:∀ p c,S p c→K7 K H (.ref p) (D c)):∀ {ps:List Addr} {cs:List β},Z S ps cs→FE K H (ps.map V.ref) (cs.map D)
  | [],[],_ => .nil
  | [],_ :: _,h => by have:=h.1; simp at this
  | _ :: _,[],h => by have:=h.1; simp at this
  | p :: ps,c :: cs,h => .cons (hS p c h.uncons.1) (Kl hS h.uncons.2)
theorem Pu {α : Type} [DecidableEq α] {D : α→PyData} {y : α}:∀ {xs:List α},(∀ x∈xs,(D x).eqv (D y)=decide (x=y))→((xs.map D).any fun e => e.eqv (D y))=decide (y∈xs)
  | [],_ => rfl
  | x :: xs,h => by
    rw [List.map_cons,List.any_cons,h x List.mem_cons_self,Pu fun z hz => h z (List.mem_cons_of_mem _ hz)]
    by_cases z:x=y
    · subst z; simp
    · have:(y∈x :: xs) ↔ y∈xs:=by
        rw [List.mem_cons]
        exact ⟨fun q => q.resolve_left fun e => z e.symm,.inr⟩
      rw [decide_eq_false z,Bool.false_or]
      exact decide_eq_decide.mpr this.symm
theorem NN {α : Type} [BEq α] [LawfulBEq α] [DecidableEq α] {D : α→PyData} {y : α} {xs:List α} (h:∀ x∈xs,(D x).eqv (D y)=decide (x=y)) (hy:y∈xs) :
    ∃ hj:xs.idxOf y < (xs.map D).length,((xs.map D)[xs.idxOf y]).eqv (D y)=true∧∀ (m:Nat) (hm:m < (xs.map D).length),m < xs.idxOf y→((xs.map D)[m]).eqv (D y)=false:=by
  have hj:=List.idxOf_lt_length_iff.mpr hy
  refine ⟨by rw [List.length_map]; exact hj,?_,fun m hm hl => ?_⟩
  · rw [List.getElem_map,h _ (List.getElem_mem hj),List.getElem_idxOf hj]; simp
  · rw [List.getElem_map,h _ (List.getElem_mem _)]
    refine decide_eq_false fun e => ?_
    have hl':m < xs.findIdx (· == y):=hl
    have:=List.not_of_lt_findIdx hl'
    rw [e,beq_self_eq_true] at this
    cases this
theorem Ko {R:List Ai} (hG:AY R) {ns':List Int} (hp:ns'.Perm (iN (Rm.ent (Ch R (GQ R) 0) 16 0))) (hs:ns'.Pairwise (·≤·)):ns'=kI R (Bs R):=by
  have:=Rm.ent_sorted hG.tree (DD hG (MX hG) 0) (f := 16) (by rw [Ay]; exact hG.most) (Oa hG) hp hs
  rw [this,Ay]; rfl
end
end Toy
namespace Toy
open PySem L2
seal PySem.wpAny
section
variable {P:Program} {w:World} {K:PySem.W.Frag} {mg:Str→Option Value} {base:Heap}
structure Nj (K:PySem.W.Frag) (mg:Str→Option Value) (CT:Addr):Prop where
  mgT:mg "TooMany" = some (.ref CT)
  ex:PySem.W.excIn K CT Jx "ValueError.__new__" = true
  most:∃ t,mg "MOST_STATES" = some (.int 30 t)
def Og (CT:Addr):Sp:=fun vs H Q E => ∃ (l:Addr) (xs:List V),vs=[.ref l]∧H l=some (.lst xs)∧(xs.length=30→E (.ref CT) Option.none H)∧(xs.length≠30→Q .non H)
theorem scMore:AA ["states"] ["states"] (Ae G6):=⟨rfl,rfl,rfl,by decide +kernel,rfl,by decide +kernel,by decide +kernel⟩
theorem ok_more {f C CT:Addr} {fd:FuncData} (D:Am K mg "check_one_more" G6 ["states"] f fd) (T:Dn K mg C) (B:Nj K mg CT):AD P w K mg base (CXE P w) 1 f fd ["states"] (Og CT):=by
  refine D.fn.okX scMore (fun vs H Q E h => ?_) (fun cdv A outer s H vs Q E hr h => ?_)
  · obtain ⟨l,xs,rfl,_⟩:=h
    rfl
  obtain ⟨l,xs,rfl,hl,q1,q2⟩:=h
  refine ⟨_,Aj (A0 (AB Cz (AG At (by rfl) T.len PySem.boot_len (Aa (pv 0) Ab)) (AO B.most rfl) (AT _))
    (Aj (Ot (E:=E) JC rfl rfl B.mgT B.ex (Aa (KE (BU DQ (BU (Iq (AO B.most rfl)) (BU DQ KC)))) Ab))) AJ),?_⟩
  refine ⟨_,rfl,l,_,rfl,.inl (AE.of hl),rfl,_,rfl,?_⟩
  refine GS (fun z => ?_) (fun z => ?_)
  · have z':xs.length=30:=by
      have:(xs.length:Int)=30:=by simpa using z
      omega
    exact ⟨⟨trivial,⟨30,rfl,rfl,by decide +kernel⟩,trivial,trivial⟩,fun y => ⟨by show 1≤100; decide,q1 z'⟩⟩
  · exact q2 fun e => by rw [e] at z; exact absurd (by decide) z
structure FlatF (R:List Ai) (CF:Addr) (H:Hp) (f s r y:Addr) (ps rs qs:List Addr) (S:FS):Prop where
  ob:∃ dx,H f=some (.ins CF dx (IU s r y))
  es:H s=some (.lst (ps.map V.ref))
  st:Z (Hq R H) ps S.cs
  er:H r=some (.lst (rs.map V.ref))
  rt:Cd H rs S.rows
  ew:H y=some (.lst (qs.map V.ref))
  wt:Z (E9 H) qs S.ws
def FoldQ (R:List Ai) (CF CC CT:Addr) (Q:VK) (E:XK) (H:Hp):Except Fa FS→Prop
  | .error (.clash evs i j) => evs.length≤100→∀ (d tp:Addr) (H':Hp),Ao H H'→H' d=some (XD d (NU (.ref tp) (i:Int) (j:Int)))→H' tp=some (.tup (evs.map V.int))→E (.ref CC) (some d) H'
  | .error .many => ∀ H',Ao H H'→E (.ref CT) Option.none H'
  | .ok S => ∀ (f s r y:Addr) (ps rs qs:List Addr) (H':Hp),Ao H H'→FlatF R CF H' f s r y ps rs qs S→FI R S→S.rows.length=S.cs.length→Q (.ref f) H'
def Lh (C CF CC CT:Addr):Sp:=fun vs H Q E => ∃ (c:Addr) (R:List Ai) (A:List Aq),vs=[.ref c]∧A7 C H c R A∧AY R∧(∀ a∈A,AW R a)∧FoldQ R CF CC CT Q E H (Du R A)
theorem Ii {H:Hp}:∀ {rs:List Addr} {M:FF},Cd H rs M→∃ vss,GA H rs vss∧Z (fun vs r => Z (BQ H) vs r) vss M
  | [],[],_ => ⟨[],Z.nil,Z.nil⟩
  | [],_ :: _,h => by have:=h.1; simp at this
  | _ :: _,[],h => by have:=h.1; simp at this
  | p :: rs,r :: M,h => by
    obtain ⟨⟨vs,h1,h2⟩,h3⟩:=Z.uncons h
    obtain ⟨vss,a,b⟩:=Ii h3
    exact ⟨vs :: vss,Z.cons a h1,Z.cons b h2⟩
theorem Mo {H H':Hp} (t:TS H H') {ps:List Addr} {vss:List (List V)} {M:FF} (h:GA H' ps vss) (g:Z (fun vs r => Z (BQ H) vs r) vss M):Cd H' ps M:=by
  refine ⟨h.1.trans g.1,fun i p r hp hr => ?_⟩
  obtain ⟨vs,hv,hz⟩:=Z.at g hr
  exact ⟨vs,h.2 i p vs hp hv,hz.mono fun _ _ z => z.ts t⟩
theorem J9 {R:List Ai} {A:List Aq} {c w:List Int} {S:FS} {k:Nat} (hk:k < 4):D1 R A c w (([0,1,2,3]:List Int).drop k) S=match E5 R A c w S (k:Int) with
    | .error x => .error x
    | .ok S' => D1 R A c w (([0,1,2,3]:List Int).drop (k + 1)) S':=by
  match k,hk with
  | 0,_ => rfl
  | 1,_ => rfl
  | 2,_ => rfl
  | 3,_ => rfl
def M8 (R:List Ai) (A:List Aq) (f n:Nat):Except Fa FS→Except Fa FS
  | .error x => .error x
  | .ok S' => DJ R A f (n + 1) ⟨S'.cs,S'.ws,S'.rows ++ [S'.row],[]⟩
theorem LO {R:List Ai} {A:List Aq} {f n:Nat} {S:FS} (h:n < S.cs.length):DJ R A (f + 1) n S=M8 R A f n (Ho R A n S):=by
  unfold DJ
  rw [if_pos h]
  cases Ho R A n S <;> rfl
theorem J8 {R:List Ai} {A:List Aq} {f n:Nat} {S:FS} (h:¬ n < S.cs.length):DJ R A f n S = .ok S:=by
  cases f with
  | zero => rfl
  | succ f => unfold DJ; rw [if_neg h]
theorem CJ:AA ["chart", "states", "rows", "ways", "state", "way", "row", "event", "step"] ["chart"] (Ae DP):=⟨rfl,rfl,rfl,by decide +kernel,rfl,by decide +kernel,by decide +kernel⟩
theorem Nz {f C CF CC CT fs fb fm fi:Addr} {fd fds fdb fdm fdi:FuncData} (D:Am K mg "folded" DP ["chart"] f fd) (T:Dn K mg C) (TF:Kk K mg CF) (M:Mk K CF fi) (bi:C8 K fdi ["self", "states", "rows", "ways"] []) (Gi:AD P w K mg base A9 1 fi fdi ["self", "states", "rows", "ways"] (MK CF))
    (Ds:Am K mg "started" C5 ["chart"] fs fds) (Gs:AD P w K mg base A9 20 fs fds ["chart"] (JJ C))
    (Db:Am K mg "step_behind" EO ["chart", "ahead", "state", "event"] fb fdb) (Gb:AD P w K mg base (JB false P w) 22 fb fdb ["chart", "ahead", "state", "event"] (ME K C CC))
    (Dm:Am K mg "check_one_more" G6 ["states"] fm fdm) (Gm:AD P w K mg base (JB false P w) 1 fm fdm ["states"] (Og CT)) :
    AD P w K mg base (JB false P w) 23 f fd ["chart"] (Lh C CF CC CT):=by
  refine D.fn.okX CJ (fun vs H Q E h => ?_) (fun cdv A outer s H vs Q E hr h => ?_)
  · obtain ⟨c,R,As,rfl,_⟩:=h
    rfl
  obtain ⟨c,R,As,rfl,hC,hG,hA,q⟩:=h
  refine ⟨_,Ad (Ar (i := 1) CJ.nd rfl (Or.inl rfl) (Bf (Aa (Ap Gs (hr.mono (by decide)) rfl Ds.mg Ds.fn.kp Ds.bd .nil AF (Aa (pv 0) Ab)) Ab)))
    (Ad (Ar (i := 2) CJ.nd rfl (Or.inl rfl) (Bf Ab))
    (Ad (Ar (i := 3) CJ.nd rfl (Or.inl rfl) (Bf (Aa (AX Ab) Ab)))
    (Ad (EX EY (AB Lp (AG At (by rfl) T.len PySem.boot_len (Aa (pv 2) Ab)) (AG At (by rfl) T.len PySem.boot_len (Aa (pv 1) Ab)) (AT _))
      (Ad (Ar (i := 4) CJ.nd rfl (Or.inl rfl) (An Au (pv 1) (AG At (by rfl) T.len PySem.boot_len (Aa (pv 2) Ab)) (fun _ _ => rfl)))
      (Ad (Ar (i := 5) CJ.nd rfl (Or.inl rfl) (An Au (pv 3) (AG At (by rfl) T.len PySem.boot_len (Aa (pv 2) Ab)) (fun _ _ => rfl)))
      (Ad (Ar (i := 6) CJ.nd rfl (Or.inl rfl) (Bf Ab))
      (Ad (Bj EY rfl (AZ rfl T.range (Aa (AH BE (AO T.lastE rfl) Ah) Ab)) (AI (i := 7) CJ.nd rfl (Or.inl rfl))
        (Ad (Ar (i := 8) CJ.nd rfl (Or.inl rfl) (Ap Gb hr rfl Db.mg Db.fn.kp Db.bd .nil JT (Aa (pv 0) (Aa (pv 5) (Aa (pv 4) (Aa (pv 7) Ab))))))
        (Ad (A0 (AB (JU hr.units) (An Aw (pv 8) Ah (fun _ _ => rfl)) (pv 1) (by with_unfolding_all rfl))
          (Ad (AS (Ap Gm (hr.mono (by decide)) rfl Dm.mg Dm.fn.kp Dm.bd .nil JT (Aa (pv 1) Ab)))
          (Ad (AS (BC PySem.F.plainAttrs_list PySem.F.slot_list_append PySem.F.type_list_append AU (pv 1) (Aa (An Aw (pv 8) Ah (fun _ _ => rfl)) Ab)))
          (Aj (AS (BC PySem.F.plainAttrs_list PySem.F.slot_list_append PySem.F.type_list_append AU (pv 3) (Aa (AH HJ (pv 5) (AX (Aa (pv 7) Ab))) Ab)))))) AJ)
        (Aj (AS (BC PySem.F.plainAttrs_list PySem.F.slot_list_append PySem.F.type_list_append AU (pv 6) (Aa (AX (Aa (BC PySem.F.plainAttrs_list PySem.F.slot_list_index PySem.F.type_list_index (JY hr.units) (pv 1) (Aa (An Aw (pv 8) Ah (fun _ _ => rfl)) Ab)) (Aa (An Aw (pv 8) Ah (fun _ _ => rfl)) Ab))) Ab)))))))
      (Aj (AS (BC PySem.F.plainAttrs_list PySem.F.slot_list_append PySem.F.type_list_append AU (pv 2) (Aa (pv 6) Ab)))))))))
    (Aj (AM (MT M Gi (hr.mono (by decide)) rfl TF.mgC bi .nil AF (Aa (pv 1) (Aa (pv 2) (Aa (pv 3) Ab))))))))),?_⟩
  refine ⟨_,rfl,c,R,As,rfl,hC,hG,fun st0 kt0 mt0 ns H1 s1 e1 e2 e3 hp0 hs0 => ?_⟩
  have en:=Ko hG hp0 hs0
  subst en
  refine ⟨(by show 1≤sizeLine; decide),fun sl hsl => ?_⟩
  have s2:=Ag hsl (.lst [.ref st0])
  have es2:(upd H1 sl (.lst [.ref st0])) sl=some (.lst [.ref st0]):=Ac
  have f0:Hq R (upd H1 sl (.lst [.ref st0])) st0 (Bs R):=⟨kt0,mt0,s2 _ _ e1,s2 _ _ e2,by rw [Mm]; exact s2 _ _ e3⟩
  have s02:=s1.trans s2
  have fsl:H sl=Option.none:=s1.free hsl
  generalize upd H1 sl (.lst [.ref st0])=H2 at s2 es2 f0 s02 ⊢
  refine ⟨(by show 0≤sizeLine; decide),fun rl hrl => ?_⟩
  have s3:=Ag hrl (.lst [])
  have er3:(upd H2 rl (.lst [])) rl=some (.lst []):=Ac
  have nsr:sl≠rl:=Al es2 hrl
  have s03:=s02.trans s3
  have frl:H rl=Option.none:=s02.free hrl
  generalize upd H2 rl (.lst [])=H3 at s3 er3 s03 ⊢
  refine ⟨(by show 0≤sizeLine; decide),fun w0 hw0 => ?_⟩
  have s4:=Ag hw0 (.tup [])
  have ew0:(upd H3 w0 (.tup [])) w0=some (.tup []):=Ac
  have s04:=s03.trans s4
  have er4:=s4 _ _ er3
  have es4:=s4 _ _ (s3 _ _ es2)
  have f4:=f0.ts (A8 (s3.trans s4))
  generalize upd H3 w0 (.tup [])=H4 at s4 ew0 s04 er4 es4 f4 ⊢
  refine ⟨(by show 1≤sizeLine; decide),fun wl hwl => ?_⟩
  have s5:=Ag hwl (.lst [.ref w0])
  have ew5:(upd H4 wl (.lst [.ref w0])) wl=some (.lst [.ref w0]):=Ac
  have s05:=s04.trans s5
  have fwl:H wl=Option.none:=s04.free hwl
  have nsw:sl≠wl:=Al es4 hwl
  have nrw:rl≠wl:=Al er4 hwl
  have hF5:BY R (upd H4 wl (.lst [.ref w0])) sl wl rl [st0] [w0] [] (fS0 R) :=
    ⟨s5 _ _ es4,Z.cons Z.nil (f4.ts (A8 s5)),ew5,Z.cons Z.nil (s5 _ _ ew0),s5 _ _ er4,Z.nil,nsw,nsr,nrw.symm,fun p hp => by cases hp⟩
  generalize upd H4 wl (.lst [.ref w0])=H5 at s5 ew5 s05 hF5 ⊢
  refine ⟨fun m σ H' => ∃ n S v4 v5 v6 v7 v8 ps qs rs,σ = [some (.ref c),some (.ref sl),some (.ref rl),some (.ref wl),v4,v5,v6,v7,v8]∧Ao H H'∧BY R H' sl wl rl ps qs rs S∧FI R S∧S.rows.length=n∧n≤S.cs.length∧m=31 - n∧DJ R As (31 - n) n S=Du R As,
    ⟨31,0,fS0 R,_,_,_,_,_,_,_,_,rfl,s05,hF5,IT hG,rfl,Nat.zero_le _,rfl,rfl⟩,?_⟩
  rintro m σ H6 ⟨n,S,v4,v5,v6,v7,v8,ps,qs,rs,rfl,s06,hF,hI,hn,hnl,rfl,hfo⟩
  have lr:(rs.map V.ref).length=n:=by rw [List.length_map,hF.rt.1,hn]
  have ls:(ps.map V.ref).length=S.cs.length:=by rw [List.length_map,hF.st.1]
  have h30:=hI.le
  refine ⟨_,rfl,rl,_,rfl,.inl (AE.of hF.er),_,rfl,sl,_,rfl,.inl (AE.of hF.es),_,_,rfl,rfl,_,rfl,?_⟩
  by_cases hlt:n < S.cs.length
  · rw [decide_eq_true (show ((rs.map V.ref).length:Int) < ((ps.map V.ref).length:Int) by rw [lr,ls]; omega)]
    refine Bi ?_
    refine ⟨fun σ' H' => ∃ S v4 v5 v6 v7 v8 ps qs rs,σ'=[some (.ref c),some (.ref sl),some (.ref rl),some (.ref wl),v4,v5,v6,v7,v8]∧Ao H H'∧BY R H' sl wl rl ps qs rs S∧FI R S∧S.rows.length=n + 1∧n + 1≤S.cs.length∧DJ R As (31 - (n + 1)) (n + 1) S=Du R As,?_,?_⟩
    · rintro σ' H' ⟨S',a4,a5,a6,a7,a8,ps',qs',rs',rfl,b1,b2,b3,b4,b5,b6⟩
      exact ⟨31 - (n + 1),by omega,n + 1,S',a4,a5,a6,a7,a8,ps',qs',rs',rfl,b1,b2,b3,b4,b5,rfl,b6⟩
    obtain ⟨cn,hcn⟩ : ∃ cn,S.cs[n]? = some cn:=⟨_,List.getElem?_eq_getElem hlt⟩
    obtain ⟨wn,hwn⟩ : ∃ wn,S.ws[n]? = some wn:=⟨_,List.getElem?_eq_getElem (by rw [hI.wl]; exact hlt)⟩
    obtain ⟨st,hst,hSt⟩:=hF.st.at hcn
    obtain ⟨wy,hwy,hWy⟩:=hF.wt.at hwn
    have hrc:=hI.rc cn (List.mem_of_getElem? hcn)
    have hwln:=hI.wb n wn hwn
    have aS:Jl (ps.map V.ref) ((rs.map V.ref).length:Int)=some (.ref st):=BN (by rw [lr,List.getElem?_map,hst]; rfl)
    have aW:Jl (qs.map V.ref) ((rs.map V.ref).length:Int)=some (.ref wy):=BN (by rw [lr,List.getElem?_map,hwy]; rfl)
    refine ⟨_,rfl,_,rfl,rl,_,rfl,.inl (AE.of hF.er),sl,_,_,_,rfl,rfl,AE.of hF.es,aS,?_⟩
    refine ⟨_,rfl,_,rfl,rl,_,rfl,.inl (AE.of hF.er),wl,_,_,_,rfl,rfl,AE.of hF.ew,aW,?_⟩
    refine ⟨(by show 0≤sizeLine; decide),fun rw' hrw => ?_⟩
    have s7:=Ag hrw (.lst [])
    have erw:(upd H6 rw' (.lst [])) rw'=some (.lst []):=Ac
    have nw1:rw'≠sl:=(Al hF.es hrw).symm
    have nw2:rw'≠wl:=(Al hF.ew hrw).symm
    have nw3:rw'≠rl:=(Al hF.er hrw).symm
    have nw4:∀ p∈rs,p≠rw':=fun p hp => by
      obtain ⟨i,hi⟩:=List.mem_iff_getElem?.mp hp
      obtain ⟨r,hr',vs,h1,h2⟩:=Z.at1 hF.rt hi
      exact Al h1 hrw
    have frw:H rw'=Option.none:=s06.free hrw
    have s07:=s06.trans s7
    have hF7:=hF.same s7
    have hSt7:=hSt.ts (A8 s7)
    have hWy7:E9 (upd H6 rw' (.lst [])) wy wn:=s7 _ _ hWy
    generalize upd H6 rw' (.lst [])=H7 at s7 erw s07 hF7 hSt7 hWy7 ⊢
    have hco:M8 R As (30 - n) n (D1 R As cn wn ([0,1,2,3]:List Int) ⟨S.cs,S.ws,S.rows,[]⟩)=Du R As:=by
      rw [← hfo,show 31 - n=30 - n + 1 by omega,LO hlt]
      unfold Ho
      rw [List.getD_eq_getElem?_getD,hcn,List.getD_eq_getElem?_getD,hwn]; rfl
    refine ⟨_,_,rfl,rfl,4,rfl,by decide,by decide,?_⟩
    refine Br (fun k σ H8 => ∃ S v7 v8 ps qs vs,σ = [some (.ref c),some (.ref sl),some (.ref rl),some (.ref wl),some (.ref st),some (.ref wy),some (.ref rw'),v7,v8]∧Ao H H8∧BY R H8 sl wl rl ps qs rs S∧H8 rw'=some (.lst vs)∧Z (BQ H8) vs S.row∧Hq R H8 st cn∧E9 H8 wy wn∧FI R S∧S.rows.length=n∧n < S.cs.length∧S.row.length=k ∧
      M8 R As (30 - n) n (D1 R As cn wn (([0,1,2,3]:List Int).drop k) S)=Du R As)
      ⟨⟨S.cs,S.ws,S.rows,[]⟩,_,_,ps,qs,[],rfl,s07,⟨hF7.es,hF7.st,hF7.ew,hF7.wt,hF7.er,hF7.rt,hF7.n1,hF7.n2,hF7.n3,hF7.nr⟩,erw,Z.nil,hSt7,hWy7,hI.row,hn,hlt,rfl,hco⟩ ?_ ?_
    · rintro k σ H8 hk ⟨S,v7,v8,ps,qs,vs,rfl,(s08:Ao _ _),hF,erw,hvs,hSt,hWy,hI,hn,hlt,hrk,hco⟩
      have ek:(0:Int) + (k:Int)=(k:Int):=by omega
      rw [ek]
      have hk4:k < 4:=hk
      rw [J9 hk4] at hco
      have h30:=hI.le
      obtain ⟨kt,mt,g1,g2,g3⟩:=id hSt
      refine ⟨_,rfl,_,rfl,_,rfl,_,rfl,c,wy,st,kt,mt,R,As,cn,wn,(k:Int),rfl,hC.same s08,hG,hA,.inr (A2.of hWy),by omega,g1,g2,g3,hrc.ok,fun i j hp d tp H9 s9 hd htp => ?_,fun hp t s' kt' mt' dd H9 s9 a1 a2 a3 a4 a5 => ?_⟩
      · have hfe:Du R As = .error (.clash (wn ++ [(k:Int)]) i j):=by
          rw [← hco]
          unfold E5
          rw [hp]; rfl
        rw [hfe] at q
        exact q (by rw [List.length_append]; simp only [List.length_cons,List.length_nil]; omega) d tp H9 (s08.trans s9) hd htp
      · have hfs:E5 R As cn wn S (k:Int)=KS R As cn wn S (k:Int):=by
          unfold E5
          rw [hp]
        rw [hfs] at hco
        unfold KS at hco
        have s09:=s08.trans s9
        have hF9:=hF.same s9
        have hx:Hq R H9 s' (nxE R As cn (k:Int)):=⟨kt',mt',a2,a3,a4⟩
        have hxr:RC R (nxE R As cn (k:Int)):=Kn hG hA hrc hp
        have hdd:H9 dd=some (.tup ((N3 R As cn (k:Int)).map V.int)):=a5
        have erw9:=s9 _ _ erw
        have hvs9:=hvs.mono fun _ _ z => BQ.ts (A8 s9) z
        have hSt9:=hSt.ts (A8 s9)
        have hWy9:E9 H9 wy wn:=s9 _ _ hWy
        generalize nxE R As cn (k:Int)=nx at hx hxr hco
        generalize hdE:N3 R As cn (k:Int)=dE at hdd hco
        have hvl:vs.length=k:=by rw [hvs.1,hrk]
        have hqv:∀ x∈S.cs,(JH R x).eqv (JH R nx)=decide (x=nx):=fun x hx => Kp hG (hI.rc x hx) hxr
        have hsh:∀ e∈S.cs.map (JH R),SeqAt.shaped e=true:=fun e he => by
          obtain ⟨x,_,rfl⟩:=List.mem_map.mp he
          exact Ct (DX R x) (by decide)
        have hsx:SeqAt.shaped (JH R nx)=true:=Ct (DX R nx) (by decide)
        have hdx:(JH R nx).depth≤62:=Nat.le_trans (DX R nx).2.1 (by decide)
        have fdt:∀ {H10:Hp},TS H9 H10→H10 t=some (.tup [.ref s',.ref dd]):=fun z => z _ _ a1
        refine ⟨_,rfl,t,_,_,_,rfl,rfl,A2.of a1,rfl,_,rfl,sl,_,_,_,rfl,AE.of hF9.es,Kl (fun p c z => G1 z) hF9.st,G1 hx,hsh,hsx,hdx,_,rfl,?_⟩
        rw [if_pos rfl]
        by_cases hin:nx∈S.cs
        · rw [show ((S.cs.map (JH R)).any fun e => e.eqv (JH R nx))=true from (Pu hqv).trans (by simpa using hin)]
          refine A1 ?_
          rw [if_pos hin] at hco
          obtain ⟨hj,hy,hno⟩:=NN hqv hin
          refine ⟨_,rfl,.inl ⟨rfl,_,AE.of erw9⟩,_,rfl,.inl ⟨rfl,_,AE.of hF9.es⟩,_,rfl,t,_,_,_,rfl,rfl,A2.of a1,rfl,sl,.ref s',_,_,_,S.cs.idxOf nx,hj,rfl,rfl,AE.of hF9.es,Kl (fun p c z => G1 z) hF9.st,G1 hx,hsh,hsx,hdx,?_,hy,hno,_,rfl,t,_,_,_,rfl,rfl,A2.of a1,rfl,(by show 2≤sizeLine; decide),fun tp htp => ?_⟩
          · rw [List.length_map]; omega
          have s10:=Ag htp (.tup [.int ((S.cs.idxOf nx:Nat):Int),.ref dd])
          have etp:(upd H9 tp (.tup [.int ((S.cs.idxOf nx:Nat):Int),.ref dd])) tp=some (.tup [.int ((S.cs.idxOf nx:Nat):Int),.ref dd]):=Ac
          generalize upd H9 tp (.tup [.int ((S.cs.idxOf nx:Nat):Int),.ref dd])=H10 at s10 etp ⊢
          have erw10:=s10 _ _ erw9
          refine ⟨rw',_,_,rfl,rfl,erw10,by rw [hvl]; exact Av (by omega),?_⟩
          have t10:TS H10 (upd H10 rw' (.lst (vs ++ [.ref tp]))):=Ci erw10
          have t910:=(A8 s10).trans t10
          exact ⟨_,_,_,ps,qs,vs ++ [.ref tp],rfl,AR (s09.trans s10) frw _,((hF9.same s10).other erw10 nw1 nw2 nw3 nw4).setRow,Ac,
            Z.snoc (hvs9.mono fun _ _ z => BQ.ts t910 z) ⟨tp,.ref dd,rfl,t10 _ _ etp,dd,rfl,t910 _ _ hdd⟩,hSt9.ts t910,t910 _ _ hWy9,hI.row,hn,hlt,by show (S.row ++ [_]).length=k + 1; rw [List.length_append,hrk]; rfl,hco⟩
        · rw [show ((S.cs.map (JH R)).any fun e => e.eqv (JH R nx))=false from (Pu hqv).trans (by simpa using hin)]
          refine Bi ?_
          rw [if_neg hin] at hco
          refine ⟨_,rfl,sl,_,rfl,hF9.es,fun h30' => ?_,fun hne => ?_⟩
          · have hc30:S.cs.length=30:=by rw [List.length_map,hF9.st.1] at h30'; exact h30'
            rw [if_pos hc30] at hco
            rw [← hco] at q
            exact q H9 s09
          have hc30:S.cs.length≠30:=by rw [List.length_map,hF9.st.1] at hne; exact hne
          rw [if_neg hc30] at hco
          have hpl:(ps.map V.ref).length=S.cs.length:=by rw [List.length_map,hF9.st.1]
          have hql:(qs.map V.ref).length=S.cs.length:=by rw [List.length_map,hF9.wt.1,hI.wl]
          refine ⟨_,rfl,.inl ⟨rfl,_,AE.of hF9.es⟩,_,rfl,t,_,_,_,rfl,rfl,A2.of a1,rfl,sl,_,_,rfl,rfl,hF9.es,by rw [hpl]; exact Av (by omega),?_⟩
          have tA:TS H9 (upd H9 sl (.lst (ps.map V.ref ++ [.ref s']))):=Ci hF9.es
          have ewA:(upd H9 sl (.lst (ps.map V.ref ++ [.ref s']))) wl=some (.lst (qs.map V.ref)):=by rw [Ak hF9.n1.symm]; exact hF9.ew
          have erA:(upd H9 sl (.lst (ps.map V.ref ++ [.ref s']))) rw'=some (.lst vs):=by rw [Ak nw1]; exact erw9
          have sA:Ao H (upd H9 sl (.lst (ps.map V.ref ++ [.ref s']))):=AR s09 fsl _
          generalize hHA:upd H9 sl (.lst (ps.map V.ref ++ [.ref s']))=HA at tA ewA erA sA ⊢
          refine ⟨_,rfl,.inl ⟨rfl,_,AE.of ewA⟩,_,rfl,_,rfl,(by show 1≤sizeLine; decide),fun t1 ht1 => ?_⟩
          have sB:=Ag ht1 (.tup [.int (k:Int)])
          have et1:(upd HA t1 (.tup [.int (k:Int)])) t1=some (.tup [.int (k:Int)]):=Ac
          generalize upd HA t1 (.tup [.int (k:Int)])=HB at sB et1 ⊢
          have hWyB:HB wy=some (.tup (wn.map V.int)):=sB _ _ (tA _ _ hWy9)
          have goal:∀ (q1:Addr) (HC:Hp),Ao HA HC→E9 HC q1 (wn ++ [(k:Int)])→∃ (S':FS) (ps' qs':List Addr),BY R (upd HC wl (.lst (qs.map V.ref ++ [.ref q1]))) sl wl rl ps' qs' rs S'∧FI R S'∧S'.rows=S.rows∧S'.cs=S.cs ++ [nx]∧S'.ws=S.ws ++ [wn ++ [(k:Int)]]∧TS H9 (upd HC wl (.lst (qs.map V.ref ++ [.ref q1])))∧(upd HC wl (.lst (qs.map V.ref ++ [.ref q1]))) rw'=some (.lst vs)∧Ao H (upd HC wl (.lst (qs.map V.ref ++ [.ref q1]))):=by
            intro q1 HC sC hq1
            refine ⟨⟨S.cs ++ [nx],S.ws ++ [wn ++ [(k:Int)]],S.rows,[]⟩,ps ++ [s'],qs ++ [q1],hF9.push hx (by rw [hHA]; exact sC) hq1,hI.push hxr hin hc30 (by rw [List.length_append]; simp only [List.length_cons,List.length_nil]; omega),rfl,rfl,rfl,(tA.trans (A8 sC)).trans (Ci (sC _ _ ewA)),by rw [Ak nw2]; exact sC _ _ erA,AR (sA.trans sC) fwl _⟩
          refine ⟨wy,t1,_,_,rfl,rfl,A2.of hWyB,A2.of et1,(fun z => by cases z),?_,fun hz => ?_,fun hz q1 hq1 => ?_⟩
          · rw [List.length_map]; exact Fo (by show _ + 1≤1000; omega)
          · have hw0:wn=[]:=List.map_eq_nil_iff.mp hz
            refine ⟨wl,_,_,rfl,rfl,sB _ _ ewA,by rw [hql]; exact Av (by omega),?_⟩
            obtain ⟨S',ps',qs',hF',hI',er1,ec1,ew1,t9',erw',s0'⟩:=goal t1 HB sB (by show HB t1=_; rw [et1,hw0]; rfl)
            generalize upd HB wl (.lst (qs.map V.ref ++ [.ref t1]))=HD at hF' t9' erw' s0' ⊢
            have hin':nx∈S'.cs:=by rw [ec1]; exact List.mem_append_right _ (List.mem_singleton.mpr rfl)
            have hqv':∀ x∈S'.cs,(JH R x).eqv (JH R nx)=decide (x=nx):=fun x hx => Kp hG (hI'.rc x hx) hxr
            have hsh':∀ e∈S'.cs.map (JH R),SeqAt.shaped e=true:=fun e he => by
              obtain ⟨x,_,rfl⟩:=List.mem_map.mp he
              exact Ct (DX R x) (by decide)
            obtain ⟨hj,hy,hno⟩:=NN hqv' hin'
            have hix:S'.cs.idxOf nx=S.cs.length:=by rw [ec1,List.idxOf_append,if_neg hin,List.idxOf_cons_self,Nat.zero_add]
            have h30':=hI'.le
            have a1':=t9' _ _ a1
            refine ⟨_,rfl,.inl ⟨rfl,_,AE.of erw'⟩,_,rfl,.inl ⟨rfl,_,AE.of hF'.es⟩,_,rfl,t,_,_,_,rfl,rfl,A2.of a1',rfl,sl,.ref s',_,_,_,S'.cs.idxOf nx,hj,rfl,rfl,AE.of hF'.es,Kl (fun p c z => G1 z) hF'.st,G1 (hx.ts t9'),hsh',hsx,hdx,?_,hy,hno,_,rfl,t,_,_,_,rfl,rfl,A2.of a1',rfl,(by show 2≤sizeLine; decide),fun tp htp => ?_⟩
            · rw [List.length_map]; omega
            have s10:=Ag htp (.tup [.int ((S'.cs.idxOf nx:Nat):Int),.ref dd])
            have etp:(upd HD tp (.tup [.int ((S'.cs.idxOf nx:Nat):Int),.ref dd])) tp=some (.tup [.int ((S'.cs.idxOf nx:Nat):Int),.ref dd]):=Ac
            generalize upd HD tp (.tup [.int ((S'.cs.idxOf nx:Nat):Int),.ref dd])=H10 at s10 etp ⊢
            have erw10:=s10 _ _ erw'
            refine ⟨rw',_,_,rfl,rfl,erw10,by rw [hvl]; exact Av (by omega),?_⟩
            have t10:TS H10 (upd H10 rw' (.lst (vs ++ [.ref tp]))):=Ci erw10
            have t910:=t9'.trans ((A8 s10).trans t10)
            rw [hix] at etp
            refine ⟨⟨S'.cs,S'.ws,S'.rows,S.row ++ [(((S.cs.length:Nat):Int),dE)]⟩,_,_,ps',qs',vs ++ [.ref tp],rfl,AR (s0'.trans s10) frw _,((hF'.same s10).other erw10 nw1 nw2 nw3 nw4).setRow,Ac,
              Z.snoc (hvs9.mono fun _ _ z => BQ.ts t910 z) ⟨tp,.ref dd,rfl,t10 _ _ etp,dd,rfl,t910 _ _ hdd⟩,hSt9.ts t910,t910 _ _ hWy9,hI'.row,by rw [← hn,er1],by show n < S'.cs.length; rw [ec1,List.length_append]; omega,by show (S.row ++ [_]).length=k + 1; rw [List.length_append,hrk]; rfl,?_⟩
            rw [ec1,ew1,er1]
            exact hco
          · refine ⟨wl,_,_,rfl,rfl,(sB.trans (Ag hq1 _)) _ _ ewA,by rw [hql]; exact Av (by omega),?_⟩
            obtain ⟨S',ps',qs',hF',hI',er1,ec1,ew1,t9',erw',s0'⟩:=goal q1 (upd HB q1 (.tup (wn.map V.int ++ [.int (k:Int)]))) (sB.trans (Ag hq1 _)) (by show (upd HB q1 _) q1=_; rw [Ac,List.map_append]; rfl)
            generalize upd (upd HB q1 (.tup (wn.map V.int ++ [.int (k:Int)]))) wl (.lst (qs.map V.ref ++ [.ref q1]))=HD at hF' t9' erw' s0' ⊢
            have hin':nx∈S'.cs:=by rw [ec1]; exact List.mem_append_right _ (List.mem_singleton.mpr rfl)
            have hqv':∀ x∈S'.cs,(JH R x).eqv (JH R nx)=decide (x=nx):=fun x hx => Kp hG (hI'.rc x hx) hxr
            have hsh':∀ e∈S'.cs.map (JH R),SeqAt.shaped e=true:=fun e he => by
              obtain ⟨x,_,rfl⟩:=List.mem_map.mp he
              exact Ct (DX R x) (by decide)
            obtain ⟨hj,hy,hno⟩:=NN hqv' hin'
            have hix:S'.cs.idxOf nx=S.cs.length:=by rw [ec1,List.idxOf_append,if_neg hin,List.idxOf_cons_self,Nat.zero_add]
            have h30':=hI'.le
            have a1':=t9' _ _ a1
            refine ⟨_,rfl,.inl ⟨rfl,_,AE.of erw'⟩,_,rfl,.inl ⟨rfl,_,AE.of hF'.es⟩,_,rfl,t,_,_,_,rfl,rfl,A2.of a1',rfl,sl,.ref s',_,_,_,S'.cs.idxOf nx,hj,rfl,rfl,AE.of hF'.es,Kl (fun p c z => G1 z) hF'.st,G1 (hx.ts t9'),hsh',hsx,hdx,?_,hy,hno,_,rfl,t,_,_,_,rfl,rfl,A2.of a1',rfl,(by show 2≤sizeLine; decide),fun tp htp => ?_⟩
            · rw [List.length_map]; omega
            have s10:=Ag htp (.tup [.int ((S'.cs.idxOf nx:Nat):Int),.ref dd])
            have etp:(upd HD tp (.tup [.int ((S'.cs.idxOf nx:Nat):Int),.ref dd])) tp=some (.tup [.int ((S'.cs.idxOf nx:Nat):Int),.ref dd]):=Ac
            generalize upd HD tp (.tup [.int ((S'.cs.idxOf nx:Nat):Int),.ref dd])=H10 at s10 etp ⊢
            have erw10:=s10 _ _ erw'
            refine ⟨rw',_,_,rfl,rfl,erw10,by rw [hvl]; exact Av (by omega),?_⟩
            have t10:TS H10 (upd H10 rw' (.lst (vs ++ [.ref tp]))):=Ci erw10
            have t910:=t9'.trans ((A8 s10).trans t10)
            rw [hix] at etp
            refine ⟨⟨S'.cs,S'.ws,S'.rows,S.row ++ [(((S.cs.length:Nat):Int),dE)]⟩,_,_,ps',qs',vs ++ [.ref tp],rfl,AR (s0'.trans s10) frw _,((hF'.same s10).other erw10 nw1 nw2 nw3 nw4).setRow,Ac,
              Z.snoc (hvs9.mono fun _ _ z => BQ.ts t910 z) ⟨tp,.ref dd,rfl,t10 _ _ etp,dd,rfl,t910 _ _ hdd⟩,hSt9.ts t910,t910 _ _ hWy9,hI'.row,by rw [← hn,er1],by show n < S'.cs.length; rw [ec1,List.length_append]; omega,by show (S.row ++ [_]).length=k + 1; rw [List.length_append,hrk]; rfl,?_⟩
            rw [ec1,ew1,er1]
            exact hco
    · rintro σ H8 ⟨S,v7,v8,ps,qs,vs,rfl,(s08:Ao _ _),hF,erw,hvs,hSt,hWy,hI,hn,hlt,hrk,hco⟩
      have lr:(rs.map V.ref).length=n:=by rw [List.length_map,hF.rt.1,hn]
      have h30:=hI.le
      refine ⟨_,rfl,.inl ⟨rfl,_,AE.of hF.er⟩,_,rfl,rl,_,_,rfl,rfl,hF.er,by rw [lr]; exact Av (by omega),?_⟩
      refine ⟨⟨S.cs,S.ws,S.rows ++ [S.row],[]⟩,_,_,_,_,_,ps,qs,rs ++ [rw'],rfl,AR s08 frl _,hF.rowed erw hvs nw1 nw2 nw3,hI.row,by show (S.rows ++ [S.row]).length=n + 1; rw [List.length_append,hn]; rfl,hlt,?_⟩
      rw [show 31 - (n + 1)=30 - n by omega]
      exact hco
  · rw [decide_eq_false (show ¬ ((rs.map V.ref).length:Int) < ((ps.map V.ref).length:Int) by rw [lr,ls]; omega)]
    refine A1 ?_
    rw [J8 hlt] at hfo
    rw [← hfo] at q
    obtain ⟨vss,hL,hZ⟩:=Ii hF.rt
    refine ⟨_,rfl,_,rfl,_,rfl,?_⟩
    intro fl dx hfl hdx nfd
    have kc:Ao H6 (upd (upd H6 dx (.own fl)) fl (.ins CF dx [])):=fun x o e => by
      rw [Ak (Al e hfl),Ak (Al e hdx)]; exact e
    refine ⟨fl,dx,sl,rl,wl,rs,_,vss,_,rfl,Ac,kc _ _ hF.es,kc _ _ hF.er,hL.mono fun _ _ z => kc _ _ z,kc _ _ hF.ew,?_,fun s' r' y' ps' H7 k7 o1 o2 o3 o4 o5 o6 o7 o8 o9 => ⟨rfl,?_⟩⟩
    · rw [List.length_map] at lr; omega
    have s67:Ao H6 H7:=fun x o e => k7 _ _ (kc _ _ e) (Al e hfl)
    exact q fl s' r' y' ps ps' qs H7 (s06.trans s67) ⟨⟨dx,o1⟩,o3,hF.st.mono fun _ _ z => z.ts (A8 s67),o5,Mo (A8 s67) o6 hZ,o9,hF.wt.mono fun _ _ z => s67 _ _ z⟩ hI (by omega)
end
end Toy
namespace Toy
open PySem L2
seal PySem.wpAny
section
variable {P:Program} {w:World} {K:PySem.W.Frag} {mg:Str→Option Value} {base:Heap}
def K5 (H:Hp) (p:Addr) (c:List Int):Prop:=H p=some (.lst (c.map V.int))∧c≠[]
def TI (H H':Hp):Prop:=TS H H'∧∀ p c,K5 H p c→K5 H' p c
theorem Hy {H H':Hp} (s:Ao H H'):TI H H':=⟨A8 s,fun p c h => ⟨s _ _ h.1,h.2⟩⟩
theorem TI.trans {H H' H'':Hp} (a:TI H H') (b:TI H' H''):TI H H'':=⟨a.1.trans b.1,fun p c h => b.2 p c (a.2 p c h)⟩
theorem int_ref {c:List Int} {ps:List Addr} (hc:c≠[]) (h:c.map V.int=ps.map V.ref):False:=by
  cases c with
  | nil => exact hc rfl
  | cons x r =>
    cases ps with
    | nil => cases h
    | cons p q => injection h with h _; cases h
theorem ch_ne {H:Hp} {l p:Addr} {ps:List Addr} {c:List Int} (hl:H l=some (.lst (ps.map V.ref))) (h:K5 H p c):p≠l:=fun z => by
  obtain ⟨h1,h2⟩:=h
  rw [z,hl] at h1
  injection h1 with h1
  injection h1 with h1
  exact int_ref h2 h1.symm
theorem GF {H:Hp} {l:Addr} {ps:List Addr} {o:HO} (hl:H l=some (.lst (ps.map V.ref))):TI H (upd H l o):=⟨Ci hl,fun p c h => ⟨by rw [Ak (ch_ne hl h)]; exact h.1,h.2⟩⟩
structure CD (H:Hp) (cl wl:Addr) (ps qs:List Addr) (S:FS):Prop where
  ec:H cl=some (.lst (ps.map V.ref))
  ct:Z (K5 H) ps S.cs
  ew:H wl=some (.lst (qs.map V.ref))
  wt:Z (E9 H) qs S.ws
  n1:cl≠wl
section
variable {H H':Hp} {cl wl:Addr} {ps qs:List Addr} {S:FS}
theorem CD.same (h:CD H cl wl ps qs S) (s:Ao H H'):CD H' cl wl ps qs S:=⟨s _ _ h.ec,h.ct.mono fun _ _ z => (Hy s).2 _ _ z,s _ _ h.ew,h.wt.mono fun _ _ z => s _ _ z,h.n1⟩
theorem CD.setRow (h:CD H cl wl ps qs S) {rs:List (List Hs)} {r:List Hs}:CD H cl wl ps qs ⟨S.cs,S.ws,rs,r⟩:=⟨h.ec,h.ct,h.ew,h.wt,h.n1⟩
theorem CD.other (h:CD H cl wl ps qs S) {l:Addr} {xs:List Addr} {o:HO} (hl:H l=some (.lst (xs.map V.ref))) (a1:l≠cl) (a2:l≠wl):CD (upd H l o) cl wl ps qs S:=by
  have t:TI H (upd H l o):=GF hl
  exact ⟨by rw [Ak a1.symm]; exact h.ec,h.ct.mono fun _ _ z => t.2 _ _ z,by rw [Ak a2.symm]; exact h.ew,h.wt.mono fun _ _ z => t.1 _ _ z,h.n1⟩
theorem CD.push (h:CD H cl wl ps qs S) {p q:Addr} {c w:List Int} {r:List Hs} (hp:K5 H p c) (s:Ao (upd H cl (.lst (ps.map V.ref ++ [.ref p]))) H') (hq:E9 H' q w) :
    CD (upd H' wl (.lst (qs.map V.ref ++ [.ref q]))) cl wl (ps ++ [p]) (qs ++ [q]) ⟨S.cs ++ [c],S.ws ++ [w],S.rows,r⟩:=by
  have t1:TI H (upd H cl (.lst (ps.map V.ref ++ [.ref p]))):=GF h.ec
  have ew:H' wl=some (.lst (qs.map V.ref)):=s _ _ (by rw [Ak h.n1.symm]; exact h.ew)
  have t2:=(t1.trans (Hy s)).trans (GF (o:=.lst (qs.map V.ref ++ [.ref q])) ew)
  refine ⟨?_,?_,?_,?_,h.n1⟩
  · rw [Ak h.n1,s _ _ Ac,List.map_append]; rfl
  · exact Z.snoc (h.ct.mono fun _ _ z => t2.2 _ _ z) (t2.2 _ _ hp)
  · rw [Ac,List.map_append]; rfl
  · exact Z.snoc (h.wt.mono fun _ _ z => t2.1 _ _ z) ((GF ew).1 _ _ hq)
end
def Jc (c:List Int):PyData:=.list (c.map PyData.int)
theorem K1 (c c':List Int):(Jc c).eqv (Jc c')=decide (c=c'):=by
  unfold Jc
  simp only [PyData.eqv,GU]
theorem Ec (c:List Int):HZ 1 (Jc c):=L8 (Fu c)
theorem Hg {K:PySem.W.Frag} {H:Hp} {p:Addr} {c:List Int} (h:K5 H p c):K7 K H (.ref p) (Jc c):=.lst (AE.of h.1) (Gn c)
def K2 (cl wl:Addr) (H H':Hp):Prop := ∀ x o,H x=some o→x≠cl→x≠wl→H' x=some o
def PB (cl wl:Addr) (H:Hp) (Q:VK) (R:List Ai):Except Fa FS→Prop
  | .error (.clash evs i j) => ∀ (t te tp:Addr) (H':Hp),K2 cl wl H H'→H' t=some (.tup [.ref te,.ref tp])→H' te=some (.tup (evs.map V.int))→H' tp=some (.tup [.int (i:Int),.int (j:Int)])→Q (.ref t) H'
  | .error .many => True
  | .ok S => ∀ (t rw':Addr) (es ps qs:List Addr) (H':Hp),K2 cl wl H H'→H' t=some (.tup [.non,.ref rw'])→H rw'=Option.none→H' rw'=some (.lst (es.map V.ref))→Z (BQ H') (es.map V.ref) S.row→CD H' cl wl ps qs S→FI R S→TS H H'→Q (.ref t) H'
def JK:Sp:=fun vs H Q _ => ∃ (r a cl wl:Addr) (ps qs:List Addr) (R:List Ai) (A:List Aq) (S:FS) (n:Nat),vs=[.ref r,.ref a,.ref cl,.ref wl,.int n]∧Bq H r R∧BO H a A∧AY R∧(∀ x∈A,AW R x)∧A.length≤100∧E2 R≤29 ∧
  CD H cl wl ps qs S∧r≠cl∧r≠wl∧a≠cl∧a≠wl∧FI R S∧n < S.cs.length∧PB cl wl H Q R (Ho R A n S)
theorem DB:AA ["rooms", "arrows", "choices", "ways", "here", "row", "event", "taken", "pair", "choice"] ["rooms", "arrows", "choices", "ways", "here"] (Ae CL):=⟨rfl,rfl,rfl,by decide +kernel,rfl,by decide +kernel,by decide +kernel⟩
theorem Lv {f C fk ft fp fb:Addr} {fd fdk fdt fdp fdb:FuncData} (D:Am K mg "_law_fold_row" CL ["rooms", "arrows", "choices", "ways", "here"] f fd) (T:Dn K mg C) (Dk:Am K mg "_law_kept" ES ["rooms", "choice"] fk fdk)
    (Dt:Am K mg "_law_takeable" DV ["rooms", "arrows", "kept", "event"] ft fdt) (Gt:AD P w K mg base A9 2 ft fdt ["rooms", "arrows", "kept", "event"] (Ks K)) (Dp:Am K mg "_law_pair" G4 ["rooms", "arrows", "numbers"] fp fdp) (Gp:AD P w K mg base A9 3 fp fdp ["rooms", "arrows", "numbers"] Oe)
    (Db:Am K mg "_law_behind" Dy ["rooms", "arrows", "choice", "taken"] fb fdb) (Gb:AD P w K mg base A9 4 fb fdb ["rooms", "arrows", "choice", "taken"] HW):AD P w K mg base A9 5 f fd ["rooms", "arrows", "choices", "ways", "here"] JK:=by
  have Gk:AD P w K mg base A9 1 fk fdk ["rooms", "choice"] Kt:=KI Dk T
  refine D.fn.ok DB (fun vs H Q E h => ?_) (fun cdv A outer s H vs Q E hr h => ?_)
  · obtain ⟨r,a,cl,wl,ps,qs,R,As,S,n,rfl,_⟩:=h
    rfl
  obtain ⟨r,a,cl,wl,ps,qs,R,As,S,n,rfl,hR,hAt,hG,hA,hal,hfew,hF,nrc,nrw,nac,naw,hI,hlt,q⟩:=h
  have hr1:Ca 1 _:=hr.mono (by decide)
  refine ⟨_,Ad (Ar (i := 5) DB.nd rfl (Or.inl rfl) (Bf Ab))
    (Ad (Bj PassesOwn.never rfl (AZ rfl T.range (Aa Ah Ab)) (AI (i := 6) DB.nd rfl (Or.inl rfl))
      (Ad (Ar (i := 7) DB.nd rfl (Or.inl rfl) (Ap Gt (hr.mono (by decide)) rfl Dt.mg Dt.fn.kp Dt.bd .nil AF (Aa (pv 0) (Aa (pv 1) (Aa (Ap Gk hr1 rfl Dk.mg Dk.fn.kp Dk.bd .nil AF (Aa (pv 0) (Aa (An Au (pv 2) (pv 4) (fun _ _ => rfl)) Ab))) (Aa (pv 6) Ab))))))
      (Ad (Ar (i := 8) DB.nd rfl (Or.inl rfl) (Ap Gp (hr.mono (by decide)) rfl Dp.mg Dp.fn.kp Dp.bd .nil AF (Aa (pv 0) (Aa (pv 1) (Aa (pv 7) Ab)))))
      (Ad (A0 (AB FY (pv 8) Cj (AT _)) (Aj (AM (AX (Aa (AH HJ (An Au (pv 3) (pv 4) (fun _ _ => rfl)) (AX (Aa (pv 6) Ab))) (Aa (pv 8) Ab))))) AJ)
      (Ad (Ar (i := 9) DB.nd rfl (Or.inl rfl) (Ap Gb hr rfl Db.mg Db.fn.kp Db.bd .nil AF (Aa (pv 0) (Aa (pv 1) (Aa (An Au (pv 2) (pv 4) (fun _ _ => rfl)) (Aa (pv 7) Ab))))))
      (Ad (A0 (AB (JU hr.units) (pv 9) (pv 2) (by with_unfolding_all rfl))
        (Ad (AS (BC PySem.F.plainAttrs_list PySem.F.slot_list_append PySem.F.type_list_append AU (pv 2) (Aa (pv 9) Ab)))
        (Aj (AS (BC PySem.F.plainAttrs_list PySem.F.slot_list_append PySem.F.type_list_append AU (pv 3) (Aa (AH HJ (An Au (pv 3) (pv 4) (fun _ _ => rfl)) (AX (Aa (pv 6) Ab))) Ab))))) AJ)
      (Aj (AS (BC PySem.F.plainAttrs_list PySem.F.slot_list_append PySem.F.type_list_append AU (pv 5) (Aa (AX (Aa (BC PySem.F.plainAttrs_list PySem.F.slot_list_index PySem.F.type_list_index (JY hr.units) (pv 2) (Aa (pv 9) Ab))
        (Aa (Ba Bv (by rfl) T.tup (by decide +kernel) (Aa (Cg ["k", "arrows"] [Option.none,some 1] rfl (Bu (pv 7)) (fun _ => AI (i := 0) (show (["k", "arrows"]:List Str).Nodup by decide +kernel) rfl (Or.inl rfl)) (fun _ => Cr)
        (fun _ => An Aw (An Au (pv 1) (pv 0) (fun _ _ => rfl)) Ah (fun _ _ => rfl))
        (N:=["rooms", "arrows", "choices", "ways", "here", "row", "event", "taken", "pair", "choice"]) (ks:=(Ae CL).names) rfl rfl (by decide +kernel) (by decide +kernel) (by decide +kernel) (by decide +kernel)) Ab)) Ab))) Ab))))))))))
    (Aj (AM (AX (Aa Cj (Aa (pv 5) Ab)))))),?_⟩
  obtain ⟨cn,hcn⟩ : ∃ cn,S.cs[n]? = some cn:=⟨_,List.getElem?_eq_getElem hlt⟩
  obtain ⟨wn,hwn⟩ : ∃ wn,S.ws[n]? = some wn:=⟨_,List.getElem?_eq_getElem (by rw [hI.wl]; exact hlt)⟩
  have hrc:=hI.rc cn (List.mem_of_getElem? hcn)
  have hwln:=hI.wb n wn hwn
  have h30:=hI.le
  have hfr:Ho R As n S=D1 R As cn wn ([0,1,2,3]:List Int) ⟨S.cs,S.ws,S.rows,[]⟩:=by
    unfold Ho
    rw [List.getD_eq_getElem?_getD,hcn,List.getD_eq_getElem?_getD,hwn]; rfl
  rw [hfr] at q
  generalize hres:D1 R As cn wn ([0,1,2,3]:List Int) ⟨S.cs,S.ws,S.rows,[]⟩ = res at q
  refine ⟨(by show 0≤sizeLine; decide),fun rw' hrw => ?_⟩
  have s1:=Ag hrw (.lst [])
  have er1:(upd H rw' (.lst [])) rw'=some (.lst []):=Ac
  have nw1:rw'≠cl:=(Al hF.ec hrw).symm
  have nw2:rw'≠wl:=(Al hF.ew hrw).symm
  generalize upd H rw' (.lst [])=H1 at s1 er1 ⊢
  refine ⟨4,rfl,by decide,by decide,?_⟩
  obtain ⟨rps,hrr,hrI⟩:=hR.ob
  obtain ⟨aps,har,haI⟩:=hAt.ob
  refine Br (fun k σ H8 => ∃ S v6 v7 v8 v9 ps qs es,σ = [some (.ref r),some (.ref a),some (.ref cl),some (.ref wl),some (.int n),some (.ref rw'),v6,v7,v8,v9]∧K2 cl wl H H8∧TS H H8∧CD H8 cl wl ps qs S∧H8 rw'=some (.lst (es.map V.ref))∧Z (BQ H8) (es.map V.ref) S.row∧FI R S∧S.cs[n]? = some cn∧S.ws[n]? = some wn∧S.row.length=k ∧
      D1 R As cn wn (([0,1,2,3]:List Int).drop k) S=res)
    ⟨⟨S.cs,S.ws,S.rows,[]⟩,_,_,_,_,ps,qs,[],rfl,fun x o e _ _ => s1 _ _ e,A8 s1,(hF.same s1).setRow,er1,Z.nil,hI.row,hcn,hwn,rfl,hres⟩ ?_ ?_
  · rintro k σ H8 hk ⟨S,v6,v7,v8,v9,ps,qs,es,rfl,k8,t8,hF,erw,hes,hI,hcn,hwn,hrk,hco⟩
    have ek:(0:Int) + (k:Int)=(k:Int):=by omega
    rw [ek]
    have hk4:k < 4:=hk
    rw [J9 hk4] at hco
    have h30:=hI.le
    obtain ⟨pc,hpc,hPc⟩:=hF.ct.at hcn
    obtain ⟨pw,hpw,hPw⟩:=hF.wt.at hwn
    have aC:Jl (ps.map V.ref) (n:Int)=some (.ref pc):=BN (by rw [List.getElem?_map,hpc]; rfl)
    have aW:Jl (qs.map V.ref) (n:Int)=some (.ref pw):=BN (by rw [List.getElem?_map,hpw]; rfl)
    have hR8:Bq H8 r R:=⟨rps,k8 _ _ hrr nrc nrw,⟨hrI.1,fun i p o x y => t8 _ _ (hrI.2 i p o x y)⟩⟩
    have hA8:BO H8 a As:=⟨aps,k8 _ _ har nac naw,⟨haI.1,fun i p o x y => t8 _ _ (haI.2 i p o x y)⟩⟩
    refine ⟨_,rfl,_,rfl,_,rfl,_,rfl,_,rfl,cl,_,_,_,rfl,rfl,AE.of hF.ec,aC,r,pc,R,cn,rfl,hR8,hG,hPc.1,hrc.ok.len,fun kl H9 hkl s9 e9 => ?_⟩
    refine ⟨_,rfl,r,a,kl,R,As,kI R cn,(k:Int),rfl,hR8.same s9,hA8.same s9,hG,hA,hal,AE.of e9,fun tl H10 htl s10 e10 => ?_⟩
    have s810:=s9.trans s10
    have e10':H10 tl=some (.lst (cV (tkL R As cn (k:Int)))):=e10
    have hlt':∀ y∈tkL R As cn (k:Int),y < As.length:=fun y hy => DM y hy
    have hris:(tkL R As cn (k:Int)).Pairwise (· < ·):=La R As _ _
    have hln:(tkL R As cn (k:Int)).length≤100:=Nat.le_trans (EH R As (kI R cn) (k:Int)) hal
    refine ⟨_,rfl,_,rfl,_,rfl,r,a,tl,R,As,tkL R As cn (k:Int),rfl,hR8.same s810,hA8.same s810,hG,hA,e10',hlt',hris,?_⟩
    cases hp:Bo (Eb R As) (tkL R As cn (k:Int)) with
    | some ij =>
      obtain ⟨i',j'⟩:=ij
      intro pt H11 s11 e11
      have s811:=s810.trans s11
      have hF11:=hF.same s811
      refine ⟨_,rfl,rfl,_,rfl,?_⟩
      refine Bi ?_
      have hfe:res = .error (.clash (wn ++ [(k:Int)]) i' j'):=by
        rw [← hco]
        unfold E5
        rw [hp]
      rw [hfe] at q
      have fin:∀ (te:Addr) (H12:Hp),Ao H11 H12→H12 te=some (.tup ((wn ++ [(k:Int)]).map V.int))→∀ (t:Addr),H12 t=Option.none→Q (.ref t) (upd H12 t (.tup [.ref te,.ref pt])):=fun te H12 s12 ete t ht => by
        have s13:=Ag ht (.tup [.ref te,.ref pt])
        have s813:=s811.trans (s12.trans s13)
        exact q t te pt _ (fun x o e n1 n2 => s813 _ _ (k8 _ _ e n1 n2)) Ac (s13 _ _ ete) ((s12.trans s13) _ _ e11)
      refine ⟨_,rfl,_,rfl,wl,_,_,_,rfl,rfl,AE.of hF11.ew,aW,_,rfl,(by show 1≤sizeLine; decide),fun t1 ht1 => ?_⟩
      have sB:=Ag ht1 (.tup [.int (k:Int)])
      have et1:(upd H11 t1 (.tup [.int (k:Int)])) t1=some (.tup [.int (k:Int)]):=Ac
      have hW:=sB _ _ (s811 _ _ hPw)
      generalize upd H11 t1 (.tup [.int (k:Int)])=HB at sB et1 hW ⊢
      refine ⟨pw,t1,_,_,rfl,rfl,A2.of hW,A2.of et1,(fun z => by cases z),?_,fun hz => ?_,fun hz q1 hq1 => ?_⟩
      · rw [List.length_map]; exact Fo (by show _ + 1≤1000; omega)
      · have hw0:wn=[]:=List.map_eq_nil_iff.mp hz
        refine ⟨_,rfl,(by show 2≤sizeLine; decide),fun t ht => fin t1 HB sB (by rw [et1,hw0]; rfl) t ht⟩
      · refine ⟨_,rfl,(by show 2≤sizeLine; decide),fun t ht => fin q1 _ (sB.trans (Ag hq1 _)) (by rw [Ac,List.map_append]; rfl) t ht⟩
    | none =>
      intro H11 s11
      have s811:=s810.trans s11
      have hF11:=hF.same s811
      refine ⟨_,rfl,rfl,_,rfl,?_⟩
      refine A1 ?_
      have hfs:E5 R As cn wn S (k:Int)=KS R As cn wn S (k:Int):=by
        unfold E5
        rw [hp]
      rw [hfs] at hco
      unfold KS at hco
      have hxr:RC R (nxE R As cn (k:Int)):=Kn hG hA hrc hp
      have hPc11:=(Hy s811).2 _ _ hPc
      refine ⟨_,rfl,_,rfl,_,rfl,_,rfl,cl,_,_,_,rfl,rfl,AE.of hF11.ec,aC,_,rfl,r,a,pc,tl,R,As,cn,tkL R As cn (k:Int),rfl,hR8.same s811,hA8.same s811,hG,hA,hPc11.1,hrc.ok.len,s11 _ _ e10',hlt',fun nc H12 s12 e12 => ?_⟩
      have s812:=s811.trans s12
      have hF12:=hF.same s812
      have hne:nxE R As cn (k:Int)≠[]:=fun z => by
        have:=hxr.ok.len
        rw [z] at this
        have hp:=hG.tree.pos
        rw [Ay] at hp
        simp only [List.length_nil] at this
        omega
      have hx:K5 H12 nc (nxE R As cn (k:Int)):=⟨e12,hne⟩
      have etl:H12 tl=some (.lst (cV (tkL R As cn (k:Int)))):=s12 _ _ (s11 _ _ e10')
      have hddE:N3 R As cn (k:Int)=AV As (tkL R As cn (k:Int)):=rfl
      rw [hddE] at hco
      generalize nxE R As cn (k:Int)=nx at hx hxr hco hne
      generalize tkL R As cn (k:Int)=l at etl hco hlt' hln
      have erw12:=s812 _ _ erw
      have hes12:=hes.mono fun _ _ z => BQ.ts (A8 s812) z
      have hvl:es.length=k:=by have:=hes.1; rw [List.length_map,hrk] at this; exact this
      have hqv:∀ x∈S.cs,(Jc x).eqv (Jc nx)=decide (x=nx):=fun x _ => K1 x nx
      have hsh:∀ e∈S.cs.map Jc,SeqAt.shaped e=true:=fun e he => by
        obtain ⟨x,_,rfl⟩:=List.mem_map.mp he
        exact Ct (Ec x) (by decide)
      have hsx:SeqAt.shaped (Jc nx)=true:=Ct (Ec nx) (by decide)
      have hdx:(Jc nx).depth≤62:=Nat.le_trans (Ec nx).2.1 (by decide)
      have k12:K2 cl wl H H12:=fun x o e n1 n2 => s812 _ _ (k8 _ _ e n1 n2)
      have t12:TS H H12:=t8.trans (A8 s812)
      have hA12:BO H12 a As:=hA8.same s812
      have hc30:S.cs.length≠30:=fun z => by
        have:=Pj hfew hI.nd hI.rc
        omega
      refine ⟨_,rfl,_,rfl,cl,_,_,_,rfl,AE.of hF12.ec,Kl (fun p c z => Hg z) hF12.ct,Hg hx,hsh,hsx,hdx,_,rfl,?_⟩
      rw [if_pos rfl]
      by_cases hin:nx∈S.cs
      · rw [show ((S.cs.map Jc).any fun e => e.eqv (Jc nx))=true from (Pu hqv).trans (by simpa using hin)]
        refine A1 ?_
        rw [if_pos hin] at hco
        obtain ⟨S',HD,ps',qs',hF',hI',hcn',hwn',hin',tD,kD,erwD,etlD,hAD,hxD,hqv',hsh',hco',eHD,eS⟩ : ∃ (S':FS) (HD:Hp) (ps' qs':List Addr),CD HD cl wl ps' qs' S'∧FI R S'∧S'.cs[n]? = some cn∧S'.ws[n]? = some wn∧nx∈S'.cs∧TS H12 HD∧K2 cl wl H HD∧HD rw'=some (.lst (es.map V.ref))∧HD tl=some (.lst (cV l))∧BO HD a As∧K5 HD nc nx∧(∀ x∈S'.cs,(Jc x).eqv (Jc nx)=decide (x=nx))∧(∀ e∈S'.cs.map Jc,SeqAt.shaped e=true) ∧
            D1 R As cn wn (([0,1,2,3]:List Int).drop (k + 1)) ⟨S'.cs,S'.ws,S'.rows,S.row ++ [(((S'.cs.idxOf nx:Nat):Int),AV As l)]⟩ = res∧HD=H12∧S'=S:=⟨S,H12,ps,qs,hF12,hI,hcn,hwn,hin,fun _ _ e => e,k12,erw12,etl,hA12,hx,hqv,hsh,hco,rfl,rfl⟩
        rw [← eHD]
        obtain ⟨hj,hy,hno⟩:=NN hqv' hin'
        have h30':=hI'.le
        refine ⟨_,rfl,.inl ⟨rfl,_,AE.of erwD⟩,_,rfl,.inl ⟨rfl,_,AE.of hF'.ec⟩,_,rfl,cl,.ref nc,_,_,_,S'.cs.idxOf nx,hj,rfl,rfl,AE.of hF'.ec,Kl (fun p c z => Hg z) hF'.ct,Hg hxD,hsh',hsx,hdx,?_,hy,hno,_,rfl,tl,rfl,⟨_,AE.of etlD⟩,fun bk D hD => ?_⟩
        · rw [List.length_map]; omega
        obtain ⟨aps',x1,x2⟩:=hAD.ob
        refine Cc (K:=K) (xs:=cV l) (Pv:=fun j ys σ H' => ∃ v,σ = [v,some (.ref a)]∧ys=(AV As (l.take j)).map V.int∧Ao HD H') ⟨_,rfl,rfl,Ag hD _⟩ ?_ ?_ ?_
        · rintro j ys σ H' hj hDj ⟨v,rfl,_,(s':Ao _ _)⟩
          exact AE.of (s' _ _ etlD)
        · rintro j x ys σ H' hx hDj ⟨v,rfl,hys,(s':Ao _ _)⟩
          obtain ⟨k,hk,rfl⟩:=BX hx
          have hkl:=hlt' k (List.mem_of_getElem? hk)
          obtain ⟨p,hp1,hp2⟩:=By x2 hkl
          have hjl:=(List.getElem?_eq_some_iff.mp hk).1
          refine ⟨_,rfl,_,rfl,a,_,_,_,rfl,rfl,AE.of (s' _ _ x1),hp1,p,_,_,_,rfl,rfl,A2.of (s' _ _ hp2),rfl,hDj,?_,⟨_,rfl,?_,AR s' hD _⟩⟩
          · rw [hys,List.length_map]
            unfold AV
            rw [List.length_map,List.length_take]; exact Av (by omega)
          · unfold AV at hys ⊢
            rw [List.take_add_one,hk,List.map_append,List.map_append,← hys]
            show ys ++ [V.int As[k].2.2.2.2] = ys ++ [V.int (Hi As k).2.2.2.2]
            rw [B9 hkl]
        · rintro ys σ HE hDE ⟨v,rfl,hys,(sE:Ao _ _)⟩
          rw [Bb,List.take_length] at hys
          subst hys
          refine ⟨D,_,rfl,.inl ⟨AE.of hDE,fun dt hdt => ?_⟩⟩
          have sF:=Ag hdt (.tup ((AV As l).map V.int))
          have edt:(upd HE dt (.tup ((AV As l).map V.int))) dt=some (.tup ((AV As l).map V.int)):=Ac
          generalize upd HE dt (.tup ((AV As l).map V.int))=HF at sF edt ⊢
          have sDF:=sE.trans sF
          refine ⟨(by show 2≤sizeLine; decide),fun tp htp => ?_⟩
          have s10:=Ag htp (.tup [.int ((S'.cs.idxOf nx:Nat):Int),.ref dt])
          have etp:(upd HF tp (.tup [.int ((S'.cs.idxOf nx:Nat):Int),.ref dt])) tp=some (.tup [.int ((S'.cs.idxOf nx:Nat):Int),.ref dt]):=Ac
          generalize upd HF tp (.tup [.int ((S'.cs.idxOf nx:Nat):Int),.ref dt])=HG at s10 etp ⊢
          have sDG:=sDF.trans s10
          have erwG:=sDG _ _ erwD
          refine ⟨rw',_,_,rfl,rfl,erwG,by rw [List.length_map,hvl]; exact Av (by omega),?_⟩
          have tG:TS HG (upd HG rw' (.lst (es.map V.ref ++ [.ref tp]))):=Ci erwG
          have tDG:=(A8 sDG).trans tG
          refine ⟨⟨S'.cs,S'.ws,S'.rows,S.row ++ [(((S'.cs.idxOf nx:Nat):Int),AV As l)]⟩,_,_,_,_,ps',qs',es ++ [tp],rfl,fun x o e n1 n2 => ?_,(t12.trans tD).trans tDG,((hF'.same sDG).other erwG nw1 nw2).setRow,by rw [Ac,List.map_append]; rfl,?_,hI'.row,hcn',hwn',by show (S.row ++ [_]).length=k + 1; rw [List.length_append,hrk]; rfl,hco'⟩
          · have e1:=sDG _ _ (kD x o e n1 n2)
            rw [Ak (fun z => by rw [z,hrw] at e; cases e)]
            exact e1
          · rw [List.map_append]
            exact Z.snoc (hes12.mono fun _ _ z => BQ.ts (tD.trans tDG) z) ⟨tp,.ref dt,rfl,tG _ _ etp,dt,rfl,((A8 s10).trans tG) _ _ edt⟩
      · rw [show ((S.cs.map Jc).any fun e => e.eqv (Jc nx))=false from (Pu hqv).trans (by simpa using hin)]
        refine Bi ?_
        rw [if_neg hin,if_neg hc30] at hco
        have hpl:(ps.map V.ref).length=S.cs.length:=by rw [List.length_map,hF12.ct.1]
        have hql:(qs.map V.ref).length=S.cs.length:=by rw [List.length_map,hF12.wt.1,hI.wl]
        refine ⟨_,rfl,.inl ⟨rfl,_,AE.of hF12.ec⟩,_,rfl,cl,_,_,rfl,rfl,hF12.ec,by rw [hpl]; exact Av (by omega),?_⟩
        have tA:TI H12 (upd H12 cl (.lst (ps.map V.ref ++ [.ref nc]))):=GF hF12.ec
        have ewA:(upd H12 cl (.lst (ps.map V.ref ++ [.ref nc]))) wl=some (.lst (qs.map V.ref)):=by rw [Ak hF12.n1.symm]; exact hF12.ew
        have kA:∀ x o,H12 x=some o→x≠cl→(upd H12 cl (.lst (ps.map V.ref ++ [.ref nc]))) x=some o:=fun x o e n1 => by rw [Ak n1]; exact e
        generalize hHA:upd H12 cl (.lst (ps.map V.ref ++ [.ref nc]))=HA at tA ewA kA ⊢
        refine ⟨_,rfl,.inl ⟨rfl,_,AE.of ewA⟩,_,rfl,_,rfl,wl,_,_,_,rfl,rfl,AE.of ewA,aW,_,rfl,(by show 1≤sizeLine; decide),fun t1 ht1 => ?_⟩
        have sB:=Ag ht1 (.tup [.int (k:Int)])
        have et1:(upd HA t1 (.tup [.int (k:Int)])) t1=some (.tup [.int (k:Int)]):=Ac
        generalize upd HA t1 (.tup [.int (k:Int)])=HB at sB et1 ⊢
        have hWyB:HB pw=some (.tup (wn.map V.int)):=sB _ _ (tA.1 _ _ (s812 _ _ hPw))
        have ntl:tl≠cl∧tl≠wl:=by
          have h1:H8 tl=Option.none:=s9.free htl
          exact ⟨(fun z => by rw [z,hF.ec] at h1; cases h1),(fun z => by rw [z,hF.ew] at h1; cases h1)⟩
        have goal:∀ (q1:Addr) (HC:Hp),Ao HA HC→E9 HC q1 (wn ++ [(k:Int)])→∃ (S':FS) (ps' qs':List Addr),CD (upd HC wl (.lst (qs.map V.ref ++ [.ref q1]))) cl wl ps' qs' S'∧FI R S'∧S'.cs[n]? = some cn∧S'.ws[n]? = some wn∧nx∈S'.cs∧TS H12 (upd HC wl (.lst (qs.map V.ref ++ [.ref q1])))∧K2 cl wl H (upd HC wl (.lst (qs.map V.ref ++ [.ref q1])))∧(upd HC wl (.lst (qs.map V.ref ++ [.ref q1]))) rw'=some (.lst (es.map V.ref))∧(upd HC wl (.lst (qs.map V.ref ++ [.ref q1]))) tl=some (.lst (cV l))∧BO (upd HC wl (.lst (qs.map V.ref ++ [.ref q1]))) a As∧K5 (upd HC wl (.lst (qs.map V.ref ++ [.ref q1]))) nc nx∧S'.cs.idxOf nx=S.cs.length ∧
            D1 R As cn wn (([0,1,2,3]:List Int).drop (k + 1)) ⟨S'.cs,S'.ws,S'.rows,S.row ++ [(((S'.cs.idxOf nx:Nat):Int),AV As l)]⟩ = res:=by
          intro q1 HC sC hq1
          have ewC:=sC _ _ ewA
          have tD:TI H12 (upd HC wl (.lst (qs.map V.ref ++ [.ref q1]))):=(tA.trans (Hy sC)).trans (GF ewC)
          have hix:(S.cs ++ [nx]).idxOf nx=S.cs.length:=by rw [List.idxOf_append,if_neg hin,List.idxOf_cons_self,Nat.zero_add]
          have st:∀ x o,H12 x=some o→x≠cl→x≠wl→(upd HC wl (.lst (qs.map V.ref ++ [.ref q1]))) x=some o:=fun x o e n1 n2 => by rw [Ak n2]; exact sC _ _ (kA _ _ e n1)
          refine ⟨⟨S.cs ++ [nx],S.ws ++ [wn ++ [(k:Int)]],S.rows,[]⟩,ps ++ [nc],qs ++ [q1],hF12.push hx (by rw [hHA]; exact sC) hq1,hI.push hxr hin hc30 (by rw [List.length_append]; simp only [List.length_cons,List.length_nil]; have:=(List.getElem?_eq_some_iff.mp hcn).1; omega),?_,?_,List.mem_append_right _ (List.mem_singleton.mpr rfl),tD.1,fun x o e n1 n2 => st _ _ (k12 _ _ e n1 n2) n1 n2,st _ _ erw12 nw1 nw2,st _ _ etl ntl.1 ntl.2,?_,tD.2 _ _ hx,hix,?_⟩
          · show (S.cs ++ [nx])[n]? = some cn
            rw [List.getElem?_append_left (List.getElem?_eq_some_iff.mp hcn).1]; exact hcn
          · show (S.ws ++ [wn ++ [(k:Int)]])[n]? = some wn
            rw [List.getElem?_append_left (List.getElem?_eq_some_iff.mp hwn).1]; exact hwn
          · obtain ⟨z,x1,x2⟩:=hA12.ob
            exact ⟨z,st _ _ x1 nac naw,⟨x2.1,fun i p o y1 y2 => tD.1 _ _ (x2.2 i p o y1 y2)⟩⟩
          · show D1 R As cn wn _ ⟨S.cs ++ [nx],S.ws ++ [wn ++ [(k:Int)]],S.rows,S.row ++ [((((S.cs ++ [nx]).idxOf nx:Nat):Int),AV As l)]⟩ = res
            rw [hix]; exact hco
        refine ⟨pw,t1,_,_,rfl,rfl,A2.of hWyB,A2.of et1,(fun z => by cases z),?_,fun hz => ?_,fun hz q1 hq1 => ?_⟩
        · rw [List.length_map]; exact Fo (by show _ + 1≤1000; omega)
        · have hw0:wn=[]:=List.map_eq_nil_iff.mp hz
          refine ⟨wl,_,_,rfl,rfl,sB _ _ ewA,by rw [hql]; exact Av (by omega),?_⟩
          obtain ⟨S',ps',qs',hF',hI',hcn',hwn',hin',tD,kD,erwD,etlD,hAD,hxD,hix,hco'⟩:=goal t1 HB sB (by show HB t1=_; rw [et1,hw0]; rfl)
          generalize upd HB wl (.lst (qs.map V.ref ++ [.ref t1]))=HD at hF' tD kD erwD etlD hAD hxD ⊢
          have hqv':∀ x∈S'.cs,(Jc x).eqv (Jc nx)=decide (x=nx):=fun x _ => K1 x nx
          have hsh':∀ e∈S'.cs.map Jc,SeqAt.shaped e=true:=fun e he => by
            obtain ⟨x,_,rfl⟩:=List.mem_map.mp he
            exact Ct (Ec x) (by decide)
          obtain ⟨hj,hy,hno⟩:=NN hqv' hin'
          have h30':=hI'.le
          refine ⟨_,rfl,.inl ⟨rfl,_,AE.of erwD⟩,_,rfl,.inl ⟨rfl,_,AE.of hF'.ec⟩,_,rfl,cl,.ref nc,_,_,_,S'.cs.idxOf nx,hj,rfl,rfl,AE.of hF'.ec,Kl (fun p c z => Hg z) hF'.ct,Hg hxD,hsh',hsx,hdx,?_,hy,hno,_,rfl,tl,rfl,⟨_,AE.of etlD⟩,fun bk D hD => ?_⟩
          · rw [List.length_map]; omega
          obtain ⟨aps',x1,x2⟩:=hAD.ob
          refine Cc (K:=K) (xs:=cV l) (Pv:=fun j ys σ H' => ∃ v,σ = [v,some (.ref a)]∧ys=(AV As (l.take j)).map V.int∧Ao HD H') ⟨_,rfl,rfl,Ag hD _⟩ ?_ ?_ ?_
          · rintro j ys σ H' hj hDj ⟨v,rfl,_,(s':Ao _ _)⟩
            exact AE.of (s' _ _ etlD)
          · rintro j x ys σ H' hx hDj ⟨v,rfl,hys,(s':Ao _ _)⟩
            obtain ⟨k,hk,rfl⟩:=BX hx
            have hkl:=hlt' k (List.mem_of_getElem? hk)
            obtain ⟨p,hp1,hp2⟩:=By x2 hkl
            have hjl:=(List.getElem?_eq_some_iff.mp hk).1
            refine ⟨_,rfl,_,rfl,a,_,_,_,rfl,rfl,AE.of (s' _ _ x1),hp1,p,_,_,_,rfl,rfl,A2.of (s' _ _ hp2),rfl,hDj,?_,⟨_,rfl,?_,AR s' hD _⟩⟩
            · rw [hys,List.length_map]
              unfold AV
              rw [List.length_map,List.length_take]; exact Av (by omega)
            · unfold AV at hys ⊢
              rw [List.take_add_one,hk,List.map_append,List.map_append,← hys]
              show ys ++ [V.int As[k].2.2.2.2] = ys ++ [V.int (Hi As k).2.2.2.2]
              rw [B9 hkl]
          · rintro ys σ HE hDE ⟨v,rfl,hys,(sE:Ao _ _)⟩
            rw [Bb,List.take_length] at hys
            subst hys
            refine ⟨D,_,rfl,.inl ⟨AE.of hDE,fun dt hdt => ?_⟩⟩
            have sF:=Ag hdt (.tup ((AV As l).map V.int))
            have edt:(upd HE dt (.tup ((AV As l).map V.int))) dt=some (.tup ((AV As l).map V.int)):=Ac
            generalize upd HE dt (.tup ((AV As l).map V.int))=HF at sF edt ⊢
            have sDF:=sE.trans sF
            refine ⟨(by show 2≤sizeLine; decide),fun tp htp => ?_⟩
            have s10:=Ag htp (.tup [.int ((S'.cs.idxOf nx:Nat):Int),.ref dt])
            have etp:(upd HF tp (.tup [.int ((S'.cs.idxOf nx:Nat):Int),.ref dt])) tp=some (.tup [.int ((S'.cs.idxOf nx:Nat):Int),.ref dt]):=Ac
            generalize upd HF tp (.tup [.int ((S'.cs.idxOf nx:Nat):Int),.ref dt])=HG at s10 etp ⊢
            have sDG:=sDF.trans s10
            have erwG:=sDG _ _ erwD
            refine ⟨rw',_,_,rfl,rfl,erwG,by rw [List.length_map,hvl]; exact Av (by omega),?_⟩
            have tG:TS HG (upd HG rw' (.lst (es.map V.ref ++ [.ref tp]))):=Ci erwG
            have tDG:=(A8 sDG).trans tG
            refine ⟨⟨S'.cs,S'.ws,S'.rows,S.row ++ [(((S'.cs.idxOf nx:Nat):Int),AV As l)]⟩,_,_,_,_,ps',qs',es ++ [tp],rfl,fun x o e n1 n2 => ?_,(t12.trans tD).trans tDG,((hF'.same sDG).other erwG nw1 nw2).setRow,by rw [Ac,List.map_append]; rfl,?_,hI'.row,hcn',hwn',by show (S.row ++ [_]).length=k + 1; rw [List.length_append,hrk]; rfl,hco'⟩
            · have e1:=sDG _ _ (kD x o e n1 n2)
              rw [Ak (fun z => by rw [z,hrw] at e; cases e)]
              exact e1
            · rw [List.map_append]
              exact Z.snoc (hes12.mono fun _ _ z => BQ.ts (tD.trans tDG) z) ⟨tp,.ref dt,rfl,tG _ _ etp,dt,rfl,((A8 s10).trans tG) _ _ edt⟩
        · refine ⟨wl,_,_,rfl,rfl,(sB.trans (Ag hq1 _)) _ _ ewA,by rw [hql]; exact Av (by omega),?_⟩
          obtain ⟨S',ps',qs',hF',hI',hcn',hwn',hin',tD,kD,erwD,etlD,hAD,hxD,hix,hco'⟩:=goal q1 (upd HB q1 (.tup (wn.map V.int ++ [.int (k:Int)]))) (sB.trans (Ag hq1 _)) (by show (upd HB q1 _) q1=_; rw [Ac,List.map_append]; rfl)
          generalize upd (upd HB q1 (.tup (wn.map V.int ++ [.int (k:Int)]))) wl (.lst (qs.map V.ref ++ [.ref q1]))=HD at hF' tD kD erwD etlD hAD hxD ⊢
          have hqv':∀ x∈S'.cs,(Jc x).eqv (Jc nx)=decide (x=nx):=fun x _ => K1 x nx
          have hsh':∀ e∈S'.cs.map Jc,SeqAt.shaped e=true:=fun e he => by
            obtain ⟨x,_,rfl⟩:=List.mem_map.mp he
            exact Ct (Ec x) (by decide)
          obtain ⟨hj,hy,hno⟩:=NN hqv' hin'
          have h30':=hI'.le
          refine ⟨_,rfl,.inl ⟨rfl,_,AE.of erwD⟩,_,rfl,.inl ⟨rfl,_,AE.of hF'.ec⟩,_,rfl,cl,.ref nc,_,_,_,S'.cs.idxOf nx,hj,rfl,rfl,AE.of hF'.ec,Kl (fun p c z => Hg z) hF'.ct,Hg hxD,hsh',hsx,hdx,?_,hy,hno,_,rfl,tl,rfl,⟨_,AE.of etlD⟩,fun bk D hD => ?_⟩
          · rw [List.length_map]; omega
          obtain ⟨aps',x1,x2⟩:=hAD.ob
          refine Cc (K:=K) (xs:=cV l) (Pv:=fun j ys σ H' => ∃ v,σ = [v,some (.ref a)]∧ys=(AV As (l.take j)).map V.int∧Ao HD H') ⟨_,rfl,rfl,Ag hD _⟩ ?_ ?_ ?_
          · rintro j ys σ H' hj hDj ⟨v,rfl,_,(s':Ao _ _)⟩
            exact AE.of (s' _ _ etlD)
          · rintro j x ys σ H' hx hDj ⟨v,rfl,hys,(s':Ao _ _)⟩
            obtain ⟨k,hk,rfl⟩:=BX hx
            have hkl:=hlt' k (List.mem_of_getElem? hk)
            obtain ⟨p,hp1,hp2⟩:=By x2 hkl
            have hjl:=(List.getElem?_eq_some_iff.mp hk).1
            refine ⟨_,rfl,_,rfl,a,_,_,_,rfl,rfl,AE.of (s' _ _ x1),hp1,p,_,_,_,rfl,rfl,A2.of (s' _ _ hp2),rfl,hDj,?_,⟨_,rfl,?_,AR s' hD _⟩⟩
            · rw [hys,List.length_map]
              unfold AV
              rw [List.length_map,List.length_take]; exact Av (by omega)
            · unfold AV at hys ⊢
              rw [List.take_add_one,hk,List.map_append,List.map_append,← hys]
              show ys ++ [V.int As[k].2.2.2.2] = ys ++ [V.int (Hi As k).2.2.2.2]
              rw [B9 hkl]
          · rintro ys σ HE hDE ⟨v,rfl,hys,(sE:Ao _ _)⟩
            rw [Bb,List.take_length] at hys
            subst hys
            refine ⟨D,_,rfl,.inl ⟨AE.of hDE,fun dt hdt => ?_⟩⟩
            have sF:=Ag hdt (.tup ((AV As l).map V.int))
            have edt:(upd HE dt (.tup ((AV As l).map V.int))) dt=some (.tup ((AV As l).map V.int)):=Ac
            generalize upd HE dt (.tup ((AV As l).map V.int))=HF at sF edt ⊢
            have sDF:=sE.trans sF
            refine ⟨(by show 2≤sizeLine; decide),fun tp htp => ?_⟩
            have s10:=Ag htp (.tup [.int ((S'.cs.idxOf nx:Nat):Int),.ref dt])
            have etp:(upd HF tp (.tup [.int ((S'.cs.idxOf nx:Nat):Int),.ref dt])) tp=some (.tup [.int ((S'.cs.idxOf nx:Nat):Int),.ref dt]):=Ac
            generalize upd HF tp (.tup [.int ((S'.cs.idxOf nx:Nat):Int),.ref dt])=HG at s10 etp ⊢
            have sDG:=sDF.trans s10
            have erwG:=sDG _ _ erwD
            refine ⟨rw',_,_,rfl,rfl,erwG,by rw [List.length_map,hvl]; exact Av (by omega),?_⟩
            have tG:TS HG (upd HG rw' (.lst (es.map V.ref ++ [.ref tp]))):=Ci erwG
            have tDG:=(A8 sDG).trans tG
            refine ⟨⟨S'.cs,S'.ws,S'.rows,S.row ++ [(((S'.cs.idxOf nx:Nat):Int),AV As l)]⟩,_,_,_,_,ps',qs',es ++ [tp],rfl,fun x o e n1 n2 => ?_,(t12.trans tD).trans tDG,((hF'.same sDG).other erwG nw1 nw2).setRow,by rw [Ac,List.map_append]; rfl,?_,hI'.row,hcn',hwn',by show (S.row ++ [_]).length=k + 1; rw [List.length_append,hrk]; rfl,hco'⟩
            · have e1:=sDG _ _ (kD x o e n1 n2)
              rw [Ak (fun z => by rw [z,hrw] at e; cases e)]
              exact e1
            · rw [List.map_append]
              exact Z.snoc (hes12.mono fun _ _ z => BQ.ts (tD.trans tDG) z) ⟨tp,.ref dt,rfl,tG _ _ etp,dt,rfl,((A8 s10).trans tG) _ _ edt⟩
  · rintro σ H8 ⟨S,v6,v7,v8,v9,ps,qs,es,rfl,k8,t8,hF,erw,hes,hI,hcn,hwn,hrk,hco⟩
    have hfe:res = .ok S:=hco.symm
    rw [hfe] at q
    refine ⟨_,rfl,(by show 2≤sizeLine; decide),fun t ht => ?_⟩
    have s9:=Ag ht (.tup [.non,.ref rw'])
    exact q t rw' es ps qs _ (fun x o e n1 n2 => s9 _ _ (k8 _ _ e n1 n2)) Ac hrw (s9 _ _ erw) (hes.mono fun _ _ z => BQ.ts (A8 s9) z) (hF.same s9) hI (t8.trans (A8 s9))
end
end Toy
namespace Toy
open PySem L2
seal PySem.wpAny
section
variable {P:Program} {w:World} {K:PySem.W.Frag} {mg:Str→Option Value} {base:Heap}
theorem fput_ok {R:List Ai} {A:List Aq} {c w:List Int} {S S':FS} {e:Int} (h:KS R A c w S e = .ok S'):S'.rows=S.rows∧S.cs.length≤S'.cs.length:=by
  unfold KS at h
  split at h
  · cases h; exact ⟨rfl,Nat.le_refl _⟩
  · split at h
    · cases h
    · cases h
      refine ⟨rfl,?_⟩
      show S.cs.length≤(S.cs ++ [_]).length
      rw [List.length_append]; omega
theorem M6 {R:List Ai} {A:List Aq} {c w:List Int}:∀ (es:List Int) {S S':FS},D1 R A c w es S = .ok S'→S'.rows=S.rows∧S.cs.length≤S'.cs.length
  | [],S,S',h => by cases h; exact ⟨rfl,Nat.le_refl _⟩
  | e :: es,S,S',h => by
    unfold D1 at h
    split at h
    · cases h
    · rename_i S1 h1
      have i1:S1.rows=S.rows∧S.cs.length≤S1.cs.length:=by
        unfold E5 at h1
        split at h1
        · cases h1
        · exact fput_ok h1
      obtain ⟨j1,j2⟩:=M6 es h
      exact ⟨j1.trans i1.1,Nat.le_trans i1.2 j2⟩
def LFoldQ (R:List Ai) (Q:VK) (H:Hp):Except Fa FS→Prop
  | .error (.clash evs i j) => ∀ (t t1 te tp:Addr) (H':Hp),Ao H H'→H' t=some (.tup [.ref t1,.non])→H' t1=some (.tup [.ref te,.ref tp])→H' te=some (.tup (evs.map V.int))→H' tp=some (.tup [.int (i:Int),.int (j:Int)])→Q (.ref t) H'
  | .error .many => True
  | .ok S => ∀ (t t2 sl rl wl:Addr) (ps rs qs:List Addr) (H':Hp),Ao H H'→H' t=some (.tup [.non,.ref t2])→H' t2=some (.tup [.ref sl,.ref rl,.ref wl])→H' sl=some (.lst (ps.map V.ref))→Z (Hq R H') ps S.cs→H' rl=some (.lst (rs.map V.ref))→Cd H' rs S.rows→H' wl=some (.lst (qs.map V.ref))→Z (E9 H') qs S.ws→FI R S→S.rows.length=S.cs.length→Q (.ref t) H'
def MJ:Sp:=fun vs H Q _ => ∃ (r a:Addr) (R:List Ai) (A:List Aq),vs=[.ref r,.ref a]∧Bq H r R∧BO H a A∧AY R∧(∀ x∈A,AW R x)∧A.length≤100∧E2 R≤29∧LFoldQ R Q H (Du R A)
theorem Ig:AA ["rooms", "arrows", "choices", "ways", "rows", "one"] ["rooms", "arrows"] (Ae FV):=⟨rfl,rfl,rfl,by decide +kernel,rfl,by decide +kernel,by decide +kernel⟩
theorem OI {f C ff fr fst fk:Addr} {fd fdf fdr fdst fdk:FuncData} (D:Am K mg "_law_fold" FV ["rooms", "arrows"] f fd) (T:Dn K mg C) (Df:Am K mg "_law_first" DE ["rooms"] ff fdf)
    (Dr:Am K mg "_law_fold_row" CL ["rooms", "arrows", "choices", "ways", "here"] fr fdr) (Gr:AD P w K mg base A9 5 fr fdr ["rooms", "arrows", "choices", "ways", "here"] JK) (Dst:Am K mg "_law_state" El ["rooms", "choice"] fst fdst) (Dk:Am K mg "_law_kept" ES ["rooms", "choice"] fk fdk) :
    AD P w K mg base A9 6 f fd ["rooms", "arrows"] MJ:=by
  have Gf:AD P w K mg base A9 1 ff fdf ["rooms"] Hw:=Iz Df T
  have Gst:AD P w K mg base A9 2 fst fdst ["rooms", "choice"] Kq:=Ls Dst T Dk
  refine D.fn.ok Ig (fun vs H Q E h => ?_) (fun cdv A outer s H vs Q E hr h => ?_)
  · obtain ⟨r,a,R,As,rfl,_⟩:=h
    rfl
  obtain ⟨r,a,R,As,rfl,hR,hAt,hG,hA,hal,hfew,q⟩:=h
  have hr2:Ca 2 _:=hr.mono (by decide)
  refine ⟨_,Ad (Ar (i := 2) Ig.nd rfl (Or.inl rfl) (Bf (Aa (Ap Gf (hr.mono (by decide)) rfl Df.mg Df.fn.kp Df.bd .nil AF (Aa (pv 0) Ab)) Ab)))
    (Ad (Ar (i := 3) Ig.nd rfl (Or.inl rfl) (Bf (Aa (AX Ab) Ab)))
    (Ad (Ar (i := 4) Ig.nd rfl (Or.inl rfl) (Bf Ab))
    (Ad (EX PassesOwn.never (AB Lp (AG At (by rfl) T.len PySem.boot_len (Aa (pv 4) Ab)) (AG At (by rfl) T.len PySem.boot_len (Aa (pv 2) Ab)) (AT _))
      (Ad (Ar (i := 5) Ig.nd rfl (Or.inl rfl) (Ap Gr hr rfl Dr.mg Dr.fn.kp Dr.bd .nil AF (Aa (pv 0) (Aa (pv 1) (Aa (pv 2) (Aa (pv 3) (Aa (AG At (by rfl) T.len PySem.boot_len (Aa (pv 4) Ab)) Ab)))))))
      (Ad (A0 (AB FY (An Aw (pv 5) Ah (fun _ _ => rfl)) Cj (AT _)) (Aj (AM (AX (Aa (pv 5) (Aa Cj Ab))))) AJ)
      (Aj (AS (BC PySem.F.plainAttrs_list PySem.F.slot_list_append PySem.F.type_list_append AU (pv 4) (Aa (An Aw (pv 5) Ah (fun _ _ => rfl)) Ab)))))))
    (Aj (AM (AX (Aa Cj (Aa (AX (Aa (Cg ["choice", "rooms"] [Option.none,some 0] rfl (Bu (pv 2)) (fun _ => AI (i := 0) (show (["choice", "rooms"]:List Str).Nodup by decide +kernel) rfl (Or.inl rfl)) (fun _ => Cr)
        (fun _ => Ap Gst hr2 rfl Dst.mg Dst.fn.kp Dst.bd .nil AF (Aa (pv 1) (Aa (pv 0) Ab)))
        (N:=["rooms", "arrows", "choices", "ways", "rows", "one"]) (ks:=(Ae FV).names) rfl rfl (by decide +kernel) (by decide +kernel) (by decide +kernel) (by decide +kernel)) (Aa (pv 4) (Aa (pv 3) Ab)))) Ab)))))))),?_⟩
  obtain ⟨rps,hrr,hrI⟩:=hR.ob
  obtain ⟨aps,har,haI⟩:=hAt.ob
  refine ⟨_,rfl,r,R,rfl,hR,hG,fun fl H1 hfl s1 e1 => ?_⟩
  refine ⟨(by show 1≤sizeLine; decide),fun cl hcl => ?_⟩
  have s2:=Ag hcl (.lst [.ref fl])
  have ec2:(upd H1 cl (.lst [.ref fl])) cl=some (.lst [.ref fl]):=Ac
  have s02:=s1.trans s2
  have fcl:H cl=Option.none:=s1.free hcl
  have efl:=s2 _ _ e1
  generalize upd H1 cl (.lst [.ref fl])=H2 at s2 ec2 s02 efl ⊢
  refine ⟨(by show 0≤sizeLine; decide),fun w0 hw0 => ?_⟩
  have s3:=Ag hw0 (.tup [])
  have ew0:(upd H2 w0 (.tup [])) w0=some (.tup []):=Ac
  have s03:=s02.trans s3
  have ec3:=s3 _ _ ec2
  have efl3:=s3 _ _ efl
  generalize upd H2 w0 (.tup [])=H3 at s3 ew0 s03 ec3 efl3 ⊢
  refine ⟨(by show 1≤sizeLine; decide),fun wl hwl => ?_⟩
  have s4:=Ag hwl (.lst [.ref w0])
  have ew4:(upd H3 wl (.lst [.ref w0])) wl=some (.lst [.ref w0]):=Ac
  have s04:=s03.trans s4
  have fwl:H wl=Option.none:=s03.free hwl
  have ncw:cl≠wl:=Al ec3 hwl
  have ec4:=s4 _ _ ec3
  have efl4:=s4 _ _ efl3
  have ew04:=s4 _ _ ew0
  generalize upd H3 wl (.lst [.ref w0])=H4 at s4 ew4 s04 ec4 efl4 ew04 ⊢
  refine ⟨(by show 0≤sizeLine; decide),fun rl hrl => ?_⟩
  have s5:=Ag hrl (.lst [])
  have er5:(upd H4 rl (.lst [])) rl=some (.lst []):=Ac
  have s05:=s04.trans s5
  have frl:H rl=Option.none:=s04.free hrl
  have ncr:cl≠rl:=Al ec4 hrl
  have nwr:wl≠rl:=Al ew4 hrl
  have hpos:=hG.tree.pos
  rw [Ay] at hpos
  have hne:Bs R≠[]:=fun z => by
    have:=FD R
    rw [z] at this
    simp only [List.length_nil] at this
    omega
  have hF5:CD (upd H4 rl (.lst [])) cl wl [fl] [w0] (fS0 R):=⟨s5 _ _ ec4,Z.cons Z.nil ⟨s5 _ _ efl4,hne⟩,s5 _ _ ew4,Z.cons Z.nil (s5 _ _ ew04),ncw⟩
  generalize upd H4 rl (.lst [])=H5 at s5 er5 s05 hF5 ⊢
  refine ⟨fun m σ H' => ∃ n S v5 ps qs rs,σ = [some (.ref r),some (.ref a),some (.ref cl),some (.ref wl),some (.ref rl),v5]∧Ao H H'∧CD H' cl wl ps qs S∧H' rl=some (.lst (rs.map V.ref))∧Cd H' rs S.rows∧(∀ p∈rs,p≠cl∧p≠wl∧p≠rl)∧FI R S∧S.rows.length=n∧n≤S.cs.length∧m=31 - n∧DJ R As (31 - n) n S=Du R As,
    ⟨31,0,fS0 R,_,_,_,[],rfl,s05,hF5,er5,Z.nil,(fun p hp => by cases hp),IT hG,rfl,Nat.zero_le _,rfl,rfl⟩,?_⟩
  rintro m σ H6 ⟨n,S,v5,ps,qs,rs,rfl,s06,hF,er6,hrt,hnr,hI,hn,hnl,rfl,hfo⟩
  have lr:(rs.map V.ref).length=n:=by rw [List.length_map,hrt.1,hn]
  have ls:(ps.map V.ref).length=S.cs.length:=by rw [List.length_map,hF.ct.1]
  have h30:=hI.le
  refine ⟨_,rfl,rl,_,rfl,.inl (AE.of er6),_,rfl,cl,_,rfl,.inl (AE.of hF.ec),_,_,rfl,rfl,_,rfl,?_⟩
  by_cases hlt:n < S.cs.length
  · rw [decide_eq_true (show ((rs.map V.ref).length:Int) < ((ps.map V.ref).length:Int) by rw [lr,ls]; omega)]
    refine Bi ?_
    refine ⟨fun σ' H' => ∃ S v5 ps qs rs,σ'=[some (.ref r),some (.ref a),some (.ref cl),some (.ref wl),some (.ref rl),v5]∧Ao H H'∧CD H' cl wl ps qs S∧H' rl=some (.lst (rs.map V.ref))∧Cd H' rs S.rows∧(∀ p∈rs,p≠cl∧p≠wl∧p≠rl)∧FI R S∧S.rows.length=n + 1∧n + 1≤S.cs.length∧DJ R As (31 - (n + 1)) (n + 1) S=Du R As,?_,?_⟩
    · rintro σ' H' ⟨S',a5,ps',qs',rs',rfl,b1,b2,b3,b4,b5,b6,b7,b8,b9⟩
      exact ⟨31 - (n + 1),by omega,n + 1,S',a5,ps',qs',rs',rfl,b1,b2,b3,b4,b5,b6,b7,b8,rfl,b9⟩
    have hgo:M8 R As (30 - n) n (Ho R As n S)=Du R As:=by rw [← hfo,show 31 - n=30 - n + 1 by omega,LO hlt]
    have nn:∀ {x:Addr} {o:HO},H x=some o→x≠cl∧x≠wl:=fun e => ⟨Al e fcl,Al e fwl⟩
    refine ⟨_,rfl,_,rfl,_,rfl,_,rfl,_,rfl,rl,_,rfl,.inl (AE.of er6),r,a,cl,wl,ps,qs,R,As,S,n,(by rw [lr]; rfl),⟨rps,s06 _ _ hrr,hrI.same s06⟩,⟨aps,s06 _ _ har,haI.same s06⟩,hG,hA,hal,hfew,hF,(nn hrr).1,(nn hrr).2,(nn har).1,(nn har).2,hI,hlt,?_⟩
    cases hfr:Ho R As n S with
    | error x =>
      cases x with
      | many => exact trivial
      | clash evs i j =>
        intro t te tp H7 k7 f1 f2 f3
        have s07:Ao H H7:=fun x o e => k7 _ _ (s06 _ _ e) (nn e).1 (nn e).2
        refine ⟨_,rfl,t,_,_,_,rfl,rfl,A2.of f1,rfl,rfl,_,rfl,?_⟩
        refine Bi ?_
        rw [hfr] at hgo
        rw [← hgo] at q
        refine ⟨_,rfl,(by show 2≤sizeLine; decide),fun t2 ht2 => ?_⟩
        have s8:=Ag ht2 (.tup [.ref t,.non])
        exact q t2 t te tp _ (s07.trans s8) Ac (s8 _ _ f1) (s8 _ _ f2) (s8 _ _ f3)
    | ok S' =>
      intro t rw' es ps' qs' H7 k7 f1 f2 f3 f4 f5 f6 f7
      have s07:Ao H H7:=fun x o e => k7 _ _ (s06 _ _ e) (nn e).1 (nn e).2
      refine ⟨_,rfl,t,_,_,_,rfl,rfl,A2.of f1,rfl,rfl,_,rfl,?_⟩
      refine A1 ?_
      rw [hfr] at hgo
      have hfr':=hfr
      unfold Ho at hfr'
      obtain ⟨hrs,hcl'⟩:=M6 _ hfr'
      have er7:=k7 _ _ er6 ncr.symm nwr.symm
      have nrl:rw'≠rl:=fun z => by rw [z,er6] at f2; cases f2
      have nrc:rw'≠cl:=fun z => by rw [z,hF.ec] at f2; cases f2
      have nrw:rw'≠wl:=fun z => by rw [z,hF.ew] at f2; cases f2
      have hrt7:Cd H7 rs S.rows:=hrt.monoM fun p ro hp z => by
        obtain ⟨vs,h1,h2⟩:=z
        exact ⟨vs,k7 _ _ h1 (hnr p hp).1 (hnr p hp).2.1,h2.mono fun _ _ y => BQ.ts f7 y⟩
      refine ⟨_,rfl,.inl ⟨rfl,_,AE.of er7⟩,_,rfl,t,_,_,_,rfl,rfl,A2.of f1,rfl,rl,_,_,rfl,rfl,er7,by rw [lr]; exact Av (by omega),?_⟩
      have tr:TS H7 (upd H7 rl (.lst (rs.map V.ref ++ [.ref rw']))):=Ci er7
      refine ⟨⟨S'.cs,S'.ws,S'.rows ++ [S'.row],[]⟩,_,ps',qs',rs ++ [rw'],rfl,AR s07 frl _,(f5.other er7 ncr.symm nwr.symm).setRow,by rw [Ac,List.map_append]; rfl,?_,?_,f6.row,?_,?_,?_⟩
      · rw [hrs]
        refine Z.snoc (hrt7.keep (fun x o e n => by rw [Ak n]; exact e) (Ey er7) (fun p hp => (hnr p hp).2.2)) ⟨es.map V.ref,?_,f4.mono fun _ _ z => BQ.ts tr z⟩
        rw [Ak nrl]; exact f3
      · intro p hp
        rcases List.mem_append.mp hp with z | z
        · exact hnr p z
        · rw [List.mem_singleton.mp z]; exact ⟨nrc,nrw,nrl⟩
      · show (S'.rows ++ [S'.row]).length=n + 1
        rw [List.length_append,hrs]
        show S.rows.length + 1=n + 1
        rw [hn]
      · show n + 1≤S'.cs.length
        have:S.cs.length≤S'.cs.length:=hcl'
        omega
      · rw [show 31 - (n + 1)=30 - n by omega]
        exact hgo
  · rw [decide_eq_false (show ¬ ((rs.map V.ref).length:Int) < ((ps.map V.ref).length:Int) by rw [lr,ls]; omega)]
    refine A1 ?_
    rw [J8 hlt] at hfo
    rw [← hfo] at q
    refine ⟨_,rfl,cl,rfl,⟨_,AE.of hF.ec⟩,fun bk D hD => ?_⟩
    refine Cc (K:=K) (xs:=ps.map V.ref) (Pv:=fun i ys σ H' => ∃ v us,σ = [v,some (.ref r)]∧ys=us.map V.ref∧Ao H6 H'∧Z (Hq R H') us (S.cs.take i)) ⟨_,[],rfl,rfl,Ag hD _,Z.nil⟩ ?_ ?_ ?_
    · rintro i ys σ H' hi hDi ⟨v,us,rfl,_,(s':Ao _ _),_⟩
      exact AE.of (s' _ _ hF.ec)
    · rintro i x ys σ H' hx hDi ⟨v,us,rfl,hys,(s':Ao _ _),hus⟩
      obtain ⟨p,hp,rfl⟩ : ∃ p,ps[i]? = some p∧V.ref p=x:=by
        rw [List.getElem?_map] at hx
        cases z:ps[i]? with
        | none => rw [z] at hx; simp at hx
        | some p => rw [z] at hx; exact ⟨p,rfl,by simpa using hx⟩
      obtain ⟨c,hc,hPc⟩:=hF.ct.at1 hp
      have hrc:=hI.rc c (List.mem_of_getElem? hc)
      have s0':=s06.trans s'
      have hil:=(List.getElem?_eq_some_iff.mp hc).1
      refine ⟨_,rfl,_,rfl,r,p,R,c,rfl,⟨rps,s0' _ _ hrr,hrI.same s0'⟩,hG,s' _ _ hPc.1,hrc.ok.len,fun t kt mt H'' s'' g1 g2 g3 => ⟨s'' _ _ hDi,?_,⟨_,us ++ [t],rfl,by rw [hys,List.map_append]; rfl,AR (s'.trans s'') hD _,?_⟩⟩⟩
      · rw [hys,List.length_map,hus.1,List.length_take]; exact Av (by omega)
      · have tD:TS H'' (upd H'' D (.lst (ys ++ [.ref t]))):=Ci (s'' _ _ hDi)
        rw [List.take_add_one,hc]
        exact Z.snoc (hus.mono fun _ _ z => z.ts ((A8 s'').trans tD)) ⟨kt,mt,tD _ _ g1,tD _ _ g2,tD _ _ g3⟩
    · rintro ys σ H7 hD7 ⟨v,us,rfl,hys,(s7:Ao _ _),hus⟩
      rw [List.length_map,hF.ct.1,List.take_length] at hus
      rw [hys] at hD7
      refine ⟨_,rfl,_,rfl,(by show 3≤sizeLine; decide),fun t2 ht2 => ?_⟩
      have s8:=Ag ht2 (.tup [.ref D,.ref rl,.ref wl])
      refine ⟨(by show 2≤sizeLine; decide),fun t ht => ?_⟩
      have s9:=Ag ht (.tup [.non,.ref t2])
      have s79:=s8.trans s9
      have s69:=s7.trans s79
      exact q t t2 D rl wl us rs qs _ (s06.trans s69) Ac (s9 _ _ Ac) (s79 _ _ hD7) (hus.mono fun _ _ z => z.ts (A8 s79)) (s69 _ _ er6) (hrt.same s69) (s69 _ _ hF.ew) (hF.wt.mono fun _ _ z => s69 _ _ z) hI (by omega)
end
end Toy
namespace Toy
open PySem L2
seal PySem.wpAny
section
variable {P:Program} {w:World} {K:PySem.W.Frag} {mg:Str→Option Value} {base:Heap}
def TriedQ (R:List Ai) (CF:Addr) (Q:VK) (H:Hp):Except Fa FS→Prop
  | .error (.clash evs i j) => evs.length≤100→∀ (t t1 te tp:Addr) (H':Hp),Ao H H'→H' t=some (.tup [.non,.ref t1])→H' t1=some (.tup [.ref te,.ref tp])→H' te=some (.tup (evs.map V.int))→H' tp=some (.tup [.int (i:Int),.int (j:Int)])→Q (.ref t) H'
  | .error .many => False
  | .ok S => ∀ (t f s r y:Addr) (ps rs qs:List Addr) (H':Hp),Ao H H'→H' t=some (.tup [.ref f,.non])→FlatF R CF H' f s r y ps rs qs S→FI R S→S.rows.length=S.cs.length→Q (.ref t) H'
def MD (C CF:Addr):Sp:=fun vs H Q _ => ∃ (c:Addr) (R:List Ai) (A:List Aq),vs=[.ref c]∧A7 C H c R A∧AY R∧(∀ a∈A,AW R a)∧TriedQ R CF Q H (Du R A)
theorem LR (p:V) (i j:Int):(NU p i j).lookup ("events" : Str)=some p:=by
  unfold NU
  rw [A3,if_neg (by decide +kernel),A3,if_neg (by decide +kernel)]
  rfl
theorem Fd:AA ["chart", "found", "refused", "e"] ["chart"] (Ae EN):=⟨rfl,rfl,rfl,by decide +kernel,rfl,by decide +kernel,by decide +kernel⟩
theorem OC {f C CF CC CE CT fI fo:Addr} {fd fdo:FuncData} (D:Am K mg "_law_tried" EN ["chart"] f fd) (X:Ee K mg CC CE fI) (mgX:mg "Clash" = some (.ref CC)) (bC:PySem.W.subIn K (.ref CC) (.type "BaseException")=some true) (kC:PySem.W.kitCls K (.ref CC) (.ref CC)=some true)
    (Do:Am K mg "folded" DP ["chart"] fo fdo) (Go:AD P w K mg base (CXE P w) 23 fo fdo ["chart"] (Lh C CF CC CT)):AD P w K mg base A9 24 f fd ["chart"] (MD C CF):=by
  refine D.fn.ok Fd (fun vs H Q E h => ?_) (fun cdv A outer s H vs Q E hr h => ?_)
  · obtain ⟨c,R,As,rfl,_⟩:=h
    rfl
  obtain ⟨c,R,As,rfl,hC,hG,hA,q⟩:=h
  refine ⟨_,Ad (Ar (i := 1) Fd.nd rfl (Or.inl rfl) Cj)
    (Ad (Ar (i := 2) Fd.nd rfl (Or.inl rfl) Cj)
    (Ad (Nu (i := 1) (MR Go rfl hr rfl Do.mg Do.fn.kp Do.bd (Aa (pv 0) Ab))
      (ph_as (i := 3) rfl mgX bC Fd.nd rfl rfl (fun _ => Aj (Ar (i := 2) Fd.nd rfl (Or.inl rfl) (AX (Aa (KD X.x X.e (pv 3)) (Aa (AX (Aa (KD X.x X.f (pv 3)) (Aa (KD X.x X.s (pv 3)) Ab))) Ab))))) Qa) Fd.nd rfl (Or.inl rfl))
    (Aj (AM (AX (Aa (pv 1) (Aa (pv 2) Ab))))))),?_⟩
  refine ⟨_,rfl,c,R,As,rfl,hC,hG,hA,?_⟩
  cases hfo:Du R As with
  | error x =>
    rw [hfo] at q
    cases x with
    | many => exact q.elim
    | clash evs i j =>
      intro hel d tp H1 s1 hd htp
      refine ⟨true,kC,?_⟩
      rw [if_pos rfl]
      intro x hx
      have s8:=Ag hx (XO x (.ref CC) (some d))
      have ex:(upd H1 x (XO x (.ref CC) (some d))) x=some (XO x (.ref CC) (some d)):=Ac
      have ed8:=s8 _ _ hd
      have etp:=s8 _ _ htp
      generalize upd H1 x (XO x (.ref CC) (some d))=H8 at s8 ex ed8 etp ⊢
      refine ⟨_,rfl,x,d,_,_,rfl,ex,ed8,LR _ _ _,_,rfl,x,d,_,_,rfl,ex,ed8,IZ _ _ _,_,rfl,x,d,_,_,rfl,ex,ed8,He _ _ _,(by show 2≤sizeLine; decide),fun t1 ht1 => ?_⟩
      have s9:=Ag ht1 (.tup [.int (i:Int),.int (j:Int)])
      refine ⟨(by show 2≤sizeLine; decide),fun t2 ht2 => ?_⟩
      have s10:=Ag ht2 (.tup [.ref tp,.ref t1])
      refine ⟨_,rfl,_,rfl,(by show 2≤sizeLine; decide),fun t ht => ?_⟩
      have s11:=Ag ht (.tup [.non,.ref t2])
      exact q hel t t2 tp t1 _ (s1.trans (s8.trans (s9.trans (s10.trans s11)))) Ac (s11 _ _ Ac) ((s9.trans (s10.trans s11)) _ _ etp) ((s10.trans s11) _ _ Ac)
  | ok S =>
    rw [hfo] at q
    intro fl sa ra ya ps rs qs H1 s1 hF hI hn
    refine ⟨_,rfl,_,rfl,(by show 2≤sizeLine; decide),fun t ht => ?_⟩
    have s11:=Ag ht (.tup [.ref fl,.non])
    exact q t fl sa ra ya ps rs qs _ (s1.trans s11) Ac ⟨by obtain ⟨dx,z⟩:=hF.ob; exact ⟨dx,s11 _ _ z⟩,s11 _ _ hF.es,hF.st.mono fun _ _ z => z.ts (A8 s11),s11 _ _ hF.er,hF.rt.same s11,s11 _ _ hF.ew,hF.wt.mono fun _ _ z => s11 _ _ z⟩ hI hn
end
end Toy
namespace Toy
open PySem L2
seal PySem.wpAny
section
variable {P:Program} {w:World} {K:PySem.W.Frag} {mg:Str→Option Value} {base:Heap}
theorem ddE_len (R:List Ai) (A:List Aq) (c:List Int) (e:Int):(N3 R A c e).length≤A.length:=by
  unfold N3 AV
  rw [List.length_map]
  exact EH R A (kI R c) e
end
end Toy
namespace Toy
open PySem L2
seal PySem.wpAny
section
variable {P:Program} {w:World} {K:PySem.W.Frag} {mg:Str→Option Value} {base:Heap}
def goS (R:List Ai) (A:List Aq) (chs:List Int) (ev:Int):List Int:=Bd R A chs (tkL R A chs ev)
def chAt (R:List Ai) (A:List Aq) (evs:List Int) (k:Nat):List Int:=(evs.take k).foldl (goS R A) (Bs R)
def KY (R:List Ai) (A:List Aq) (evs:List Int) (k:Nat):List Int:=AV A (tkL R A (chAt R A evs k) (evs.getD k 0))
def IV (R:List Ai) (A:List Aq) (evs:List Int) (n:Nat):List (List V):=(List.range n).map fun k => (KY R A evs k).map V.int
theorem M3 {xs:List Int} {i:Nat} {x:Int} (h:xs[i]? = some x):xs.getD i 0=x:=by
  rw [List.getD_eq_getElem?_getD,h]; rfl
theorem Kc {R:List Ai} {A:List Aq} {evs:List Int} {k:Nat} {ev:Int} (h:evs[k]? = some ev):chAt R A evs (k + 1)=goS R A (chAt R A evs k) ev:=by
  unfold chAt
  rw [List.take_add_one,h,List.foldl_append]; rfl
theorem O8 {R:List Ai} (hG:AY R) {A:List Aq} (hA:∀ x∈A,AW R x):∀ (evs chs:List Int),Ef R chs→Ef R (evs.foldl (goS R A) chs)
  | [],_,h => h
  | _ :: r,chs,h => O8 hG hA r _ (Ki hG hA _ chs DM h)
theorem Ng {R:List Ai} (hG:AY R) {A:List Aq} (hA:∀ x∈A,AW R x) (evs:List Int) (k:Nat):Ef R (chAt R A evs k):=O8 hG hA _ _ (IS hG)
theorem Mx (R:List Ai) (A:List Aq) (evs:List Int) (n:Nat):IV R A evs (n + 1)=IV R A evs n ++ [(KY R A evs n).map V.int]:=by
  unfold IV; rw [List.range_succ,List.map_append]; rfl
theorem keepT {H:Hp} {a:Addr} {xs:List V} {o:HO} (h:H a=some (.lst xs)) {x:Addr} {ys:List V} (e:H x=some (.tup ys)):(upd H a o) x=some (.tup ys):=by
  rw [Ak (fun z => by rw [z,h] at e; cases e)]; exact e
theorem AK.updL {H:Hp} {a:Addr} {xs:List V} {o:HO} {ps:List Addr} {os:List (List V)} (h:H a=some (.lst xs)) (e:AK H ps os):AK (L2.upd H a o) ps os:=⟨e.1,fun i p u x y => keepT h (e.2 i p u x y)⟩
theorem M1 {xs:List Int} {i:Nat} {x:V} (hx:(xs.map V.int)[i]? = some x):∃ z:Int,xs[i]? = some z∧x = .int z:=by
  rw [List.getElem?_map] at hx
  cases e:xs[i]? with
  | none => rw [e] at hx; cases hx
  | some z => rw [e] at hx; exact ⟨z,rfl,(Option.some.inj hx).symm⟩
end
end Toy
namespace Toy
open PySem L2
seal PySem.wpAny
section
variable {P:Program} {w:World} {K:PySem.W.Frag} {mg:Str→Option Value} {base:Heap}
def P2 (xss:List (List Int)):List (List V):=xss.map fun xs => xs.map V.int
def HP:Sp:=fun vs H Q _ => ∃ (f d:Addr) (ps qs:List Addr) (xss:List (List Int)),vs=[.ref f,.ref d]∧H f=some (.lst (ps.map V.ref))∧AK H ps (P2 xss)∧H d=some (.lst (qs.map V.ref))∧AK H qs (P2 xss)∧xss.length≤100∧(∀ xs∈xss,xs.length≤100)∧Q (.bl true) H
theorem Id:AA ["found", "due", "k"] ["found", "due"] (Ae Cv):=⟨rfl,rfl,rfl,by decide +kernel,rfl,by decide +kernel,by decide +kernel⟩
theorem rw_at {H:Hp} {ps:List Addr} {xss:List (List Int)} (h:AK H ps (P2 xss)) {i:Nat} (hi:i < xss.length):∃ p,Jl (ps.map V.ref) (i:Int)=some (.ref p)∧H p=some (.tup (xss[i].map V.int)):=by
  obtain ⟨p,a,b⟩:=h.at (i:=i) (o:=xss[i].map V.int) (by unfold P2; rw [List.getElem?_map,List.getElem?_eq_getElem hi]; rfl)
  exact ⟨p,by rw [BN]; exact a,b⟩
theorem KH {f C fr:Addr} {fd fdr:FuncData} (D:Am K mg "_law_rows_same" Cv ["found", "due"] f fd) (T:Dn K mg C) (Dr:Am K mg "_law_row" Jp ["found", "due"] fr fdr):AD P w K mg base A9 2 f fd ["found", "due"] HP:=by
  have Gr:AD P w K mg base A9 1 fr fdr ["found", "due"] Oc:=OE Dr T
  refine D.fn.ok Id (fun vs H Q E h => ?_) (fun cdv A outer s H vs Q E hr h => ?_)
  · obtain ⟨a,d,ps,qs,xss,rfl,_⟩:=h
    rfl
  obtain ⟨a,d,ps,qs,xss,rfl,ha,hI,hd,hJ,hx,hxs,q⟩:=h
  have lp:(ps.map V.ref).length=xss.length:=by rw [List.length_map,hI.1]; unfold P2; rw [List.length_map]
  have lq:(qs.map V.ref).length=xss.length:=by rw [List.length_map,hJ.1]; unfold P2; rw [List.length_map]
  refine ⟨_,Ad (A0 (PW.pt (Fq (Di (B8 (AG CB (by rfl) T.inst (by decide +kernel) (Aa (pv 0) (Aa (Fh (by rfl) T.list (by decide +kernel) (v:=.ty "list") rfl) Ab)))))
      (EW (AB EG (AG At (by rfl) T.len PySem.boot_len (Aa (pv 0) Ab)) (AG At (by rfl) T.len PySem.boot_len (Aa (pv 1) Ab)) (AT _))))) Bh AJ)
    (Ad (Bj PassesOwn.never rfl (AZ rfl T.range (Aa (AG At (by rfl) T.len PySem.boot_len (Aa (pv 1) Ab)) Ab)) (AI (i := 2) Id.nd rfl (Or.inl rfl))
      (Aj (A0 (Di (B8 (Ap Gr hr rfl Dr.mg Dr.fn.kp Dr.bd .nil AF (Aa (An Au (pv 0) (pv 2) (fun _ _ => rfl)) (Aa (An Au (pv 1) (pv 2) (fun _ _ => rfl)) Ab))))) Bh AJ)))
    (Aj (AM Ir))),?_⟩
  refine ⟨_,rfl,_,_,_,_,rfl,.lst ha,T.ll,_,rfl,?_⟩
  refine A1 ?_
  refine ⟨_,rfl,a,_,rfl,.inl (AE.of ha),_,rfl,d,_,rfl,.inl (AE.of hd),rfl,_,rfl,?_⟩
  rw [lp,lq]
  refine Gj rfl ?_
  refine ⟨_,rfl,d,_,rfl,.inl (AE.of hd),_,rfl,by rw [lq]; omega,by rw [lq]; omega,?_⟩
  rw [lq]
  refine Br (fun i σ H1 => ∃ v,σ = [some (.ref a),some (.ref d),v]∧H1=H) ⟨_,rfl,rfl⟩ ?_ ?_
  · rintro i σ H1 hi ⟨v,rfl,rfl⟩
    have hi':i < xss.length:=by omega
    have ek:(0:Int) + (i:Int)=(i:Int):=by omega
    rw [ek]
    obtain ⟨p1,a1,b1⟩:=rw_at hI hi'
    obtain ⟨p2,a2,b2⟩:=rw_at hJ hi'
    refine ⟨_,rfl,_,rfl,a,_,_,_,rfl,rfl,AE.of ha,a1,_,rfl,_,rfl,d,_,_,_,rfl,rfl,AE.of hd,a2,p1,p2,xss[i],rfl,b1,b2,hxs _ (List.getElem_mem hi'),_,rfl,?_⟩
    refine A1 ?_
    exact ⟨_,rfl,rfl⟩
  · rintro σ H1 ⟨v,rfl,rfl⟩
    exact q
theorem dds_rw (R:List Ai) (A:List Aq) (evs:List Int) (n:Nat):IV R A evs n=P2 ((List.range n).map (KY R A evs)):=by
  unfold IV P2; rw [List.map_map]; rfl
theorem NL {xs:List Int} {ps:List Addr} (h:xs.map V.int=ps.map V.ref):xs=[]:=by
  cases xs with
  | nil => rfl
  | cons x r =>
    cases ps with
    | nil => cases h
    | cons p q => injection h with h _; cases h
end
end Toy
namespace Toy
open PySem L2
seal PySem.wpAny
section
variable {P:Program} {w:World} {K:PySem.W.Frag} {mg:Str→Option Value} {base:Heap}
theorem NT {K:PySem.W.Frag} {H:Hp} {a D:Addr} {xs:List Int} {te:TE} {Q:VK} {v0:Option V} (hx:H a=some (.lst (xs.map V.int))) (hn:xs.length≤100) (hD:H D=Option.none) (hte:∀ (z:Int) H' Q,Q (.int (z % 4)) H'→te [some (.int z)] H' Q)
    (q:∀ H',Ao H H'→H' D=some (.lst ((xs.map fun z => z % 4).map V.int))→Q (.ref D) H'):FG (Itl K a) (IN 0) N8 te D Q [v0] (upd H D (.lst [])):=by
  refine Cc (K:=K) (xs:=xs.map V.int) (Pv:=fun i ys σ H' => (∃ v,σ = [v])∧ys=((xs.take i).map fun z => z % 4).map V.int∧Ao H H') ⟨⟨_,rfl⟩,rfl,Ag hD _⟩ (fun i ys σ H' _ _ ⟨_,_,s⟩ => AE.of (s _ _ hx)) ?_ ?_
  · rintro i x ys σ H' hx' hDi ⟨⟨v,rfl⟩,hys,(s:Ao _ _)⟩
    obtain ⟨z,hz,rfl⟩:=M1 hx'
    refine hte _ _ _ ⟨hDi,?_,⟨_,rfl⟩,?_,AR s hD _⟩
    · rw [hys,List.length_map,List.length_map,List.length_take]; exact Av (by omega)
    · have ht:xs.take (i + 1)=xs.take i ++ [z]:=by rw [List.take_add_one,hz]; rfl
      rw [ht,List.map_append,List.map_append,← hys]; rfl
  · rintro ys σ H' hDn ⟨⟨v,rfl⟩,hys,(s:Ao _ _)⟩
    rw [List.length_map,List.take_length] at hys
    exact q H' s (by rw [hDn,hys])
end
end Toy
namespace Toy
open PySem L2
seal PySem.wpAny
section
variable {P:Program} {w:World} {K:PySem.W.Frag} {mg:Str→Option Value} {base:Heap}
structure Wk where
  nx:List Int→Int→List Int
  dd:List Int→Int→List Int
  pr:List Int→Int→Option (Nat×Nat)
  m:Nat
def gput (W:Wk) (c w:List Int) (S:FS) (e:Int):Except Fa FS :=
  if W.nx c e∈S.cs then .ok ⟨S.cs,S.ws,S.rows,S.row ++ [(((S.cs.idxOf (W.nx c e):Nat):Int),W.dd c e)]⟩
  else if S.cs.length=W.m then .error .many
  else .ok ⟨S.cs ++ [W.nx c e],S.ws ++ [w ++ [e]],S.rows,S.row ++ [(((S.cs.length:Nat):Int),W.dd c e)]⟩
def LJ (W:Wk) (c w:List Int) (S:FS) (e:Int):Except Fa FS :=
  match W.pr c e with
  | some (i,j) => .error (.clash (w ++ [e]) i j)
  | Option.none => gput W c w S e
def NP (W:Wk) (c w:List Int):List Int→FS→Except Fa FS
  | [],S => .ok S
  | e :: r,S => match LJ W c w S e with
    | .error x => .error x
    | .ok S' => NP W c w r S'
def grow (W:Wk) (n:Nat) (S:FS):Except Fa FS:=NP W (S.cs.getD n []) (S.ws.getD n []) [0,1,2,3] ⟨S.cs,S.ws,S.rows,[]⟩
def LL (W:Wk):Nat→Nat→FS→Except Fa FS
  | 0,_,S => .ok S
  | f + 1,n,S => if n < S.cs.length then
      match grow W n S with
      | .error x => .error x
      | .ok S' => LL W f (n + 1) ⟨S'.cs,S'.ws,S'.rows ++ [S'.row],[]⟩
    else .ok S
def lxW:List Int→List Int→Prop
  | x :: a,y :: b => x < y∨(x=y∧lxW a b)
  | _,_ => False
def SL (a b:List Int):Prop:=a.length < b.length∨(a.length=b.length∧lxW a b)
theorem LD (p q:Int):∀ (a b:List Int),lxW a b→lxW (a ++ [p]) (b ++ [q])
  | [],_,h => by cases h
  | _ :: _,[],h => by cases h
  | x :: a,y :: b,h => by
    rcases h with h | ⟨h,h'⟩
    · exact .inl h
    · exact .inr ⟨h,LD p q a b h'⟩
theorem LE {p q:Int} (h:p < q):∀ (a:List Int),lxW (a ++ [p]) (a ++ [q])
  | [] => .inl h
  | _ :: a => .inr ⟨rfl,LE h a⟩
theorem SL.snoc {a b:List Int} (h:SL a b) (p q:Int):SL (a ++ [p]) (b ++ [q]):=by
  rcases h with h | ⟨h,h'⟩
  · left; rw [List.length_append,List.length_append]; exact Nat.add_lt_add_right h 1
  · right; exact ⟨by rw [List.length_append,List.length_append,h]; rfl,LD p q a b h'⟩
theorem SL_last {p q:Int} (h:p < q) (a:List Int):SL (a ++ [p]) (a ++ [q]):=.inr ⟨by rw [List.length_append,List.length_append]; rfl,LE h a⟩
theorem SL_nil (a:List Int) (p:Int):SL [] (a ++ [p]):=.inl (by rw [List.length_append]; exact Nat.succ_pos _)
def Jy (W:Wk) (cs ws:List (List Int)) (c u:List Int) (es:List Int) (r:List Hs):Prop :=
  r.length=es.length∧∀ (i:Nat) e x,es[i]? = some e→r[i]? = some x→W.pr c e=Option.none∧x.2=W.dd c e∧∃ j:Nat,x.1=(j:Int)∧cs[j]? = some (W.nx c e)∧∃ v,ws[j]? = some v∧(v=u ++ [e]∨SL v (u ++ [e]))
theorem DS {α : Type} {l m:List α} {i:Nat} {x : α} (h:l[i]? = some x):(l ++ m)[i]? = some x:=by
  have hi:=(List.getElem?_eq_some_iff.mp h).1
  rw [List.getElem?_append_left hi]; exact h
theorem BV {α : Type} {l:List α} {y x : α} {i:Nat} (h:(l ++ [y])[i]? = some x):l[i]? = some x∨(i=l.length∧x=y):=by
  by_cases hi:i < l.length
  · rw [List.getElem?_append_left hi] at h; exact .inl h
  · right
    rw [List.getElem?_append_right (by omega)] at h
    cases e:i - l.length with
    | zero => rw [e] at h; exact ⟨by omega,(Option.some.inj h).symm⟩
    | succ k => rw [e] at h; cases h
theorem Jy.mono {W:Wk} {cs ws cs' ws':List (List Int)} {c u es:List Int} {r:List Hs} (h:Jy W cs ws c u es r):Jy W (cs ++ cs') (ws ++ ws') c u es r:=by
  refine ⟨h.1,fun i e x a b => ?_⟩
  obtain ⟨h1,h2,j,h3,h4,v,h5,h6⟩:=h.2 i e x a b
  exact ⟨h1,h2,j,h3,DS h4,v,DS h5,h6⟩
structure GI (W:Wk) (f0:List Int) (S:FS) (n k:Nat):Prop where
  wl:S.ws.length=S.cs.length
  c0:S.cs[0]? = some f0
  w0:S.ws[0]? = some []
  nd:S.cs.Nodup
  go:∀ (j:Nat) v c,S.ws[j]? = some v→S.cs[j]? = some c→v.foldl W.nx f0=c
  par:∀ (j:Nat) v,S.ws[j]? = some v→v=[]∨∃ (i:Nat) (u:List Int) (e:Int),S.ws[i]? = some u∧v=u ++ [e]∧0≤e∧e < 4∧(i < n∨(i=n∧e < (k:Int)))
  srt:∀ (i j:Nat) u v,i < j→S.ws[i]? = some u→S.ws[j]? = some v→SL u v
  rl:S.rows.length=n
  rw:∀ (i:Nat) c u r,S.cs[i]? = some c→S.ws[i]? = some u→S.rows[i]? = some r→Jy W S.cs S.ws c u [0,1,2,3] r
theorem GI.below {W:Wk} {f0:List Int} {S:FS} {n k:Nat} (h:GI W f0 S n k) {w:List Int} (hw:S.ws[n]? = some w) {j:Nat} {v:List Int} (hv:S.ws[j]? = some v):SL v (w ++ [(k:Int)]):=by
  rcases h.par j v hv with rfl | ⟨i,u,e,h1,rfl,h2,h3,h4⟩
  · exact SL_nil _ _
  · rcases h4 with h4 | ⟨rfl,h4⟩
    · exact (h.srt i n u w h4 h1 hw).snoc _ _
    · rw [h1] at hw; cases hw; exact SL_last h4 _
theorem O3 {W:Wk} {f0:List Int} {S S':FS} {n k:Nat} {c w:List Int} (h:GI W f0 S n k) (hk:k < 4) (hc:S.cs[n]? = some c) (hw:S.ws[n]? = some w) (hr:Jy W S.cs S.ws c w (([0,1,2,3]:List Int).take k) S.row) (hs:LJ W c w S (k:Int) = .ok S') :
    GI W f0 S' n (k + 1)∧S'.cs[n]? = some c∧S'.ws[n]? = some w∧Jy W S'.cs S'.ws c w (([0,1,2,3]:List Int).take (k + 1)) S'.row:=by
  unfold LJ at hs
  split at hs
  · cases hs
  rename_i hp
  have par':∀ {i:Nat} {e:Int},(i < n∨(i=n∧e < (k:Int)))→(i < n∨(i=n∧e < ((k + 1:Nat):Int))):=fun z => by
    rcases z with z | ⟨z,z'⟩
    · exact .inl z
    · exact .inr ⟨z,by omega⟩
  have hek:([0,1,2,3]:List Int)[k]? = some (k:Int):=by
    match k,hk with
    | 0,_ => rfl
    | 1,_ => rfl
    | 2,_ => rfl
    | 3,_ => rfl
  have tk:([0,1,2,3]:List Int).take (k + 1)=([0,1,2,3]:List Int).take k ++ [(k:Int)]:=by rw [List.take_add_one,hek]; rfl
  have rowx:∀ {cs ws:List (List Int)} {r:List Hs} {x:Hs},Jy W cs ws c w (([0,1,2,3]:List Int).take k) r→(x.2=W.dd c (k:Int)∧∃ j:Nat,x.1=(j:Int)∧cs[j]? = some (W.nx c (k:Int))∧∃ v,ws[j]? = some v∧(v=w ++ [(k:Int)]∨SL v (w ++ [(k:Int)]))) →
      Jy W cs ws c w (([0,1,2,3]:List Int).take (k + 1)) (r ++ [x]):=fun {cs ws r x} hr hx => by
    rw [tk]
    refine ⟨by rw [List.length_append,List.length_append,hr.1]; rfl,fun i e y a b => ?_⟩
    rcases BV b with b | ⟨b,rfl⟩
    · rcases BV a with a | ⟨a,rfl⟩
      · exact hr.2 i e y a b
      · have:=(List.getElem?_eq_some_iff.mp b).1
        rw [hr.1] at this
        omega
    · rcases BV a with a | ⟨a,rfl⟩
      · have:=(List.getElem?_eq_some_iff.mp a).1
        rw [← hr.1] at this
        omega
      · exact ⟨hp,hx⟩
  unfold gput at hs
  split at hs
  · rename_i hin
    cases hs
    refine ⟨⟨h.wl,h.c0,h.w0,h.nd,h.go,fun j v hv => ?_,h.srt,h.rl,h.rw⟩,hc,hw,rowx hr ⟨rfl,S.cs.idxOf (W.nx c (k:Int)),rfl,?_,?_⟩⟩
    · rcases h.par j v hv with z | ⟨i,u,e,h1,h2,h3,h4,h5⟩
      · exact .inl z
      · exact .inr ⟨i,u,e,h1,h2,h3,h4,par' h5⟩
    · rw [List.getElem?_eq_getElem (List.idxOf_lt_length_iff.mpr hin),List.getElem_idxOf]
    · have hl:S.cs.idxOf (W.nx c (k:Int)) < S.ws.length:=by rw [h.wl]; exact List.idxOf_lt_length_iff.mpr hin
      exact ⟨_,List.getElem?_eq_getElem hl,.inr (h.below hw (List.getElem?_eq_getElem hl))⟩
  · rename_i hin
    split at hs
    · cases hs
    cases hs
    refine ⟨⟨?_,DS h.c0,DS h.w0,?_,fun j v c' hv hc' => ?_,fun j v hv => ?_,fun i j u v hij hu hv => ?_,h.rl,fun i c' u r a b d => ?_⟩,DS hc,DS hw,rowx hr.mono ⟨rfl,S.cs.length,rfl,?_,w ++ [(k:Int)],?_,.inl rfl⟩⟩
    · show (S.ws ++ [_]).length=(S.cs ++ [_]).length
      rw [List.length_append,List.length_append,h.wl]; rfl
    · refine List.nodup_append.mpr ⟨h.nd,List.nodup_cons.mpr ⟨by simp,List.nodup_nil⟩,fun x hx y hy e => ?_⟩
      rw [e,List.mem_singleton.mp hy] at hx
      exact hin hx
    · rcases BV hv with hv | ⟨ej,rfl⟩
      · rcases BV hc' with hc' | ⟨ej,_⟩
        · exact h.go j v c' hv hc'
        · have:=(List.getElem?_eq_some_iff.mp hv).1
          rw [h.wl] at this
          omega
      · rcases BV hc' with hc' | ⟨_,rfl⟩
        · have:=(List.getElem?_eq_some_iff.mp hc').1
          have:=h.wl
          omega
        · rw [List.foldl_append]
          show W.nx (w.foldl W.nx f0) (k:Int)=_
          rw [h.go n w c hw hc]
    · rcases BV hv with hv | ⟨ej,rfl⟩
      · rcases h.par j v hv with z | ⟨i,u,e,h1,h2,h3,h4,h5⟩
        · exact .inl z
        · exact .inr ⟨i,u,e,DS h1,h2,h3,h4,par' h5⟩
      · exact .inr ⟨n,w,(k:Int),DS hw,rfl,by omega,by omega,.inr ⟨rfl,by omega⟩⟩
    · rcases BV hv with hv | ⟨ej,rfl⟩
      · rcases BV hu with hu | ⟨ei,_⟩
        · exact h.srt i j u v hij hu hv
        · have:=(List.getElem?_eq_some_iff.mp hv).1
          omega
      · rcases BV hu with hu | ⟨ei,_⟩
        · exact h.below hw hu
        · omega
    · rcases BV a with a | ⟨ei,_⟩
      · rcases BV b with b | ⟨ei,_⟩
        · exact (h.rw i c' u r a b d).mono
        · have:=(List.getElem?_eq_some_iff.mp a).1
          have:=h.wl
          omega
      · have:=(List.getElem?_eq_some_iff.mp d).1
        rw [h.rl] at this
        have:=(List.getElem?_eq_some_iff.mp hc).1
        omega
    · show (S.cs ++ [_])[S.cs.length]? = _
      rw [List.getElem?_append_right (Nat.le_refl _),Nat.sub_self]; rfl
    · show (S.ws ++ [_])[S.cs.length]? = _
      rw [← h.wl,List.getElem?_append_right (Nat.le_refl _),Nat.sub_self]; rfl
theorem M2 {W:Wk} {f0 c w:List Int} {n:Nat}:∀ (es:List Int) (k:Nat) {S S':FS},es=([0,1,2,3]:List Int).drop k→k≤4→GI W f0 S n k→S.cs[n]? = some c→S.ws[n]? = some w→Jy W S.cs S.ws c w (([0,1,2,3]:List Int).take k) S.row→NP W c w es S = .ok S' →
    GI W f0 S' n 4∧S'.cs[n]? = some c∧S'.ws[n]? = some w∧Jy W S'.cs S'.ws c w [0,1,2,3] S'.row
  | [],k,S,S',he,hk,h,hc,hw,hr,hs => by
    have e4:k=4:=by
      have:=congrArg List.length he
      rw [List.length_drop] at this
      simp only [List.length_cons,List.length_nil] at this
      omega
    subst e4
    cases hs
    exact ⟨h,hc,hw,hr⟩
  | e :: es,k,S,S',he,hk,h,hc,hw,hr,hs => by
    have hk4:k < 4:=by
      have:=congrArg List.length he
      rw [List.length_drop] at this
      simp only [List.length_cons,List.length_nil] at this
      omega
    have hh:e=(k:Int)∧es=([0,1,2,3]:List Int).drop (k + 1):=by
      match k,hk4,he with
      | 0,_,he => cases he; exact ⟨rfl,rfl⟩
      | 1,_,he => cases he; exact ⟨rfl,rfl⟩
      | 2,_,he => cases he; exact ⟨rfl,rfl⟩
      | 3,_,he => cases he; exact ⟨rfl,rfl⟩
    obtain ⟨rfl,he'⟩:=hh
    unfold NP at hs
    split at hs
    · cases hs
    · rename_i S1 h1
      obtain ⟨a1,a2,a3,a4⟩:=O3 h hk4 hc hw hr h1
      exact M2 es (k + 1) he' hk4 a1 a2 a3 a4 hs
theorem LK {W:Wk} {f0:List Int}:∀ (f n:Nat) {S S':FS},GI W f0 S n 0→LL W f n S = .ok S'→GI W f0 S' S'.rows.length 0
  | 0,n,S,S',h,hs => by cases hs; rw [h.rl]; exact h
  | f + 1,n,S,S',h,hs => by
    unfold LL at hs
    split at hs
    · rename_i hlt
      split at hs
      · cases hs
      · rename_i S1 h1
        unfold grow at h1
        have hc:=List.getElem?_eq_getElem hlt
        have hw:=List.getElem?_eq_getElem (show n < S.ws.length by rw [h.wl]; exact hlt)
        rw [List.getD_eq_getElem?_getD,List.getD_eq_getElem?_getD,hc,hw] at h1
        obtain ⟨b,b1,b2,b3⟩:=M2 (f0:=f0) (n:=n) [0,1,2,3] 0 (S:=⟨S.cs,S.ws,S.rows,[]⟩) rfl (by decide) ⟨h.wl,h.c0,h.w0,h.nd,h.go,h.par,h.srt,h.rl,h.rw⟩ hc hw ⟨rfl,fun i e x a _ => by cases a⟩ h1
        refine LK f (n + 1) (S:=⟨S1.cs,S1.ws,S1.rows ++ [S1.row],[]⟩) ⟨b.wl,b.c0,b.w0,b.nd,b.go,fun j v hv => ?_,b.srt,?_,fun i c u r x y z => ?_⟩ hs
        · rcases b.par j v hv with z | ⟨i,u,e,g1,g2,g3,g4,g5⟩
          · exact .inl z
          · refine .inr ⟨i,u,e,g1,g2,g3,g4,.inl ?_⟩
            rcases g5 with g5 | ⟨g5,_⟩ <;> omega
        · show (S1.rows ++ [S1.row]).length=n + 1
          rw [List.length_append,b.rl]; rfl
        · rcases BV z with z | ⟨ei,rfl⟩
          · exact b.rw i c u r x y z
          · rw [b.rl] at ei
            subst ei
            rw [b1] at x
            rw [b2] at y
            cases x
            cases y
            exact b3
    · cases hs; rw [h.rl]; exact h
theorem O9 (W:Wk) (f0:List Int):GI W f0 ⟨[f0],[[]],[],[]⟩ 0 0:=by
  refine ⟨rfl,rfl,rfl,List.nodup_cons.mpr ⟨by simp,List.nodup_nil⟩,fun j v c a b => ?_,fun j v a => ?_,fun i j u v hij a b => ?_,rfl,fun i c u r a b d => by cases d⟩
  · cases j with
    | zero => cases a; cases b; rfl
    | succ j => cases a
  · cases j with
    | zero => cases a; exact .inl rfl
    | succ j => cases a
  · cases j with
    | zero => omega
    | succ j => cases b
theorem GI.ent {W:Wk} {f0:List Int} {S:FS} {k:Nat} (h:GI W f0 S S.rows.length k) (hl:S.rows.length=S.cs.length) {n:Nat} {c:List Int} (hc:S.cs[n]? = some c) {e:Nat} (he:e < 4):∃ (r:List Hs) (w:List Int) (j:Nat) (v:List Int),S.rows[n]? = some r∧r.length=4∧r[e]? = some ((j:Int),W.dd c (e:Int))∧S.cs[j]? = some (W.nx c (e:Int))∧W.pr c (e:Int)=Option.none ∧
    S.ws[n]? = some w∧S.ws[j]? = some v∧(v=w ++ [(e:Int)]∨SL v (w ++ [(e:Int)])):=by
  have hn:=(List.getElem?_eq_some_iff.mp hc).1
  have hr:=List.getElem?_eq_getElem (show n < S.rows.length by rw [hl]; exact hn)
  have hw:=List.getElem?_eq_getElem (show n < S.ws.length by rw [h.wl]; exact hn)
  obtain ⟨h4,hrow⟩:=h.rw n c _ _ hc hw hr
  have h4':(S.rows[n]'(by rw [hl]; exact hn)).length=4:=h4
  have hx:=List.getElem?_eq_getElem (show e < (S.rows[n]'(by rw [hl]; exact hn)).length by omega)
  have hek:([0,1,2,3]:List Int)[e]? = some (e:Int):=by
    match e,he with
    | 0,_ => rfl
    | 1,_ => rfl
    | 2,_ => rfl
    | 3,_ => rfl
  obtain ⟨g1,g2,j,g3,g4,v,g5,g6⟩:=hrow e _ _ hek hx
  refine ⟨_,_,j,v,hr,h4',?_,g4,g1,hw,g5,g6⟩
  rw [hx,← g2,← g3]
end
end Toy
namespace Toy
open PySem L2
seal PySem.wpAny
section
variable {P:Program} {w:World} {K:PySem.W.Frag} {mg:Str→Option Value} {base:Heap}
structure Nl (mg:Str→Option Value):Prop where
  behind:∃ t,mg "BEHIND" = some (.int 0 t)
  deeds:∃ t,mg "DEEDS" = some (.int 1 t)
structure MOk (M:FF):Prop where
  pos : 0 < M.length
  most:M.length≤30
  four:∀ r∈M,r.length=4
  to:∀ r∈M,∀ e∈r,0≤e.1∧e.1 < M.length
  few:∀ r∈M,∀ e∈r,e.2.length≤100
def CA (M:FF) (n e:Nat):Hs:=(M.getD n []).getD e (0,[])
theorem GV {M:FF} (G:MOk M) {n e:Nat} (hn:n < M.length) (he:e < 4):∃ r,M[n]? = some r∧r.length=4∧r[e]? = some (CA M n e)∧0≤(CA M n e).1∧(CA M n e).1 < M.length∧(CA M n e).2.length≤100:=by
  have hm:M[n]∈M:=List.getElem_mem hn
  have h4:=G.four _ hm
  have ee:CA M n e=M[n][e]'(by omega):=by
    unfold CA
    rw [List.getD_eq_getElem?_getD,List.getD_eq_getElem?_getD,List.getElem?_eq_getElem hn]
    rw [Option.getD_some,List.getElem?_eq_getElem (show e < M[n].length by omega)]; rfl
  have hme:M[n][e]'(by omega)∈M[n]:=List.getElem_mem _
  refine ⟨M[n],List.getElem?_eq_getElem hn,h4,?_,?_⟩
  · rw [ee]; exact List.getElem?_eq_getElem (by omega)
  · rw [ee]
    exact ⟨(G.to _ hm _ hme).1,(G.to _ hm _ hme).2,G.few _ hm _ hme⟩
def ML (C:Addr):Sp:=fun vs H Q _ => ∃ (c s r y:Addr) (ps:List Addr) (S W:List V) (M:FF) (n e:Nat),vs=[.ref c,.int n,.int e]∧G0 C H c s r y ps S M W∧MOk M∧n < M.length∧e < 4∧∀ v,BQ H v (CA M n e)→Q v H
theorem MP:AA ["flat", "number", "event", "row"] ["flat", "number", "event"] (Ae Ep):=⟨rfl,rfl,rfl,by decide +kernel,rfl,by decide +kernel,by decide +kernel⟩
theorem OK {f C C0:Addr} {fd:FuncData} (D:Am K mg "entry_of" Ep ["flat", "number", "event"] f fd) (T:Dn K mg C0) (TF:Kk K mg C) (B:Nl mg):AD P w K mg base A9 1 f fd ["flat", "number", "event"] (ML C):=by
  refine D.fn.ok MP (fun vs H Q E h => ?_) (fun cdv A outer s H vs Q E hr h => ?_)
  · obtain ⟨c,s,r,y,ps,S,W,M,n,e,rfl,_⟩:=h
    rfl
  obtain ⟨c,sa,ra,ya,ps,S,W,M,n,e,rfl,hF,hG,hn,he,q⟩:=h
  refine ⟨_,Ad (Ar (i := 3) MP.nd rfl (Or.inl rfl) (An Au (Bn (pv 0) rfl) (pv 1) (fun _ _ => rfl)))
    (Ad (A0 (FX JV Lp Ah (pv 2) (AG At (by rfl) T.len PySem.boot_len (Aa (pv 3) Ab))) (Aj (AM (An Au (pv 3) (pv 2) (fun _ _ => rfl)))) AJ)
    Bh),?_⟩
  obtain ⟨⟨dx,h1⟩,h2,h3,h4,h5⟩:=hF
  obtain ⟨row,er,hr4,ee,_⟩:=GV hG hn he
  obtain ⟨p,hp,vs,hv,hE⟩:=h4.at er
  obtain ⟨v,hv2,hv3⟩:=hE.at ee
  have hp':(ps.map V.ref)[n]? = some (.ref p):=by rw [List.getElem?_map,hp]; rfl
  refine ⟨_,rfl,c,C,dx,_,_,rfl,h1,TF.cl,TF.nR,Mu sa ra ya,_,rfl,ra,_,_,_,rfl,rfl,AE.of h3,BN hp',?_⟩
  refine ⟨_,rfl,_,_,rfl,rfl,_,rfl,?_⟩
  rw [decide_eq_true (show (0:Int)≤(e:Int) by omega)]
  refine Bi ?_
  refine ⟨_,rfl,p,_,rfl,.inl (AE.of hv),_,_,rfl,rfl,_,rfl,?_⟩
  have hl:vs.length=4:=by rw [hE.1,hr4]
  rw [hl,decide_eq_true (show (e:Int) < ((4:Nat):Int) by omega)]
  refine Bi ?_
  exact ⟨_,rfl,_,rfl,p,_,_,_,rfl,rfl,AE.of hv,BN hv2,q v hv3⟩
def B4 (M:FF) (evs:List Nat):Nat×List (List Int):=evs.foldl (fun st e => ((CA M st.1 e).1.toNat,st.2 ++ [(CA M st.1 e).2])) (0,[])
theorem Ft (M:FF) (evs:List Nat) (e:Nat):B4 M (evs ++ [e])=((CA M (B4 M evs).1 e).1.toNat,(B4 M evs).2 ++ [(CA M (B4 M evs).1 e).2]):=by
  unfold B4
  rw [List.foldl_append]; rfl
theorem K9 {M:FF} (G:MOk M):∀ (n:Nat) (evs:List Nat),evs.length=n→(∀ e∈evs,e < 4)→(B4 M evs).1 < M.length∧(B4 M evs).2.length=n∧∀ ds∈(B4 M evs).2,ds.length≤100
  | 0,evs,hl,_ => by
    have:evs=[]:=List.length_eq_zero_iff.mp hl
    subst this
    exact ⟨G.pos,rfl,fun ds h => by simp [B4] at h⟩
  | n + 1,evs,hl,h => by
    obtain ⟨ini,e,rfl⟩ : ∃ ini e,evs=ini ++ [e]:=⟨evs.dropLast,evs.getLast (by intro z; rw [z] at hl; simp at hl),(List.dropLast_concat_getLast _).symm⟩
    obtain ⟨i1,i2,i3⟩:=K9 G n ini (by simpa using hl) fun x hx => h x (List.mem_append_left _ hx)
    obtain ⟨r,_,_,_,g1,g2,g3⟩:=GV G i1 (h e (by simp))
    rw [Ft]
    refine ⟨?_,by simp [i2],fun ds hd => ?_⟩
    · show (CA M (B4 M ini).1 e).1.toNat < _
      omega
    · rcases List.mem_append.mp hd with z | z
      · exact i3 ds z
      · have z':ds=(CA M (B4 M ini).1 e).2:=by simpa using z
        rw [z']; exact g3
def Oj (C:Addr):Sp:=fun vs H Q _ => ∃ (c s r y l:Addr) (ps:List Addr) (S W:List V) (M:FF) (evs:List Nat),vs=[.ref c,.ref l]∧G0 C H c s r y ps S M W∧MOk M∧H l=some (.lst (evs.map fun (e:Nat) => V.int (e:Int)))∧(∀ e∈evs,e < 4)∧evs.length≤100 ∧
  ∀ (t d:Addr) (ds:List V) (H':Hp),Ao H H'→H' t=some (.tup [.int ((B4 M evs).1:Nat),.ref d])→H' d=some (.lst ds)→Z (C4 H') ds (B4 M evs).2→Q (.ref t) H'
theorem GJ:AA ["flat", "events", "number", "deeds", "event", "entry"] ["flat", "events"] (Ae G8):=⟨rfl,rfl,rfl,by decide +kernel,rfl,by decide +kernel,by decide +kernel⟩
theorem ok_frun {f C C0 fe:Addr} {fd fde:FuncData} (D:Am K mg "flat_run" G8 ["flat", "events"] f fd) (T:Dn K mg C0) (TF:Kk K mg C) (B:Nl mg) (De:Am K mg "entry_of" Ep ["flat", "number", "event"] fe fde):AD P w K mg base A9 2 f fd ["flat", "events"] (Oj C):=by
  have Ge:AD P w K mg base A9 1 fe fde ["flat", "number", "event"] (ML C):=OK De T TF B
  refine D.fn.ok GJ (fun vs H Q E h => ?_) (fun cdv A outer s H vs Q E hr h => ?_)
  · obtain ⟨c,s,r,y,l,ps,S,W,M,evs,rfl,_⟩:=h
    rfl
  obtain ⟨c,sa,ra,ya,l,ps,S,W,M,evs,rfl,hF,hG,hl,h4,hlen,q⟩:=h
  refine ⟨_,Ad (Ar (i := 2) GJ.nd rfl (Or.inl rfl) Ah)
    (Ad (Ar (i := 3) GJ.nd rfl (Or.inl rfl) (Bf Ab))
    (Ad (Bj PassesOwn.never rfl (Bu (pv 1)) (AI (i := 4) GJ.nd rfl (Or.inl rfl))
      (Ad (Ar (i := 5) GJ.nd rfl (Or.inl rfl) (Ap Ge hr rfl De.mg De.fn.kp De.bd .nil AF (Aa (pv 0) (Aa (pv 2) (Aa (pv 4) Ab)))))
      (Ad (Ar (i := 2) GJ.nd rfl (Or.inl rfl) (An Aw (pv 5) (AO B.behind rfl) (fun _ _ => rfl)))
      (Aj (AS (BC PySem.F.plainAttrs_list PySem.F.slot_list_append PySem.F.type_list_append AU (pv 3) (Aa (An Aw (pv 5) (AO B.deeds rfl) (fun _ _ => rfl)) Ab)))))))
    (Aj (AM (AX (Aa (pv 2) (Aa (pv 3) Ab))))))),?_⟩
  refine ⟨(by show 0≤sizeLine; decide),fun d hd => ?_⟩
  have s1:=Ag hd (.lst [])
  refine ⟨_,rfl,l,rfl,⟨_,AE.of (s1 _ _ hl)⟩,?_⟩
  refine B6 (K:=K) (xs:=evs.map fun (e:Nat) => V.int (e:Int)) (fun i σ H1 => ∃ v4 v5 ds,σ = [some (.ref c),some (.ref l),some (.int ((B4 M (evs.take i)).1:Nat)),some (.ref d),v4,v5]∧Ao H H1∧H1 d=some (.lst ds)∧Z (C4 H1) ds (B4 M (evs.take i)).2) ⟨_,_,[],rfl,s1,Ac,Z.nil⟩ ?_ ?_ ?_
  · rintro i σ H1 hi ⟨v4,v5,ds,rfl,s2,_,_⟩
    exact AE.of (s2 _ _ hl)
  · rintro i x σ H1 hx ⟨v4,v5,ds,rfl,s2,e2,hZ⟩
    obtain ⟨e,he,rfl⟩ : ∃ e,evs[i]? = some e∧V.int (e:Int)=x:=by
      rw [List.getElem?_map] at hx
      cases z:evs[i]? with
      | none => rw [z] at hx; simp at hx
      | some p => rw [z] at hx; exact ⟨p,rfl,by simpa using hx⟩
    have hi:i < evs.length:=(List.getElem?_eq_some_iff.mp he).1
    have ht4:∀ x∈evs.take i,x < 4:=fun x hx => h4 x (List.mem_of_mem_take hx)
    obtain ⟨w1,w2,w3⟩:=K9 hG _ (evs.take i) rfl ht4
    have he4:=h4 e (List.mem_of_getElem? he)
    obtain ⟨_,_,_,_,g1,g2,g3⟩:=GV hG w1 he4
    refine ⟨_,rfl,_,rfl,_,rfl,c,sa,ra,ya,ps,S,W,M,_,e,rfl,hF.same s2,hG,w1,he4,fun v hv => ?_⟩
    obtain ⟨t,u,rfl,ht,hu⟩:=hv
    refine ⟨_,rfl,t,_,_,_,rfl,rfl,A2.of ht,rfl,?_⟩
    refine ⟨_,rfl,.inl ⟨rfl,_,AE.of e2⟩,_,rfl,t,_,_,_,rfl,rfl,A2.of ht,rfl,d,_,_,rfl,rfl,e2,?_,?_⟩
    · rw [hZ.1,w2,List.length_take]; exact Av (by omega)
    have kp:GB d H1 (upd H1 d (.lst (ds ++ [u]))):=fun x o ex n => by rw [Ak n]; exact ex
    have et:B4 M (evs.take (i + 1))=((CA M (B4 M (evs.take i)).1 e).1.toNat,(B4 M (evs.take i)).2 ++ [(CA M (B4 M (evs.take i)).1 e).2]):=by
      rw [List.take_succ,he]; exact Ft M _ e
    refine ⟨some (.int e),some (.ref t),ds ++ [u],?_,fun x o ex => kp x o (s2 _ _ ex) (Al ex hd),Ac,?_⟩
    · rw [et]
      have z:(((CA M (B4 M (evs.take i)).1 e).1.toNat:Nat):Int)=(CA M (B4 M (evs.take i)).1 e).1:=by omega
      show _=[some (V.ref c),some (V.ref l),some (V.int (((CA M (B4 M (evs.take i)).1 e).1.toNat:Nat):Int)),some (V.ref d),_,_]
      rw [z]; rfl
    · rw [et]
      exact Z.snoc (hZ.mono fun _ _ z => z.keep kp (Ey e2)) (hu.keep kp (Ey e2))
  · rintro σ H1 ⟨v4,v5,ds,rfl,s2,e2,hZ⟩
    rw [List.length_map,List.take_length] at hZ
    rw [List.length_map,List.take_length]
    refine ⟨_,rfl,_,rfl,(by show 2≤sizeLine; decide),fun t ht => ?_⟩
    have s3:=Ag ht (.tup [.int ((B4 M evs).1:Nat),.ref d])
    exact q t d ds _ (s2.trans s3) Ac (s3 _ _ e2) (hZ.mono fun _ _ z => z.same s3)
end
end Toy
namespace Toy
open PySem L2
seal PySem.wpAny
section
variable {P:Program} {w:World} {K:PySem.W.Frag} {mg:Str→Option Value} {base:Heap}
def PD (R:List Ai) (A:List Aq):Wk:=⟨nxE R A,N3 R A,fun c e => Bo (Eb R A) (tkL R A c e),30⟩
theorem Pk {R:List Ai} {A:List Aq} {c w:List Int}:∀ (es:List Int) (S:FS),D1 R A c w es S=NP (PD R A) c w es S
  | [],S => rfl
  | e :: es,S => by
    have h1:E5 R A c w S e=LJ (PD R A) c w S e:=rfl
    unfold D1 NP
    rw [h1]
    cases LJ (PD R A) c w S e with
    | error x => rfl
    | ok S1 => exact Pk es S1
theorem M5 {R:List Ai} {A:List Aq}:∀ (f n:Nat) (S:FS),DJ R A f n S=LL (PD R A) f n S
  | 0,n,S => rfl
  | f + 1,n,S => by
    have h1:Ho R A n S=grow (PD R A) n S:=Pk _ _
    unfold DJ LL
    rw [h1]
    split
    · cases grow (PD R A) n S with
      | error x => rfl
      | ok S1 => exact M5 f (n + 1) _
    · rfl
theorem fold_gi {R:List Ai} {A:List Aq} {S:FS} (h:Du R A = .ok S):GI (PD R A) (Bs R) S S.rows.length 0:=by
  unfold Du at h
  rw [M5] at h
  exact LK 31 0 (O9 _ _) h
theorem OT {α : Type} {l:List α} {x : α} (h:x∈l):∃ i:Nat,l[i]? = some x:=by
  obtain ⟨i,hi,rfl⟩:=List.mem_iff_getElem.mp h
  exact ⟨i,List.getElem?_eq_getElem hi⟩
end
end Toy
namespace Toy
open PySem L2
seal PySem.wpAny
section
variable {P:Program} {w:World} {K:PySem.W.Frag} {mg:Str→Option Value} {base:Heap}
theorem Ph {R:List Ai} {A:List Aq} {S:FS} (h:GI (PD R A) (Bs R) S S.rows.length 0) (hl:S.rows.length=S.cs.length) (h30:S.cs.length≤30) (hal:A.length≤100):MOk S.rows:=by
  have one:∀ r∈S.rows,r.length=4∧∀ x∈r,(0≤x.1∧x.1 < S.rows.length)∧x.2.length≤100:=fun r hr => by
    obtain ⟨i,hi⟩:=OT hr
    have hil:=(List.getElem?_eq_some_iff.mp hi).1
    have hc:=List.getElem?_eq_getElem (show i < S.cs.length by rw [← hl]; exact hil)
    have hw:=List.getElem?_eq_getElem (show i < S.ws.length by rw [h.wl,← hl]; exact hil)
    obtain ⟨g1,g2⟩:=h.rw i _ _ r hc hw hi
    refine ⟨g1,fun x hx => ?_⟩
    obtain ⟨k,hk⟩:=OT hx
    have hkl:=(List.getElem?_eq_some_iff.mp hk).1
    obtain ⟨a1,a2,j,a3,a4,_⟩:=g2 k _ x (List.getElem?_eq_getElem (show k < ([0,1,2,3]:List Int).length by rw [← g1]; exact hkl)) hk
    have hj:=(List.getElem?_eq_some_iff.mp a4).1
    refine ⟨by rw [a3,hl]; omega,?_⟩
    rw [a2]
    exact Nat.le_trans (ddE_len R A _ _) hal
  refine ⟨?_,by omega,fun r hr => (one r hr).1,fun r hr e he => ((one r hr).2 e he).1,fun r hr e he => ((one r hr).2 e he).2⟩
  have:=(List.getElem?_eq_some_iff.mp h.c0).1
  omega
theorem Po {R:List Ai} {A:List Aq} {S:FS} (h:GI (PD R A) (Bs R) S S.rows.length 0) (hl:S.rows.length=S.cs.length) {n:Nat} {c:List Int} (hc:S.cs[n]? = some c) {e:Nat} (he:e < 4):∃ j:Nat,CA S.rows n e=((j:Int),N3 R A c (e:Int))∧S.cs[j]? = some (nxE R A c (e:Int)):=by
  obtain ⟨r,w,j,v,g1,g2,g3,g4,_⟩:=h.ent hl hc he
  refine ⟨j,?_,g4⟩
  unfold CA
  rw [List.getD_eq_getElem?_getD,List.getD_eq_getElem?_getD,g1,Option.getD_some,g3]; rfl
theorem JD {R:List Ai} {A:List Aq} {S:FS} (h:GI (PD R A) (Bs R) S S.rows.length 0) (hl:S.rows.length=S.cs.length) {es:List Nat} (h4:∀ e∈es,e < 4):∀ i,i≤es.length →
    S.cs[(B4 S.rows (es.take i)).1]? = some (chAt R A (es.map fun (e:Nat) => (e:Int)) i)∧(B4 S.rows (es.take i)).2=(List.range i).map (KY R A (es.map fun (e:Nat) => (e:Int)))
  | 0,_ => ⟨h.c0,rfl⟩
  | i + 1,hi => by
    obtain ⟨a1,a2⟩:=JD h hl h4 i (by omega)
    have he:=List.getElem?_eq_getElem (show i < es.length by omega)
    have hev:(es.map fun (e:Nat) => (e:Int))[i]? = some ((es[i]'(by omega):Nat):Int):=by rw [List.getElem?_map,he]; rfl
    obtain ⟨j,b1,b2⟩:=Po h hl a1 (h4 _ (List.getElem_mem (show i < es.length by omega)))
    have ht:es.take (i + 1)=es.take i ++ [es[i]'(by omega)]:=by rw [List.take_add_one,he]; rfl
    rw [ht,Ft,b1]
    refine ⟨?_,?_⟩
    · show S.cs[((j:Int)).toNat]? = _
      rw [Int.toNat_natCast,b2,Kc hev]; rfl
    · rw [List.range_succ,List.map_append,← a2]
      show _ ++ [N3 R A _ _] = _ ++ [KY R A _ i]
      unfold KY
      rw [M3 hev]; rfl
theorem My {H:Hp}:∀ {ds:List V} {xss:List (List Int)},Z (C4 H) ds xss→∃ ps:List Addr,ds=ps.map V.ref∧AK H ps (P2 xss)
  | [],[],_ => ⟨[],rfl,rfl,fun i p o a _ => by cases a⟩
  | [],_ :: _,h => by have:=h.1; simp at this
  | _ :: _,[],h => by have:=h.1; simp at this
  | d :: ds,x :: xss,h => by
    obtain ⟨p,rfl,hp⟩:=h.uncons.1
    obtain ⟨ps,rfl,h2,h3⟩:=My h.uncons.2
    refine ⟨p :: ps,rfl,congrArg (· + 1) h2,fun i q o a b => ?_⟩
    cases i with
    | zero => cases a; cases b; exact hp
    | succ i => exact h3 i q o a b
theorem OS (zs:List Int):∃ es:List Nat,(zs.map fun z => z % 4)=(es.map fun (e:Nat) => (e:Int))∧∀ e∈es,e < 4:=by
  refine ⟨zs.map fun z => (z % 4).toNat,?_,fun e he => ?_⟩
  · rw [List.map_map]
    refine List.map_congr_left fun z _ => ?_
    show z % 4=(((z % 4).toNat:Nat):Int)
    omega
  · obtain ⟨z,_,rfl⟩:=List.mem_map.mp he
    omega
end
end Toy
namespace Toy
open PySem L2
seal PySem.wpAny
section
variable {P:Program} {w:World} {K:PySem.W.Frag} {mg:Str→Option Value} {base:Heap}
theorem fput_nm {R:List Ai} (hG:AY R) {A:List Aq} (hA:∀ x∈A,AW R x) (hfew:E2 R≤29) {c w:List Int} {e:Int} {S:FS} (hp:Bo (Eb R A) (tkL R A c e)=Option.none) (hc:RC R c) (h1:∀ x∈S.cs,RC R x) (h2:S.cs.Nodup) :
    ∃ S',KS R A c w S e = .ok S'∧(∀ x∈S'.cs,RC R x)∧S'.cs.Nodup∧S.cs.length≤S'.cs.length:=by
  have hx:RC R (nxE R A c e):=Kn hG hA hc hp
  unfold KS
  by_cases hin:nxE R A c e∈S.cs
  · rw [if_pos hin]
    exact ⟨_,rfl,h1,h2,Nat.le_refl _⟩
  · rw [if_neg hin,if_neg (fun z => by have:=Pj hfew h2 h1; omega)]
    refine ⟨_,rfl,fun x hm => ?_,?_,?_⟩
    · rcases List.mem_append.mp hm with z | z
      · exact h1 x z
      · rw [List.mem_singleton.mp z]; exact hx
    · refine List.nodup_append.mpr ⟨h2,List.nodup_cons.mpr ⟨by simp,List.nodup_nil⟩,fun x hx y hy e => ?_⟩
      rw [e,List.mem_singleton.mp hy] at hx
      exact hin hx
    · show S.cs.length≤(S.cs ++ [_]).length
      rw [List.length_append]; omega
theorem M7 {R:List Ai} (hG:AY R) {A:List Aq} (hA:∀ x∈A,AW R x) (hfew:E2 R≤29) {c w:List Int} (hc:RC R c):∀ (es:List Int) (S:FS),(∀ x∈S.cs,RC R x)→S.cs.Nodup →
    D1 R A c w es S≠.error .many∧∀ S',D1 R A c w es S = .ok S'→(∀ x∈S'.cs,RC R x)∧S'.cs.Nodup
  | [],S,h1,h2 => ⟨fun z => (by cases z),fun S' z => by cases z; exact ⟨h1,h2⟩⟩
  | e :: es,S,h1,h2 => by
    unfold D1 E5
    cases hp:Bo (Eb R A) (tkL R A c e) with
    | some ij => exact ⟨fun z => (by cases z),fun S' z => by cases z⟩
    | none =>
      obtain ⟨S1,g1,g2,g3,_⟩:=fput_nm (w:=w) hG hA hfew hp hc h1 h2
      simp only [g1]
      exact M7 hG hA hfew hc es S1 g2 g3
theorem LN {R:List Ai} (hG:AY R) {A:List Aq} (hA:∀ x∈A,AW R x) (hfew:E2 R≤29):∀ (f n:Nat) (S:FS),(∀ x∈S.cs,RC R x)→S.cs.Nodup→DJ R A f n S≠.error .many
  | 0,n,S,_,_ => fun z => by cases z
  | f + 1,n,S,h1,h2 => by
    unfold DJ
    by_cases hlt:n < S.cs.length
    · rw [if_pos hlt]
      have hc:RC R (S.cs.getD n []):=by
        rw [List.getD_eq_getElem?_getD,List.getElem?_eq_getElem hlt]
        exact h1 _ (List.getElem_mem hlt)
      obtain ⟨g1,g2⟩:=M7 (w:=S.ws.getD n []) hG hA hfew hc [0,1,2,3] ⟨S.cs,S.ws,S.rows,[]⟩ h1 h2
      unfold Ho
      cases hr:D1 R A (S.cs.getD n []) (S.ws.getD n []) [0,1,2,3] ⟨S.cs,S.ws,S.rows,[]⟩ with
      | error x =>
        cases x with
        | many => exact absurd hr g1
        | clash a b c => exact fun z => by cases z
      | ok S1 =>
        obtain ⟨k1,k2⟩:=g2 S1 hr
        exact LN hG hA hfew f (n + 1) ⟨S1.cs,S1.ws,S1.rows ++ [S1.row],[]⟩ k1 k2
    · rw [if_neg hlt]
      exact fun z => by cases z
theorem Jv {R:List Ai} (hG:AY R) {A:List Aq} (hA:∀ x∈A,AW R x) (hfew:E2 R≤29):Du R A≠.error .many:=by
  have h:=IT hG
  exact LN hG hA hfew 31 0 _ h.rc h.nd
end
end Toy
namespace Toy
open PySem L2
seal PySem.wpAny
section
variable {P:Program} {w:World} {K:PySem.W.Frag} {mg:Str→Option Value} {base:Heap}
def MI (K:PySem.W.Frag):Sp:=fun vs H Q _ => ∃ (a:Addr) (ns:List Int),vs=[.ref a]∧AE K H a (ns.map V.int)∧ns.length≤63∧∀ H',Q (.bl true) H'
theorem Dq:AA ["script", "many", "rooms", "arrows", "framed", "events", "tried", "choice", "told", "event", "taken", "found"] ["script"] (Ae Eo):=⟨rfl,rfl,rfl,by decide +kernel,rfl,by decide +kernel,by decide +kernel⟩
theorem ok_law {f C CF fi fcell frooms fcells far ffr ffo ftr ff1 fk ft fb ffl fen fro GC fsa fst:Addr} {fd fdi fdcell fdrooms fdcells fdar fdfr fdfo fdtr fdf1 fdk fdt fdb fdfl fden fdro fdrs fdsa fdst:FuncData} (D:Am K mg "law" Eo ["script"] f fd) (T:Dn K mg C) (TF:Kk K mg CF) (B:Nl mg) (M:Mk K C fi) (bi:C8 K fdi ["self", "rooms", "arrows"] [])
    (Gi:AD P w K mg base A9 6 fi fdi ["self", "rooms", "arrows"] (Oh C)) (Dc:Am K mg "_law_cell_at" ET ["script", "k"] fcell fdcell) (Dr:Am K mg "_law_rooms" EQ ["script", "many"] frooms fdrooms) (Dcs:Am K mg "_law_cells" Er ["script", "start", "many"] fcells fdcells)
    (Da:Am K mg "_law_arrows" Cq ["rooms", "cells", "free"] far fdar) (Ga:AD P w K mg base A9 3 far fdar ["rooms", "cells", "free"] Li)
    (Df:Am K mg "_law_framed" Cf ["script", "start", "clashing_v"] ffr fdfr) (Dfo:Am K mg "_law_fold" FV ["rooms", "arrows"] ffo fdfo) (Gfo:AD P w K mg base A9 6 ffo fdfo ["rooms", "arrows"] MJ)
    (Dtr:Am K mg "_law_tried" EN ["chart"] ftr fdtr) (Gtr:AD P w K mg base A9 24 ftr fdtr ["chart"] (MD C CF))
    (Df1:Am K mg "_law_first" DE ["rooms"] ff1 fdf1) (Dk:Am K mg "_law_kept" ES ["rooms", "choice"] fk fdk) (Dt:Am K mg "_law_takeable" DV ["rooms", "arrows", "kept", "event"] ft fdt) (Gt:AD P w K mg base A9 2 ft fdt ["rooms", "arrows", "kept", "event"] (Ks K))
    (Db:Am K mg "_law_behind" Dy ["rooms", "arrows", "choice", "taken"] fb fdb) (Gb:AD P w K mg base A9 4 fb fdb ["rooms", "arrows", "choice", "taken"] HW)
    (Dfl:Am K mg "flat_run" G8 ["flat", "events"] ffl fdfl) (Den:Am K mg "entry_of" Ep ["flat", "number", "event"] fen fden) (Dro:Am K mg "_law_row" Jp ["found", "due"] fro fdro) (Drs:Am K mg "_law_rows_same" Cv ["found", "due"] GC fdrs) (Dsa:Am K mg "_law_same_state" G2 ["found", "due"] fsa fdsa)
    (Dst:Am K mg "_law_state" El ["rooms", "choice"] fst fdst):AD P w K mg base A9 25 f fd ["script"] (MI K):=by
  have Gc:AD P w K mg base A9 1 fcell fdcell ["script", "k"] (HV K):=HK Dc T
  have Gr:AD P w K mg base A9 2 frooms fdrooms ["script", "many"] (MG K):=OF Dr T Dc
  have Gcs:AD P w K mg base A9 2 fcells fdcells ["script", "start", "many"] (MM K):=OM Dcs T Dc
  have Gf:AD P w K mg base A9 2 ffr fdfr ["script", "start", "clashing_v"] (Lg K):=Ny Df T Dc
  have Gf1:AD P w K mg base A9 1 ff1 fdf1 ["rooms"] Hw:=Iz Df1 T
  have Gk:AD P w K mg base A9 1 fk fdk ["rooms", "choice"] Kt:=KI Dk T
  have Gfl:AD P w K mg base A9 2 ffl fdfl ["flat", "events"] (Oj CF):=ok_frun Dfl T TF B Den
  have Grs:AD P w K mg base A9 2 GC fdrs ["found", "due"] HP:=KH Drs T Dro
  have Gsa:AD P w K mg base A9 2 fsa fdsa ["found", "due"] Ob:=ok_same Dsa T Dro
  have Gst:AD P w K mg base A9 2 fst fdst ["rooms", "choice"] Kq:=Ls Dst T Dk
  refine D.fn.ok Dq (fun vs H Q E h => ?_) (fun cdv A outer s H vs Q E hr h => ?_)
  · obtain ⟨a,ns,rfl,_⟩:=h
    rfl
  obtain ⟨a,ns,rfl,hS,hn,q⟩:=h
  have hr1:Ca 1 _:=hr.mono (by decide)
  have hr2:Ca 2 _:=hr.mono (by decide)
  have hr3:Ca 3 _:=hr.mono (by decide)
  obtain ⟨t5,p5,r5⟩ : ∃ t,Jm (DW A9 P w K mg base ["script", "many", "rooms", "arrows", "framed", "events", "tried", "choice", "told", "event", "taken", "found"] "law" (Ae Eo) f cdv A outer s H E).nox ((Az Eo).drop 5) t ∧
      ∀ (r ar:Addr) (ps qs:List Addr) (R:List Ai) (As:List Aq) (v1 v4:Option V) (H0:Hp),AY R→(∀ x∈As,AW R x)→As.length≤20→E2 R≤29→Ao H H0→H0 r=some (.lst (ps.map V.ref))→AK H0 ps (R.map rV)→H0 ar=some (.lst (qs.map V.ref))→AK H0 qs (As.map aV) →
        t { nx:=fun _ H' => Q .non H',rt:=Q } [some (.ref a),v1,some (.ref r),some (.ref ar),v4,Option.none,Option.none,Option.none,Option.none,Option.none,Option.none,Option.none] H0:=by
    refine ⟨_,Ad (Fg (i := 5) ["cell"] [Option.none] rfl Dq.nd rfl rfl (Bu (DG Eh (pv 0) (Et Ah) Eu)) (fun _ => AI (i := 0) (show (["cell"]:List Str).Nodup by decide +kernel) rfl (Or.inl rfl)) (fun _ => Cr) (fun _ => AH Bp (pv 0) Ah) (N:=["script", "many", "rooms", "arrows", "framed", "events", "tried", "choice", "told", "event", "taken", "found"]) (ks:=(Ae Eo).names) rfl rfl (by decide +kernel) (by decide +kernel) (by decide +kernel) (by decide +kernel))
      (Ad (Ar (i := 6) Dq.nd rfl (Or.inl rfl) (Ap Gtr (hr.mono (by decide)) rfl Dtr.mg Dtr.fn.kp Dtr.bd .nil AF (Aa (MT M Gi (hr.mono (by decide)) rfl T.mgC bi .nil AF (Aa (Ba Bw (by rfl) T.list (by decide +kernel) (Aa (pv 2) Ab)) (Aa (Ba Bw (by rfl) T.list (by decide +kernel) (Aa (pv 3) Ab)) Ab))) Ab)))
      (Ad (A0 (AB FY (An Aw (Ap Gfo (hr.mono (by decide)) rfl Dfo.mg Dfo.fn.kp Dfo.bd .nil AF (Aa (pv 2) (Aa (pv 3) Ab))) Ah (fun _ _ => rfl)) Cj (AT _)) (Aj (AM (Mg (DR OA (An Aw (pv 6) Ah (fun _ _ => rfl)) Cj (AT _)) (GO (DR FY (An Aw (pv 6) Ah (fun _ _ => rfl)) Cj (AT _)))))) AJ)
      (Ad (A0 (AB OA (An Aw (pv 6) Ah (fun _ _ => rfl)) Cj (AT _)) Bh AJ)
      (Ad (Ar (i := 7) Dq.nd rfl (Or.inl rfl) (Ap Gf1 hr1 rfl Df1.mg Df1.fn.kp Df1.bd .nil AF (Aa (pv 2) Ab)))
      (Ad (Ar (i := 8) Dq.nd rfl (Or.inl rfl) (Bf Ab))
      (Ad (Bj PassesOwn.never rfl (Bu (pv 5)) (AI (i := 9) Dq.nd rfl (Or.inl rfl)) (Ad (Ar (i := 10) Dq.nd rfl (Or.inl rfl) (Ap Gt hr2 rfl Dt.mg Dt.fn.kp Dt.bd .nil AF (Aa (pv 2) (Aa (pv 3) (Aa (Ap Gk hr1 rfl Dk.mg Dk.fn.kp Dk.bd .nil AF (Aa (pv 2) (Aa (pv 7) Ab))) (Aa (pv 9) Ab))))))
      (Ad (Ar (i := 7) Dq.nd rfl (Or.inl rfl) (Ap Gb (hr.mono (by decide)) rfl Db.mg Db.fn.kp Db.bd .nil AF (Aa (pv 2) (Aa (pv 3) (Aa (pv 7) (Aa (pv 10) Ab))))))
      (Aj (AS (BC PySem.F.plainAttrs_list PySem.F.slot_list_append PySem.F.type_list_append AU (pv 8) (Aa (Ba Bv (by rfl) T.tup (by decide +kernel) (Aa (Cg ["k", "arrows"] [Option.none,some 3] rfl (Bu (pv 10)) (fun _ => AI (i := 0) (show (["k", "arrows"]:List Str).Nodup by decide +kernel) rfl (Or.inl rfl)) (fun _ => Cr) (fun _ => An Aw (An Au (pv 1) (pv 0) (fun _ _ => rfl)) Ah (fun _ _ => rfl)) (N:=["script", "many", "rooms", "arrows", "framed", "events", "tried", "choice", "told", "event", "taken", "found"]) (ks:=(Ae Eo).names) rfl rfl (by decide +kernel) (by decide +kernel) (by decide +kernel) (by decide +kernel)) Ab)) Ab)))))))
      (Ad (Ar (i := 11) Dq.nd rfl (Or.inl rfl) (Ap Gfl hr2 rfl Dfl.mg Dfl.fn.kp Dfl.bd .nil AF (Aa (An Aw (pv 6) Ah (fun _ _ => rfl)) (Aa (Ba Bw (by rfl) T.list (by decide +kernel) (Aa (pv 5) Ab)) Ab))))
      (Ad (A0 (PW.pt (Fq (Di (B8 (AG CB (by rfl) T.inst (by decide +kernel) (Aa (pv 11) (Aa (Fh (by rfl) T.tup (by decide +kernel) (v:=.ty "tuple") rfl) Ab))))) (Fq (AB EG (AG At (by rfl) T.len PySem.boot_len (Aa (pv 11) Ab)) Ah (AT _)) (EW (Di (B8 (Ap Grs hr2 rfl Drs.mg Drs.fn.kp Drs.bd .nil AF (Aa (An Aw (pv 11) Ah (fun _ _ => rfl)) (Aa (pv 8) Ab))))))))) Bh AJ)
      (Aj (AM (Ap Gsa hr2 rfl Dsa.mg Dsa.fn.kp Dsa.bd .nil AF (Aa (An Au (Bn (An Aw (pv 6) Ah (fun _ _ => rfl)) rfl) (An Aw (pv 11) Ah (fun _ _ => rfl)) (fun _ _ => rfl)) (Aa (Ap Gst hr2 rfl Dst.mg Dst.fn.kp Dst.bd .nil AF (Aa (pv 2) (Aa (pv 7) Ab))) Ab))))))))))))),?_⟩
    intro r ar ps qs R As v1 v4 H0 hG hA h20 hfew s00 hr0 hI har hJ
    refine ⟨_,rfl,_,rfl,a,_,rfl,s00.seq hS,fun sl hsl => ?_⟩
    have ecut:Cs (ns.map V.int) (some (22:Int)) Option.none=(ns.drop 22).map V.int:=by
      have:=cutN (ns.map V.int) 22
      rw [List.map_drop]; exact this
    have s1:=Ag hsl (.lst ((ns.drop 22).map V.int))
    rw [ecut]
    have esl:(upd H0 sl (.lst ((ns.drop 22).map V.int))) sl=some (.lst ((ns.drop 22).map V.int)):=Ac
    generalize upd H0 sl (.lst ((ns.drop 22).map V.int))=H1 at s1 esl ⊢
    have hdl:(ns.drop 22).length≤100:=by rw [List.length_drop]; omega
    generalize ns.drop 22=zs at esl hdl
    refine ⟨sl,rfl,⟨_,AE.of esl⟩,fun bk ed hed => ?_⟩
    refine NT esl hdl hed (fun z H' Q k => ⟨_,rfl,_,_,rfl,rfl,(by show (0:Int) < 4; decide),k⟩) fun H2 s2 e2 => ?_
    obtain ⟨es,ees,h4⟩:=OS zs
    have hel:es.length≤100:=by
      have:=congrArg List.length ees
      rw [List.length_map,List.length_map] at this
      omega
    rw [ees] at e2
    have s02:=s1.trans s2
    refine ⟨_,rfl,r,_,rfl,.inl (AE.of (s02 _ _ hr0)),fun la hla => ?_⟩
    have s4:=Ag hla (.lst (ps.map V.ref))
    refine ⟨_,rfl,ar,_,rfl,.inl (AE.of ((s02.trans s4) _ _ har)),fun lb hlb => ?_⟩
    have s5:=Ag hlb (.lst (qs.map V.ref))
    have s25:=s4.trans s5
    have ea:(upd (upd H2 la (.lst (ps.map V.ref))) lb (.lst (qs.map V.ref))) la=some (.lst (ps.map V.ref)):=s5 _ _ Ac
    have eb:(upd (upd H2 la (.lst (ps.map V.ref))) lb (.lst (qs.map V.ref))) lb=some (.lst (qs.map V.ref)):=Ac
    generalize upd (upd H2 la (.lst (ps.map V.ref))) lb (.lst (qs.map V.ref))=H5 at s25 ea eb ⊢
    have s05:=s02.trans s25
    intro c dx hc hdx ncd
    have kc:∀ x o,H5 x=some o→(upd (upd H5 dx (.own c)) c (.ins C dx [])) x=some o:=fun x o e => by
      rw [Ak (Al e hc),Ak (Al e hdx)]; exact e
    refine ⟨c,dx,la,lb,ps,qs,R,As,rfl,Ac,kc _ _ ea,hI.same fun x o e => kc _ _ (s05 _ _ e),kc _ _ eb,hJ.same fun x o e => kc _ _ (s05 _ _ e),hG,h20,hA,fun H6 k6 hCh => ⟨rfl,?_⟩⟩
    have s56:Ao H5 H6:=fun x o e => k6 _ _ (kc _ _ e) (Al e hc)
    have hC6:=hCh H6 fun x o e _ _ => e
    have s26:=s25.trans s56
    have s06:=s05.trans s56
    refine ⟨c,R,As,rfl,hC6,hG,hA,?_⟩
    cases hfo:Du R As with
    | error x =>
      cases x with
      | many => exact absurd hfo (Jv hG hA hfew)
      | clash evs i j =>
        intro hel t t1 te tp H8 s8 a1 a2 a3 a4
        have s08:=s06.trans s8
        refine ⟨_,rfl,_,rfl,r,ar,R,As,rfl,⟨ps,s08 _ _ hr0,hI.same s08⟩,⟨qs,s08 _ _ har,hJ.same s08⟩,hG,hA,by omega,hfew,?_⟩
        rw [hfo]
        intro d d1 de dp H9 s9 b1 b2 b3 b4
        refine ⟨d,_,_,_,rfl,rfl,A2.of b1,rfl,rfl,_,rfl,?_⟩
        refine Bi ?_
        refine ⟨_,rfl,t,_,_,_,rfl,rfl,A2.of (s9 _ _ a1),rfl,rfl,_,rfl,?_⟩
        refine Bi ?_
        exact ⟨_,rfl,t,_,_,_,rfl,rfl,A2.of (s9 _ _ a1),rfl,rfl,q _⟩
    | ok S =>
      intro t fl sa ra ya ps1 rs1 qs1 H8 s8 a1 hF hFI hnr
      have s08:=s06.trans s8
      refine ⟨_,rfl,_,rfl,r,ar,R,As,rfl,⟨ps,s08 _ _ hr0,hI.same s08⟩,⟨qs,s08 _ _ har,hJ.same s08⟩,hG,hA,by omega,hfew,?_⟩
      rw [hfo]
      intro d d2 sl' rl wl ps' rs' qs' H9 s9 b1 b2 b3 b4 b5 b6 b7 b8 _ _
      have s09:=s08.trans s9
      have et9:=s9 _ _ a1
      refine ⟨d,_,_,_,rfl,rfl,A2.of b1,rfl,rfl,_,rfl,?_⟩
      refine A1 ?_
      refine ⟨_,rfl,t,_,_,_,rfl,rfl,A2.of et9,rfl,rfl,_,rfl,?_⟩
      refine A1 ?_
      have hgi:=fold_gi hfo
      have h30:=hFI.le
      have hmok:=Ph hgi hnr h30 (by omega)
      refine ⟨_,rfl,r,R,rfl,⟨ps,s09 _ _ hr0,hI.same s09⟩,hG,fun f0 H10 hf0 s10 e10 => ?_⟩
      refine ⟨(by show 0≤sizeLine; decide),fun dl hdl' => ?_⟩
      have s11:=Ag hdl' (.lst [])
      have edl:(upd H10 dl (.lst [])) dl=some (.lst []):=Ac
      have s911:=s10.trans s11
      have fdl:H9 dl=Option.none:=s10.free hdl'
      have ef0:=s11 _ _ e10
      have nf0:f0≠dl:=Al e10 hdl'
      generalize upd H10 dl (.lst [])=H11 at s11 edl s911 ef0 ⊢
      have s29:Ao H2 H9:=s26.trans (s8.trans s9)
      have ev9:=s29 _ _ e2
      obtain ⟨aps,har',haI⟩ : BO H9 ar As:=⟨qs,s09 _ _ har,hJ.same s09⟩
      generalize hevs:(es.map fun (e:Nat) => (e:Int))=evs at e2 ev9
      have hevl:evs.length≤100:=by rw [← hevs,List.length_map]; exact hel
      refine ⟨_,rfl,ed,rfl,⟨_,AE.of (s911 _ _ ev9)⟩,?_⟩
      refine B6 (K:=K) (xs:=evs.map V.int) (fun i σ H4 => ∃ dc v9 v10 pds,σ = [some (.ref a),v1,some (.ref r),some (.ref ar),v4,some (.ref ed),some (.ref t),some (.ref dc),some (.ref dl),v9,v10,Option.none]∧Ao H9 H4∧H4 dl=some (.lst (pds.map V.ref))∧AK H4 pds (IV R As evs i)∧H4 dc=some (.lst ((chAt R As evs i).map V.int))∧dc≠dl)
        ⟨f0,_,_,[],rfl,s911,edl,⟨rfl,fun i p o a _ => by cases a⟩,ef0,nf0⟩ (fun i σ H4 _ ⟨_,_,_,_,_,s4,_⟩ => AE.of (s4 _ _ ev9)) ?_ ?_
      · rintro i x σ H4 hx ⟨dc,v9,v10,pds,rfl,(s4:Ao _ _),ed4,hI4,f1,hdd⟩
        obtain ⟨ev,hev,rfl⟩:=M1 hx
        have hgd:=M3 hev
        have hil:=(List.getElem?_eq_some_iff.mp hev).1
        have hch:=Ng hG hA evs i
        have hsucc:chAt R As evs (i + 1)=Bd R As (chAt R As evs i) (tkL R As (chAt R As evs i) ev):=Kc (R:=R) (A:=As) hev
        have hddE:KY R As evs i=AV As (tkL R As (chAt R As evs i) ev):=by unfold KY; rw [hgd]
        generalize chAt R As evs i=chs at f1 hch hsucc hddE
        have hR4:Bq H4 r R:=⟨ps,(s09.trans s4) _ _ hr0,hI.same (s09.trans s4)⟩
        have hA4:BO H4 ar As:=⟨aps,s4 _ _ har',haI.same s4⟩
        refine ⟨_,rfl,_,rfl,_,rfl,_,rfl,r,dc,R,chs,rfl,hR4,hG,f1,hch.len,fun kl H5 hkl s5 e5 => ?_⟩
        refine ⟨_,rfl,r,ar,kl,R,As,kI R chs,ev,rfl,hR4.same s5,hA4.same s5,hG,hA,by omega,AE.of e5,fun tl H6 htl s6 e6 => ?_⟩
        have e6':H6 tl=some (.lst (cV (tkL R As chs ev))):=e6
        have hlt:∀ y∈tkL R As chs ev,y < As.length:=fun y hy => DM y hy
        have hln:(tkL R As chs ev).length≤100:=Nat.le_trans (EH R As (kI R chs) ev) (by omega)
        generalize tkL R As chs ev=l at e6' hlt hln hddE hsucc
        have s46:=s5.trans s6
        refine ⟨_,rfl,_,rfl,_,rfl,_,rfl,r,ar,dc,tl,R,As,chs,l,rfl,hR4.same s46,hA4.same s46,hG,hA,s46 _ _ f1,hch.len,e6',hlt,fun d2 H8 s8 e8 => ?_⟩
        have s48:=s46.trans s8
        obtain ⟨qs',x1,x2⟩:=hA4.same s48
        refine ⟨_,rfl,.inl ⟨rfl,_,AE.of (s48 _ _ ed4)⟩,_,rfl,tl,rfl,⟨_,AE.of (s8 _ _ e6')⟩,fun bk D hD => ?_⟩
        have e8':=s8 _ _ e6'
        refine Cc (K:=K) (xs:=cV l) (Pv:=fun j ys σ H' => ∃ v,σ = [v,some (.ref ar)]∧ys=(AV As (l.take j)).map V.int∧Ao H8 H') ⟨_,rfl,rfl,Ag hD _⟩ ?_ ?_ ?_
        · rintro j ys σ H' hj hDj ⟨v,rfl,_,(s':Ao _ _)⟩
          exact AE.of (s' _ _ e8')
        · rintro j x ys σ H' hx hDj ⟨v,rfl,hys,(s':Ao _ _)⟩
          obtain ⟨k,hk,rfl⟩:=BX hx
          have hkl:=hlt k (List.mem_of_getElem? hk)
          obtain ⟨p,hp1,hp2⟩:=By x2 hkl
          have hjl:=(List.getElem?_eq_some_iff.mp hk).1
          refine ⟨_,rfl,_,rfl,ar,_,_,_,rfl,rfl,AE.of (s' _ _ x1),hp1,p,_,_,_,rfl,rfl,A2.of (s' _ _ hp2),rfl,hDj,?_,⟨_,rfl,?_,AR s' hD _⟩⟩
          · rw [hys,List.length_map]
            unfold AV
            rw [List.length_map,List.length_take]; exact Av (by omega)
          · unfold AV at hys ⊢
            rw [List.take_add_one,hk,List.map_append,List.map_append,← hys]
            show ys ++ [V.int As[k].2.2.2.2] = ys ++ [V.int (Hi As k).2.2.2.2]
            rw [B9 hkl]
        · rintro ys σ H9' hD9 ⟨v,rfl,hys,(s9':Ao _ _)⟩
          rw [Bb,List.take_length] at hys
          subst hys
          refine ⟨D,_,rfl,.inl ⟨AE.of hD9,fun dt hdt => ?_⟩⟩
          have s10':=Ag hdt (.tup ((AV As l).map V.int))
          have edt:(upd H9' dt (.tup ((AV As l).map V.int))) dt=some (.tup ((AV As l).map V.int)):=Ac
          generalize upd H9' dt (.tup ((AV As l).map V.int))=H10' at s10' edt ⊢
          have s810:=s9'.trans s10'
          have ed10:=s810 _ _ (s48 _ _ ed4)
          refine ⟨dl,_,_,rfl,rfl,ed10,?_,?_⟩
          · rw [List.length_map,hI4.1]
            unfold IV
            rw [List.length_map,List.length_range]; exact Av (by omega)
          have nd2:d2≠dl:=fun z => by
            have h1:=s810 _ _ e8
            rw [z,ed10] at h1
            injection h1 with h1
            injection h1 with h1
            have h2:=NL h1.symm
            have h3:=E8 R As l chs
            rw [h2,hch.len] at h3
            have:=hG.tree.pos
            rw [Ay] at this
            simp only [List.length_nil] at h3
            omega
          refine ⟨d2,_,_,pds ++ [dt],rfl,AR (s4.trans (s48.trans s810)) fdl _,?_,?_,?_,nd2⟩
          · rw [Ac,List.map_append]; rfl
          · rw [Mx]
            refine AK.snoc (AK.updL ed10 (hI4.same (s48.trans s810))) (keepT ed10 ?_)
            rw [hddE]; exact edt
          · rw [Ak nd2,hsucc]; exact s810 _ _ e8
      · rintro σ H4 ⟨dc,v9,v10,pds,rfl,(s4:Ao _ _),ed4,hI4,f1,hdd⟩
        rw [List.length_map] at hI4 f1
        have et4:=s4 _ _ et9
        have ev4:=s4 _ _ ev9
        refine ⟨_,rfl,t,_,_,_,rfl,rfl,A2.of et4,rfl,_,rfl,ed,_,rfl,.inl (AE.of ev4),fun el hel' => ?_⟩
        have s5:=Ag hel' (.lst (evs.map V.int))
        have eel:(upd H4 el (.lst (evs.map V.int))) el=some (.lst (evs.map V.int)):=Ac
        generalize upd H4 el (.lst (evs.map V.int))=H5 at s5 eel ⊢
        have s85:Ao H8 H5:=s9.trans (s4.trans s5)
        obtain ⟨fdx,fob⟩:=hF.ob
        have hFI5:G0 CF H5 fl sa ra ya rs1 (ps1.map V.ref) S.rows (qs1.map V.ref):=⟨⟨fdx,s85 _ _ fob⟩,s85 _ _ hF.es,s85 _ _ hF.er,hF.rt.same s85,s85 _ _ hF.ew⟩
        have evm:evs.map V.int=es.map fun (e:Nat) => V.int (e:Int):=by rw [← hevs,List.map_map]; rfl
        rw [evm] at eel
        refine ⟨fl,sa,ra,ya,el,rs1,_,_,S.rows,es,rfl,hFI5,hmok,eel,h4,hel,fun tt dd ds H6 s6 g1 g2 g3 => ?_⟩
        obtain ⟨w1,w2⟩:=JD hgi hnr h4 es.length (Nat.le_refl _)
        rw [List.take_length,hevs] at w1 w2
        rw [w2] at g3
        obtain ⟨pw,rfl,hIw⟩:=My g3
        have lev:evs.length=es.length:=by rw [← hevs,List.length_map]
        refine ⟨_,rfl,_,_,_,_,rfl,.tup g1,T.pp,_,rfl,?_⟩
        refine A1 ?_
        refine ⟨_,rfl,tt,_,rfl,.inr (A2.of g1),rfl,_,rfl,?_⟩
        refine Gj rfl ?_
        have s46:=s5.trans s6
        rw [dds_rw,lev] at hI4
        refine ⟨_,rfl,tt,_,_,_,rfl,rfl,A2.of g1,rfl,_,rfl,dd,dl,pw,pds,_,rfl,g2,hIw,s46 _ _ ed4,hI4.same s46,?_,?_,_,rfl,?_⟩
        · rw [List.length_map,List.length_range]; exact hel
        · intro xs hxs
          obtain ⟨k,_,rfl⟩:=List.mem_map.mp hxs
          unfold KY AV
          rw [List.length_map]
          have:=EH R As (kI R (chAt R As evs k)) (evs.getD k 0)
          unfold tkL
          omega
        refine A1 ?_
        have s96:=s4.trans s46
        have s86:=s85.trans s6
        rw [lev] at f1
        obtain ⟨p1,y1,k1,m1,x1,x2,x3⟩:=hF.st.at w1
        refine ⟨_,rfl,t,_,_,_,rfl,rfl,A2.of (s46 _ _ et4),rfl,fl,CF,fdx,_,_,rfl,s86 _ _ fob,TF.cl,TF.nS,KT sa ra ya,_,rfl,tt,_,_,_,rfl,rfl,A2.of g1,rfl,sa,_,_,_,rfl,rfl,AE.of (s86 _ _ hF.es),BN (by rw [List.getElem?_map,y1]; rfl),?_⟩
        refine ⟨_,rfl,_,rfl,r,dc,R,_,rfl,⟨ps,(s09.trans s96) _ _ hr0,hI.same (s09.trans s96)⟩,hG,s46 _ _ f1,(Ng hG hA evs _).len,fun st kt mt H7 s7 g4 g5 g6 => ?_⟩
        have s87:=s86.trans s7
        refine ⟨p1,st,k1,m1,kt,mt,_,_,rfl,s87 _ _ x1,g4,s87 _ _ x2,g5,s87 _ _ x3,g6,?_,?_,q _⟩
        · unfold kI
          rw [List.length_map]
          have:=hG.most
          exact Nat.le_trans (LF R _) (by omega)
        · unfold CG
          rw [List.length_map,List.length_range]
          have:=hG.most
          omega
  obtain ⟨t2,p2,r2⟩ : ∃ t,Jm (DW A9 P w K mg base ["script", "many", "rooms", "arrows", "framed", "events", "tried", "choice", "told", "event", "taken", "found"] "law" (Ae Eo) f cdv A outer s H E).nox ((Az Eo).drop 2) t ∧
      ∀ (m:Nat) (H0:Hp),0 < m→m≤9→Ao H H0 →
        t { nx:=fun _ H' => Q .non H',rt:=Q } [some (.ref a),some (.int m),Option.none,Option.none,Option.none,Option.none,Option.none,Option.none,Option.none,Option.none,Option.none,Option.none] H0:=by
    refine ⟨_,Ad (Ar (i := 2) Dq.nd rfl (Or.inl rfl) (Ap Gr hr2 rfl Dr.mg Dr.fn.kp Dr.bd .nil AF (Aa (pv 0) (Aa (pv 1) Ab))))
      (Ad (Ar (i := 3) Dq.nd rfl (Or.inr rfl) (Ap Ga hr3 rfl Da.mg Da.fn.kp Da.bd .nil AF (Aa (pv 2) (Aa (Ap Gcs hr2 rfl Dcs.mg Dcs.fn.kp Dcs.bd .nil AF (Aa (pv 0) (Aa Ah (Aa Ah Ab)))) (Aa Ir Ab)))))
      (Ad (A0 (AB Cz (AH Bp (Ap Gc hr1 rfl Dc.mg Dc.fn.kp Dc.bd .nil AF (Aa (pv 0) (Aa Ah Ab))) Ah) Ah (AT _)) (Ad (Ar (i := 4) Dq.nd rfl (Or.inl rfl) (Ap Gf hr2 rfl Df.mg Df.fn.kp Df.bd .nil AF (Aa (pv 0) (Aa Ah (Aa Ir Ab)))))
      (Ad (Ar (i := 2) Dq.nd rfl (Or.inl rfl) (An Aw (pv 4) Ah (fun _ _ => rfl)))
      (Aj (Ar (i := 3) Dq.nd rfl (Or.inr rfl) (An Aw (pv 4) Ah (fun _ _ => rfl)))))) AJ)
      p5)),?_⟩
    intro m H0 m0 m9 s00
    have hG:=Ju ns m0 (by omega)
    have hfew:=NJ hG (by rw [Ez]; exact m9)
    refine ⟨_,rfl,_,rfl,a,ns,m,rfl,s00.seq hS,m0,by omega,fun r ps H2 hr0 s2 e2 hI2 => ?_⟩
    generalize hRR:CO ns m=R at hG hI2 hfew
    have hR2:Bq H2 r R:=⟨ps,e2,hI2⟩
    have s02:=s00.trans s2
    refine ⟨_,rfl,_,rfl,a,ns,10,10,rfl,s02.seq hS,by decide,fun cl H5 hcl s5 e5 => ?_⟩
    have s05:=s02.trans s5
    refine ⟨r,cl,R,CV ns 10 10,false,rfl,hR2.same s5,hG,e5,(by rw [Jd]; decide),fun ar qs H6 har s6 e6 hJ6 => ?_⟩
    have hA6:=K4 hG (CV ns 10 10) false ((CV ns 10 10).length / 2)
    have h20:(arrowsL R (CV ns 10 10) false ((CV ns 10 10).length / 2)).length≤20:=by
      have:=Hh R (CV ns 10 10) false ((CV ns 10 10).length / 2)
      have h40:(CV ns 10 10).length=10:=Jd ns 10 10
      omega
    generalize arrowsL R (CV ns 10 10) false ((CV ns 10 10).length / 2)=As at hA6 h20 hJ6
    have s26:=s5.trans s6
    have s06:=s02.trans s26
    refine ⟨_,rfl,a,ns,8,rfl,s06.seq hS,_,_,rfl,rfl,(by show (0:Int) < 2; decide),rfl,_,rfl,?_⟩
    refine GS (fun z => ?_) (fun z => ?_)
    · refine ⟨_,rfl,a,ns,10,true,rfl,s06.seq hS,fun t r' ar' ps' qs' H10 s10 et er' hI' ea' hJ' => ?_⟩
      refine ⟨_,rfl,t,_,_,_,rfl,rfl,A2.of et,rfl,?_⟩
      refine ⟨_,rfl,t,_,_,_,rfl,rfl,A2.of et,rfl,?_⟩
      exact r5 r' ar' ps' qs' (LZ (Rm.cell ns 10)) (PJ true (Rm.cell ns 10) (frDs ns 10)) _ _ H10 (LM _).1 (Pd true _ _ (frDs_ok ns 10)) (frA_len true _ _) (fr_few _) (s06.trans s10) er' hI' ea' hJ'
    · exact r5 r ar ps qs R As _ _ H6 hG hA6 h20 hfew s06 (s26 _ _ e2) (hI2.same s26) e6 hJ6
  refine ⟨_,Ad (Ar (i := 1) Dq.nd rfl (Or.inl rfl) (AH BE Ah (AH Bp (Ap Gc hr1 rfl Dc.mg Dc.fn.kp Dc.bd .nil AF (Aa (pv 0) (Aa Ah Ab))) Ah)))
      (Ad (A0 (AB Cz (AH Bp (AH BS (Ap Gc hr1 rfl Dc.mg Dc.fn.kp Dc.bd .nil AF (Aa (pv 0) (Aa Ah Ab))) Ah) Ah) Ah (AT _)) (Aj (Ar (i := 1) Dq.nd rfl (Or.inl rfl) Ah)) AJ)
      p2),?_⟩
  refine ⟨_,rfl,a,ns,0,rfl,hS,_,_,rfl,rfl,(by show (0:Int) < _; decide),_,_,rfl,rfl,?_⟩
  have b0:=Int.emod_nonneg (Rm.cell ns 0) (show (5:Int)≠0 by decide)
  have b1:=Int.emod_lt_of_pos (Rm.cell ns 0) (show (0:Int) < 5 by decide)
  obtain ⟨m,em,m0,m9⟩ : ∃ m:Nat,2 + Rm.cell ns 0 % 5=(m:Int)∧0 < m∧m≤9:=⟨(2 + Rm.cell ns 0 % 5).toNat,by omega,by omega,by omega⟩
  refine ⟨_,rfl,a,ns,0,rfl,hS,_,_,rfl,rfl,⟨by decide,by decide⟩,_,_,rfl,rfl,(by show (0:Int) < _; decide),rfl,_,rfl,?_⟩
  refine GS (fun z => ?_) (fun z => ?_)
  · exact r2 9 _ (by decide) (by decide) (Ao.refl H)
  · have:=r2 m _ m0 m9 (Ao.refl H)
    rw [← em] at this
    exact this
end
end Toy
namespace Toy
open PySem L2
seal PySem.wpAny
theorem Mq {K:PySem.W.Frag} {C:Addr} {d:ClassData} {t:Value} {r:Bool} (a:PySem.W.clsIn K C=some d) (b:PySem.W.typeIn K (.ref C)=some (.type "type")) (c:PySem.W.subIn K t (.ref C)=some r):PySem.W.kitCls K t (.ref C)=some r:=by
  show (if ((PySem.W.clsIn K C).isSome && PySem.W.typeIn K (.ref C) == some (.type "type"))=true then PySem.W.subIn K t (.ref C) else none)=some r
  rw [a,b,if_pos (by rw [beq_self_eq_true]; rfl)]
  exact c
theorem all_mk {l:PySem.W.OpenLaw} {w:World} {K:PySem.W.Frag} {h:Heap} {mg:Str→Option Value} {fa C CF CE CC CT:Addr} (X:K.In h) (G:h.Ns mainGlobals mg) (hfa:mg "law" = some (.ref fa))
    {cd_ChartError:ClassData}
    {cd_Clash:ClassData}
    {cd_TooMany:ClassData}
    {nmX qX:Str} {NX:Addr} {bsX:List Value} {snX:List Str} {subX:List Value} {abX:Bool} {colX:Option Bool} {ddX:Option Addr} {k0X k1X k2X k3X k5X:Option Value}
    {f1:Addr} {od1 an1:Option Addr} {sl1:Array (Option Value)} {oc1 kV1 dc1 pm1 cd1 ct1:Value}
    {f2:Addr} {od2 an2:Option Addr} {sl2:Array (Option Value)} {oc2 kV2 dc2 pm2 cd2 ct2:Value}
    {f3:Addr} {od3 an3:Option Addr} {sl3:Array (Option Value)} {oc3 kV3 dc3 pm3 cd3 ct3:Value}
    {f4:Addr} {od4 an4:Option Addr} {sl4:Array (Option Value)} {oc4 kV4 dc4 pm4 cd4 ct4:Value}
    {f5:Addr} {od5 an5:Option Addr} {sl5:Array (Option Value)} {oc5 kV5 dc5 pm5 cd5 ct5:Value}
    {f6:Addr} {od6 an6:Option Addr} {sl6:Array (Option Value)} {oc6 kV6 dc6 pm6 cd6 ct6:Value}
    {f7:Addr} {od7 an7:Option Addr} {sl7:Array (Option Value)} {oc7 kV7 dc7 pm7 cd7 ct7:Value}
    {f8:Addr} {od8 an8:Option Addr} {sl8:Array (Option Value)} {oc8 kV8 dc8 pm8 cd8 ct8:Value}
    {f9:Addr} {od9 an9:Option Addr} {sl9:Array (Option Value)} {oc9 kV9 dc9 pm9 cd9 ct9:Value}
    {f10:Addr} {od10 an10:Option Addr} {sl10:Array (Option Value)} {oc10 kV10 dc10 pm10 cd10 ct10:Value}
    {f11:Addr} {od11 an11:Option Addr} {sl11:Array (Option Value)} {oc11 kV11 dc11 pm11 cd11 ct11:Value}
    {f12:Addr} {od12 an12:Option Addr} {sl12:Array (Option Value)} {oc12 kV12 dc12 pm12 cd12 ct12:Value}
    {f13:Addr} {od13 an13:Option Addr} {sl13:Array (Option Value)} {oc13 kV13 dc13 pm13 cd13 ct13:Value}
    {f14:Addr} {od14 an14:Option Addr} {sl14:Array (Option Value)} {oc14 kV14 dc14 pm14 cd14 ct14:Value}
    {f15:Addr} {od15 an15:Option Addr} {sl15:Array (Option Value)} {oc15 kV15 dc15 pm15 cd15 ct15:Value}
    {f16:Addr} {od16 an16:Option Addr} {sl16:Array (Option Value)} {oc16 kV16 dc16 pm16 cd16 ct16:Value}
    {f17:Addr} {od17 an17:Option Addr} {sl17:Array (Option Value)} {oc17 kV17 dc17 pm17 cd17 ct17:Value}
    {f18:Addr} {od18 an18:Option Addr} {sl18:Array (Option Value)} {oc18 kV18 dc18 pm18 cd18 ct18:Value}
    {f19:Addr} {od19 an19:Option Addr} {sl19:Array (Option Value)} {oc19 kV19 dc19 pm19 cd19 ct19:Value}
    {f20:Addr} {od20 an20:Option Addr} {sl20:Array (Option Value)} {oc20 kV20 dc20 pm20 cd20 ct20:Value}
    {f21:Addr} {od21 an21:Option Addr} {sl21:Array (Option Value)} {oc21 kV21 dc21 pm21 cd21 ct21:Value}
    {f22:Addr} {od22 an22:Option Addr} {sl22:Array (Option Value)} {oc22 kV22 dc22 pm22 cd22 ct22:Value}
    {f23:Addr} {od23 an23:Option Addr} {sl23:Array (Option Value)} {oc23 kV23 dc23 pm23 cd23 ct23:Value}
    {f24:Addr} {od24 an24:Option Addr} {sl24:Array (Option Value)} {oc24 kV24 dc24 pm24 cd24 ct24:Value}
    {f25:Addr} {od25 an25:Option Addr} {sl25:Array (Option Value)} {oc25 kV25 dc25 pm25 cd25 ct25:Value}
    {f26:Addr} {od26 an26:Option Addr} {sl26:Array (Option Value)} {oc26 kV26 dc26 pm26 cd26 ct26:Value}
    {f27:Addr} {od27 an27:Option Addr} {sl27:Array (Option Value)} {oc27 kV27 dc27 pm27 cd27 ct27:Value}
    {f28:Addr} {od28 an28:Option Addr} {sl28:Array (Option Value)} {oc28 kV28 dc28 pm28 cd28 ct28:Value}
    {f29:Addr} {od29 an29:Option Addr} {sl29:Array (Option Value)} {oc29 kV29 dc29 pm29 cd29 ct29:Value}
    {f30:Addr} {od30 an30:Option Addr} {sl30:Array (Option Value)} {oc30 kV30 dc30 pm30 cd30 ct30:Value}
    {f31:Addr} {od31 an31:Option Addr} {sl31:Array (Option Value)} {oc31 kV31 dc31 pm31 cd31 ct31:Value}
    {f32:Addr} {od32 an32:Option Addr} {sl32:Array (Option Value)} {oc32 kV32 dc32 pm32 cd32 ct32:Value}
    {f33:Addr} {od33 an33:Option Addr} {sl33:Array (Option Value)} {oc33 kV33 dc33 pm33 cd33 ct33:Value}
    {f34:Addr} {od34 an34:Option Addr} {sl34:Array (Option Value)} {oc34 kV34 dc34 pm34 cd34 ct34:Value}
    {f35:Addr} {od35 an35:Option Addr} {sl35:Array (Option Value)} {oc35 kV35 dc35 pm35 cd35 ct35:Value}
    {f36:Addr} {od36 an36:Option Addr} {sl36:Array (Option Value)} {oc36 kV36 dc36 pm36 cd36 ct36:Value}
    {f37:Addr} {od37 an37:Option Addr} {sl37:Array (Option Value)} {oc37 kV37 dc37 pm37 cd37 ct37:Value}
    {f38:Addr} {od38 an38:Option Addr} {sl38:Array (Option Value)} {oc38 kV38 dc38 pm38 cd38 ct38:Value}
    {f39:Addr} {od39 an39:Option Addr} {sl39:Array (Option Value)} {oc39 kV39 dc39 pm39 cd39 ct39:Value}
    {f40:Addr} {od40 an40:Option Addr} {sl40:Array (Option Value)} {oc40 kV40 dc40 pm40 cd40 ct40:Value}
    {f41:Addr} {od41 an41:Option Addr} {sl41:Array (Option Value)} {oc41 kV41 dc41 pm41 cd41 ct41:Value}
    {f42:Addr} {od42 an42:Option Addr} {sl42:Array (Option Value)} {oc42 kV42 dc42 pm42 cd42 ct42:Value}
    {f43:Addr} {od43 an43:Option Addr} {sl43:Array (Option Value)} {oc43 kV43 dc43 pm43 cd43 ct43:Value}
    {f44:Addr} {od44 an44:Option Addr} {sl44:Array (Option Value)} {oc44 kV44 dc44 pm44 cd44 ct44:Value}
    {f45:Addr} {od45 an45:Option Addr} {sl45:Array (Option Value)} {oc45 kV45 dc45 pm45 cd45 ct45:Value}
    {f46:Addr} {od46 an46:Option Addr} {sl46:Array (Option Value)} {oc46 kV46 dc46 pm46 cd46 ct46:Value}
    {f47:Addr} {od47 an47:Option Addr} {sl47:Array (Option Value)} {oc47 kV47 dc47 pm47 cd47 ct47:Value}
    {f48:Addr} {od48 an48:Option Addr} {sl48:Array (Option Value)} {oc48 kV48 dc48 pm48 cd48 ct48:Value}
    {f49:Addr} {od49 an49:Option Addr} {sl49:Array (Option Value)} {oc49 kV49 dc49 pm49 cd49 ct49:Value}
    {f50:Addr} {od50 an50:Option Addr} {sl50:Array (Option Value)} {oc50 kV50 dc50 pm50 cd50 ct50:Value}
    {f51:Addr} {od51 an51:Option Addr} {sl51:Array (Option Value)} {oc51 kV51 dc51 pm51 cd51 ct51:Value}
    {f52:Addr} {od52 an52:Option Addr} {sl52:Array (Option Value)} {oc52 kV52 dc52 pm52 cd52 ct52:Value}
    {f53:Addr} {od53 an53:Option Addr} {sl53:Array (Option Value)} {oc53 kV53 dc53 pm53 cd53 ct53:Value}
    {f54:Addr} {od54 an54:Option Addr} {sl54:Array (Option Value)} {oc54 kV54 dc54 pm54 cd54 ct54:Value}
    {t_HOLDER:Tok}
    {t_KIND:Tok}
    {t_NONE:Tok}
    {t_SOURCE:Tok}
    {t_EVENT:Tok}
    {t_GUARD:Tok}
    {t_TARGET:Tok}
    {t_DEED:Tok}
    {t_LAST_EVENT:Tok}
    {t_LAST_DEED:Tok}
    {t_MOST_ROOMS:Tok}
    {t_MOST_ARROWS:Tok}
    {t_MOST_STATES:Tok}
    {t_BEHIND:Tok}
    {t_DEEDS:Tok}
    {a_CHOOSING:Addr} {d_CHOOSING:Option Addr} {n_CHOOSING:Nat} {s_CHOOSING:Array (Option Value)} {t_CHOOSING_0:Tok} {t_CHOOSING_1:Tok}
    {a_KINDS:Addr} {d_KINDS:Option Addr} {n_KINDS:Nat} {s_KINDS:Array (Option Value)} {t_KINDS_0:Tok} {t_KINDS_1:Tok} {t_KINDS_2:Tok} {t_KINDS_3:Tok}
    (aC:PySem.W.nsIn K mainGlobals "Chart" = some (some (.ref C))) (pg:PySem.W.plainGet K C Str.empty=true) (hd:PySem.W.hasDictIn K C=true) (po:PySem.W.plainOver K C=true) (sa:PySem.W.findIn K (.ref C) "__setattr__" = some (some (.builtin "object.__setattr__"))) (mk:PySem.W.makesIn K C=true) (kc:PySem.W.keepIn K (.ref C)=true)
    (nR:PySem.W.findIn K (.ref C) "rooms" = some none)
    (nA:PySem.W.findIn K (.ref C) "arrows" = some none)
    (aC_Flat:PySem.W.nsIn K mainGlobals "Flat" = some (some (.ref CF))) (pg_Flat:PySem.W.plainGet K CF Str.empty=true) (hd_Flat:PySem.W.hasDictIn K CF=true) (po_Flat:PySem.W.plainOver K CF=true) (sa_Flat:PySem.W.findIn K (.ref CF) "__setattr__" = some (some (.builtin "object.__setattr__"))) (mk_Flat:PySem.W.makesIn K CF=true) (kc_Flat:PySem.W.keepIn K (.ref CF)=true)
    (n_Flat_states:PySem.W.findIn K (.ref CF) "states" = some none)
    (n_Flat_rows:PySem.W.findIn K (.ref CF) "rows" = some none)
    (n_Flat_ways:PySem.W.findIn K (.ref CF) "ways" = some none)
    (aE_ChartError:PySem.W.nsIn K mainGlobals "ChartError" = some (some (.ref CE))) (cc_ChartError:PySem.W.clsIn K CE=some cd_ChartError) (ct_ChartError:PySem.W.typeIn K (.ref CE)=some (.type "type"))
    (aE_Clash:PySem.W.nsIn K mainGlobals "Clash" = some (some (.ref CC))) (cc_Clash:PySem.W.clsIn K CC=some cd_Clash) (ct_Clash:PySem.W.typeIn K (.ref CC)=some (.type "type"))
    (aE_TooMany:PySem.W.nsIn K mainGlobals "TooMany" = some (some (.ref CT))) (cc_TooMany:PySem.W.clsIn K CT=some cd_TooMany) (ct_TooMany:PySem.W.typeIn K (.ref CT)=some (.type "type"))
    (cs_Clash_Clash:PySem.W.subIn K (.ref CC) (.ref CC)=some true)
    (st_Clash_BaseException:PySem.W.subIn K (.ref CC) (.type "BaseException")=some true)
    (ex_ChartError:PySem.W.excIn K CE Jx "ValueError.__new__" = true)
    (ex_TooMany:PySem.W.excIn K CT Jx "ValueError.__new__" = true)
    (lkX:K.lookup CC=some (excClassObj nmX qX CC NX bsX (.ref CE :: Jx) true snX subX abX colX ddX k0X k1X k2X k3X k5X "ValueError.__new__"))
    (kpX:PySem.W.keepIn K (.ref CC)=true)
    (saX:PySem.W.findIn K (.ref CC) "__setattr__" = some (some (.builtin "object.__setattr__")))
    (obX:PySem.W.mroIn K CC (.type "object")=some true)
    (bxX:PySem.W.mroIn K CC (.type "BaseException")=some true)
    (hdX:PySem.W.hasDictIn K CC=true)
    (gaX:PySem.W.findIn K (.ref CC) "__getattribute__" = some (some (.builtin "BaseException.__getattribute__")))
    (gtX:PySem.W.findIn K (.ref CC) "__getattr__" = some none)
    (rdX:PySem.W.readsIn K CE (.type "type")=true)
    (fcX:PySem.W.findCls K (.ref CE) (.type "type") "__init__" = some (.val (.builtin "ValueError.__init__")))
    (sgX:PySem.W.specialIn K (.ref CE) "__getattribute__" = some (some (.builtin "type.__getattribute__")))
    (evX:PySem.W.findIn K (.ref CC) "events" = some none)
    (fiX:PySem.W.findIn K (.ref CC) "first" = some none)
    (seX:PySem.W.findIn K (.ref CC) "second" = some none)
    (a1:PySem.W.findIn K (.ref C) "__init__" = some (some (.ref f1))) (i1:PySem.W.isFn K (.ref f1)=true)
    (l1:K.lookup f1=some ⟨oc1,od1,.func (PySem.W.fnOf "__init__" "Chart.__init__" (AC JO) (Az JO) (Ae JO) .none kV1 dc1 pm1 an1 cd1 ct1),sl1⟩) (c1:PySem.W.codeIn K cd1 "Chart.__init__" = true) (k1:PySem.W.keepIn K (.ref f1)=true)
    (a2:PySem.W.nsIn K mainGlobals "check_rooms" = some (some (.ref f2)))
    (l2:K.lookup f2=some ⟨oc2,od2,.func (PySem.W.fnOf "check_rooms" "check_rooms" (AC B2) (Az B2) (Ae B2) .none kV2 dc2 pm2 an2 cd2 ct2),sl2⟩) (c2:PySem.W.codeIn K cd2 "check_rooms" = true) (k2:PySem.W.keepIn K (.ref f2)=true)
    (a3:PySem.W.nsIn K mainGlobals "check_holder" = some (some (.ref f3)))
    (l3:K.lookup f3=some ⟨oc3,od3,.func (PySem.W.fnOf "check_holder" "check_holder" (AC BK) (Az BK) (Ae BK) .none kV3 dc3 pm3 an3 cd3 ct3),sl3⟩) (c3:PySem.W.codeIn K cd3 "check_holder" = true) (k3:PySem.W.keepIn K (.ref f3)=true)
    (a4:PySem.W.nsIn K mainGlobals "check_kind" = some (some (.ref f4)))
    (l4:K.lookup f4=some ⟨oc4,od4,.func (PySem.W.fnOf "check_kind" "check_kind" (AC Cb) (Az Cb) (Ae Cb) .none kV4 dc4 pm4 an4 cd4 ct4),sl4⟩) (c4:PySem.W.codeIn K cd4 "check_kind" = true) (k4:PySem.W.keepIn K (.ref f4)=true)
    (a5:PySem.W.nsIn K mainGlobals "check_arrows" = some (some (.ref f5)))
    (l5:K.lookup f5=some ⟨oc5,od5,.func (PySem.W.fnOf "check_arrows" "check_arrows" (AC BL) (Az BL) (Ae BL) .none kV5 dc5 pm5 an5 cd5 ct5),sl5⟩) (c5:PySem.W.codeIn K cd5 "check_arrows" = true) (k5:PySem.W.keepIn K (.ref f5)=true)
    (a6:PySem.W.nsIn K mainGlobals "check_arrow" = some (some (.ref f6)))
    (l6:K.lookup f6=some ⟨oc6,od6,.func (PySem.W.fnOf "check_arrow" "check_arrow" (AC B3) (Az B3) (Ae B3) .none kV6 dc6 pm6 an6 cd6 ct6),sl6⟩) (c6:PySem.W.codeIn K cd6 "check_arrow" = true) (k6:PySem.W.keepIn K (.ref f6)=true)
    (a7:PySem.W.nsIn K mainGlobals "check_part" = some (some (.ref f7)))
    (l7:K.lookup f7=some ⟨oc7,od7,.func (PySem.W.fnOf "check_part" "check_part" (AC G3) (Az G3) (Ae G3) .none kV7 dc7 pm7 an7 cd7 ct7),sl7⟩) (c7:PySem.W.codeIn K cd7 "check_part" = true) (k7:PySem.W.keepIn K (.ref f7)=true)
    (a8:PySem.W.nsIn K mainGlobals "children" = some (some (.ref f8)))
    (l8:K.lookup f8=some ⟨oc8,od8,.func (PySem.W.fnOf "children" "children" (AC BA) (Az BA) (Ae BA) .none kV8 dc8 pm8 an8 cd8 ct8),sl8⟩) (c8:PySem.W.codeIn K cd8 "children" = true) (k8:PySem.W.keepIn K (.ref f8)=true)
    (a9:PySem.W.nsIn K mainGlobals "within" = some (some (.ref f9)))
    (l9:K.lookup f9=some ⟨oc9,od9,.func (PySem.W.fnOf "within" "within" (AC BR) (Az BR) (Ae BR) .none kV9 dc9 pm9 an9 cd9 ct9),sl9⟩) (c9:PySem.W.codeIn K cd9 "within" = true) (k9:PySem.W.keepIn K (.ref f9)=true)
    (a10:PySem.W.nsIn K mainGlobals "lies_in" = some (some (.ref f10)))
    (l10:K.lookup f10=some ⟨oc10,od10,.func (PySem.W.fnOf "lies_in" "lies_in" (AC ER) (Az ER) (Ae ER) .none kV10 dc10 pm10 an10 cd10 ct10),sl10⟩) (c10:PySem.W.codeIn K cd10 "lies_in" = true) (k10:PySem.W.keepIn K (.ref f10)=true)
    (a11:PySem.W.nsIn K mainGlobals "scope" = some (some (.ref f11)))
    (l11:K.lookup f11=some ⟨oc11,od11,.func (PySem.W.fnOf "scope" "scope" (AC Em) (Az Em) (Ae Em) .none kV11 dc11 pm11 an11 cd11 ct11),sl11⟩) (c11:PySem.W.codeIn K cd11 "scope" = true) (k11:PySem.W.keepIn K (.ref f11)=true)
    (a12:PySem.W.nsIn K mainGlobals "started" = some (some (.ref f12)))
    (l12:K.lookup f12=some ⟨oc12,od12,.func (PySem.W.fnOf "started" "started" (AC C5) (Az C5) (Ae C5) .none kV12 dc12 pm12 an12 cd12 ct12),sl12⟩) (c12:PySem.W.codeIn K cd12 "started" = true) (k12:PySem.W.keepIn K (.ref f12)=true)
    (a13:PySem.W.nsIn K mainGlobals "first_memory" = some (some (.ref f13)))
    (l13:K.lookup f13=some ⟨oc13,od13,.func (PySem.W.fnOf "first_memory" "first_memory" (AC Cw) (Az Cw) (Ae Cw) .none kV13 dc13 pm13 an13 cd13 ct13),sl13⟩) (c13:PySem.W.codeIn K cd13 "first_memory" = true) (k13:PySem.W.keepIn K (.ref f13)=true)
    (a14:PySem.W.nsIn K mainGlobals "rising" = some (some (.ref f14)))
    (l14:K.lookup f14=some ⟨oc14,od14,.func (PySem.W.fnOf "rising" "rising" (AC Dx) (Az Dx) (Ae Dx) .none kV14 dc14 pm14 an14 cd14 ct14),sl14⟩) (c14:PySem.W.codeIn K cd14 "rising" = true) (k14:PySem.W.keepIn K (.ref f14)=true)
    (a15:PySem.W.nsIn K mainGlobals "entered" = some (some (.ref f15)))
    (l15:K.lookup f15=some ⟨oc15,od15,.func (PySem.W.fnOf "entered" "entered" (AC Cl) (Az Cl) (Ae Cl) .none kV15 dc15 pm15 an15 cd15 ct15),sl15⟩) (c15:PySem.W.codeIn K cd15 "entered" = true) (k15:PySem.W.keepIn K (.ref f15)=true)
    (a16:PySem.W.nsIn K mainGlobals "chosen" = some (some (.ref f16)))
    (l16:K.lookup f16=some ⟨oc16,od16,.func (PySem.W.fnOf "chosen" "chosen" (AC CM) (Az CM) (Ae CM) .none kV16 dc16 pm16 an16 cd16 ct16),sl16⟩) (c16:PySem.W.codeIn K cd16 "chosen" = true) (k16:PySem.W.keepIn K (.ref f16)=true)
    (a17:PySem.W.nsIn K mainGlobals "takeable" = some (some (.ref f17)))
    (l17:K.lookup f17=some ⟨oc17,od17,.func (PySem.W.fnOf "takeable" "takeable" (AC Ce) (Az Ce) (Ae Ce) .none kV17 dc17 pm17 an17 cd17 ct17),sl17⟩) (c17:PySem.W.codeIn K cd17 "takeable" = true) (k17:PySem.W.keepIn K (.ref f17)=true)
    (a18:PySem.W.nsIn K mainGlobals "open_arrows" = some (some (.ref f18)))
    (l18:K.lookup f18=some ⟨oc18,od18,.func (PySem.W.fnOf "open_arrows" "open_arrows" (AC BJ) (Az BJ) (Ae BJ) .none kV18 dc18 pm18 an18 cd18 ct18),sl18⟩) (c18:PySem.W.codeIn K cd18 "open_arrows" = true) (k18:PySem.W.keepIn K (.ref f18)=true)
    (a19:PySem.W.nsIn K mainGlobals "is_open" = some (some (.ref f19)))
    (l19:K.lookup f19=some ⟨oc19,od19,.func (PySem.W.fnOf "is_open" "is_open" (AC DO) (Az DO) (Ae DO) .none kV19 dc19 pm19 an19 cd19 ct19),sl19⟩) (c19:PySem.W.codeIn K cd19 "is_open" = true) (k19:PySem.W.keepIn K (.ref f19)=true)
    (a20:PySem.W.nsIn K mainGlobals "overruled" = some (some (.ref f20)))
    (l20:K.lookup f20=some ⟨oc20,od20,.func (PySem.W.fnOf "overruled" "overruled" (AC G5) (Az G5) (Ae G5) .none kV20 dc20 pm20 an20 cd20 ct20),sl20⟩) (c20:PySem.W.codeIn K cd20 "overruled" = true) (k20:PySem.W.keepIn K (.ref f20)=true)
    (a21:PySem.W.nsIn K mainGlobals "clash_of" = some (some (.ref f21)))
    (l21:K.lookup f21=some ⟨oc21,od21,.func (PySem.W.fnOf "clash_of" "clash_of" (AC C6) (Az C6) (Ae C6) .none kV21 dc21 pm21 an21 cd21 ct21),sl21⟩) (c21:PySem.W.codeIn K cd21 "clash_of" = true) (k21:PySem.W.keepIn K (.ref f21)=true)
    (a22:PySem.W.nsIn K mainGlobals "clashing" = some (some (.ref f22)))
    (l22:K.lookup f22=some ⟨oc22,od22,.func (PySem.W.fnOf "clashing" "clashing" (AC Cy) (Az Cy) (Ae Cy) .none kV22 dc22 pm22 an22 cd22 ct22),sl22⟩) (c22:PySem.W.codeIn K cd22 "clashing" = true) (k22:PySem.W.keepIn K (.ref f22)=true)
    (a23:PySem.W.nsIn K mainGlobals "arrow_scope" = some (some (.ref f23)))
    (l23:K.lookup f23=some ⟨oc23,od23,.func (PySem.W.fnOf "arrow_scope" "arrow_scope" (AC Dz) (Az Dz) (Ae Dz) .none kV23 dc23 pm23 an23 cd23 ct23),sl23⟩) (c23:PySem.W.codeIn K cd23 "arrow_scope" = true) (k23:PySem.W.keepIn K (.ref f23)=true)
    (a24:PySem.W.nsIn K mainGlobals "stepped" = some (some (.ref f24)))
    (l24:K.lookup f24=some ⟨oc24,od24,.func (PySem.W.fnOf "stepped" "stepped" (AC CK) (Az CK) (Ae CK) .none kV24 dc24 pm24 an24 cd24 ct24),sl24⟩) (c24:PySem.W.codeIn K cd24 "stepped" = true) (k24:PySem.W.keepIn K (.ref f24)=true)
    (a25:PySem.W.nsIn K mainGlobals "moved" = some (some (.ref f25)))
    (l25:K.lookup f25=some ⟨oc25,od25,.func (PySem.W.fnOf "moved" "moved" (AC En) (Az En) (Ae En) .none kV25 dc25 pm25 an25 cd25 ct25),sl25⟩) (c25:PySem.W.codeIn K cd25 "moved" = true) (k25:PySem.W.keepIn K (.ref f25)=true)
    (a26:PySem.W.nsIn K mainGlobals "remembered" = some (some (.ref f26)))
    (l26:K.lookup f26=some ⟨oc26,od26,.func (PySem.W.fnOf "remembered" "remembered" (AC B1) (Az B1) (Ae B1) .none kV26 dc26 pm26 an26 cd26 ct26),sl26⟩) (c26:PySem.W.codeIn K cd26 "remembered" = true) (k26:PySem.W.keepIn K (.ref f26)=true)
    (a27:PySem.W.nsIn K mainGlobals "step_behind" = some (some (.ref f27)))
    (l27:K.lookup f27=some ⟨oc27,od27,.func (PySem.W.fnOf "step_behind" "step_behind" (AC EO) (Az EO) (Ae EO) .none kV27 dc27 pm27 an27 cd27 ct27),sl27⟩) (c27:PySem.W.codeIn K cd27 "step_behind" = true) (k27:PySem.W.keepIn K (.ref f27)=true)
    (a28:PySem.W.nsIn K mainGlobals "_law_cell_at" = some (some (.ref f28)))
    (l28:K.lookup f28=some ⟨oc28,od28,.func (PySem.W.fnOf "_law_cell_at" "_law_cell_at" (AC ET) (Az ET) (Ae ET) .none kV28 dc28 pm28 an28 cd28 ct28),sl28⟩) (c28:PySem.W.codeIn K cd28 "_law_cell_at" = true) (k28:PySem.W.keepIn K (.ref f28)=true)
    (a29:PySem.W.nsIn K mainGlobals "_law_rooms" = some (some (.ref f29)))
    (l29:K.lookup f29=some ⟨oc29,od29,.func (PySem.W.fnOf "_law_rooms" "_law_rooms" (AC EQ) (Az EQ) (Ae EQ) .none kV29 dc29 pm29 an29 cd29 ct29),sl29⟩) (c29:PySem.W.codeIn K cd29 "_law_rooms" = true) (k29:PySem.W.keepIn K (.ref f29)=true)
    (a30:PySem.W.nsIn K mainGlobals "_law_chain" = some (some (.ref f30)))
    (l30:K.lookup f30=some ⟨oc30,od30,.func (PySem.W.fnOf "_law_chain" "_law_chain" (AC Dd) (Az Dd) (Ae Dd) .none kV30 dc30 pm30 an30 cd30 ct30),sl30⟩) (c30:PySem.W.codeIn K cd30 "_law_chain" = true) (k30:PySem.W.keepIn K (.ref f30)=true)
    (a31:PySem.W.nsIn K mainGlobals "_law_scope" = some (some (.ref f31)))
    (l31:K.lookup f31=some ⟨oc31,od31,.func (PySem.W.fnOf "_law_scope" "_law_scope" (AC CY) (Az CY) (Ae CY) .none kV31 dc31 pm31 an31 cd31 ct31),sl31⟩) (c31:PySem.W.codeIn K cd31 "_law_scope" = true) (k31:PySem.W.keepIn K (.ref f31)=true)
    (a32:PySem.W.nsIn K mainGlobals "_law_arrows" = some (some (.ref f32)))
    (l32:K.lookup f32=some ⟨oc32,od32,.func (PySem.W.fnOf "_law_arrows" "_law_arrows" (AC Cq) (Az Cq) (Ae Cq) .none kV32 dc32 pm32 an32 cd32 ct32),sl32⟩) (c32:PySem.W.codeIn K cd32 "_law_arrows" = true) (k32:PySem.W.keepIn K (.ref f32)=true)
    (a33:PySem.W.nsIn K mainGlobals "_law_cells" = some (some (.ref f33)))
    (l33:K.lookup f33=some ⟨oc33,od33,.func (PySem.W.fnOf "_law_cells" "_law_cells" (AC Er) (Az Er) (Ae Er) .none kV33 dc33 pm33 an33 cd33 ct33),sl33⟩) (c33:PySem.W.codeIn K cd33 "_law_cells" = true) (k33:PySem.W.keepIn K (.ref f33)=true)
    (a34:PySem.W.nsIn K mainGlobals "_law_first" = some (some (.ref f34)))
    (l34:K.lookup f34=some ⟨oc34,od34,.func (PySem.W.fnOf "_law_first" "_law_first" (AC DE) (Az DE) (Ae DE) .none kV34 dc34 pm34 an34 cd34 ct34),sl34⟩) (c34:PySem.W.codeIn K cd34 "_law_first" = true) (k34:PySem.W.keepIn K (.ref f34)=true)
    (a35:PySem.W.nsIn K mainGlobals "_law_kept" = some (some (.ref f35)))
    (l35:K.lookup f35=some ⟨oc35,od35,.func (PySem.W.fnOf "_law_kept" "_law_kept" (AC ES) (Az ES) (Ae ES) .none kV35 dc35 pm35 an35 cd35 ct35),sl35⟩) (c35:PySem.W.codeIn K cd35 "_law_kept" = true) (k35:PySem.W.keepIn K (.ref f35)=true)
    (a36:PySem.W.nsIn K mainGlobals "_law_state" = some (some (.ref f36)))
    (l36:K.lookup f36=some ⟨oc36,od36,.func (PySem.W.fnOf "_law_state" "_law_state" (AC El) (Az El) (Ae El) .none kV36 dc36 pm36 an36 cd36 ct36),sl36⟩) (c36:PySem.W.codeIn K cd36 "_law_state" = true) (k36:PySem.W.keepIn K (.ref f36)=true)
    (a37:PySem.W.nsIn K mainGlobals "_law_takeable" = some (some (.ref f37)))
    (l37:K.lookup f37=some ⟨oc37,od37,.func (PySem.W.fnOf "_law_takeable" "_law_takeable" (AC DV) (Az DV) (Ae DV) .none kV37 dc37 pm37 an37 cd37 ct37),sl37⟩) (c37:PySem.W.codeIn K cd37 "_law_takeable" = true) (k37:PySem.W.keepIn K (.ref f37)=true)
    (a38:PySem.W.nsIn K mainGlobals "_law_pair" = some (some (.ref f38)))
    (l38:K.lookup f38=some ⟨oc38,od38,.func (PySem.W.fnOf "_law_pair" "_law_pair" (AC G4) (Az G4) (Ae G4) .none kV38 dc38 pm38 an38 cd38 ct38),sl38⟩) (c38:PySem.W.codeIn K cd38 "_law_pair" = true) (k38:PySem.W.keepIn K (.ref f38)=true)
    (a39:PySem.W.nsIn K mainGlobals "_law_gone" = some (some (.ref f39)))
    (l39:K.lookup f39=some ⟨oc39,od39,.func (PySem.W.fnOf "_law_gone" "_law_gone" (AC G7) (Az G7) (Ae G7) .none kV39 dc39 pm39 an39 cd39 ct39),sl39⟩) (c39:PySem.W.codeIn K cd39 "_law_gone" = true) (k39:PySem.W.keepIn K (.ref f39)=true)
    (a40:PySem.W.nsIn K mainGlobals "_law_behind" = some (some (.ref f40)))
    (l40:K.lookup f40=some ⟨oc40,od40,.func (PySem.W.fnOf "_law_behind" "_law_behind" (AC Dy) (Az Dy) (Ae Dy) .none kV40 dc40 pm40 an40 cd40 ct40),sl40⟩) (c40:PySem.W.codeIn K cd40 "_law_behind" = true) (k40:PySem.W.keepIn K (.ref f40)=true)
    (a41:PySem.W.nsIn K mainGlobals "_law_row" = some (some (.ref f41)))
    (l41:K.lookup f41=some ⟨oc41,od41,.func (PySem.W.fnOf "_law_row" "_law_row" (AC Jp) (Az Jp) (Ae Jp) .none kV41 dc41 pm41 an41 cd41 ct41),sl41⟩) (c41:PySem.W.codeIn K cd41 "_law_row" = true) (k41:PySem.W.keepIn K (.ref f41)=true)
    (a42:PySem.W.nsIn K mainGlobals "_law_same_state" = some (some (.ref f42)))
    (l42:K.lookup f42=some ⟨oc42,od42,.func (PySem.W.fnOf "_law_same_state" "_law_same_state" (AC G2) (Az G2) (Ae G2) .none kV42 dc42 pm42 an42 cd42 ct42),sl42⟩) (c42:PySem.W.codeIn K cd42 "_law_same_state" = true) (k42:PySem.W.keepIn K (.ref f42)=true)
    (a43:PySem.W.nsIn K mainGlobals "_law_framed" = some (some (.ref f43)))
    (l43:K.lookup f43=some ⟨oc43,od43,.func (PySem.W.fnOf "_law_framed" "_law_framed" (AC Cf) (Az Cf) (Ae Cf) .none kV43 dc43 pm43 an43 cd43 ct43),sl43⟩) (c43:PySem.W.codeIn K cd43 "_law_framed" = true) (k43:PySem.W.keepIn K (.ref f43)=true)
    (a44:PySem.W.nsIn K mainGlobals "law" = some (some (.ref f44)))
    (l44:K.lookup f44=some ⟨oc44,od44,.func (PySem.W.fnOf "law" "law" (AC Eo) (Az Eo) (Ae Eo) .none kV44 dc44 pm44 an44 cd44 ct44),sl44⟩) (c44:PySem.W.codeIn K cd44 "law" = true) (k44:PySem.W.keepIn K (.ref f44)=true)
    (a45:PySem.W.findIn K (.ref CC) "__init__" = some (some (.ref f45))) (i45:PySem.W.isFn K (.ref f45)=true)
    (l45:K.lookup f45=some ⟨oc45,od45,.func (PySem.W.fnOf "__init__" "Clash.__init__" (AC Fz) (Az Fz) (Ae Fz) .none kV45 dc45 pm45 an45 cd45 ct45),sl45⟩) (c45:PySem.W.codeIn K cd45 "Clash.__init__" = true) (k45:PySem.W.keepIn K (.ref f45)=true)
    (a46:PySem.W.findIn K (.ref CF) "__init__" = some (some (.ref f46))) (i46:PySem.W.isFn K (.ref f46)=true)
    (l46:K.lookup f46=some ⟨oc46,od46,.func (PySem.W.fnOf "__init__" "Flat.__init__" (AC Fy) (Az Fy) (Ae Fy) .none kV46 dc46 pm46 an46 cd46 ct46),sl46⟩) (c46:PySem.W.codeIn K cd46 "Flat.__init__" = true) (k46:PySem.W.keepIn K (.ref f46)=true)
    (a47:PySem.W.nsIn K mainGlobals "folded" = some (some (.ref f47)))
    (l47:K.lookup f47=some ⟨oc47,od47,.func (PySem.W.fnOf "folded" "folded" (AC DP) (Az DP) (Ae DP) .none kV47 dc47 pm47 an47 cd47 ct47),sl47⟩) (c47:PySem.W.codeIn K cd47 "folded" = true) (k47:PySem.W.keepIn K (.ref f47)=true)
    (a48:PySem.W.nsIn K mainGlobals "check_one_more" = some (some (.ref f48)))
    (l48:K.lookup f48=some ⟨oc48,od48,.func (PySem.W.fnOf "check_one_more" "check_one_more" (AC G6) (Az G6) (Ae G6) .none kV48 dc48 pm48 an48 cd48 ct48),sl48⟩) (c48:PySem.W.codeIn K cd48 "check_one_more" = true) (k48:PySem.W.keepIn K (.ref f48)=true)
    (a49:PySem.W.nsIn K mainGlobals "_law_fold_row" = some (some (.ref f49)))
    (l49:K.lookup f49=some ⟨oc49,od49,.func (PySem.W.fnOf "_law_fold_row" "_law_fold_row" (AC CL) (Az CL) (Ae CL) .none kV49 dc49 pm49 an49 cd49 ct49),sl49⟩) (c49:PySem.W.codeIn K cd49 "_law_fold_row" = true) (k49:PySem.W.keepIn K (.ref f49)=true)
    (a50:PySem.W.nsIn K mainGlobals "_law_fold" = some (some (.ref f50)))
    (l50:K.lookup f50=some ⟨oc50,od50,.func (PySem.W.fnOf "_law_fold" "_law_fold" (AC FV) (Az FV) (Ae FV) .none kV50 dc50 pm50 an50 cd50 ct50),sl50⟩) (c50:PySem.W.codeIn K cd50 "_law_fold" = true) (k50:PySem.W.keepIn K (.ref f50)=true)
    (a51:PySem.W.nsIn K mainGlobals "_law_tried" = some (some (.ref f51)))
    (l51:K.lookup f51=some ⟨oc51,od51,.func (PySem.W.fnOf "_law_tried" "_law_tried" (AC EN) (Az EN) (Ae EN) .none kV51 dc51 pm51 an51 cd51 ct51),sl51⟩) (c51:PySem.W.codeIn K cd51 "_law_tried" = true) (k51:PySem.W.keepIn K (.ref f51)=true)
    (a52:PySem.W.nsIn K mainGlobals "flat_run" = some (some (.ref f52)))
    (l52:K.lookup f52=some ⟨oc52,od52,.func (PySem.W.fnOf "flat_run" "flat_run" (AC G8) (Az G8) (Ae G8) .none kV52 dc52 pm52 an52 cd52 ct52),sl52⟩) (c52:PySem.W.codeIn K cd52 "flat_run" = true) (k52:PySem.W.keepIn K (.ref f52)=true)
    (a53:PySem.W.nsIn K mainGlobals "entry_of" = some (some (.ref f53)))
    (l53:K.lookup f53=some ⟨oc53,od53,.func (PySem.W.fnOf "entry_of" "entry_of" (AC Ep) (Az Ep) (Ae Ep) .none kV53 dc53 pm53 an53 cd53 ct53),sl53⟩) (c53:PySem.W.codeIn K cd53 "entry_of" = true) (k53:PySem.W.keepIn K (.ref f53)=true)
    (a54:PySem.W.nsIn K mainGlobals "_law_rows_same" = some (some (.ref f54)))
    (l54:K.lookup f54=some ⟨oc54,od54,.func (PySem.W.fnOf "_law_rows_same" "_law_rows_same" (AC Cv) (Az Cv) (Ae Cv) .none kV54 dc54 pm54 an54 cd54 ct54),sl54⟩) (c54:PySem.W.codeIn K cd54 "_law_rows_same" = true) (k54:PySem.W.keepIn K (.ref f54)=true)
    (z_len:PySem.W.nsIn K mainGlobals "len" = some none)
    (z_range:PySem.W.nsIn K mainGlobals "range" = some none)
    (z_list:PySem.W.nsIn K mainGlobals "list" = some none)
    (z_isinstance:PySem.W.nsIn K mainGlobals "isinstance" = some none)
    (z_bool:PySem.W.nsIn K mainGlobals "bool" = some none)
    (z_int:PySem.W.nsIn K mainGlobals "int" = some none)
    (z_tuple:PySem.W.nsIn K mainGlobals "tuple" = some none)
    (z_sorted:PySem.W.nsIn K mainGlobals "sorted" = some none)
    (z_enumerate:PySem.W.nsIn K mainGlobals "enumerate" = some none)
    (z_ValueError:PySem.W.nsIn K mainGlobals "ValueError" = some none)
    (g_HOLDER:PySem.W.nsIn K mainGlobals "HOLDER" = some (some (.int (0) t_HOLDER)))
    (g_KIND:PySem.W.nsIn K mainGlobals "KIND" = some (some (.int (1) t_KIND)))
    (g_NONE:PySem.W.nsIn K mainGlobals "NONE" = some (some (.int (-1) t_NONE)))
    (g_SOURCE:PySem.W.nsIn K mainGlobals "SOURCE" = some (some (.int (0) t_SOURCE)))
    (g_EVENT:PySem.W.nsIn K mainGlobals "EVENT" = some (some (.int (1) t_EVENT)))
    (g_GUARD:PySem.W.nsIn K mainGlobals "GUARD" = some (some (.int (2) t_GUARD)))
    (g_TARGET:PySem.W.nsIn K mainGlobals "TARGET" = some (some (.int (3) t_TARGET)))
    (g_DEED:PySem.W.nsIn K mainGlobals "DEED" = some (some (.int (4) t_DEED)))
    (g_LAST_EVENT:PySem.W.nsIn K mainGlobals "LAST_EVENT" = some (some (.int (3) t_LAST_EVENT)))
    (g_LAST_DEED:PySem.W.nsIn K mainGlobals "LAST_DEED" = some (some (.int (99) t_LAST_DEED)))
    (g_MOST_ROOMS:PySem.W.nsIn K mainGlobals "MOST_ROOMS" = some (some (.int (16) t_MOST_ROOMS)))
    (g_MOST_ARROWS:PySem.W.nsIn K mainGlobals "MOST_ARROWS" = some (some (.int (20) t_MOST_ARROWS)))
    (g_MOST_STATES:PySem.W.nsIn K mainGlobals "MOST_STATES" = some (some (.int (30) t_MOST_STATES)))
    (g_BEHIND:PySem.W.nsIn K mainGlobals "BEHIND" = some (some (.int (0) t_BEHIND)))
    (g_DEEDS:PySem.W.nsIn K mainGlobals "DEEDS" = some (some (.int (1) t_DEEDS)))
    (g_CHOOSING:PySem.W.nsIn K mainGlobals "CHOOSING" = some (some (.ref a_CHOOSING))) (o_CHOOSING:K.lookup a_CHOOSING=some ⟨.type "tuple",d_CHOOSING,.seq #[.str "one" t_CHOOSING_0,.str "keep" t_CHOOSING_1] n_CHOOSING,s_CHOOSING⟩)
    (g_KINDS:PySem.W.nsIn K mainGlobals "KINDS" = some (some (.ref a_KINDS))) (o_KINDS:K.lookup a_KINDS=some ⟨.type "tuple",d_KINDS,.seq #[.str "plain" t_KINDS_0,.str "one" t_KINDS_1,.str "all" t_KINDS_2,.str "keep" t_KINDS_3] n_KINDS,s_KINDS⟩)
    (kt_list_list:PySem.W.kitOne K (.type "list") (.type "list")=some true)
    (kt_bool_bool:PySem.W.kitOne K (.type "bool") (.type "bool")=some true)
    (kt_int_int:PySem.W.kitOne K (.type "int") (.type "int")=some true)
    (kt_int_bool:PySem.W.kitOne K (.type "int") (.type "bool")=some false)
    (kt_tuple_tuple:PySem.W.kitOne K (.type "tuple") (.type "tuple")=some true)
    : ∃ fd:FuncData,(∀ (s:Shared) (v:Value),BindsTo s fd ⟨[v],[]⟩ [("script",v)])∧∀ base:Heap,K.In base→base.Ns mainGlobals mg→AD l.prog w K mg base A9 25 fa fd ["script"] (MI K):=by
  have e:=hfa.symm.trans (PySem.W.mg_of X G a44)
  cases e
  have F1:=AQ (st:=JO) l1 c1 k1
  have b1:=F1.binds (ps:=["self", "rooms", "arrows"]) fun _ _ _ _ _ _ us hl => match us,hl with | [_,_,_],_ => rfl
  have F2:=AQ (st:=B2) l2 c2 k2
  have b2:=F2.binds (ps:=["chart"]) fun _ _ _ _ _ _ us hl => match us,hl with | [_],_ => rfl
  have D2:Am K mg "check_rooms" B2 ["chart"] _ _:=⟨F2,b2,PySem.W.mg_of X G a2⟩
  have F3:=AQ (st:=BK) l3 c3 k3
  have b3:=F3.binds (ps:=["chart", "room"]) fun _ _ _ _ _ _ us hl => match us,hl with | [_,_],_ => rfl
  have D3:Am K mg "check_holder" BK ["chart", "room"] _ _:=⟨F3,b3,PySem.W.mg_of X G a3⟩
  have F4:=AQ (st:=Cb) l4 c4 k4
  have b4:=F4.binds (ps:=["chart", "room"]) fun _ _ _ _ _ _ us hl => match us,hl with | [_,_],_ => rfl
  have D4:Am K mg "check_kind" Cb ["chart", "room"] _ _:=⟨F4,b4,PySem.W.mg_of X G a4⟩
  have F5:=AQ (st:=BL) l5 c5 k5
  have b5:=F5.binds (ps:=["chart"]) fun _ _ _ _ _ _ us hl => match us,hl with | [_],_ => rfl
  have D5:Am K mg "check_arrows" BL ["chart"] _ _:=⟨F5,b5,PySem.W.mg_of X G a5⟩
  have F6:=AQ (st:=B3) l6 c6 k6
  have b6:=F6.binds (ps:=["chart", "number"]) fun _ _ _ _ _ _ us hl => match us,hl with | [_,_],_ => rfl
  have D6:Am K mg "check_arrow" B3 ["chart", "number"] _ _:=⟨F6,b6,PySem.W.mg_of X G a6⟩
  have F7:=AQ (st:=G3) l7 c7 k7
  have b7:=F7.binds (ps:=["number", "name", "part", "least", "most"]) fun _ _ _ _ _ _ us hl => match us,hl with | [_,_,_,_,_],_ => rfl
  have D7:Am K mg "check_part" G3 ["number", "name", "part", "least", "most"] _ _:=⟨F7,b7,PySem.W.mg_of X G a7⟩
  have F8:=AQ (st:=BA) l8 c8 k8
  have b8:=F8.binds (ps:=["chart", "room"]) fun _ _ _ _ _ _ us hl => match us,hl with | [_,_],_ => rfl
  have D8:Am K mg "children" BA ["chart", "room"] _ _:=⟨F8,b8,PySem.W.mg_of X G a8⟩
  have F9:=AQ (st:=BR) l9 c9 k9
  have b9:=F9.binds (ps:=["chart", "room", "other"]) fun _ _ _ _ _ _ us hl => match us,hl with | [_,_,_],_ => rfl
  have D9:Am K mg "within" BR ["chart", "room", "other"] _ _:=⟨F9,b9,PySem.W.mg_of X G a9⟩
  have F10:=AQ (st:=ER) l10 c10 k10
  have b10:=F10.binds (ps:=["chart", "room", "other"]) fun _ _ _ _ _ _ us hl => match us,hl with | [_,_,_],_ => rfl
  have D10:Am K mg "lies_in" ER ["chart", "room", "other"] _ _:=⟨F10,b10,PySem.W.mg_of X G a10⟩
  have F11:=AQ (st:=Em) l11 c11 k11
  have b11:=F11.binds (ps:=["chart", "source", "target"]) fun _ _ _ _ _ _ us hl => match us,hl with | [_,_,_],_ => rfl
  have D11:Am K mg "scope" Em ["chart", "source", "target"] _ _:=⟨F11,b11,PySem.W.mg_of X G a11⟩
  have F12:=AQ (st:=C5) l12 c12 k12
  have b12:=F12.binds (ps:=["chart"]) fun _ _ _ _ _ _ us hl => match us,hl with | [_],_ => rfl
  have D12:Am K mg "started" C5 ["chart"] _ _:=⟨F12,b12,PySem.W.mg_of X G a12⟩
  have F13:=AQ (st:=Cw) l13 c13 k13
  have b13:=F13.binds (ps:=["chart"]) fun _ _ _ _ _ _ us hl => match us,hl with | [_],_ => rfl
  have D13:Am K mg "first_memory" Cw ["chart"] _ _:=⟨F13,b13,PySem.W.mg_of X G a13⟩
  have F14:=AQ (st:=Dx) l14 c14 k14
  have b14:=F14.binds (ps:=["rooms"]) fun _ _ _ _ _ _ us hl => match us,hl with | [_],_ => rfl
  have D14:Am K mg "rising" Dx ["rooms"] _ _:=⟨F14,b14,PySem.W.mg_of X G a14⟩
  have F15:=AQ (st:=Cl) l15 c15 k15
  have b15:=F15.binds (ps:=["chart", "room", "goal", "memory"]) fun _ _ _ _ _ _ us hl => match us,hl with | [_,_,_,_],_ => rfl
  have D15:Am K mg "entered" Cl ["chart", "room", "goal", "memory"] _ _:=⟨F15,b15,PySem.W.mg_of X G a15⟩
  have F16:=AQ (st:=CM) l16 c16 k16
  have b16:=F16.binds (ps:=["chart", "room", "goal", "memory"]) fun _ _ _ _ _ _ us hl => match us,hl with | [_,_,_,_],_ => rfl
  have D16:Am K mg "chosen" CM ["chart", "room", "goal", "memory"] _ _:=⟨F16,b16,PySem.W.mg_of X G a16⟩
  have F17:=AQ (st:=Ce) l17 c17 k17
  have b17:=F17.binds (ps:=["chart", "kept", "event"]) fun _ _ _ _ _ _ us hl => match us,hl with | [_,_,_],_ => rfl
  have D17:Am K mg "takeable" Ce ["chart", "kept", "event"] _ _:=⟨F17,b17,PySem.W.mg_of X G a17⟩
  have F18:=AQ (st:=BJ) l18 c18 k18
  have b18:=F18.binds (ps:=["chart", "kept", "event"]) fun _ _ _ _ _ _ us hl => match us,hl with | [_,_,_],_ => rfl
  have D18:Am K mg "open_arrows" BJ ["chart", "kept", "event"] _ _:=⟨F18,b18,PySem.W.mg_of X G a18⟩
  have F19:=AQ (st:=DO) l19 c19 k19
  have b19:=F19.binds (ps:=["arrow", "kept", "event"]) fun _ _ _ _ _ _ us hl => match us,hl with | [_,_,_],_ => rfl
  have D19:Am K mg "is_open" DO ["arrow", "kept", "event"] _ _:=⟨F19,b19,PySem.W.mg_of X G a19⟩
  have F20:=AQ (st:=G5) l20 c20 k20
  have b20:=F20.binds (ps:=["chart", "number", "ready"]) fun _ _ _ _ _ _ us hl => match us,hl with | [_,_,_],_ => rfl
  have D20:Am K mg "overruled" G5 ["chart", "number", "ready"] _ _:=⟨F20,b20,PySem.W.mg_of X G a20⟩
  have F21:=AQ (st:=C6) l21 c21 k21
  have b21:=F21.binds (ps:=["chart", "numbers"]) fun _ _ _ _ _ _ us hl => match us,hl with | [_,_],_ => rfl
  have D21:Am K mg "clash_of" C6 ["chart", "numbers"] _ _:=⟨F21,b21,PySem.W.mg_of X G a21⟩
  have F22:=AQ (st:=Cy) l22 c22 k22
  have b22:=F22.binds (ps:=["chart", "first", "second"]) fun _ _ _ _ _ _ us hl => match us,hl with | [_,_,_],_ => rfl
  have D22:Am K mg "clashing" Cy ["chart", "first", "second"] _ _:=⟨F22,b22,PySem.W.mg_of X G a22⟩
  have F23:=AQ (st:=Dz) l23 c23 k23
  have b23:=F23.binds (ps:=["chart", "number"]) fun _ _ _ _ _ _ us hl => match us,hl with | [_,_],_ => rfl
  have D23:Am K mg "arrow_scope" Dz ["chart", "number"] _ _:=⟨F23,b23,PySem.W.mg_of X G a23⟩
  have F24:=AQ (st:=CK) l24 c24 k24
  have b24:=F24.binds (ps:=["chart", "state", "event"]) fun _ _ _ _ _ _ us hl => match us,hl with | [_,_,_],_ => rfl
  have D24:Am K mg "stepped" CK ["chart", "state", "event"] _ _:=⟨F24,b24,PySem.W.mg_of X G a24⟩
  have F25:=AQ (st:=En) l25 c25 k25
  have b25:=F25.binds (ps:=["chart", "kept", "memory", "number"]) fun _ _ _ _ _ _ us hl => match us,hl with | [_,_,_,_],_ => rfl
  have D25:Am K mg "moved" En ["chart", "kept", "memory", "number"] _ _:=⟨F25,b25,PySem.W.mg_of X G a25⟩
  have F26:=AQ (st:=B1) l26 c26 k26
  have b26:=F26.binds (ps:=["chart", "kept", "memory"]) fun _ _ _ _ _ _ us hl => match us,hl with | [_,_,_],_ => rfl
  have D26:Am K mg "remembered" B1 ["chart", "kept", "memory"] _ _:=⟨F26,b26,PySem.W.mg_of X G a26⟩
  have F27:=AQ (st:=EO) l27 c27 k27
  have b27:=F27.binds (ps:=["chart", "ahead", "state", "event"]) fun _ _ _ _ _ _ us hl => match us,hl with | [_,_,_,_],_ => rfl
  have D27:Am K mg "step_behind" EO ["chart", "ahead", "state", "event"] _ _:=⟨F27,b27,PySem.W.mg_of X G a27⟩
  have F28:=AQ (st:=ET) l28 c28 k28
  have b28:=F28.binds (ps:=["script", "k"]) fun _ _ _ _ _ _ us hl => match us,hl with | [_,_],_ => rfl
  have D28:Am K mg "_law_cell_at" ET ["script", "k"] _ _:=⟨F28,b28,PySem.W.mg_of X G a28⟩
  have F29:=AQ (st:=EQ) l29 c29 k29
  have b29:=F29.binds (ps:=["script", "many"]) fun _ _ _ _ _ _ us hl => match us,hl with | [_,_],_ => rfl
  have D29:Am K mg "_law_rooms" EQ ["script", "many"] _ _:=⟨F29,b29,PySem.W.mg_of X G a29⟩
  have F30:=AQ (st:=Dd) l30 c30 k30
  have b30:=F30.binds (ps:=["rooms", "k"]) fun _ _ _ _ _ _ us hl => match us,hl with | [_,_],_ => rfl
  have D30:Am K mg "_law_chain" Dd ["rooms", "k"] _ _:=⟨F30,b30,PySem.W.mg_of X G a30⟩
  have F31:=AQ (st:=CY) l31 c31 k31
  have b31:=F31.binds (ps:=["rooms", "source", "target"]) fun _ _ _ _ _ _ us hl => match us,hl with | [_,_,_],_ => rfl
  have D31:Am K mg "_law_scope" CY ["rooms", "source", "target"] _ _:=⟨F31,b31,PySem.W.mg_of X G a31⟩
  have F32:=AQ (st:=Cq) l32 c32 k32
  have b32:=F32.binds (ps:=["rooms", "cells", "free"]) fun _ _ _ _ _ _ us hl => match us,hl with | [_,_,_],_ => rfl
  have D32:Am K mg "_law_arrows" Cq ["rooms", "cells", "free"] _ _:=⟨F32,b32,PySem.W.mg_of X G a32⟩
  have F33:=AQ (st:=Er) l33 c33 k33
  have b33:=F33.binds (ps:=["script", "start", "many"]) fun _ _ _ _ _ _ us hl => match us,hl with | [_,_,_],_ => rfl
  have D33:Am K mg "_law_cells" Er ["script", "start", "many"] _ _:=⟨F33,b33,PySem.W.mg_of X G a33⟩
  have F34:=AQ (st:=DE) l34 c34 k34
  have b34:=F34.binds (ps:=["rooms"]) fun _ _ _ _ _ _ us hl => match us,hl with | [_],_ => rfl
  have D34:Am K mg "_law_first" DE ["rooms"] _ _:=⟨F34,b34,PySem.W.mg_of X G a34⟩
  have F35:=AQ (st:=ES) l35 c35 k35
  have b35:=F35.binds (ps:=["rooms", "choice"]) fun _ _ _ _ _ _ us hl => match us,hl with | [_,_],_ => rfl
  have D35:Am K mg "_law_kept" ES ["rooms", "choice"] _ _:=⟨F35,b35,PySem.W.mg_of X G a35⟩
  have F36:=AQ (st:=El) l36 c36 k36
  have b36:=F36.binds (ps:=["rooms", "choice"]) fun _ _ _ _ _ _ us hl => match us,hl with | [_,_],_ => rfl
  have D36:Am K mg "_law_state" El ["rooms", "choice"] _ _:=⟨F36,b36,PySem.W.mg_of X G a36⟩
  have F37:=AQ (st:=DV) l37 c37 k37
  have b37:=F37.binds (ps:=["rooms", "arrows", "kept", "event"]) fun _ _ _ _ _ _ us hl => match us,hl with | [_,_,_,_],_ => rfl
  have D37:Am K mg "_law_takeable" DV ["rooms", "arrows", "kept", "event"] _ _:=⟨F37,b37,PySem.W.mg_of X G a37⟩
  have F38:=AQ (st:=G4) l38 c38 k38
  have b38:=F38.binds (ps:=["rooms", "arrows", "numbers"]) fun _ _ _ _ _ _ us hl => match us,hl with | [_,_,_],_ => rfl
  have D38:Am K mg "_law_pair" G4 ["rooms", "arrows", "numbers"] _ _:=⟨F38,b38,PySem.W.mg_of X G a38⟩
  have F39:=AQ (st:=G7) l39 c39 k39
  have b39:=F39.binds (ps:=["rooms", "choice", "arrow"]) fun _ _ _ _ _ _ us hl => match us,hl with | [_,_,_],_ => rfl
  have D39:Am K mg "_law_gone" G7 ["rooms", "choice", "arrow"] _ _:=⟨F39,b39,PySem.W.mg_of X G a39⟩
  have F40:=AQ (st:=Dy) l40 c40 k40
  have b40:=F40.binds (ps:=["rooms", "arrows", "choice", "taken"]) fun _ _ _ _ _ _ us hl => match us,hl with | [_,_,_,_],_ => rfl
  have D40:Am K mg "_law_behind" Dy ["rooms", "arrows", "choice", "taken"] _ _:=⟨F40,b40,PySem.W.mg_of X G a40⟩
  have F41:=AQ (st:=Jp) l41 c41 k41
  have b41:=F41.binds (ps:=["found", "due"]) fun _ _ _ _ _ _ us hl => match us,hl with | [_,_],_ => rfl
  have D41:Am K mg "_law_row" Jp ["found", "due"] _ _:=⟨F41,b41,PySem.W.mg_of X G a41⟩
  have F42:=AQ (st:=G2) l42 c42 k42
  have b42:=F42.binds (ps:=["found", "due"]) fun _ _ _ _ _ _ us hl => match us,hl with | [_,_],_ => rfl
  have D42:Am K mg "_law_same_state" G2 ["found", "due"] _ _:=⟨F42,b42,PySem.W.mg_of X G a42⟩
  have F43:=AQ (st:=Cf) l43 c43 k43
  have b43:=F43.binds (ps:=["script", "start", "clashing_v"]) fun _ _ _ _ _ _ us hl => match us,hl with | [_,_,_],_ => rfl
  have D43:Am K mg "_law_framed" Cf ["script", "start", "clashing_v"] _ _:=⟨F43,b43,PySem.W.mg_of X G a43⟩
  have F44:=AQ (st:=Eo) l44 c44 k44
  have b44:=F44.binds (ps:=["script"]) fun _ _ _ _ _ _ us hl => match us,hl with | [_],_ => rfl
  have D44:Am K mg "law" Eo ["script"] _ _:=⟨F44,b44,PySem.W.mg_of X G a44⟩
  have F45:=AQ (st:=Fz) l45 c45 k45
  have b45:=F45.binds (ps:=["self", "events", "first", "second"]) fun _ _ _ _ _ _ us hl => match us,hl with | [_,_,_,_],_ => rfl
  have F46:=AQ (st:=Fy) l46 c46 k46
  have b46:=F46.binds (ps:=["self", "states", "rows", "ways"]) fun _ _ _ _ _ _ us hl => match us,hl with | [_,_,_,_],_ => rfl
  have F47:=AQ (st:=DP) l47 c47 k47
  have b47:=F47.binds (ps:=["chart"]) fun _ _ _ _ _ _ us hl => match us,hl with | [_],_ => rfl
  have D47:Am K mg "folded" DP ["chart"] _ _:=⟨F47,b47,PySem.W.mg_of X G a47⟩
  have F48:=AQ (st:=G6) l48 c48 k48
  have b48:=F48.binds (ps:=["states"]) fun _ _ _ _ _ _ us hl => match us,hl with | [_],_ => rfl
  have D48:Am K mg "check_one_more" G6 ["states"] _ _:=⟨F48,b48,PySem.W.mg_of X G a48⟩
  have F49:=AQ (st:=CL) l49 c49 k49
  have b49:=F49.binds (ps:=["rooms", "arrows", "choices", "ways", "here"]) fun _ _ _ _ _ _ us hl => match us,hl with | [_,_,_,_,_],_ => rfl
  have D49:Am K mg "_law_fold_row" CL ["rooms", "arrows", "choices", "ways", "here"] _ _:=⟨F49,b49,PySem.W.mg_of X G a49⟩
  have F50:=AQ (st:=FV) l50 c50 k50
  have b50:=F50.binds (ps:=["rooms", "arrows"]) fun _ _ _ _ _ _ us hl => match us,hl with | [_,_],_ => rfl
  have D50:Am K mg "_law_fold" FV ["rooms", "arrows"] _ _:=⟨F50,b50,PySem.W.mg_of X G a50⟩
  have F51:=AQ (st:=EN) l51 c51 k51
  have b51:=F51.binds (ps:=["chart"]) fun _ _ _ _ _ _ us hl => match us,hl with | [_],_ => rfl
  have D51:Am K mg "_law_tried" EN ["chart"] _ _:=⟨F51,b51,PySem.W.mg_of X G a51⟩
  have F52:=AQ (st:=G8) l52 c52 k52
  have b52:=F52.binds (ps:=["flat", "events"]) fun _ _ _ _ _ _ us hl => match us,hl with | [_,_],_ => rfl
  have D52:Am K mg "flat_run" G8 ["flat", "events"] _ _:=⟨F52,b52,PySem.W.mg_of X G a52⟩
  have F53:=AQ (st:=Ep) l53 c53 k53
  have b53:=F53.binds (ps:=["flat", "number", "event"]) fun _ _ _ _ _ _ us hl => match us,hl with | [_,_,_],_ => rfl
  have D53:Am K mg "entry_of" Ep ["flat", "number", "event"] _ _:=⟨F53,b53,PySem.W.mg_of X G a53⟩
  have F54:=AQ (st:=Cv) l54 c54 k54
  have b54:=F54.binds (ps:=["found", "due"]) fun _ _ _ _ _ _ us hl => match us,hl with | [_,_],_ => rfl
  have D54:Am K mg "_law_rows_same" Cv ["found", "due"] _ _:=⟨F54,b54,PySem.W.mg_of X G a54⟩
  have T:Dn K mg C:=⟨⟨pg,hd,po,sa⟩,nR,nA,PySem.W.mg_of X G aC,PySem.W.mg_none_of X G z_len,PySem.W.mg_none_of X G z_range,PySem.W.mg_none_of X G z_list,PySem.W.mg_none_of X G z_isinstance,PySem.W.mg_none_of X G z_bool,PySem.W.mg_none_of X G z_int,PySem.W.mg_none_of X G z_tuple,PySem.W.mg_none_of X G z_sorted,PySem.W.mg_none_of X G z_enumerate,⟨_,PySem.W.mg_of X G g_HOLDER⟩,⟨_,PySem.W.mg_of X G g_KIND⟩,⟨_,PySem.W.mg_of X G g_NONE⟩,⟨_,PySem.W.mg_of X G g_SOURCE⟩,⟨_,PySem.W.mg_of X G g_EVENT⟩,⟨_,PySem.W.mg_of X G g_GUARD⟩,⟨_,PySem.W.mg_of X G g_TARGET⟩,⟨_,PySem.W.mg_of X G g_DEED⟩,⟨_,PySem.W.mg_of X G g_LAST_EVENT⟩,⟨_,PySem.W.mg_of X G g_LAST_DEED⟩,⟨_,PySem.W.mg_of X G g_MOST_ROOMS⟩,⟨_,PySem.W.mg_of X G g_MOST_ARROWS⟩,⟨_,PySem.W.mg_of X G g_CHOOSING,fun H => .inr ⟨_,_,_,o_CHOOSING,rfl,rfl,(by show 2≤sizeLine; decide),.cons ⟨_,rfl⟩ (.cons ⟨_,rfl⟩ .nil)⟩⟩,⟨_,PySem.W.mg_of X G g_KINDS,fun H => .inr ⟨_,_,_,o_KINDS,rfl,rfl,(by show 4≤sizeLine; decide),.cons ⟨_,rfl⟩ (.cons ⟨_,rfl⟩ (.cons ⟨_,rfl⟩ (.cons ⟨_,rfl⟩ .nil)))⟩⟩,kt_list_list,kt_bool_bool,kt_int_int,kt_int_bool,kt_tuple_tuple⟩
  refine ⟨PySem.W.fnOf "law" "law" (AC Eo) (Az Eo) (Ae Eo) .none kV44 dc44 pm44 an44 cd44 ct44,fun s v => .of_eq rfl,fun base _ _ => ?_⟩
  have X7:Ee K mg CC CE _:=⟨⟨⟨_,_,_,_,_,_,_,_,_,_,_,_,_,_,lkX⟩,ex_ChartError,a45,i45,saX,obX,bxX,hdX,gaX,gtX⟩,⟨rdX,fcX,sgX⟩,evX,fiX,seX,PySem.W.mg_of X G aE_ChartError⟩
  have M:Mk K C _:=⟨mk,a1,i1,kc⟩
  have Gi:=ok_init (P:=l.prog) (w:=w) (base:=base) F1 T D2 D5 (IC D2 T D8 D3 D4) (Hm D5 T D6 (ID D6 T D7 D11 D10 D9))
  have Glt:=OH (P:=l.prog) (w:=w) (base:=base) D37 T D30
  have Gp:=ok_pair (P:=l.prog) (w:=w) (base:=base) D38 T D31 D30
  have Gb:=NB (P:=l.prog) (w:=w) (base:=base) D40 D39 (ok_gone D39 T D31 D30 D34)
  have Gt:=Lr (P:=l.prog) (w:=w) (base:=base) D17 T D18 (Iy D18 T D19) D20 (ok_over D20 T D10 D9)
  have Gas:=NC (P:=l.prog) (w:=w) (base:=base) D23 T D11 D10 D9
  have Gco:=Ly (P:=l.prog) (w:=w) (base:=base) D21 T D22 (Lx D22 T D23 Gas D9)
  have Ge:=FA (P:=l.prog) (w:=w) (base:=base) D15 T D16 (JX D16 T D8 D9) 16
  have Gm:=OG (fh:=f9) (fdh:=PySem.W.fnOf "law" "law" (AC Eo) (Az Eo) (Ae Eo) .none kV44 dc44 pm44 an44 cd44 ct44) (P:=l.prog) (w:=w) (base:=base) D25 T D23 Gas D9 D14 D15 Ge
  have Gs:=Mh (P:=l.prog) (w:=w) (base:=base) D24 T X7 (PySem.W.mg_of X G aE_Clash) kpX b45 (OL F45 X7) D17 Gt D21 Gco D25 Gm D26
  have kCC:=Mq cc_Clash ct_Clash cs_Clash_Clash
  have Gsb:=OD (P:=l.prog) (w:=w) (base:=base) D27 T X7 (PySem.W.mg_of X G aE_Clash) kpX b45 (NA F45 X7) st_Clash_BaseException kCC D24 Gs
  have Gst:=Mi (P:=l.prog) (w:=w) (base:=base) D12 T D13 D14 D15 D16 D8 D9
  have TF:Kk K mg CF:=⟨⟨pg_Flat,hd_Flat,po_Flat,sa_Flat⟩,n_Flat_states,n_Flat_rows,n_Flat_ways,PySem.W.mg_of X G aC_Flat,PySem.W.mg_none_of X G z_list⟩
  have BT:Nj K mg CT:=⟨PySem.W.mg_of X G aE_TooMany,ex_TooMany,⟨_,PySem.W.mg_of X G g_MOST_STATES⟩⟩
  have MF:Mk K CF _:=⟨mk_Flat,a46,i46,kc_Flat⟩
  have Gfi:=OJ (P:=l.prog) (w:=w) (base:=base) F46 TF
  have Gmo:=ok_more (P:=l.prog) (w:=w) (base:=base) D48 T BT
  have Gfo:=Nz (P:=l.prog) (w:=w) (base:=base) D47 T TF MF b46 Gfi D12 Gst D27 Gsb D48 Gmo
  have Gfr:=Lv (P:=l.prog) (w:=w) (base:=base) D49 T D35 D37 Glt D38 Gp D40 Gb
  have Glf:=OI (P:=l.prog) (w:=w) (base:=base) D50 T D34 D49 Gfr D36 D35
  have Gtr:=OC (P:=l.prog) (w:=w) (base:=base) D51 X7 (PySem.W.mg_of X G aE_Clash) st_Clash_BaseException kCC D47 Gfo
  have BD:Nl mg:=⟨⟨_,PySem.W.mg_of X G g_BEHIND⟩,⟨_,PySem.W.mg_of X G g_DEEDS⟩⟩
  exact ok_law D44 T TF BD M b1 Gi D28 D29 D33 D32 (ND D32 T D31 D30) D43 D50 Glf D51 Gtr D34 D35 D37 Glt D40 Gb D52 D53 D41 D54 D42 D36
theorem walk {l:PySem.W.OpenLaw} {q:Program} {loose:List Str} {XP:(Str→Option Value)→Heap→Prop} {YP:World→Heap→Prop} {d:DefRec} {K:Params→PySem.W.Frag} (hn:l.most=some 63) (hdf:d.params.defaults=[])
    (hY:∀ (w:World) (h:Heap),YP w h→(K w.params).In h)
    (F:∀ (w:World) (mg:Str→Option Value) (fa:Addr) (h:Heap),(K w.params).In h→h.Ns mainGlobals mg→mg d.name=some (.ref fa) →
      ∃ fd:FuncData,(∀ (s:Shared) (u:Value),BindsTo s fd ⟨[u],[]⟩ [("script",u)])∧∀ base:Heap,(K w.params).In base→base.Ns mainGlobals mg→AD l.prog w (K w.params) mg base A9 25 fa fd ["script"] (MI (K w.params))) :
    PySem.W.WalkO q loose XP YP l.row.toRowW d [] (fun f vs => PySem.call f vs) :=
  L2.walk_of (n := 63) (k := 25) (x := "script") (CX:=fun _ => A9) (sp:=fun w => MI (K w.params)) hn (by decide) hdf ⟨rfl,by decide,by decide⟩ hY F (fun _ _ a ns hl _ hS => ⟨a,ns,rfl,hS,hl,fun _ => rfl⟩) fun _ _ _ _ _ z => z
end Toy
def PySem.W.Fast.tw9551481436407500944 : Unit := ()
def PySem.W.Fast.tw17028710159654112665 : Unit := ()
def PySem.W.Fast.tw9652996490986855617 : Unit := ()
def PySem.W.Fast.tw7197551660325451540 : Unit := ()
def PySem.W.Fast.tw11239020658432415070 : Unit := ()
def PySem.W.Fast.tw7627946409539763667 : Unit := ()
def PySem.W.Fast.tw16042601960006632322 : Unit := ()
def PySem.W.Fast.tw10018644823403262570 : Unit := ()
def PySem.W.Fast.tw8265137326520574834 : Unit := ()
def PySem.W.Fast.tw1571281945967960929 : Unit := ()
def PySem.W.Fast.tw16890848361061728450 : Unit := ()
def PySem.W.Fast.tw3425582770863616395 : Unit := ()
def PySem.W.Fast.tw1718446306503329130 : Unit := ()
def PySem.W.Fast.tw12351959029098384189 : Unit := ()
def PySem.W.Fast.tw1090938800029502159 : Unit := ()
def PySem.W.Fast.tw8205966708354136025 : Unit := ()
def PySem.W.Fast.tw10582452595686893239 : Unit := ()
def PySem.W.Fast.tw10264968118895361288 : Unit := ()
def PySem.W.Fast.tw7066282812089451084 : Unit := ()
def PySem.W.Fast.tw3230627036339134180 : Unit := ()
def PySem.W.Fast.tw15843639883555390770 : Unit := ()
def PySem.W.Fast.tw14411530526347334523 : Unit := ()
def PySem.W.Fast.tw2179436352596891387 : Unit := ()
def PySem.W.Fast.tw6434880574220280352 : Unit := ()
def PySem.W.Fast.tw8618474833579761593 : Unit := ()
def PySem.W.Fast.tw7858122681490464267 : Unit := ()
def PySem.W.Fast.tw12076403301512109424 : Unit := ()
def PySem.W.Fast.tw6935987078332053546 : Unit := ()
def PySem.W.Fast.tw8592693148066579319 : Unit := ()
def PySem.W.Fast.tw9669792147736784946 : Unit := ()
def PySem.W.Fast.tw8911343842866245633 : Unit := ()
def PySem.W.Fast.tw12737771694046884134 : Unit := ()
def PySem.W.Fast.tw15457519987114289582 : Unit := ()
def PySem.W.Fast.tw18402777011694434740 : Unit := ()
def PySem.W.Fast.tw3290193958615821462 : Unit := ()
def PySem.W.Fast.tw8916627437697422829 : Unit := ()
def PySem.W.Fast.tw17529247871794872392 : Unit := ()
def PySem.W.Fast.tw3637401352387718745 : Unit := ()
def PySem.W.Fast.tw15047812979092577575 : Unit := ()
def PySem.W.Fast.tw331003238764534084 : Unit := ()
def PySem.W.Fast.tw2468214349236788568 : Unit := ()
def PySem.W.Fast.tw17761970063375308518 : Unit := ()
def PySem.W.Fast.tw10708613004722480940 : Unit := ()
def PySem.W.Fast.tw10006392765842533974 : Unit := ()
def PySem.W.Fast.tw14447613081186182445 : Unit := ()
def PySem.W.Fast.tw5191346413576745073 : Unit := ()
def PySem.W.Fast.tw8749727037316863357 : Unit := ()
def PySem.W.Fast.tw4726982985336309244 : Unit := ()
def PySem.W.Fast.tw16779825754613267768 : Unit := ()
def PySem.W.Fast.tw14303774370664975891 : Unit := ()
def PySem.W.Fast.tw8073520013916469789 : Unit := ()
def PySem.W.Fast.tw7417405366183759235 : Unit := ()
def PySem.W.Fast.tw6004007053415075332 : Unit := ()
def PySem.W.Fast.tw7309653357823862054 : Unit := ()
def PySem.W.Fast.tw11000555820990254579 : Unit := ()
def PySem.W.Fast.tw6155897738881730154 : Unit := ()
def PySem.W.Fast.tw9986358698652212093 : Unit := ()
def PySem.W.Fast.tw4558561573819498027 : Unit := ()
def PySem.W.Fast.tw9255592730886877212 : Unit := ()
def PySem.W.Fast.tw10483875518828241637 : Unit := ()
def PySem.W.Fast.tw14929292715354938975 : Unit := ()
def PySem.W.Fast.tw5777197073504120521 : Unit := ()
def PySem.W.Fast.tw14296928249397109964 : Unit := ()
def PySem.W.Fast.tw4312265727641878260 : Unit := ()
def PySem.W.Fast.tw15505388422775744977 : Unit := ()
def PySem.W.Fast.tw17231730268804814635 : Unit := ()
def PySem.W.Fast.tw8277599390202444108 : Unit := ()
def PySem.W.Fast.tw12821875599829254108 : Unit := ()
def PySem.W.Fast.tw2246691527285674288 : Unit := ()
def PySem.W.Fast.tw13471401409372073570 : Unit := ()
def PySem.W.Fast.tw10188134636095437348 : Unit := ()
def PySem.W.Fast.tw1906637553606805780 : Unit := ()
def PySem.W.Fast.tw14163626308021495330 : Unit := ()
def PySem.W.Fast.tw14892299842867256105 : Unit := ()
def PySem.W.Fast.tw5777389022596777135 : Unit := ()
def PySem.W.Fast.tw413370509038080049 : Unit := ()
def PySem.W.Fast.tw10287918231715671304 : Unit := ()
def PySem.W.Fast.tw17570575171071305052 : Unit := ()
def PySem.W.Fast.tw10664240113201897385 : Unit := ()
def PySem.W.Fast.tw11626115801247112786 : Unit := ()
def PySem.W.Fast.tw8216670410478906643 : Unit := ()
def PySem.W.Fast.tw995406373038184667 : Unit := ()
def PySem.W.Fast.tw267403720469538034 : Unit := ()
def PySem.W.Fast.tw6514222455004738820 : Unit := ()
def PySem.W.Fast.tw16010688685401166166 : Unit := ()
def PySem.W.Fast.tw12239764028509305213 : Unit := ()
def PySem.W.Fast.tw13644794148440466646 : Unit := ()
def PySem.W.Fast.tw3180546162181002628 : Unit := ()
def PySem.W.Fast.tw9421353693899870292 : Unit := ()
def PySem.W.Fast.tw131977703332220858 : Unit := ()
def PySem.W.Fast.tw15636332291100738653 : Unit := ()
def PySem.W.Fast.tw2227182671833120733 : Unit := ()
def PySem.W.Fast.tw17824722507162779324 : Unit := ()
def PySem.W.Fast.tw10207889928637220194 : Unit := ()
def PySem.W.Fast.tw16971199629352731277 : Unit := ()
def PySem.W.Fast.tw13701578508133399343 : Unit := ()
def PySem.W.Fast.tw14249989355269869777 : Unit := ()
def PySem.W.Fast.tw12789565719496201462 : Unit := ()
def PySem.W.Fast.tw14117932139381013658 : Unit := ()
def PySem.W.Fast.tw4348357256882051952 : Unit := ()
def PySem.W.Fast.tw7958906315923146863 : Unit := ()
def PySem.W.Fast.tw180453388966277770 : Unit := ()
def PySem.W.Fast.tw14529157289972192477 : Unit := ()
def PySem.W.Fast.tw12341761127779523812 : Unit := ()
def PySem.W.Fast.tw10000132449297517168 : Unit := ()
def PySem.W.Fast.tw13042250638469658670 : Unit := ()
def PySem.W.Fast.tw14724130016820886805 : Unit := ()
def PySem.W.Fast.tw9529911034861875878 : Unit := ()
def PySem.W.Fast.tw13119390357150945796 : Unit := ()
def PySem.W.Fast.tw154720437840248906 : Unit := ()
def PySem.W.Fast.tw15617225000734335430 : Unit := ()
def PySem.W.Fast.tw11386499163345744870 : Unit := ()
def PySem.W.Fast.tw8923041736355847625 : Unit := ()
def PySem.W.Fast.tw10500642493351205631 : Unit := ()
def PySem.W.Fast.tw4311991483554457076 : Unit := ()
def PySem.W.Fast.tw17503840006257331735 : Unit := ()
def PySem.W.Fast.tw13667202173857896980 : Unit := ()
def PySem.W.Fast.tw5305336421483305445 : Unit := ()
def PySem.W.Fast.tw11331972546071932986 : Unit := ()
def PySem.W.Fast.tw14567308798201177290 : Unit := ()
def PySem.W.Fast.tw13132578826642245173 : Unit := ()
def PySem.W.Fast.tw18328984162671074421 : Unit := ()
def PySem.W.Fast.tw5592073146536247030 : Unit := ()
def PySem.W.Fast.tw10957561500889908736 : Unit := ()
def PySem.W.Fast.tw11600297904279722882 : Unit := ()
def PySem.W.Fast.tw5232184797014027077 : Unit := ()
def PySem.W.Fast.tw15950717686842505867 : Unit := ()
def PySem.W.Fast.tw16371722635030420985 : Unit := ()
def PySem.W.Fast.tw16918726122700723680 : Unit := ()
def PySem.W.Fast.tw5423505190834522352 : Unit := ()
def PySem.W.Fast.tw16334354529009193038 : Unit := ()
def PySem.W.Fast.tw8706339117503089819 : Unit := ()
def PySem.W.Fast.tw13455701996726068497 : Unit := ()
def PySem.W.Fast.tw4551030384858536722 : Unit := ()
def PySem.W.Fast.tw10820503541760357212 : Unit := ()
def PySem.W.Fast.tw16050190044129821705 : Unit := ()
def PySem.W.Fast.tw2920738046674323310 : Unit := ()
def PySem.W.Fast.tw303827188723721897 : Unit := ()
def PySem.W.Fast.tw7020758527804529506 : Unit := ()
def PySem.W.Fast.tw11667157886146992015 : Unit := ()
open PySem PySem.W PyProof.Rows
set_option maxRecDepth 100000 in
set_option maxHeartbeats 0 in
theorem PySem.Challenge.cw_chartfold_k15_whole_flat_machine_holds : PySem.Challenge.rw_chartfold_k15_whole_flat_machine.Holds := by
  w_on; o_law; k_head; (case hw => w_witness2)
  k_fill
  refine Toy.walk (l := PySem.Challenge.rw_chartfold_k15_whole_flat_machine) rfl rfl (fun w h Y => PySem.W.kIn_of Y) ?F
  case F =>
    intro w mg fa h KX G hmg
    refine' Toy.all_mk KX G hmg ?aC ?pg ?hd ?po ?sa ?mk ?kc ?nR ?nA ?aC_Flat ?pg_Flat ?hd_Flat ?po_Flat ?sa_Flat ?mk_Flat ?kc_Flat ?n_Flat_states ?n_Flat_rows ?n_Flat_ways ?aE_ChartError ?cc_ChartError ?ct_ChartError ?aE_Clash ?cc_Clash ?ct_Clash ?aE_TooMany ?cc_TooMany ?ct_TooMany ?cs_Clash_Clash ?st_Clash_BaseException ?ex_ChartError ?ex_TooMany ?lkX ?kpX ?saX ?obX ?bxX ?hdX ?gaX ?gtX ?rdX ?fcX ?sgX ?evX ?fiX ?seX ?a1 ?i1 ?l1 ?c1 ?k1 ?a2 ?l2 ?c2 ?k2 ?a3 ?l3 ?c3 ?k3 ?a4 ?l4 ?c4 ?k4 ?a5 ?l5 ?c5 ?k5 ?a6 ?l6 ?c6 ?k6 ?a7 ?l7 ?c7 ?k7 ?a8 ?l8 ?c8 ?k8 ?a9 ?l9 ?c9 ?k9 ?a10 ?l10 ?c10 ?k10 ?a11 ?l11 ?c11 ?k11 ?a12 ?l12 ?c12 ?k12 ?a13 ?l13 ?c13 ?k13 ?a14 ?l14 ?c14 ?k14 ?a15 ?l15 ?c15 ?k15 ?a16 ?l16 ?c16 ?k16 ?a17 ?l17 ?c17 ?k17 ?a18 ?l18 ?c18 ?k18 ?a19 ?l19 ?c19 ?k19 ?a20 ?l20 ?c20 ?k20 ?a21 ?l21 ?c21 ?k21 ?a22 ?l22 ?c22 ?k22 ?a23 ?l23 ?c23 ?k23 ?a24 ?l24 ?c24 ?k24 ?a25 ?l25 ?c25 ?k25 ?a26 ?l26 ?c26 ?k26 ?a27 ?l27 ?c27 ?k27 ?a28 ?l28 ?c28 ?k28 ?a29 ?l29 ?c29 ?k29 ?a30 ?l30 ?c30 ?k30 ?a31 ?l31 ?c31 ?k31 ?a32 ?l32 ?c32 ?k32 ?a33 ?l33 ?c33 ?k33 ?a34 ?l34 ?c34 ?k34 ?a35 ?l35 ?c35 ?k35 ?a36 ?l36 ?c36 ?k36 ?a37 ?l37 ?c37 ?k37 ?a38 ?l38 ?c38 ?k38 ?a39 ?l39 ?c39 ?k39 ?a40 ?l40 ?c40 ?k40 ?a41 ?l41 ?c41 ?k41 ?a42 ?l42 ?c42 ?k42 ?a43 ?l43 ?c43 ?k43 ?a44 ?l44 ?c44 ?k44 ?a45 ?i45 ?l45 ?c45 ?k45 ?a46 ?i46 ?l46 ?c46 ?k46 ?a47 ?l47 ?c47 ?k47 ?a48 ?l48 ?c48 ?k48 ?a49 ?l49 ?c49 ?k49 ?a50 ?l50 ?c50 ?k50 ?a51 ?l51 ?c51 ?k51 ?a52 ?l52 ?c52 ?k52 ?a53 ?l53 ?c53 ?k53 ?a54 ?l54 ?c54 ?k54 ?z_len ?z_range ?z_list ?z_isinstance ?z_bool ?z_int ?z_tuple ?z_sorted ?z_enumerate ?z_ValueError ?g_HOLDER ?g_KIND ?g_NONE ?g_SOURCE ?g_EVENT ?g_GUARD ?g_TARGET ?g_DEED ?g_LAST_EVENT ?g_LAST_DEED ?g_MOST_ROOMS ?g_MOST_ARROWS ?g_MOST_STATES ?g_BEHIND ?g_DEEDS ?g_CHOOSING ?o_CHOOSING ?g_KINDS ?o_KINDS ?kt_list_list ?kt_bool_bool ?kt_int_int ?kt_int_bool ?kt_tuple_tuple
    (case aC => k_is)
    (case pg => k_is)
    (case hd => k_is)
    (case po => k_is)
    (case sa => k_is)
    (case mk => k_is)
    (case kc => k_is)
    (case nR => k_is)
    (case nA => k_is)
    (case aC_Flat => k_is)
    (case pg_Flat => k_is)
    (case hd_Flat => k_is)
    (case po_Flat => k_is)
    (case sa_Flat => k_is)
    (case mk_Flat => k_is)
    (case kc_Flat => k_is)
    (case n_Flat_states => k_is)
    (case n_Flat_rows => k_is)
    (case n_Flat_ways => k_is)
    (case aE_ChartError => k_is)
    (case cc_ChartError => k_is)
    (case ct_ChartError => k_is)
    (case aE_Clash => k_is)
    (case cc_Clash => k_is)
    (case ct_Clash => k_is)
    (case aE_TooMany => k_is)
    (case cc_TooMany => k_is)
    (case ct_TooMany => k_is)
    (case cs_Clash_Clash => k_is)
    (case st_Clash_BaseException => k_is)
    (case ex_ChartError => k_exc)
    (case ex_TooMany => k_exc)
    (case lkX => k_is)
    (case kpX => k_is)
    (case saX => k_is)
    (case obX => k_is)
    (case bxX => k_is)
    (case hdX => k_is)
    (case gaX => k_is)
    (case gtX => k_is)
    (case rdX => k_is)
    (case fcX => k_is)
    (case sgX => k_is)
    (case evX => k_is)
    (case fiX => k_is)
    (case seX => k_is)
    (case a1 => k_is)
    (case i1 => k_is)
    (case l1 => k_is)
    (case c1 => k_is)
    (case k1 => k_is)
    (case a2 => k_is)
    (case l2 => k_is)
    (case c2 => k_is)
    (case k2 => k_is)
    (case a3 => k_is)
    (case l3 => k_is)
    (case c3 => k_is)
    (case k3 => k_is)
    (case a4 => k_is)
    (case l4 => k_is)
    (case c4 => k_is)
    (case k4 => k_is)
    (case a5 => k_is)
    (case l5 => k_is)
    (case c5 => k_is)
    (case k5 => k_is)
    (case a6 => k_is)
    (case l6 => k_is)
    (case c6 => k_is)
    (case k6 => k_is)
    (case a7 => k_is)
    (case l7 => k_is)
    (case c7 => k_is)
    (case k7 => k_is)
    (case a8 => k_is)
    (case l8 => k_is)
    (case c8 => k_is)
    (case k8 => k_is)
    (case a9 => k_is)
    (case l9 => k_is)
    (case c9 => k_is)
    (case k9 => k_is)
    (case a10 => k_is)
    (case l10 => k_is)
    (case c10 => k_is)
    (case k10 => k_is)
    (case a11 => k_is)
    (case l11 => k_is)
    (case c11 => k_is)
    (case k11 => k_is)
    (case a12 => k_is)
    (case l12 => k_is)
    (case c12 => k_is)
    (case k12 => k_is)
    (case a13 => k_is)
    (case l13 => k_is)
    (case c13 => k_is)
    (case k13 => k_is)
    (case a14 => k_is)
    (case l14 => k_is)
    (case c14 => k_is)
    (case k14 => k_is)
    (case a15 => k_is)
    (case l15 => k_is)
    (case c15 => k_is)
    (case k15 => k_is)
    (case a16 => k_is)
    (case l16 => k_is)
    (case c16 => k_is)
    (case k16 => k_is)
    (case a17 => k_is)
    (case l17 => k_is)
    (case c17 => k_is)
    (case k17 => k_is)
    (case a18 => k_is)
    (case l18 => k_is)
    (case c18 => k_is)
    (case k18 => k_is)
    (case a19 => k_is)
    (case l19 => k_is)
    (case c19 => k_is)
    (case k19 => k_is)
    (case a20 => k_is)
    (case l20 => k_is)
    (case c20 => k_is)
    (case k20 => k_is)
    (case a21 => k_is)
    (case l21 => k_is)
    (case c21 => k_is)
    (case k21 => k_is)
    (case a22 => k_is)
    (case l22 => k_is)
    (case c22 => k_is)
    (case k22 => k_is)
    (case a23 => k_is)
    (case l23 => k_is)
    (case c23 => k_is)
    (case k23 => k_is)
    (case a24 => k_is)
    (case l24 => k_is)
    (case c24 => k_is)
    (case k24 => k_is)
    (case a25 => k_is)
    (case l25 => k_is)
    (case c25 => k_is)
    (case k25 => k_is)
    (case a26 => k_is)
    (case l26 => k_is)
    (case c26 => k_is)
    (case k26 => k_is)
    (case a27 => k_is)
    (case l27 => k_is)
    (case c27 => k_is)
    (case k27 => k_is)
    (case a28 => k_is)
    (case l28 => k_is)
    (case c28 => k_is)
    (case k28 => k_is)
    (case a29 => k_is)
    (case l29 => k_is)
    (case c29 => k_is)
    (case k29 => k_is)
    (case a30 => k_is)
    (case l30 => k_is)
    (case c30 => k_is)
    (case k30 => k_is)
    (case a31 => k_is)
    (case l31 => k_is)
    (case c31 => k_is)
    (case k31 => k_is)
    (case a32 => k_is)
    (case l32 => k_is)
    (case c32 => k_is)
    (case k32 => k_is)
    (case a33 => k_is)
    (case l33 => k_is)
    (case c33 => k_is)
    (case k33 => k_is)
    (case a34 => k_is)
    (case l34 => k_is)
    (case c34 => k_is)
    (case k34 => k_is)
    (case a35 => k_is)
    (case l35 => k_is)
    (case c35 => k_is)
    (case k35 => k_is)
    (case a36 => k_is)
    (case l36 => k_is)
    (case c36 => k_is)
    (case k36 => k_is)
    (case a37 => k_is)
    (case l37 => k_is)
    (case c37 => k_is)
    (case k37 => k_is)
    (case a38 => k_is)
    (case l38 => k_is)
    (case c38 => k_is)
    (case k38 => k_is)
    (case a39 => k_is)
    (case l39 => k_is)
    (case c39 => k_is)
    (case k39 => k_is)
    (case a40 => k_is)
    (case l40 => k_is)
    (case c40 => k_is)
    (case k40 => k_is)
    (case a41 => k_is)
    (case l41 => k_is)
    (case c41 => k_is)
    (case k41 => k_is)
    (case a42 => k_is)
    (case l42 => k_is)
    (case c42 => k_is)
    (case k42 => k_is)
    (case a43 => k_is)
    (case l43 => k_is)
    (case c43 => k_is)
    (case k43 => k_is)
    (case a44 => k_is)
    (case l44 => k_is)
    (case c44 => k_is)
    (case k44 => k_is)
    (case a45 => k_is)
    (case i45 => k_is)
    (case l45 => k_is)
    (case c45 => k_is)
    (case k45 => k_is)
    (case a46 => k_is)
    (case i46 => k_is)
    (case l46 => k_is)
    (case c46 => k_is)
    (case k46 => k_is)
    (case a47 => k_is)
    (case l47 => k_is)
    (case c47 => k_is)
    (case k47 => k_is)
    (case a48 => k_is)
    (case l48 => k_is)
    (case c48 => k_is)
    (case k48 => k_is)
    (case a49 => k_is)
    (case l49 => k_is)
    (case c49 => k_is)
    (case k49 => k_is)
    (case a50 => k_is)
    (case l50 => k_is)
    (case c50 => k_is)
    (case k50 => k_is)
    (case a51 => k_is)
    (case l51 => k_is)
    (case c51 => k_is)
    (case k51 => k_is)
    (case a52 => k_is)
    (case l52 => k_is)
    (case c52 => k_is)
    (case k52 => k_is)
    (case a53 => k_is)
    (case l53 => k_is)
    (case c53 => k_is)
    (case k53 => k_is)
    (case a54 => k_is)
    (case l54 => k_is)
    (case c54 => k_is)
    (case k54 => k_is)
    (case z_len => k_is)
    (case z_range => k_is)
    (case z_list => k_is)
    (case z_isinstance => k_is)
    (case z_bool => k_is)
    (case z_int => k_is)
    (case z_tuple => k_is)
    (case z_sorted => k_is)
    (case z_enumerate => k_is)
    (case z_ValueError => k_is)
    (case g_HOLDER => k_is)
    (case g_KIND => k_is)
    (case g_NONE => k_is)
    (case g_SOURCE => k_is)
    (case g_EVENT => k_is)
    (case g_GUARD => k_is)
    (case g_TARGET => k_is)
    (case g_DEED => k_is)
    (case g_LAST_EVENT => k_is)
    (case g_LAST_DEED => k_is)
    (case g_MOST_ROOMS => k_is)
    (case g_MOST_ARROWS => k_is)
    (case g_MOST_STATES => k_is)
    (case g_BEHIND => k_is)
    (case g_DEEDS => k_is)
    (case g_CHOOSING => k_is)
    (case o_CHOOSING => k_is)
    (case g_KINDS => k_is)
    (case o_KINDS => k_is)
    (case kt_list_list => kit_is)
    (case kt_bool_bool => kit_is)
    (case kt_int_int => kit_is)
    (case kt_int_bool => kit_is)
    (case kt_tuple_tuple => kit_is)
#print axioms PySem.Challenge.cw_chartfold_k15_whole_flat_machine_holds
