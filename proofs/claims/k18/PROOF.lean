import PyProof.Rows.All
import Wide.All
import OpenK.AllK
import Wide.FinOn
import Lean
import PyProof.EqAt
import PyProof.EqKinds
import PyProof.TupleCall
import PySem.Challenge.RW_chartfold_k18_charts_written
set_option Elab.async false
set_option linter.all false
set_option maxRecDepth 100000
namespace L2
open PySem PySem.Spec PyProof.Rows
abbrev Key:=Sum Int Str
def keyIs:Key→Value→Bool
  | .inl k,v => Value.isInt k v
  | .inr x,v => Value.isStrOf x v
def keyH (w:World):Key→Int
  | .inl k => hashInt k
  | .inr x => hashStr w x
theorem keyIs_shape:∀ {k:Key} {v:Value},keyIs k v=true→(∃ i t,k=Sum.inl i∧v=Value.int i t)∨(∃ x t,k=Sum.inr x∧v=Value.str x t)
  | .inl i,v,h => by
    obtain ⟨t,e⟩:=Value.isInt_shape (k:=i) (v:=v) h
    exact .inl ⟨i,t,rfl,e⟩
  | .inr x,v,h => by
    obtain ⟨t,e⟩:=Value.isStrOf_shape (x:=x) (v:=v) h
    exact .inr ⟨x,t,rfl,e⟩
theorem key_ll (a b:Int):decide ((Sum.inl a:Key)=Sum.inl b)=(a == b):=by
  by_cases e:a=b
  · subst e; simp
  · have h:¬ (Sum.inl a:Key)=Sum.inl b:=fun q => e (Sum.inl.inj q)
    rw [decide_eq_false h]
    exact (beq_eq_false_iff_ne.mpr e).symm
theorem key_rr (a b:Str):decide ((Sum.inr a:Key)=Sum.inr b)=decide (a=b):=by
  by_cases e:a=b
  · subst e; simp
  · have h:¬ (Sum.inr a:Key)=Sum.inr b:=fun q => e (Sum.inr.inj q)
    rw [decide_eq_false h,decide_eq_false e]
theorem key_lr (a:Int) (b:Str):decide ((Sum.inl a:Key)=Sum.inr b)=false:=decide_eq_false (fun q => nomatch q)
theorem key_rl (a:Str) (b:Int):decide ((Sum.inr a:Key)=Sum.inl b)=false:=decide_eq_false (fun q => nomatch q)
def mixKind (prog:Program) (w:World):PySem.KeyKind prog w Key where
  is:=keyIs
  hash:=keyH w
  inj:=fun v a b ha hb => by
    rcases keyIs_shape ha with ⟨i,t,rfl,rfl⟩ | ⟨x,t,rfl,rfl⟩
    · rcases keyIs_shape hb with ⟨j,u,rfl,e⟩ | ⟨y,u,rfl,e⟩
      · injection e with e1 _; rw [e1]
      · exact nomatch e
    · rcases keyIs_shape hb with ⟨j,u,rfl,e⟩ | ⟨y,u,rfl,e⟩
      · exact nomatch e
      · injection e with e1 _; rw [e1]
  byValue:=fun k v h => by
    rcases keyIs_shape h with ⟨i,t,rfl,rfl⟩ | ⟨x,t,rfl,rfl⟩ <;> rfl
  pyHash:=fun hv h => by
    rcases keyIs_shape hv with ⟨i,t,rfl,rfl⟩ | ⟨x,t,rfl,rfl⟩
    · exact wpAny_pyHash_int h
    · exact wpAny_pyHash_str h
  eqBool:=fun hu hv h => by
    rcases keyIs_shape hu with ⟨i,t,rfl,rfl⟩ | ⟨x,t,rfl,rfl⟩
    · rcases keyIs_shape hv with ⟨j,u,rfl,rfl⟩ | ⟨y,u,rfl,rfl⟩
      · rw [key_ll] at h; exact wpAny_eqBool_int h
      · rw [key_lr] at h; exact SeqAt.EqAt.int_str i t y u _ _ _ _ h
    · rcases keyIs_shape hv with ⟨j,u,rfl,rfl⟩ | ⟨y,u,rfl,rfl⟩
      · rw [key_rl] at h; exact SeqAt.EqAt.str_int x t j u _ _ _ _ h
      · rw [key_rr] at h; exact wpAny_eqBool_str h
  «strs»:=fun k x t v h => by
    rcases keyIs_shape h with ⟨i,u,rfl,e⟩ | ⟨y,u,rfl,e⟩
    · exact nomatch e
    · injection e with e1 _
      subst e1
      cases v <;> rfl
end L2
namespace L2
open PySem PySem.Spec PyProof.Rows
inductive V where
  | non | bl (b:Bool) | int (i:Int) | str (x:Str) | byt (b:Array UInt8) | flt (b:UInt64) | ref (a:Addr) | ty (n:String)
  deriving DecidableEq
def RelV:V→Value→Prop
  | .non,u => u=Value.none
  | .bl b,u => u=Value.bool b
  | .int i,u => ∃ t,u=Value.int i t
  | .str x,u => ∃ t,u=Value.str x t
  | .byt b,u => ∃ t,u=Value.bytes b t
  | .flt b,u => ∃ t,u=Value.float b t
  | .ref a,u => u=Value.ref a
  | .ty n,u => u=Value.type n
abbrev Vals:List V→List Value→Prop:=Paired RelV
theorem Vals.length {xs:List V} {us:List Value} (r:Vals xs us):xs.length=us.length:=Paired.length r
theorem Vals.get:∀ {xs:List V} {us:List Value} {i:Nat} {x:V},Vals xs us→xs[i]? = some x→∃ u,us[i]? = some u∧RelV x u
  | _,_,_,_,.nil,e => by simp at e
  | _,_,0,_,.cons r _,e => by simp at e; subst e; exact ⟨_,rfl,r⟩
  | _,_,i + 1,x,.cons _ t,e => by
    obtain ⟨u,h1,h2⟩:=Vals.get (i:=i) (x:=x) t (by simpa using e)
    exact ⟨u,by simpa using h1,h2⟩
theorem Vals.append:∀ {xs ys:List V} {us ws:List Value},Vals xs us→Vals ys ws→Vals (xs ++ ys) (us ++ ws)
  | _,_,_,_,.nil,s => s
  | _,_,_,_,.cons r t,s => .cons r (Vals.append t s)
theorem Vals.take:∀ {xs:List V} {us:List Value} (n:Nat),Vals xs us→Vals (xs.take n) (us.take n)
  | _,_,0,_ => .nil
  | _,_,_ + 1,.nil => .nil
  | _,_,n + 1,.cons r t => .cons r (Vals.take n t)
theorem Vals.drop:∀ {xs:List V} {us:List Value} (n:Nat),Vals xs us→Vals (xs.drop n) (us.drop n)
  | _,_,0,r => r
  | _,_,_ + 1,.nil => .nil
  | _,_,n + 1,.cons _ t => Vals.drop n t
def RelO:Option V→Option Value→Prop
  | some v,some u => RelV v u
  | none,none => True
  | _,_ => False
def KV {κ : Type}:List (κ×V)→List (κ×Value)→Prop:=Paired fun (p : κ×V) (q : κ×Value) => p.1=q.1∧RelV p.2 q.2
def kV:Key→V
  | .inl i => .int i
  | .inr x => .str x
inductive HO where
  | lst (xs:List V)
  | tup (xs:List V)
  | dK (kvs:List (Key×V)) | dT (kvs:List (List Key×V))
  | set (S:Int→Bool) (n:Nat)
  | ins (C dx:Addr) (fs:List (Str×V))
  | own (x:Addr)
  | xd (fs:List (Str×V))
  | met (f x:Addr)
  | rng (lo hi:Int)
  | frz (o:Obj) (u:HO)
  | tbl (ps:Array Value)
  | ext (φ : Heap→Prop)
abbrev Hp:=Addr→Option HO
def upd (H:Hp) (a:Addr) (o:HO):Hp:=fun b => if b=a then some o else H b
theorem upd_same {H:Hp} {a:Addr} {o:HO}:upd H a o a=some o:=by unfold upd; rw [if_pos rfl]
theorem upd_ne {H:Hp} {a b:Addr} {o:HO} (h:b≠a):upd H a o b=H b:=by unfold upd; rw [if_neg h]
theorem ne_of {H:Hp} {a b:Addr} {o u:HO} (h:H a=some o) (h':H b=some u) (d:o≠u):a≠b:=by
  intro e; subst e; rw [h] at h'; exact d (Option.some.inj h')
theorem ne_of_none {H:Hp} {a b:Addr} {o:HO} (h:H a=some o) (h':H b=none):a≠b:=by
  intro e; subst e; rw [h] at h'; cases h'
section
variable (P:Program) (w:World)
def ObjOk (H:Hp) (h:Heap) (a:Addr):HO→Prop
  | .lst xs => xs.length≤sizeLine∧∃ (its:List Value) (n:Nat),Vals xs its∧h.get? a=some { cls:=.type "list",data:=.seq its.toArray n }
  | .tup xs => xs.length≤sizeLine∧∃ its:List Value,Vals xs its∧IsTup h a its.toArray
  | .dK kvs => kvs.length≤sizeLine∧(a == sysModules)=false∧∃ vs,KV kvs vs∧h.DictOf (mixKind P w) a vs
  | .dT kvs => kvs.length≤sizeLine∧(a == sysModules)=false∧∃ xs:List (List Key×Addr×Value),
      Paired (fun (p:List Key×V) (q:List Key×Addr×Value) => p.1=q.1∧H q.2.1=some (.tup (p.1.map kV))∧RelV p.2 q.2.2) kvs xs ∧
      ∃ o es ep,h.get? a=some o∧o.ExactDict∧o.data = .dict es ep∧es.toList=xs.map (entryOfKey (tupleKind (mixKind P w)))∧(xs.map (·.1)).Nodup
  | .set S n => h.SetOf (intKind P w) a S n
  | .ins C dx fs => H dx=some (.own a)∧fs.length≤1000∧dx≠a∧h.get? a=some (PySem.W.instObj C dx) ∧
      ∃ mA,h.Ns1 dx mA∧(∀ f,RelO (fs.lookup f) (mA f))∧PySem.Within mA (fs.map (·.1))
  | .own _ => ∃ o,h.get? a=some o
  | .xd fs => ∃ mA,h.Ns1 a mA∧∀ f,RelO (fs.lookup f) (mA f)
  | .rng lo hi => ∃ t u v,h.get? a=some { cls:=.type "range",data:=.fields #[.int lo t,.int hi u,.int 1 v] }
  | .frz o u => h.get? a=some o∧ObjOk H h a u
  | .tbl ps => h.get? a=some { cls:=.none,data:=.fields ps }
  | .met f x => h.get? a=some (PySem.W.methodObj (.ref f) (.ref x))
  | .ext φ => φ h∧(∃ o,h.get? a=some o)∧∀ h1 h2:Heap,φ h1→(∀ o,h1.get? a=some o→h2.get? a=some o)→φ h2
def HOk (H:Hp) (h:Heap):Prop := ∀ a o,H a=some o→ObjOk P w H h a o
end
section
variable {P:Program} {w:World} {H H':Hp} {h h':Heap} {a:Addr} {o:HO}
theorem ObjOk.lt (x:ObjOk P w H h a o):a < h.objs.size:=by
  cases o with
  | lst xs => obtain ⟨_,_,_,_,e⟩:=x; exact Heap.lt_size e
  | tup xs => obtain ⟨_,_,_,p⟩:=x; exact p.lt
  | dK kvs => obtain ⟨_,_,_,_,o,_,_,e,_⟩:=x; exact Heap.lt_size e
  | dT kvs => obtain ⟨_,_,_,_,o,_,_,e,_⟩:=x; exact Heap.lt_size e
  | set S n => obtain ⟨o,_,_,_,e,_⟩:=x; exact Heap.lt_size e
  | ins C dx fs => obtain ⟨_,_,_,e,_⟩:=x; exact Heap.lt_size e
  | own y => obtain ⟨_,e⟩:=x; exact Heap.lt_size e
  | xd fs => obtain ⟨_,⟨_,_,_,e,_⟩,_⟩:=x; exact Heap.lt_size e
  | rng lo hi => obtain ⟨_,_,_,e⟩:=x; exact Heap.lt_size e
  | frz ob u => obtain ⟨e,_⟩:=x; exact Heap.lt_size e
  | tbl ps => exact Heap.lt_size (show h.get? a=some _ from x)
  | met f y => exact Heap.lt_size (show h.get? a=some _ from x)
  | ext φ => obtain ⟨_,⟨_,e⟩,_⟩:=x; exact Heap.lt_size e
theorem Paired.mapP {α β : Type} {F G : α→β→Prop}:∀ {l₁:List α} {l₂:List β},Paired F l₁ l₂→(∀ a b,F a b→G a b)→Paired G l₁ l₂
  | _,_,.nil,_ => .nil
  | _,_,.cons r t,f => .cons (f _ _ r) (Paired.mapP t f)
theorem ObjOk.stay (x:ObjOk P w H h a o) (k:∀ b u,(b=a∨H b=some (.own a))→h.get? b=some u→h'.get? b=some u)
    (ho:∀ b,H b=some (.own a)→H' b=some (.own a)) (ht:∀ b xs,H b=some (.tup xs)→H' b=some (.tup xs)):ObjOk P w H' h' a o:=by
  induction o with
  | lst xs => obtain ⟨z,its,n,r,e⟩:=x; exact ⟨z,its,n,r,k _ _ (.inl rfl) e⟩
  | tup xs => obtain ⟨z,its,r,ob,e,c⟩:=x; exact ⟨z,its,r,ob,k _ _ (.inl rfl) e,c⟩
  | dK kvs => obtain ⟨z,y,vs,r,ob,es,ep,e,c⟩:=x; exact ⟨z,y,vs,r,ob,es,ep,k _ _ (.inl rfl) e,c⟩
  | dT kvs =>
    obtain ⟨z,y,xs,r,ob,es,ep,e,c⟩:=x
    exact ⟨z,y,xs,Paired.mapP r fun p q z => ⟨z.1,ht _ _ z.2.1,z.2.2⟩,ob,es,ep,k _ _ (.inl rfl) e,c⟩
  | set S n => obtain ⟨ob,es,ep,t,e,c⟩:=x; exact ⟨ob,es,ep,t,k _ _ (.inl rfl) e,c⟩
  | ins C dx fs =>
    obtain ⟨d,z,ne,e,mA,⟨od,es,ep,e2,c⟩,r⟩:=x
    exact ⟨ho _ d,z,ne,k _ _ (.inl rfl) e,mA,⟨od,es,ep,k _ _ (.inr d) e2,c⟩,r⟩
  | own y => obtain ⟨ob,e⟩:=x; exact ⟨ob,k _ _ (.inl rfl) e⟩
  | xd fs => obtain ⟨mA,⟨od,es,ep,e,c⟩,r⟩:=x; exact ⟨mA,⟨od,es,ep,k _ _ (.inl rfl) e,c⟩,r⟩
  | rng lo hi => obtain ⟨t,u,v,e⟩:=x; exact ⟨t,u,v,k _ _ (.inl rfl) e⟩
  | frz ob u ih => obtain ⟨e,q⟩:=x; exact ⟨k _ _ (.inl rfl) e,ih q⟩
  | tbl ps =>
    have e:h.get? a=some { cls:=.none,data:=.fields ps }:=x
    show h'.get? a=some { cls:=.none,data:=.fields ps }
    exact k a _ (.inl rfl) e
  | met f y =>
    have e:h.get? a=some (PySem.W.methodObj (.ref f) (.ref y)):=x
    show h'.get? a=some (PySem.W.methodObj (.ref f) (.ref y))
    exact k a _ (.inl rfl) e
  | ext φ => obtain ⟨p,⟨o,e⟩,st⟩:=x; exact ⟨st _ _ p fun o q => k _ _ (.inl rfl) q,⟨o,k _ _ (.inl rfl) e⟩,st⟩
theorem HOk.lt (x:HOk P w H h) (e:H a=some o):a < h.objs.size:=(x a o e).lt
theorem HOk.fresh (x:HOk P w H h) (e:h.objs.size≤a):H a=none:=by
  cases q:H a with
  | none => rfl
  | some u => exact absurd (Nat.lt_of_lt_of_le (x.lt q) e) (Nat.lt_irrefl _)
theorem HOk.kept (x:HOk P w H h) (k:∀ b u,h.get? b=some u→h'.get? b=some u):HOk P w H h':=fun a o e =>
  (x a o e).stay (fun b u _ q => k b u q) (fun _ q => q) fun _ _ q => q
theorem HOk.laid (x:HOk P w H h) (k:∀ b u,h.get? b=some u→h'.get? b=some u) (hp:h.objs.size≤a) (new:ObjOk P w (upd H a o) h' a o):HOk P w (upd H a o) h':=fun b u e => by
  have hn:=x.fresh hp
  by_cases hb:b=a
  · subst hb; rw [upd_same] at e; cases e; exact new
  · rw [upd_ne hb] at e
    exact (x b u e).stay (fun c v _ q => k c v q) (fun c q => by rw [upd_ne (ne_of_none q hn)]; exact q) fun c xs q => by rw [upd_ne (ne_of_none q hn)]; exact q
end
def Rd (H:Hp) (a:Addr) (u:HO):Prop:=H a=some u∨∃ o,H a=some (.frz o u)
theorem Rd.ok {P:Program} {w:World} {H:Hp} {h:Heap} {a:Addr} {u:HO} (r:Rd H a u) (x:HOk P w H h):ObjOk P w H h a u:=by
  rcases r with r | ⟨o,r⟩
  · exact x a u r
  · obtain ⟨_,q⟩:=x a _ r
    exact q
def Mut:Option HO→Prop
  | some (.lst _) => True
  | some (.dK _) => True
  | some (.dT _) => True
  | some (.set _ _) => True
  | some (.ins _ _ _) => True
  | some (.ext _) => True
  | _ => False
section
variable {P:Program} {w:World} {H:Hp} {h h':Heap} {x e:Addr} {o':HO}
theorem HOk.write (ok:HOk P w H h) (mu:Mut (H x)) (he:e=x∨H e=some (.own x)) (k:∀ b u,b≠e→h.get? b=some u→h'.get? b=some u) (heo:∃ u,h'.get? e=some u)
    (new:ObjOk P w (upd H x o') h' x o'):HOk P w (upd H x o') h':=fun b u q => by
  have nown:∀ c y,H c=some (.own y)→c≠x:=fun c y r z => by subst z; rw [r] at mu; exact mu
  have ntup:∀ c xs,H c=some (.tup xs)→c≠x:=fun c xs r z => by subst z; rw [r] at mu; exact mu
  by_cases hb:b=x
  · subst hb; rw [upd_same] at q; cases q; exact new
  · rw [upd_ne hb] at q
    by_cases hbe:b=e
    · have q':H b=some (.own x):=by
        rcases he with z | z
        · exact absurd (hbe.trans z) hb
        · rw [hbe]; exact z
      rw [q] at q'; cases q'
      obtain ⟨v,hv⟩:=heo
      exact ⟨v,by rw [hbe]; exact hv⟩
    · refine (ok b u q).stay (fun c v hc r => k c v ?_ r) (fun c r => by rw [upd_ne (nown c b r)]; exact r) fun c xs r => by rw [upd_ne (ntup c xs r)]; exact r
      rcases hc with rfl | hc
      · exact hbe
      · rintro rfl
        rcases he with z | z
        · exact nown c b hc z
        · rw [hc] at z; cases z; exact hb rfl
end
structure Un (fs ex:List Addr) (H H':Hp) (h h':Heap):Prop where
  keep:∀ b o,h.get? b=some o→H b=none→b ∉ fs→b ∉ ex→h'.get? b=some o
  slot:∀ b o,h.get? b=some o→H b=none→b∈fs→b ∉ ex→∃ sl,h'.get? b=some { o with slots:=sl }
  free:∀ b o,h.get? b=some o→H b=none→b ∉ ex→H' b=none
  there:∀ b o,h.get? b=some o→b ∉ ex→∃ o',h'.get? b=some o'
  tups:∀ b xs,H b=some (.tup xs)→H' b=some (.tup xs)
  frzs:∀ b o u,H b=some (.frz o u)→H' b=some (.frz o u)
  tbls:∀ b ps,H b=some (.tbl ps)→∃ more,H' b=some (.tbl (ps ++ more))
section
variable {fs fs' ex ex':List Addr} {H H1 H2:Hp} {h h1 h2 h':Heap} {a x e:Addr} {o:HO}
theorem Un.any (u:Un fs ex H H1 h h1) {b:Addr} {ob:Obj} (q:h.get? b=some ob) (n:H b=none) (hx:b ∉ ex):∃ sl,h1.get? b=some { ob with slots:=sl }:=by
  by_cases hb:b∈fs
  · exact u.slot b ob q n hb hx
  · exact ⟨ob.slots,u.keep b ob q n hb hx⟩
theorem Un.kept (k:∀ b u,h.get? b=some u→h'.get? b=some u):Un fs ex H H h h' :=
  ⟨fun b ob q _ _ _ => k b ob q,fun b ob q _ _ _ => ⟨ob.slots,k b ob q⟩,fun _ _ _ n _ => n,fun b ob q _ => ⟨ob,k b ob q⟩,fun _ _ q => q,fun _ _ _ q => q,fun _ ps q => ⟨#[],by rw [q]; simp⟩⟩
theorem Un.refl:Un fs ex H H h h:=Un.kept fun _ _ q => q
theorem Un.laid (k:∀ b u,h.get? b=some u→h'.get? b=some u) (hp:h.objs.size≤a) (hn:H a=none):Un fs ex H (upd H a o) h h' where
  keep:=fun b u q _ _ _ => k b u q
  slot:=fun b u q _ _ _ => ⟨u.slots,k b u q⟩
  free:=fun b u q n _ => by rw [upd_ne (Nat.ne_of_lt (Nat.lt_of_lt_of_le (Heap.lt_size q) hp))]; exact n
  there:=fun b u q _ => ⟨u,k b u q⟩
  tups:=fun b xs q => by rw [upd_ne (ne_of_none q hn)]; exact q
  frzs:=fun b u xs q => by rw [upd_ne (ne_of_none q hn)]; exact q
  tbls:=fun b ps q => ⟨#[],by rw [upd_ne (ne_of_none q hn),q]; simp⟩
theorem Un.write (mu:Mut (H x)) (he:e=x∨H e=some (.own x)) (k:∀ b u,b≠e→h.get? b=some u→h'.get? b=some u) (heo:∃ u,h'.get? e=some u):Un fs ex H (upd H x o) h h':=by
  have hx:∀ b,H b=none→b≠x:=fun b n z => by subst z; rw [n] at mu; exact mu
  have hb:∀ b,H b=none→b≠e:=fun b n z => by
    subst z
    rcases he with r | r
    · exact hx b n r
    · rw [n] at r; cases r
  have hm:∀ b u,H b=some u→¬ Mut (some u)→b≠x:=fun b u q nm z => by subst z; rw [q] at mu; exact nm mu
  refine ⟨fun b u q n _ _ => k b u (hb b n) q,fun b u q n _ _ => ⟨u.slots,k b u (hb b n) q⟩,fun b u q n _ => by rw [upd_ne (hx b n)]; exact n,fun b u q _ => ?_,
    fun b xs q => by rw [upd_ne (hm b _ q fun z => z)]; exact q,fun b u xs q => by rw [upd_ne (hm b _ q fun z => z)]; exact q,fun b ps q => ⟨#[],by rw [upd_ne (hm b _ q fun z => z),q]; simp⟩⟩
  by_cases hbe:b=e
  · subst hbe; exact heo
  · exact ⟨u,k b u hbe q⟩
end
def trk (h:Heap) (H:Hp):List Addr:=(List.range h.objs.size).filter fun a => (H a).isSome
def hidT (h:Heap) (H:Hp):Heap:=PySem.W.hideAll h (trk h H)
theorem hidT_size (h:Heap) (H:Hp):(hidT h H).objs.size=h.objs.size:=PySem.W.hideAll_size _ _
theorem hidT_get {h:Heap} {H:Hp} {b:Addr} {o:Obj} (e:h.get? b=some o) (n:H b=none):(hidT h H).get? b=some o :=
  PySem.W.hideAll_get _ e fun hm => by
    have q:(H b).isSome=true:=(List.mem_filter.mp hm).2
    rw [n] at q; simp at q
theorem of_hidT {h:Heap} {H:Hp} {b:Addr} {o:Obj} (e:(hidT h H).get? b=some o):h.get? b=some o∧H b=none:=by
  have e':h.get? b=some o:=PySem.W.of_hideAll (trk h H) e
  refine ⟨e',?_⟩
  cases q:H b with
  | none => rfl
  | some x =>
    have hm:b∈trk h H:=List.mem_filter.mpr ⟨List.mem_range.mpr (Heap.lt_size e'),by simp [q]⟩
    have z:(hidT h H).get? b=none:=PySem.W.hideAll_none (trk h H) hm
    rw [z] at e; cases e
def allNews (g h:Heap) (L:Addr):List (Addr×Obj):=(List.range h.objs.size).filterMap fun a => if a=L∨(g.get? a).isSome=true then none else (h.get? a).map fun o => (a,o)
def rest (g h:Heap) (L d:Addr):List (Addr×Obj):=(allNews g h L).filter fun p => decide (p.1≠d)
end L2
namespace L2
open PySem PySem.Spec PyProof.Rows
structure Mod (K:PySem.W.Frag) (mg:Str→Option Value) (base:Heap):Prop where
  kin:K.In base
  glob:base.Ns mainGlobals mg
  blt:∃ mb,base.Ns builtinsNs mb∧∀ x:Str,x≠"__name__"→mb x=bootBuiltins x
  nolimit:base.NoLimit
structure Cx where
  prog:Program
  w:World
  K:PySem.W.Frag
  mg:Str→Option Value
  base:Heap
  A:Around
  N:List Str
  s₀:Shared
  H₀:Hp
  env:Env
  outer:List Env
  stack:List Env
  ex:List Addr
  fn:Str→Bool
  calm:Bool
  pn:List (Addr×Obj)
  xe:Value→Shared→Prop
def frs (l:List Env):List Addr:=l.filterMap (·.frame)
abbrev Cx.fs (X:Cx):List Addr:=frs X.outer
def Vis (sc:Scope) (x:Str):Prop:=sc.names.lookup x=some .local∨sc.names.lookup x=some .cell∨sc.names.lookup x=some .free
def Loc (sc:Scope) (x:Str):Prop:=sc.names.lookup x=some .local∨sc.names.lookup x=some .cell
def Look (env:Env) (h:Heap) (m:Str→Option Value) (x:Str) (u:Value):Prop :=
  (env.kindOf x=some .local∧m x=some u)∨((env.kindOf x=some .cell∨env.kindOf x=some .free)∧∃ c,env.cells.lookup x=some c∧h.IsCell c (some u))
structure Cx.Ok (X:Cx):Prop where
  mod:Mod X.K X.mg X.base
  kind:X.env.scope.kind = .function
  glob:X.env.globals=mainGlobals
  blt:X.env.builtins=builtinsNs
  above:X.s₀.heap.objs.size≤X.env.locals
  inj:∀ x y c,X.env.cells.lookup x=some c→X.env.cells.lookup y=some c→x=y
  has:∀ x,(X.env.kindOf x=some .cell∨X.env.kindOf x=some .free)→∃ c,X.env.cells.lookup x=some c
  cab:∀ x c,X.fn x=true→X.env.cells.lookup x=some c→X.s₀.heap.objs.size≤c
  hd:X.calm=true→X.A.handled=none
  frames:X.A.frames=some X.stack
  stk:X.stack=X.outer∨(X.stack=X.env :: X.outer∧X.env.frame=some X.env.locals)
  exf:∀ b∈X.ex,b≠X.env.locals∧∀ x c,X.env.cells.lookup x=some c→c≠b
  bs:∀ b o,X.base.get? b=some o→X.s₀.heap.get? b=some o∧X.H₀ b=none
  bsz:X.base.objs.size≤X.s₀.heap.objs.size
  noex:∀ b o,X.base.get? b=some o→b ∉ X.ex
  exfs:∀ b∈X.ex,b ∉ X.fs
  funs:X.s₀.heap.FunFrames X.base X.outer
  frf:∀ b∈X.fs,X.H₀ b=none
structure Inv (X:Cx) (pins:List (Addr×Obj)) (σ : List (Option V)) (H:Hp) (s:Shared):Prop where
  ok:X.Ok
  os:s.os=X.s₀.os
  bare:AllBare s.gens
  base:Un X.fs X.ex X.H₀ H X.s₀.heap s.heap
  loc:∃ m,s.heap.Ns X.env.locals m∧∀ (i:Nat) (x:Str) (v:V),X.N[i]? = some x→σ[i]? = some (some v)→Vis X.env.scope x→∃ u,RelV v u∧Look X.env s.heap m x u
  cell:∀ x c,X.env.cells.lookup x=some c→∃ v,s.heap.IsCell c v
  free:H X.env.locals=none
  freeC:∀ x c,X.env.cells.lookup x=some c→H c=none
  pin:∀ p∈X.pn ++ pins,s.heap.get? p.1=some p.2∧H p.1=none∧p.1≠X.env.locals∧p.1 ∉ X.fs∧∀ v,p.2.data≠.cell v
  hok:HOk X.prog X.w H s.heap
  len : σ.length=X.N.length
section
variable {X:Cx} {pins:List (Addr×Obj)} {σ : List (Option V)} {H H':Hp} {s:Shared} {h':Heap}
theorem Cx.Ok.nofr (ok:X.Ok) {b:Addr} {o:Obj} (e:X.base.get? b=some o):b ∉ X.fs:=fun hb => by
  have:=(ok.funs.mem hb).1
  rw [e] at this; cases this
theorem Inv.bs (I:Inv X pins σ H s):∀ b o,X.base.get? b=some o→s.heap.get? b=some o∧H b=none:=fun b o e =>
  ⟨I.base.keep b o (I.ok.bs b o e).1 (I.ok.bs b o e).2 (I.ok.nofr e) (I.ok.noex b o e),I.base.free b o (I.ok.bs b o e).1 (I.ok.bs b o e).2 (I.ok.noex b o e)⟩
theorem Inv.bk (I:Inv X pins σ H s):∀ b o,X.base.get? b=some o→s.heap.get? b=some o:=fun b o e => (I.bs b o e).1
theorem Inv.mod (I:Inv X pins σ H s):Mod X.K X.mg X.base:=I.ok.mod
theorem Inv.kIn (I:Inv X pins σ H s):X.K.In s.heap:=I.ok.mod.kin.keeps I.bk
theorem Inv.lt (I:Inv X pins σ H s):X.env.locals < s.heap.objs.size:=let ⟨_,hn,_⟩:=I.loc; hn.lt
theorem Inv.sz (I:Inv X pins σ H s):X.s₀.heap.objs.size≤s.heap.objs.size:=Nat.le_trans I.ok.above (Nat.le_of_lt I.lt)
theorem Inv.nofs (I:Inv X pins σ H s) {a:Addr} (h:s.heap.objs.size≤a):a ∉ X.fs:=fun hb => by
  obtain ⟨_,o,ho,_⟩:=I.ok.funs.mem hb
  exact absurd (Nat.lt_of_lt_of_le (Heap.lt_size ho) (Nat.le_trans I.sz h)) (Nat.lt_irrefl _)
theorem Inv.cne (I:Inv X pins σ H s):∀ x c,X.env.cells.lookup x=some c→c≠X.env.locals:=fun x c e z => by
  obtain ⟨v,o,ho,hd⟩:=I.cell x c e
  obtain ⟨m,⟨o',es,ep,ho',hd',_⟩,_⟩:=I.loc
  rw [z,ho'] at ho; cases ho; rw [hd'] at hd; cases hd
theorem Inv.funs (I:Inv X pins σ H s):s.heap.FunFrames X.base X.outer:=by
  have all:∀ (l:List Env),(∀ b∈frs l,b∈X.fs)→X.s₀.heap.FunFrames X.base l→s.heap.FunFrames X.base l:=by
    intro l
    induction l with
    | nil => intro _ _; trivial
    | cons env r ih =>
      intro hs hl
      obtain ⟨hk,⟨L,o,hf,hn,ho,hd⟩,hr⟩:=hl
      have hL:L∈X.fs:=hs L (by unfold frs; rw [List.filterMap_cons,hf]; exact List.mem_cons_self)
      obtain ⟨sl,e⟩:=I.base.slot L o ho (I.ok.frf L hL) hL fun z => I.ok.exfs L z hL
      exact ⟨hk,⟨L,_,hf,hn,e,hd⟩,ih (fun b hb => hs b (by unfold frs; rw [List.filterMap_cons,hf]; exact List.mem_cons_of_mem _ hb)) hr⟩
  exact all X.outer (fun _ hb => hb) I.ok.funs
theorem Inv.stack (I:Inv X pins σ H s):s.heap.FunFrames X.base X.stack:=by
  rcases I.ok.stk with e | ⟨e,hf⟩
  · rw [e]; exact I.funs
  · rw [e]
    obtain ⟨m,hn,_⟩:=I.loc
    refine .cons (by rw [I.ok.kind]; decide) hf hn ?_ I.funs
    exact Heap.get?_none_of_le (Nat.le_trans I.ok.bsz I.ok.above)
theorem Inv.stkSub (I:Inv X pins σ H s):∀ b∈frs X.stack,b∈X.env.locals :: X.fs:=fun b hb => by
  rcases I.ok.stk with e | ⟨e,hf⟩
  · rw [e] at hb; exact List.mem_cons_of_mem _ hb
  · rw [e] at hb
    unfold frs at hb
    rw [List.filterMap_cons,hf] at hb
    exact hb
theorem Inv.stkFree (I:Inv X pins σ H s):∀ b∈frs X.stack,H b=none:=fun b hb => by
  rcases List.mem_cons.mp (I.stkSub b hb) with e | hb
  · rw [e]; exact I.free
  · obtain ⟨_,o,ho,_⟩:=I.ok.funs.mem hb
    exact I.base.free b o ho (I.ok.frf b hb) fun z => I.ok.exfs b z hb
theorem Inv.step {g':Array GenState} {t':Nat} {d':Drawn} {ch:List Addr} (I:Inv X pins σ H s)
    (hch:∀ b∈ch,(b∈X.ex∨X.s₀.heap.objs.size≤b)∧b≠X.env.locals∧(∀ x c,X.env.cells.lookup x=some c→c≠b)∧∀ p∈X.pn ++ pins,p.1≠b)
    (keep:∀ b o,b≠X.env.locals→b ∉ X.fs→b ∉ ch→s.heap.get? b=some o→H b=none→h'.get? b=some o)
    (slot:∀ b o,b≠X.env.locals→b∈X.fs→b ∉ ch→s.heap.get? b=some o→H b=none→∃ sl,h'.get? b=some { o with slots:=sl }) (free:∀ b o,b ∉ ch→s.heap.get? b=some o→H b=none→H' b=none)
    (there:∀ b o,b ∉ ch→s.heap.get? b=some o→∃ o',h'.get? b=some o')
    (tups:∀ b xs,H b=some (.tup xs)→H' b=some (.tup xs)) (frzs:∀ b o u,H b=some (.frz o u)→H' b=some (.frz o u)) (tbls:∀ b ps,H b=some (.tbl ps)→∃ more,H' b=some (.tbl (ps ++ more)))
    (ns:∀ m,s.heap.Ns X.env.locals m→h'.Ns X.env.locals m) (hok:HOk X.prog X.w H' h') (hg:AllBare g') :
    Inv X pins σ H' { s with heap:=h',gens:=g',drawn:=d',toks:=t' }:=by
  have neL:∀ b o,X.s₀.heap.get? b=some o→b≠X.env.locals:=fun b o e => Nat.ne_of_lt (Nat.lt_of_lt_of_le (Heap.lt_size e) I.ok.above)
  have neC:∀ b o,X.s₀.heap.get? b=some o→b ∉ X.ex→b ∉ ch:=fun b o e hx hb => by
    rcases (hch b hb).1 with z | z
    · exact hx z
    · exact absurd (Nat.lt_of_lt_of_le (Heap.lt_size e) z) (Nat.lt_irrefl _)
  have cellK:∀ x c,X.env.cells.lookup x=some c→∀ v,s.heap.IsCell c v→h'.IsCell c v:=fun x c e v ⟨o,ho,hd⟩ => by
    have nch:c ∉ ch:=fun z => (hch c z).2.2.1 x c e rfl
    by_cases hc:c∈X.fs
    · obtain ⟨sl,q⟩:=slot c o (I.cne x c e) hc nch ho (I.freeC x c e)
      exact ⟨_,q,hd⟩
    · exact ⟨o,keep c o (I.cne x c e) hc nch ho (I.freeC x c e),hd⟩
  refine ⟨I.ok,I.os,hg,⟨fun b o e n hb hx => ?_,fun b o e n hb hx => ?_,fun b o e n hx => ?_,fun b o e hx => ?_,fun b xs e => tups b xs (I.base.tups b xs e),fun b o xs e => frzs b o xs (I.base.frzs b o xs e),fun b ps e => ?_⟩,?_,fun x c e => ?_,?_,fun x c e => ?_,fun p hp => ?_,hok,I.len⟩
  · exact keep b o (neL b o e) hb (neC b o e hx) (I.base.keep b o e n hb hx) (I.base.free b o e n hx)
  · obtain ⟨sl,e1⟩:=I.base.slot b o e n hb hx
    obtain ⟨sl',e2⟩:=slot b _ (neL b o e) hb (neC b o e hx) e1 (I.base.free b o e n hx)
    exact ⟨sl',e2⟩
  · obtain ⟨o',e1⟩:=I.base.there b o e hx
    exact free b o' (neC b o e hx) e1 (I.base.free b o e n hx)
  · obtain ⟨o',e1⟩:=I.base.there b o e hx
    exact there b o' (neC b o e hx) e1
  · obtain ⟨m1,e1⟩:=I.base.tbls b ps e
    obtain ⟨m2,e2⟩:=tbls b _ e1
    exact ⟨m1 ++ m2,by rw [e2,Array.append_assoc]⟩
  · obtain ⟨m,hn,hl⟩:=I.loc
    refine ⟨m,ns m hn,fun i x v e1 e2 e3 => ?_⟩
    obtain ⟨u,r,l⟩:=hl i x v e1 e2 e3
    refine ⟨u,r,?_⟩
    rcases l with l | ⟨k,c,e,z⟩
    · exact .inl l
    · exact .inr ⟨k,c,e,cellK x c e _ z⟩
  · obtain ⟨v,z⟩:=I.cell x c e
    exact ⟨v,cellK x c e v z⟩
  · obtain ⟨m,⟨o,_,_,ho,_⟩,_⟩:=I.loc
    exact free _ o (fun z => (hch _ z).2.1 rfl) ho I.free
  · obtain ⟨v,o,ho,hd⟩:=I.cell x c e
    exact free c o (fun z => (hch c z).2.2.1 x c e rfl) ho (I.freeC x c e)
  · obtain ⟨e,n,ne,nf,d⟩:=I.pin p hp
    have nch:p.1 ∉ ch:=fun z => (hch p.1 z).2.2.2 p hp rfl
    exact ⟨keep p.1 p.2 ne nf nch e n,free p.1 p.2 nch e n,ne,nf,d⟩
theorem Inv.un {t':Nat} (I:Inv X pins σ H s) (u:Un X.fs [] H H' s.heap h') (hok:HOk X.prog X.w H' h'):Inv X pins σ H' { s with heap:=h',toks:=t' }:=by
  obtain ⟨m,⟨o,es,ep,ho,r⟩,_⟩:=id I.loc
  obtain ⟨sl,hL⟩:=u.any ho I.free (by simp)
  exact I.step (g':=s.gens) (d':=s.drawn) (ch:=[]) (fun _ z => nomatch z) (fun b o _ hb _ e n => u.keep b o e n hb (by simp)) (fun b o _ hb _ e n => u.slot b o e n hb (by simp)) (fun b o _ e n => u.free b o e n (by simp)) (fun b o _ e => u.there b o e (by simp)) u.tups u.frzs u.tbls (fun m' hm => by
    obtain ⟨o',es',ep',ho',r'⟩:=hm
    rw [ho] at ho'; cases ho'
    exact ⟨_,es',ep',hL,r'⟩) hok I.bare
theorem Inv.call {g':Array GenState} {t':Nat} {d':Drawn} {ch:List Addr} (I:Inv X pins σ H s) (u:Un (frs X.stack) ch H H' s.heap h') (hok:HOk X.prog X.w H' h') (hg:AllBare g')
    (hch:∀ b∈ch,(b∈X.ex∨X.s₀.heap.objs.size≤b)∧b≠X.env.locals∧(∀ x c,X.env.cells.lookup x=some c→c≠b)∧∀ p∈X.pn ++ pins,p.1≠b) :
    Inv X pins σ H' { s with heap:=h',gens:=g',drawn:=d',toks:=t' }:=by
  obtain ⟨m,⟨o,es,ep,ho,r⟩,_⟩:=id I.loc
  obtain ⟨sl,hL⟩:=u.any ho I.free fun z => (hch _ z).2.1 rfl
  exact I.step (ch:=ch) hch (fun b o hL hb hc e n => u.keep b o e n (fun z => (List.mem_cons.mp (I.stkSub b z)).elim hL hb) hc) (fun b o _ _ hc e n => u.any e n hc) (fun b o hc e n => u.free b o e n hc) (fun b o hc e => u.there b o e hc) u.tups u.frzs u.tbls (fun m' hm => by
    obtain ⟨o',es',ep',ho',r'⟩:=hm
    rw [ho] at ho'; cases ho'
    exact ⟨_,es',ep',hL,r'⟩) hok hg
theorem Inv.turned {t':Nat} {it:Addr} (I:Inv X pins σ H s) (k:∀ b o,b≠it→s.heap.get? b=some o→h'.get? b=some o) (hn:H it=none) (hL:it≠X.env.locals)
    (h1:it∈X.ex∨X.s₀.heap.objs.size≤it) (h2:∀ x c,X.env.cells.lookup x=some c→c≠it) (h3:∀ p∈X.pn ++ pins,p.1≠it):Inv X pins σ H { s with heap:=h',toks:=t' }:=by
  have nit:∀ b u,H b=some u→b≠it:=fun b u e z => by rw [z,hn] at e; cases e
  refine I.step (g':=s.gens) (d':=s.drawn) (ch:=[it]) (fun b hb => ?_) (fun b o _ _ hc e _ => k b o (fun z => hc (by simp [z])) e) (fun b o _ _ hc e _ => ⟨o.slots,k b o (fun z => hc (by simp [z])) e⟩) (fun _ _ _ _ n => n)
    (fun b o hc e => ⟨o,k b o (fun z => hc (by simp [z])) e⟩) (fun _ _ e => e) (fun _ _ _ e => e) (fun b ps e => ⟨#[],by rw [e]; simp⟩) (fun m hm => ?_) (fun b u e => ?_) I.bare
  · have e:b=it:=by simpa using hb
    subst e
    exact ⟨h1,hL,h2,h3⟩
  · obtain ⟨o,es,ep,ho,r⟩:=hm
    exact ⟨o,es,ep,k _ o (Ne.symm hL) ho,r⟩
  · refine (I.hok b u e).stay (fun c v hc q => k c v ?_ q) (fun _ q => q) fun _ _ q => q
    rcases hc with z | z
    · rw [z]; exact nit b u e
    · exact nit c _ z
theorem Inv.tok (I:Inv X pins σ H s) (t:Nat):Inv X pins σ H { s with toks:=t }:=I.un (h':=s.heap) (t':=t) Un.refl I.hok
theorem Inv.kept {t':Nat} (I:Inv X pins σ H s) (k:∀ b u,s.heap.get? b=some u→h'.get? b=some u):Inv X pins σ H { s with heap:=h',toks:=t' }:=I.un (Un.kept k) (I.hok.kept k)
theorem Inv.laid {a:Addr} {o:HO} {t':Nat} (I:Inv X pins σ H s) (k:∀ b u,s.heap.get? b=some u→h'.get? b=some u) (hp:s.heap.objs.size≤a) (new:ObjOk X.prog X.w (upd H a o) h' a o) :
    Inv X pins σ (upd H a o) { s with heap:=h',toks:=t' }:=I.un (Un.laid k hp (I.hok.fresh hp)) (I.hok.laid k hp new)
theorem Inv.write {x e:Addr} {o:HO} {t':Nat} (I:Inv X pins σ H s) (mu:Mut (H x)) (he:e=x∨H e=some (.own x)) (k:∀ b u,b≠e→s.heap.get? b=some u→h'.get? b=some u) (heo:∃ u,h'.get? e=some u)
    (new:ObjOk X.prog X.w (upd H x o) h' x o):Inv X pins σ (upd H x o) { s with heap:=h',toks:=t' }:=I.un (Un.write mu he k heo) (I.hok.write mu he k heo new)
theorem Inv.pins_of {pins':List (Addr×Obj)} (I:Inv X pins σ H s) (h:∀ p∈pins',s.heap.get? p.1=some p.2∧H p.1=none∧p.1≠X.env.locals∧p.1 ∉ X.fs∧∀ v,p.2.data≠.cell v):Inv X pins' σ H s :=
  ⟨I.ok,I.os,I.bare,I.base,I.loc,I.cell,I.free,I.freeC,fun p hp => (List.mem_append.mp hp).elim (fun z => I.pin p (List.mem_append_left _ z)) (h p),I.hok,I.len⟩
theorem nodup_ix {N:List Str} (hN:N.Nodup) {i j:Nat} {x:Str} (a:N[i]? = some x) (b:N[j]? = some x):i=j:=by
  obtain ⟨h1,e1⟩:=List.getElem?_eq_some_iff.mp a
  obtain ⟨h2,e2⟩:=List.getElem?_eq_some_iff.mp b
  exact (List.getElem_inj hN).mp (e1.trans e2.symm)
theorem store_ok2 {M:Model} {A:Around} {E:Value→Shared→Prop} {i:Nat} {x:Str} {v:V} {u:Value} {Q:Unit→Shared→Prop} (I:Inv X pins σ H s) (hN:X.N.Nodup) (hi:X.N[i]? = some x) (hx:Loc X.env.scope x) (r:RelV v u)
    (h:∀ s',Inv X pins (σ.set i (some v)) H s'→(∃ a,Heap.SameBut a s.heap s'.heap∧(a=X.env.locals∨X.env.cells.lookup x=some a))→Q () s') (hf:X.fn x=true∨X.env.scope.names.lookup x=some .local:=by first | exact .inl rfl | exact .inr rfl | assumption):wpAny M A (storeName X.env x u) Q E s:=by
  obtain ⟨m,hn,hl⟩:=id I.loc
  have hcls:(X.env.scope.kind == .class || (X.env.scope.kind == .module && X.env.locals != X.env.globals))=false:=by rw [I.ok.kind]; rfl
  have hiσ : i < σ.length:=by rw [I.len]; exact (List.getElem?_eq_some_iff.mp hi).1
  have cne:=I.cne
  have tracked:∀ {a:Addr} {h':Heap},(∃ o,s.heap.get? a=some o∧H a=none)→Heap.SameBut a s.heap h'→HOk X.prog X.w H h':=fun {a h'} ha hs b ob e => by
    obtain ⟨_,_,hfree⟩:=ha
    refine (I.hok b ob e).stay (fun c w' hc q => (hs.2 c ?_).trans q) (fun _ q => q) fun _ _ q => q
    rintro rfl
    rcases hc with rfl | hc
    · rw [hfree] at e; cases e
    · rw [hfree] at hc; cases hc
  rcases hx with hk | hk
  · refine wpAny_storeName_local hk hn (fun h' hn' hs => ?_) hcls
    obtain ⟨oL,_,_,hoL,_⟩:=id hn
    refine h _ ⟨I.ok,I.os,I.bare,⟨fun b o e n hb hx => ?_,fun b o e n hb hx => ?_,I.base.free,fun b o e hx => ?_,I.base.tups,I.base.frzs,I.base.tbls⟩,⟨_,hn',fun j y v' e1 e2 e3 => ?_⟩,fun y c e => ?_,I.free,I.freeC,fun p hp => ?_,tracked ⟨oL,hoL,I.free⟩ hs,by simpa using I.len⟩ ⟨_,hs,.inl rfl⟩
    · exact (hs.2 b (Nat.ne_of_lt (Nat.lt_of_lt_of_le (Heap.lt_size e) I.ok.above))).trans (I.base.keep b o e n hb hx)
    · obtain ⟨sl,e1⟩:=I.base.slot b o e n hb hx
      exact ⟨sl,(hs.2 b (Nat.ne_of_lt (Nat.lt_of_lt_of_le (Heap.lt_size e) I.ok.above))).trans e1⟩
    · obtain ⟨o',e1⟩:=I.base.there b o e hx
      exact ⟨o',(hs.2 b (Nat.ne_of_lt (Nat.lt_of_lt_of_le (Heap.lt_size e) I.ok.above))).trans e1⟩
    · by_cases hj:j=i
      · subst hj
        rw [hi] at e1; cases e1
        rw [List.getElem?_set_self hiσ] at e2
        cases e2
        exact ⟨u,r,.inl ⟨hk,by simp⟩⟩
      · rw [List.getElem?_set_ne (Ne.symm hj)] at e2
        obtain ⟨u',r',q⟩:=hl j y v' e1 e2 e3
        refine ⟨u',r',?_⟩
        rcases q with ⟨k,e⟩ | ⟨k,c,e,z⟩
        · refine .inl ⟨k,?_⟩
          have:y≠x:=fun e => hj (nodup_ix hN e1 (e ▸ hi))
          simp [this,e]
        · exact .inr ⟨k,c,e,z.sameBut hs (cne y c e)⟩
    · obtain ⟨w',z⟩:=I.cell y c e
      exact ⟨w',z.sameBut hs (cne y c e)⟩
    · obtain ⟨e,n,ne,nf,d⟩:=I.pin p hp
      exact ⟨(hs.2 p.1 ne).trans e,n,ne,nf,d⟩
  · have hfn:X.fn x=true:=by
      rcases hf with z | z
      · exact z
      · rw [z] at hk; cases hk
    obtain ⟨c,hc⟩:=I.ok.has x (.inl hk)
    obtain ⟨w',z⟩:=I.cell x c hc
    refine wpAny_storeName_cell I.ok.kind hk hc z (fun h' hc' hs => ?_)
    obtain ⟨oc,hoc,hocd⟩:=id z
    refine h { s with heap:=h' } ⟨I.ok,I.os,I.bare,⟨fun b o e n hb hx => ?_,fun b o e n hb hx => ?_,I.base.free,fun b o e hx => ?_,I.base.tups,I.base.frzs,I.base.tbls⟩,⟨m,hn.sameBut hs (Ne.symm (cne x c hc)),fun j y v' e1 e2 e3 => ?_⟩,fun y c' e => ?_,I.free,I.freeC,fun p hp => ?_,tracked ⟨oc,hoc,I.freeC x c hc⟩ hs,by simpa using I.len⟩ ⟨c,hs,.inr hc⟩
    · exact (hs.2 b (Nat.ne_of_lt (Nat.lt_of_lt_of_le (Heap.lt_size e) (I.ok.cab x c hfn hc)))).trans (I.base.keep b o e n hb hx)
    · obtain ⟨sl,e1⟩:=I.base.slot b o e n hb hx
      exact ⟨sl,(hs.2 b (Nat.ne_of_lt (Nat.lt_of_lt_of_le (Heap.lt_size e) (I.ok.cab x c hfn hc)))).trans e1⟩
    · obtain ⟨o',e1⟩:=I.base.there b o e hx
      exact ⟨o',(hs.2 b (Nat.ne_of_lt (Nat.lt_of_lt_of_le (Heap.lt_size e) (I.ok.cab x c hfn hc)))).trans e1⟩
    · by_cases hj:j=i
      · subst hj
        rw [hi] at e1; cases e1
        rw [List.getElem?_set_self hiσ] at e2
        cases e2
        exact ⟨u,r,.inr ⟨.inl hk,c,hc,hc'⟩⟩
      · rw [List.getElem?_set_ne (Ne.symm hj)] at e2
        obtain ⟨u',r',q⟩:=hl j y v' e1 e2 e3
        refine ⟨u',r',?_⟩
        rcases q with q | ⟨k,c',e,z'⟩
        · exact .inl q
        · refine .inr ⟨k,c',e,z'.sameBut hs ?_⟩
          rintro rfl
          exact hj (nodup_ix hN e1 (I.ok.inj _ _ _ e hc ▸ hi))
    · by_cases hcc:c'=c
      · subst hcc; exact ⟨_,hc'⟩
      · obtain ⟨w2,z2⟩:=I.cell y c' e
        exact ⟨w2,z2.sameBut hs hcc⟩
    · obtain ⟨e,n,ne,nf,d⟩:=I.pin p hp
      refine ⟨(hs.2 p.1 ?_).trans e,n,ne,nf,d⟩
      intro q
      rw [q,hoc] at e
      have q':oc=p.2:=Option.some.inj e
      exact d w' (by rw [← q']; exact hocd)
theorem store_ok {M:Model} {A:Around} {E:Value→Shared→Prop} {i:Nat} {x:Str} {v:V} {u:Value} {Q:Unit→Shared→Prop} (I:Inv X pins σ H s) (hN:X.N.Nodup) (hi:X.N[i]? = some x) (hx:Loc X.env.scope x) (r:RelV v u)
    (h:∀ s',Inv X pins (σ.set i (some v)) H s'→Q () s') (hf:X.fn x=true∨X.env.scope.names.lookup x=some .local:=by first | exact .inl rfl | exact .inr rfl | assumption):wpAny M A (storeName X.env x u) Q E s :=
  store_ok2 I hN hi hx r (fun s' I' _ => h s' I') hf
theorem Inv.call' {s':Shared} {ch:List Addr} (I:Inv X pins σ H s) (ho:s'.os=s.os) (u:Un (frs X.stack) ch H H' s.heap s'.heap) (hok:HOk X.prog X.w H' s'.heap) (hg:AllBare s'.gens)
    (hch:∀ b∈ch,(b∈X.ex∨X.s₀.heap.objs.size≤b)∧b≠X.env.locals∧(∀ x c,X.env.cells.lookup x=some c→c≠b)∧∀ p∈X.pn ++ pins,p.1≠b):Inv X pins σ H' s':=by
  obtain ⟨h',g',d',t',o'⟩:=s'
  have e:o'=s.os:=ho
  subst e
  exact I.call (g':=g') (t':=t') (d':=d') u hok hg hch
end
abbrev XK:=Value→Option Addr→Hp→Prop
abbrev St:=List (Option V)
abbrev VK:=V→Hp→Prop
abbrev TE:=St→Hp→VK→Prop
abbrev TT:=St→Hp→(Bool→Hp→Prop)→Prop
abbrev TA:=St→Hp→(List V→Hp→Prop)→Prop
structure Ends where
  nx:St→Hp→Prop
  rt:VK
  bk:St→Hp→Prop:=fun _ _ => False
  ct:St→Hp→Prop:=fun _ _ => False
abbrev TS:=Ends→St→Hp→Prop
def EP (X:Cx) (pins:List (Addr×Obj)) (σ : St) (Q:VK) (u:Value) (s':Shared):Prop := ∃ v H',Inv X pins σ H' s'∧RelV v u∧Q v H'
def TP (X:Cx) (pins:List (Addr×Obj)) (σ : St) (Q:Bool→Hp→Prop) (b:Bool) (s':Shared):Prop := ∃ H',Inv X pins σ H' s'∧Q b H'
def AP (X:Cx) (pins:List (Addr×Obj)) (σ : St) (Q:List V→Hp→Prop) (us:List Value) (s':Shared):Prop := ∃ vs H',Inv X pins σ H' s'∧Vals vs us∧Q vs H'
def SP (X:Cx) (pins:List (Addr×Obj)) (D:Ends) (f:Flow) (s':Shared):Prop :=
  match f with
  | .next => ∃ σ' H',Inv X pins σ' H' s'∧D.nx σ' H'
  | .brk => ∃ σ' H',Inv X pins σ' H' s'∧D.bk σ' H'
  | .cont => ∃ σ' H',Inv X pins σ' H' s'∧D.ct σ' H'
  | .ret u => ∃ v σ' H',Inv X pins σ' H' s'∧RelV v u∧D.rt v H'
def PE (X:Cx) (e:Expr) (t:TE):Prop :=
  ∀ (pins:List (Addr×Obj)) (s:Shared) (σ : St) (H:Hp) (Q:VK),Inv X pins σ H s→t σ H Q→wpAny (model X.prog X.w) X.A (eval e X.env) (EP X pins σ Q) X.xe s
def PT (X:Cx) (e:Expr) (t:TT):Prop :=
  ∀ (pins:List (Addr×Obj)) (s:Shared) (σ : St) (H:Hp) (Q:Bool→Hp→Prop),Inv X pins σ H s→t σ H Q→wpAny (model X.prog X.w) X.A (isTrue e X.env (eval e X.env)) (TP X pins σ Q) X.xe s
def PW (X:Cx) (e:Expr) (t:TT):Prop :=
  ∀ (whole:Sem Value) (pins:List (Addr×Obj)) (s:Shared) (σ : St) (H:Hp) (Q:Bool→Hp→Prop),Inv X pins σ H s→t σ H Q→wpAny (model X.prog X.w) X.A (isTrue e X.env whole) (TP X pins σ Q) X.xe s
theorem PW.pt {X:Cx} {e:Expr} {t:TT} (h:PW X e t):PT X e t:=h _
def PA (X:Cx) (es:List Expr) (t:TA):Prop :=
  ∀ (pos:Pos) (pins:List (Addr×Obj)) (s:Shared) (σ : St) (H:Hp) (Q:List V→Hp→Prop),Inv X pins σ H s→t σ H Q→wpAny (model X.prog X.w) X.A (spliced (backTo pos (starEach es X.env))) (AP X pins σ Q) X.xe s
def PS (X:Cx) (st:Stmt) (t:TS):Prop :=
  ∀ (pins:List (Addr×Obj)) (s:Shared) (σ : St) (H:Hp) (D:Ends),Inv X pins σ H s→t D σ H→wpAny (model X.prog X.w) X.A (exec st X.env) (SP X pins D) X.xe s
def PSs (X:Cx) (st:List Stmt) (t:TS):Prop :=
  ∀ (pins:List (Addr×Obj)) (s:Shared) (σ : St) (H:Hp) (D:Ends),Inv X pins σ H s→t D σ H→wpAny (model X.prog X.w) X.A (execs st X.env) (SP X pins D) X.xe s
theorem thn {α : Type} {t:Sem α} {Q Q' : α→Shared→Prop} {M:Model} {A:Around} {E:Value→Shared→Prop} {s:Shared} (h:wpAny M A t Q E s) (hQ:∀ a s,Q a s→Q' a s):wpAny M A t Q' E s:=wpAny_mono h hQ fun _ _ x => x
end L2
namespace L2
open PySem PySem.Spec PyProof.Rows
section
variable {X:Cx}
def tVar (i:Nat):TE:=fun σ H Q => ∃ v,σ[i]? = some (some v)∧Q v H
def tC (v:V):TE:=fun _ H Q => Q v H
theorem pe_var {i:Nat} {x:Str} {pos:Pos} (hN:X.N[i]? = some x) (hv:Vis X.env.scope x) (hd:(x == ("__debug__" : Str))=false:=by decide) (hcd:(x == ("__classdict__" : Str))=false:=by decide):PE X (.Name x pos) (tVar i):=by
  intro pins s σ H Q I h
  obtain ⟨v,e,h⟩:=h
  obtain ⟨m,hn,hl⟩:=I.loc
  obtain ⟨u,r,l⟩:=hl i x v hN e hv
  have fin:EP X pins σ Q u s:=⟨v,H,I,r,h⟩
  rcases l with ⟨hk,hm⟩ | ⟨hk,c,hc,hcell⟩
  · exact wpAny_Name (wpAny_loadName_local I.ok.kind hk hn hm fin) hd
  · rcases hk with hk | hk
    · exact wpAny_Name (wpAny_loadName_cell I.ok.kind hk hc hcell fin) hd
    · exact wpAny_Name (wpAny_loadName_free I.ok.kind hk hc hcell fin hcd) hd
theorem pe_int {i j pos}:PE X (.Constant (.int i) j pos) (tC (.int i)):=fun _ _ _ H _ I h => wpAny_Constant_int ⟨.int i,H,I.tok _,⟨_,rfl⟩,h⟩
theorem pe_non {j pos}:PE X (.Constant .none j pos) (tC .non):=fun _ _ _ H _ I h => Constant_none ⟨.non,H,I,rfl,h⟩
theorem pe_str {x j pos}:PE X (.Constant (.str x) j pos) (tC (.str x)):=fun _ _ _ H _ I h => Calls.Constant_str ⟨.str x,H,I.tok _,⟨_,rfl⟩,h⟩
def Gl (X:Cx) (x:Str):Prop:=X.env.kindOf x=some .globalImplicit
theorem ld_glob {E:Value→Shared→Prop} {pins:List (Addr×Obj)} {s:Shared} {σ : St} {H:Hp} {x:Str} {u:Value} {pos:Pos} {Q:Value→Shared→Prop} (I:Inv X pins σ H s) (hg:Gl X x) (hm:X.mg x=some u) (h:Q u s)
    (hd:(x == ("__debug__" : Str))=false:=by decide):wpAny (model X.prog X.w) X.A (eval (.Name x pos) X.env) Q E s :=
  Calls.Name_function_global I.ok.kind hg (Calls.loadGlobal_global (by rw [I.ok.glob]; exact I.mod.glob.keeps I.bk) hm h) hd
theorem ld_blt {E:Value→Shared→Prop} {pins:List (Addr×Obj)} {s:Shared} {σ : St} {H:Hp} {x:Str} {u:Value} {pos:Pos} {Q:Value→Shared→Prop} (I:Inv X pins σ H s) (hg:Gl X x) (hm:X.mg x=none) (hv:bootBuiltins x=some u) (h:Q u s)
    (hn:x≠"__name__" := by decide) (hd:(x == ("__debug__" : Str))=false:=by decide):wpAny (model X.prog X.w) X.A (eval (.Name x pos) X.env) Q E s:=by
  obtain ⟨mb,h1,h2⟩:=I.mod.blt
  exact Calls.Name_function_global I.ok.kind hg (Calls.loadGlobal_builtin (by rw [I.ok.glob]; exact I.mod.glob.keeps I.bk) hm (by rw [I.ok.blt]; exact h1.keeps I.bk) ((h2 x hn).trans hv) h) hd
theorem pe_glob {x:Str} {v:V} {u:Value} {pos:Pos} (hg:Gl X x) (hm:X.mg x=some u) (r:RelV v u) (hd:(x == ("__debug__" : Str))=false:=by decide):PE X (.Name x pos) (tC v) :=
  fun _ _ _ H _ I h => ld_glob I hg hm ⟨v,H,I,r,h⟩ hd
theorem pe_bltn {x:Str} {v:V} {u:Value} {pos:Pos} (hg:Gl X x) (hm:X.mg x=none) (hv:bootBuiltins x=some u) (r:RelV v u) (hn:x≠"__name__" := by decide) (hd:(x == ("__debug__" : Str))=false:=by decide):PE X (.Name x pos) (tC v) :=
  fun _ _ _ H _ I h => ld_blt I hg hm hv ⟨v,H,I,r,h⟩ hn hd
variable {a b:Expr} {ta tb:TE} {pos:Pos}
def PC (X:Cx) (op:CmpOp) (a b:Expr) (t:TE):Prop :=
  ∀ (pins:List (Addr×Obj)) (s:Shared) (σ : St) (H:Hp) (Q:VK),Inv X pins σ H s→t σ H Q →
    wpAny (model X.prog X.w) X.A (eval a X.env) (fun v s₁ => wpAny (model X.prog X.w) X.A (eval b X.env) (fun u s₂ => wpAny (model X.prog X.w) X.A (compareOp op v u) (EP X pins σ Q) X.xe s₂) X.xe s₁) X.xe s
theorem nobehind (b:Expr) {op:CmpOp} (h:op≠.In) (h2:op≠.NotIn):behindInMarks op b=false:=by
  have e1:(op == CmpOp.In)=false:=by cases op <;> first | rfl | exact absurd rfl h
  have e2:(op == CmpOp.NotIn)=false:=by cases op <;> first | rfl | exact absurd rfl h2
  cases b <;> simp [behindInMarks,e1,e2]
def tIsN (ta:TE):TE:=fun σ H Q => ta σ H fun x H1 => Q (.bl (decide (x = .non))) H1
def tNotN (ta:TE):TE:=fun σ H Q => ta σ H fun x H1 => Q (.bl (!decide (x = .non))) H1
theorem RelV.none_iff {x:V} {v:Value} (r:RelV x v):(v == Value.none)=decide (x = .non):=by
  cases x with
  | non => cases r; rfl
  | bl _ => cases r; rfl
  | int _ => obtain ⟨t,rfl⟩:=r; rfl
  | str _ => obtain ⟨t,rfl⟩:=r; rfl
  | byt _ => obtain ⟨t,rfl⟩:=r; rfl
  | flt _ => obtain ⟨t,rfl⟩:=r; rfl
  | ref _ => cases r; rfl
  | ty _ => cases r; rfl
theorem pc_isN {j pos'} (ha:PE X a ta):PC X .Is a (.Constant .none j pos') (tIsN ta):=by
  intro pins s σ H Q I h
  refine thn (ha pins s σ H _ I h) fun v s1 ⟨x,H1,I1,r1,q1⟩ => ?_
  exact Constant_none (is_none_gen ⟨.bl _,H1,I1,by rw [r1.none_iff]; rfl,q1⟩)
theorem pc_notN {j pos'} (ha:PE X a ta):PC X .IsNot a (.Constant .none j pos') (tNotN ta):=by
  intro pins s σ H Q I h
  refine thn (ha pins s σ H _ I h) fun v s1 ⟨x,H1,I1,r1,q1⟩ => ?_
  exact Constant_none (isnot_none_gen ⟨.bl _,H1,I1,by rw [r1.none_iff]; rfl,q1⟩)
def tB (t:TE):TT:=fun σ H Q => t σ H fun x H1 => ∃ c,x = .bl c∧Q c H1
theorem pt_cmp {op:CmpOp} {t:TE} (h:PC X op a b t) (h1:behindInMarks op b=false:=by first | exact nobehind _ (by decide) (by decide) | rfl):PT X (.Compare a [op] [b] pos) (tB t):=by
  intro pins s σ H Q I hw
  refine wpAny_isTrue_Compare1 (thn (h pins s σ H _ I hw) fun v s1 h1 => thn h1 fun u s2 h2 => thn h2 fun c s3 ⟨x,H1,I1,r1,q1⟩ => ?_) h1
  obtain ⟨d,rfl,q⟩:=q1
  cases r1
  exact wpAny_truthy_bool ⟨H1,I1,q⟩
theorem pt_val {e:Expr} {t:TE} (h:PE X e t) (he:∀ whole,isTrue e X.env whole=(do let v ← whole; standAt e.pos; holding [v] (truthy v)):=by intro _; rfl):PT X e (tB t):=by
  intro pins s σ H Q I hw
  refine isTrue_plain (thn (h pins s σ H _ I hw) fun v s1 ⟨x,H1,I1,r1,q1⟩ => ?_) (he _)
  obtain ⟨d,rfl,q⟩:=q1
  cases r1
  exact wpAny_truthy_bool ⟨H1,I1,q⟩
variable {tA tB':TT} {rest:List Expr}
def tAnd (t u:TT):TT:=fun σ H Q => t σ H fun c H1 => if c=true then u σ H1 Q else Q false H1
def tOr (t u:TT):TT:=fun σ H Q => t σ H fun c H1 => if c=true then Q true H1 else u σ H1 Q
def tNot (t:TT):TT:=fun σ H Q => t σ H fun c H1 => Q (!c) H1
theorem pw_and1 (ha:PT X a tA):PW X (.BoolOp .And [a] pos) tA:=by
  intro wh pins s σ H Q I h
  refine isTrue_and (thn (ha pins s σ H Q I h) fun c s1 e => ?_)
  cases c with
  | true => exact isTrue_and_nil e
  | false => exact e
theorem pw_or1 (ha:PT X a tA):PW X (.BoolOp .Or [a] pos) tA:=by
  intro wh pins s σ H Q I h
  refine isTrue_or (thn (ha pins s σ H Q I h) fun c s1 e => ?_)
  cases c with
  | false => exact isTrue_or_nil e
  | true => exact e
theorem pw_and (ha:PT X a tA) (hb:PW X (.BoolOp .And (b :: rest) pos) tB'):PW X (.BoolOp .And (a :: b :: rest) pos) (tAnd tA tB'):=by
  intro wh pins s σ H Q I h
  refine isTrue_and (thn (ha pins s σ H _ I h) fun c s1 ⟨H1,I1,q1⟩ => ?_)
  cases c with
  | true => exact hb wh pins s1 σ H1 Q I1 q1
  | false => exact ⟨H1,I1,q1⟩
theorem pw_or (ha:PT X a tA) (hb:PW X (.BoolOp .Or (b :: rest) pos) tB'):PW X (.BoolOp .Or (a :: b :: rest) pos) (tOr tA tB'):=by
  intro wh pins s σ H Q I h
  refine isTrue_or (thn (ha pins s σ H _ I h) fun c s1 ⟨H1,I1,q1⟩ => ?_)
  cases c with
  | true => exact ⟨H1,I1,q1⟩
  | false => exact hb wh pins s1 σ H1 Q I1 q1
theorem pt_not (ha:PT X a tA):PT X (.UnaryOp .Not a pos) (tNot tA):=by
  intro pins s σ H Q I h
  exact isTrue_not (ha pins s σ H (fun c H1 => Q (!c) H1) I h)
def tAndV (ta tb:TE):TE:=fun σ H Q => ta σ H fun x H1 => ∃ c,x = .bl c∧if c=true then tb σ H1 Q else Q (.bl false) H1
theorem pe_one {op} {t:TE} (h:PE X a t):PE X (.BoolOp op [a] pos) t:=fun pins s σ H Q I hw => BoolOp_one (h pins s σ H Q I hw)
theorem pe_and (ha:PE X a ta) (hb:PE X (.BoolOp .And (b :: rest) pos) tb):PE X (.BoolOp .And (a :: b :: rest) pos) (tAndV ta tb):=by
  intro pins s σ H Q I h
  refine BoolOp_and (thn (ha pins s σ H _ I h) fun v s1 ⟨x,H1,I1,r1,q1⟩ => ?_)
  obtain ⟨c,rfl,q1⟩:=q1
  cases r1
  refine wpAny_truthy_bool ?_
  cases c with
  | true => exact hb pins s1 σ H1 Q I1 q1
  | false => exact ⟨.bl false,H1,I1,rfl,q1⟩
end
end L2
namespace L2
open PySem PySem.Spec PyProof.Rows
def SqL (K:PySem.W.Frag) (H:Hp) (a:Addr) (xs:List V):Prop :=
  Rd H a (.lst xs) ∨
    ∃ (o:Obj) (its:Array Value) (n:Nat),K.lookup a=some o∧o.cls = .type "list"∧o.dict=none∧o.data = .seq its n∧its.size≤sizeLine∧Vals xs its.toList
def SqT (K:PySem.W.Frag) (H:Hp) (a:Addr) (xs:List V):Prop :=
  Rd H a (.tup xs) ∨
    ∃ (o:Obj) (its:Array Value) (n:Nat),K.lookup a=some o∧o.cls = .type "tuple"∧o.data = .seq its n∧its.size≤sizeLine∧Vals xs its.toList
def absV:Value→Option V
  | .none => some .non
  | .bool b => some (.bl b)
  | .int i _ => some (.int i)
  | .str x _ => some (.str x)
  | .bytes b _ => some (.byt b)
  | .float b _ => some (.flt b)
  | .ref a => some (.ref a)
  | .type n => some (.ty n)
  | _ => none
theorem RelV.abs {x:V} {u:Value} (r:RelV x u):absV u=some x:=by
  cases x with
  | non => cases r; rfl
  | bl _ => cases r; rfl
  | int _ => obtain ⟨t,rfl⟩:=r; rfl
  | str _ => obtain ⟨t,rfl⟩:=r; rfl
  | byt _ => obtain ⟨t,rfl⟩:=r; rfl
  | flt _ => obtain ⟨t,rfl⟩:=r; rfl
  | ref _ => cases r; rfl
  | ty _ => cases r; rfl
theorem RelV.inj {x y:V} {u:Value} (r:RelV x u) (q:RelV y u):x=y:=Option.some.inj (r.abs.symm.trans q.abs)
theorem Vals.inj:∀ {xs ys:List V} {us:List Value},Vals xs us→Vals ys us→xs=ys
  | _,_,_,.nil,.nil => rfl
  | _,_,_,.cons r t,.cons r' t' => by rw [r.inj r',Vals.inj t t']
section
variable {X:Cx} {pins:List (Addr×Obj)} {σ : St} {H:Hp} {s:Shared} {a:Addr} {xs ys:List V}
theorem SqL.of {K:PySem.W.Frag} (h:H a=some (.lst xs)):SqL K H a xs:=.inl (.inl h)
theorem SqT.of {K:PySem.W.Frag} (h:H a=some (.tup xs)):SqT K H a xs:=.inl (.inl h)
theorem Inv.list (I:Inv X pins σ H s) (h:SqL X.K H a xs):∃ its:List Value,Vals xs its∧PlainL s.heap a its.toArray∧xs.length≤sizeLine:=by
  rcases h with h | ⟨o,its,n,hk,hc,hd,hs,hz,r⟩
  · obtain ⟨z,its,n,r,e⟩:=h.ok I.hok
    exact ⟨its,r,⟨_,n,e,rfl,rfl,rfl⟩,z⟩
  · refine ⟨its.toList,r,⟨o,n,I.kIn a o hk,hc,hd,by simpa using hs⟩,?_⟩
    have e:=r.length
    simp only [Array.length_toList] at e
    omega
theorem Inv.tuple (I:Inv X pins σ H s) (h:SqT X.K H a xs):∃ its:List Value,Vals xs its∧IsTup s.heap a its.toArray∧xs.length≤sizeLine:=by
  rcases h with h | ⟨o,its,n,hk,hc,hs,hz,r⟩
  · obtain ⟨z,its,r,p⟩:=h.ok I.hok
    exact ⟨its,r,p,z⟩
  · refine ⟨its.toList,r,⟨o,I.kIn a o hk,hc,n,by simpa using hs⟩,?_⟩
    have e:=r.length
    simp only [Array.length_toList] at e
    omega
theorem Inv.list_inj (I:Inv X pins σ H s) (h:SqL X.K H a xs) (h':SqL X.K H a ys):xs=ys:=by
  obtain ⟨its,r,⟨o,n,e,_,_,d⟩,_⟩:=I.list h
  obtain ⟨its',r',⟨o',n',e',_,_,d'⟩,_⟩:=I.list h'
  rw [e] at e'; cases e'
  rw [d] at d'
  injection d' with d1 _
  have:its=its':=by simpa using congrArg Array.toList d1
  subst this
  exact r.inj r'
theorem Inv.tuple_inj (I:Inv X pins σ H s) (h:SqT X.K H a xs) (h':SqT X.K H a ys):xs=ys:=by
  obtain ⟨its,r,⟨o,e,_,n,d⟩,_⟩:=I.tuple h
  obtain ⟨its',r',⟨o',e',_,n',d'⟩,_⟩:=I.tuple h'
  rw [e] at e'; cases e'
  rw [d] at d'
  injection d' with d1 _
  have:its=its':=by simpa using congrArg Array.toList d1
  subst this
  exact r.inj r'
end
abbrev Cx.wish (X:Cx) (E:Value→Shared→Prop):Cx:={ X with xe:=E }
abbrev Cx.nox (X:Cx):Cx:=X.wish fun _ _ => False
theorem Cx.Ok.wish {X:Cx} (ok:X.Ok) (E:Value→Shared→Prop):(X.wish E).Ok :=
  ⟨ok.mod,ok.kind,ok.glob,ok.blt,ok.above,ok.inj,ok.has,ok.cab,ok.hd,ok.frames,ok.stk,ok.exf,ok.bs,ok.bsz,ok.noex,ok.exfs,ok.funs,ok.frf⟩
theorem Cx.Ok.unwish {X:Cx} {E:Value→Shared→Prop} (ok:(X.wish E).Ok):X.Ok :=
  ⟨ok.mod,ok.kind,ok.glob,ok.blt,ok.above,ok.inj,ok.has,ok.cab,ok.hd,ok.frames,ok.stk,ok.exf,ok.bs,ok.bsz,ok.noex,ok.exfs,ok.funs,ok.frf⟩
section
variable {X:Cx} {pins:List (Addr×Obj)} {σ : St} {H:Hp} {s:Shared} {E:Value→Shared→Prop}
theorem Inv.wish (I:Inv X pins σ H s) (E:Value→Shared→Prop):Inv (X.wish E) pins σ H s:=⟨I.ok.wish E,I.os,I.bare,I.base,I.loc,I.cell,I.free,I.freeC,I.pin,I.hok,I.len⟩
theorem Inv.unwish (I:Inv (X.wish E) pins σ H s):Inv X pins σ H s:=⟨I.ok.unwish,I.os,I.bare,I.base,I.loc,I.cell,I.free,I.freeC,I.pin,I.hok,I.len⟩
theorem SP.unwish {D:Ends} {f:Flow} {s':Shared} (h:SP (X.wish E) pins D f s'):SP X pins D f s':=by
  cases f with
  | next => obtain ⟨σ',H',I,q⟩:=h; exact ⟨σ',H',I.unwish,q⟩
  | brk => obtain ⟨σ',H',I,q⟩:=h; exact ⟨σ',H',I.unwish,q⟩
  | cont => obtain ⟨σ',H',I,q⟩:=h; exact ⟨σ',H',I.unwish,q⟩
  | ret u => obtain ⟨v,σ',H',I,r,q⟩:=h; exact ⟨v,σ',H',I.unwish,r,q⟩
theorem PSs.nox {st:List Stmt} {t:TS} (h:PSs X.nox st t):PSs X st t:=fun pins s σ H D I hw =>
  wpAny_mono (h pins s σ H D (I.wish _) hw) (fun _ _ q => q.unwish) fun _ _ z => False.elim z
end
section
variable {X:Cx} {st:Stmt} {rest:List Stmt} {t u:TS} {e:Expr} {te:TE} {pos:Pos}
def tNext:TS:=fun D σ H => D.nx σ H
def tSeq (t u:TS):TS:=fun D σ H => t { D with nx:=u D } σ H
theorem pss_nil:PSs X [] tNext:=fun _ _ σ H _ I h => wpAny_execs_nil ⟨σ,H,I,h⟩
theorem pss_cons (h1:PS X st t) (h2:PSs X rest u):PSs X (st :: rest) (tSeq t u):=by
  intro pins s σ H D I h
  refine wpAny_execs_cons (thn (h1 pins s σ H { D with nx:=u D } I h) fun f s1 q => ?_)
  cases f with
  | next =>
    obtain ⟨σ',H',I',q⟩:=q
    exact h2 pins s1 σ' H' D I' q
  | ret v => exact q
  | brk => exact q
  | cont => exact q
theorem pss_one (h1:PS X st t):PSs X [st] t:=by
  intro pins s σ H D I h
  refine wpAny_execs_cons (thn (h1 pins s σ H D I h) fun f s1 q => ?_)
  cases f with
  | next => exact wpAny_execs_nil q
  | ret v => exact q
  | brk => exact q
  | cont => exact q
theorem Inv.quiet {pins:List (Addr×Obj)} {σ : St} {H:Hp} {s:Shared} (I:Inv X pins σ H s):interactive X.env=false:=by simp [interactive,I.ok.kind]
def tDrop (te:TE):TS:=fun D σ H => te σ H fun _ H1 => D.nx σ H1
theorem ps_expr (he:PE X e te) (hs:swapsWith e none pos.line X.env=pure false:=by rfl):PS X (.Expr e pos) (tDrop te):=by
  intro pins s σ H D I h
  exact wpAny_Expr_any (thn (he pins s σ H _ I h) fun v s1 ⟨x,H1,I1,r1,q1⟩ => ⟨σ,H1,I1,q1⟩) I.quiet hs
def tRet (te:TE):TS:=fun D σ H => te σ H D.rt
theorem ps_ret (he:PE X e te):PS X (.Return (some e) pos) (tRet te):=by
  intro pins s σ H D I h
  exact wpAny_Return_some (thn (he pins s σ H _ I h) fun v s1 ⟨x,H1,I1,r1,q1⟩ => ⟨x,σ,H1,I1,r1,q1⟩)
def tRetN:TS:=fun D _ H => D.rt .non H
theorem ps_retN:PS X (.Return none pos) tRetN:=fun _ _ σ H _ I h => wpAny_Return_none ⟨.non,σ,H,I,rfl,h⟩
def tIfS (c:TT) (t u:TS):TS:=fun D σ H => c σ H fun b H1 => if b=true then t D σ H1 else u D σ H1
theorem ps_if {c:Expr} {a b:List Stmt} {tc:TT} (hc:PT X c tc) (ha:PSs X a t) (hb:PSs X b u):PS X (.If c a b pos) (tIfS tc t u):=by
  intro pins s σ H D I h
  refine wpAny_If (thn (hc pins s σ H _ I h) fun d s1 ⟨H1,I1,q1⟩ => ?_)
  cases d with
  | true => exact ha pins s1 σ H1 D I1 q1
  | false => exact hb pins s1 σ H1 D I1 q1
def tNever:TS:=fun _ _ _ => False
theorem pss_never {sts:List Stmt}:PSs X sts tNever:=fun _ _ _ _ _ _ h => h.elim
end
abbrev TG:=V→St→Hp→(St→Hp→Prop)→Prop
def PG (X:Cx) (target:Expr) (t:TG):Prop :=
  ∀ (pins:List (Addr×Obj)) (s:Shared) (σ : St) (H:Hp) (v:V) (u:Value) (Q:St→Hp→Prop),Inv X pins σ H s→RelV v u→t v σ H Q →
    wpAny (model X.prog X.w) X.A (assign target X.env u) (fun _ s' => ∃ σ' H',Inv X pins σ' H' s'∧Q σ' H') X.xe s
section
variable {X:Cx} {pos:Pos}
def gName (i:Nat):TG:=fun v σ H Q => Q (σ.set i (some v)) H
theorem pg_name {i:Nat} {x:Str} (hN:X.N.Nodup) (hi:X.N[i]? = some x) (hx:Loc X.env.scope x) (hf:X.fn x=true∨X.env.scope.names.lookup x=some .local:=by first | exact .inl rfl | exact .inr rfl | assumption):PG X (.Name x pos) (gName i):=by
  intro pins s σ H v u Q I r h
  exact wpAny_assign_Name (store_ok I hN hi hx r (fun s' I' => ⟨_,H,I',h⟩) hf)
def tAsg (te:TE) (g:TG):TS:=fun D σ H => te σ H fun x H1 => g x σ H1 D.nx
theorem ps_set {i:Nat} {x:Str} {e:Expr} {te:TE} {pos':Pos} (hN:X.N.Nodup) (hi:X.N[i]? = some x) (hx:Loc X.env.scope x) (he:PE X e te) (hs:swapsWith e (some (.Name x pos')) pos.line X.env=pure false:=by rfl) (hf:X.fn x=true∨X.env.scope.names.lookup x=some .local:=by first | exact .inl rfl | exact .inr rfl | assumption) :
    PS X (.Assign [.Name x pos'] e pos) (tAsg te (gName i)):=by
  intro pins s σ H D I h
  refine wpAny_Assign_Name (thn (he pins s σ H _ I h) fun v s1 ⟨y,H1,I1,r1,q1⟩ => ?_) hs
  exact store_ok I1 hN hi hx r1 (fun s2 I2 => ⟨_,H1,I2,q1⟩) hf
end
section
variable {X:Cx} {pos:Pos}
def tWhile (c:TT) (tb:TS):TS:=fun D σ H => ∃ W:Nat→St→Hp→Prop,(∃ m,W m σ H)∧∀ m σ H,W m σ H →
  c σ H fun b H1 => if b=true then ∃ N:St→Hp→Prop,(∀ σ' H',N σ' H'→∃ m',m' < m∧W m' σ' H')∧tb { D with nx:=N,ct:=N,bk:=D.nx } σ H1 else D.nx σ H1
theorem ps_while {c:Expr} {body:List Stmt} {tc:TT} {tb:TS} (hp:PassesOwn (model X.prog X.w) X.A X.env X.xe) (hc:PT X c tc) (hb:PSs X body tb):PS X (.While c body [] pos) (tWhile tc tb):=by
  intro pins s σ H D I h
  obtain ⟨W,⟨m0,w0⟩,turn⟩:=h
  refine wpAny_While (codeAny_whileLoop (fun n s' => ∃ σ' H',Inv X pins σ' H' s'∧W n σ' H') ?_ m0 ⟨σ,H,I,w0⟩)
  rintro n s1 ⟨σ1,H1,I1,w1⟩
  refine wpAny_passesOwn hp (thn (hc pins s1 σ1 H1 _ I1 (turn n σ1 H1 w1)) fun b s2 ⟨H2,I2,q2⟩ => ?_)
  cases b with
  | true =>
    obtain ⟨N,hN,q2⟩:=q2
    rw [if_pos rfl]
    refine wpAny_passesOwn hp (thn (hb pins s2 σ1 H2 _ I2 q2) fun f s3 q3 => ?_)
    cases f with
    | next =>
      obtain ⟨σ3,H3,I3,n3⟩:=q3
      obtain ⟨m',hm,w3⟩:=hN σ3 H3 n3
      exact ⟨m',hm,σ3,H3,I3,w3⟩
    | cont =>
      obtain ⟨σ3,H3,I3,n3⟩:=q3
      obtain ⟨m',hm,w3⟩:=hN σ3 H3 n3
      exact ⟨m',hm,σ3,H3,I3,w3⟩
    | brk => exact q3
    | ret v => exact q3
  | false =>
    rw [if_neg Bool.false_ne_true]
    exact wpAny_execs_nil ⟨σ1,H2,I2,q2⟩
end
structure It where
  go:Nat→Hp→Prop
  yld:Nat→Hp→V→Hp→Prop
  stop:Nat→Hp→Prop
def FpOk (X:Cx) (pins:List (Addr×Obj)) (H:Hp) (b:Addr):Prop :=
  H b=none∧b≠X.env.locals∧b ∉ X.fs∧(b∈X.ex∨X.s₀.heap.objs.size≤b)∧(∀ x c,X.env.cells.lookup x=some c→c≠b)∧∀ p∈X.pn ++ pins,p.1≠b
theorem Inv.fpOk {X:Cx} {pins:List (Addr×Obj)} {σ : St} {H H':Hp} {s:Shared} {b:Addr} (I:Inv X pins σ H s) (hb:s.heap.objs.size≤b) (hn:H' b=none):FpOk X pins H' b:=by
  refine ⟨hn,Nat.ne_of_gt (Nat.lt_of_lt_of_le I.lt hb),I.nofs hb,.inr (Nat.le_trans I.sz hb),fun x c e z => ?_,fun p hp z => ?_⟩
  · obtain ⟨v,q⟩:=I.cell x c e
    exact absurd (Nat.lt_of_lt_of_le q.lt (by rw [z]; exact hb)) (Nat.lt_irrefl _)
  · exact absurd (Nat.lt_of_lt_of_le (Heap.lt_size (I.pin p hp).1) (by rw [z]; exact hb)) (Nat.lt_irrefl _)
structure Turn (P:Program) (w:World) (K:PySem.W.Frag) (tg:Expr) (J:It) (fp:List Addr) (it:Addr) (tn:Nat→Heap→Prop):Prop where
  mem:it∈fp
  obj:∀ i h,tn i h→∀ b∈fp,∃ o,h.get? b=some o∧∀ v,o.data≠.cell v
  keep:∀ i h h',tn i h→(∀ b∈fp,∀ o,h.get? b=some o→h'.get? b=some o)→tn i h'
  item:∀ (X:Cx),X.prog=P→X.w=w→X.K=K→X.calm=true→∀ (i:Nat) (pins:List (Addr×Obj)) (s:Shared) (σ : St) (H:Hp) (E:Value→Shared→Prop),Inv X pins σ H s→(∀ b∈fp,FpOk X pins H b)→tn i s.heap→J.go i H →
    wpAny (model P w) X.A (pyNext (.ref it)) (fun r s1 => ∃ u,r=some u ∧
      wpAny (model P w) X.A (letOwnedTupleGo tg (.ref it) u) (fun _ s2 => ∃ x H',Inv X pins σ H' s2∧RelV x u∧J.yld i H x H'∧tn (i + 1) s2.heap∧∀ b∈fp,H' b=none) E s1) E s
  done:∀ (X:Cx),X.prog=P→X.w=w→X.K=K→X.calm=true→∀ (i:Nat) (pins:List (Addr×Obj)) (s:Shared) (σ : St) (H:Hp) (E:Value→Shared→Prop),Inv X pins σ H s→(∀ b∈fp,FpOk X pins H b)→tn i s.heap→J.stop i H →
    wpAny (model P w) X.A (pyNext (.ref it)) (fun r s1 => r=none∧Inv X pins σ H s1) E s
  self:∀ (A:Around) (i:Nat) (s:Shared) (Q:Value→Shared→Prop) (E:Value→Shared→Prop),tn i s.heap→Q (.ref it) s→wpAny (model P w) A (pyIter (.ref it)) Q E s
abbrev TI:=St→Hp→(It→Hp→Prop)→Prop
def PIE (X:Cx) (pins:List (Addr×Obj)) (σ : St) (tg:Expr) (R:It→Hp→Prop) (itv:Value) (s2:Shared):Prop :=
  ∃ (it:Addr) (fp:List Addr) (tn:Nat→Heap→Prop) (J:It) (H':Hp),itv = .ref it∧Inv X pins σ H' s2∧Turn X.prog X.w X.K tg J fp it tn∧tn 0 s2.heap∧(∀ b∈fp,FpOk X pins H' b)∧R J H'
def PI (X:Cx) (tg iter:Expr) (wi:TI):Prop :=
  ∀ (pins:List (Addr×Obj)) (s:Shared) (σ : St) (H:Hp) (R:It→Hp→Prop),Inv X pins σ H s→wi σ H R →
    wpAny (model X.prog X.w) X.A (eval iter X.env) (fun v s1 => wpAny (model X.prog X.w) X.A (pyIter v) (PIE X pins σ tg R) X.xe s1) X.xe s
theorem go_of {M:Model} {A:Around} {E:Value→Shared→Prop} {s:Shared} {tg:Expr} {it:Addr} {u:Value} {o:Obj} {n:String} {vs:Array Value} {Q:Unit→Shared→Prop} (ho:s.heap.get? it=some o) (hc:o.cls = .type n) (hd:o.data = .fields vs)
    (hn:["enumerate", "zip", "dict_itemiterator", "dict_reverseitemiterator", "odict_iterator", "itertools.zip_longest", "itertools.pairwise"].contains n=false) (hQ:Q () s):wpAny M A (letOwnedTupleGo tg (.ref it) u) Q E s:=by
  unfold letOwnedTupleGo
  cases tg <;> first
    | exact wpAny_pure hQ
    | (cases u <;> first
        | exact wpAny_pure hQ
        | (refine wpAny_bind (wpAny_load ho ?_)
           rw [hc,hd]
           show wpAny M A (if (["enumerate", "zip", "dict_itemiterator", "dict_reverseitemiterator", "odict_iterator", "itertools.zip_longest", "itertools.pairwise"].contains n && vs[0]? == some (rawInt _))=true then _ else _) Q E s
           rw [if_neg (by intro h; rw [hn,Bool.false_and] at h; cases h)]
           exact wpAny_pure hQ))
def Itl (K:PySem.W.Frag) (a:Addr):It :=
  ⟨fun i H => ∃ xs x,SqL K H a xs∧xs[i]? = some x,fun i H x H' => H'=H∧∀ xs,SqL K H a xs→xs[i]? = some x,fun i H => ∃ xs,SqL K H a xs∧xs.length≤i⟩
def Itt (K:PySem.W.Frag) (a:Addr):It :=
  ⟨fun i H => ∃ xs x,SqT K H a xs∧xs[i]? = some x,fun i H x H' => H'=H∧∀ xs,SqT K H a xs→xs[i]? = some x,fun i H => ∃ xs,SqT K H a xs∧xs.length≤i⟩
def Itr (lo:Int) (n:Nat):It:=⟨fun i _ => i < n,fun i H x H' => H'=H∧x = .int (lo + i),fun i _ => n≤i⟩
theorem turn_list {P:Program} {w:World} {K:PySem.W.Frag} {tg:Expr} (a it:Addr):Turn P w K tg (Itl K a) [it] it (fun i h => h.IsListIter it a i) where
  mem:=by simp
  obj:=fun i h st b hb => by
    have e:b=it:=by simpa using hb
    subst e
    obtain ⟨o,e,c,d⟩:=st
    exact ⟨o,e,fun v z => by rw [d] at z; cases z⟩
  keep:=fun i h h' st k => st.at fun o e => k it (by simp) o e
  item:=by
    intro X hP hw hK hc i pins s σ H E I hf st hg
    subst hP hw hK
    obtain ⟨xs,x,hq,hx⟩:=hg
    obtain ⟨its,rv,p,hz⟩:=I.list hq
    obtain ⟨u,hu,ru⟩:=rv.get hx
    obtain ⟨f0,f1,f2,f3,f4,f5⟩:=hf it (by simp)
    refine wpAny_pyNext_list_item st p.isList (x:=u) (by simpa using hu) fun h' st' sb => ?_
    have I1:Inv X pins σ H { s with heap:=h' }:=I.turned (t':=s.toks) (fun b o hb e => (sb.2 b hb).trans e) f0 f1 f3 f4 f5
    obtain ⟨o,e,c,d⟩:=id st'
    exact ⟨u,rfl,go_of (s:={ s with heap:=h' }) e c d (by decide) ⟨x,H,I1,ru,⟨rfl,fun ys hy => by rw [I.list_inj hy hq]; exact hx⟩,st',fun b hb => (hf b hb).1⟩⟩
  done:=by
    intro X hP hw hK hc i pins s σ H E I hf st hg
    subst hP hw hK
    obtain ⟨xs,hq,hx⟩:=hg
    obtain ⟨its,rv,p,hz⟩:=I.list hq
    obtain ⟨f0,f1,f2,f3,f4,f5⟩:=hf it (by simp)
    have hl:=rv.length
    exact wpAny_pyNext_list_end (I.ok.hd hc) st p.isList (by simp; omega) fun h' eb => ⟨rfl,I.turned (t':=s.toks) (fun b o hb e => eb b o hb e) f0 f1 f3 f4 f5⟩
  self:=fun _ _ _ _ _ st h => wpAny_pyIter_listiter st h
theorem turn_tuple {P:Program} {w:World} {K:PySem.W.Frag} {tg:Expr} (a it:Addr):Turn P w K tg (Itt K a) [it] it (fun i h => h.IsTupleIter it a i) where
  mem:=by simp
  obj:=fun i h st b hb => by
    have e:b=it:=by simpa using hb
    subst e
    obtain ⟨o,e,c,d⟩:=st
    exact ⟨o,e,fun v z => by rw [d] at z; cases z⟩
  keep:=fun i h h' st k => st.at fun o e => k it (by simp) o e
  item:=by
    intro X hP hw hK hc i pins s σ H E I hf st hg
    subst hP hw hK
    obtain ⟨xs,x,hq,hx⟩:=hg
    obtain ⟨its,rv,p,hz⟩:=I.tuple hq
    obtain ⟨u,hu,ru⟩:=rv.get hx
    obtain ⟨f0,f1,f2,f3,f4,f5⟩:=hf it (by simp)
    refine wpAny_pyNext_tuple_item st (show s.heap.IsTuple a its.toArray from p) (x:=u) (by simpa using hu) fun h' st' sb => ?_
    have I1:Inv X pins σ H { s with heap:=h' }:=I.turned (t':=s.toks) (fun b o hb e => (sb.2 b hb).trans e) f0 f1 f3 f4 f5
    obtain ⟨o,e,c,d⟩:=id st'
    exact ⟨u,rfl,go_of (s:={ s with heap:=h' }) e c d (by decide) ⟨x,H,I1,ru,⟨rfl,fun ys hy => by rw [I.tuple_inj hy hq]; exact hx⟩,st',fun b hb => (hf b hb).1⟩⟩
  done:=by
    intro X hP hw hK hc i pins s σ H E I hf st hg
    subst hP hw hK
    obtain ⟨xs,hq,hx⟩:=hg
    obtain ⟨its,rv,p,hz⟩:=I.tuple hq
    obtain ⟨f0,f1,f2,f3,f4,f5⟩:=hf it (by simp)
    have hl:=rv.length
    exact wpAny_pyNext_tuple_end (I.ok.hd hc) st (show s.heap.IsTuple a its.toArray from p) (by simp; omega) fun h' eb => ⟨rfl,I.turned (t':=s.toks) (fun b o hb e => eb b o hb e) f0 f1 f3 f4 f5⟩
  self:=fun _ _ _ _ _ st h => wpAny_pyIter_tupleiter st h
theorem turn_range {P:Program} {w:World} {K:PySem.W.Frag} {tg:Expr} (it:Addr) (lo:Int) (n:Nat):Turn P w K tg (Itr lo n) [it] it (fun i h => IsRangeIter h it (lo + (i:Nat) * 1) ((n:Int) - (i:Nat)) 1) where
  mem:=by simp
  obj:=fun i h st b hb => by
    have e:b=it:=by simpa using hb
    subst e
    exact ⟨_,st,fun v z => by
      have z':Data.fields _=Data.cell v:=z
      cases z'⟩
  keep:=fun i h h' st k => k it (by simp) _ st
  item:=by
    intro X hP hw hK hc i pins s σ H E I hf st hg
    subst hP hw hK
    obtain ⟨f0,f1,f2,f3,f4,f5⟩:=hf it (by simp)
    have W:=Walks.range (prog:=X.prog) (w:=X.w) (I.ok.hd hc) it lo 1 n
    refine W.item i s _ _ hg st fun v h' tk hv st' kk => ?_
    obtain ⟨t,rfl⟩:=hv
    have I1:Inv X pins σ H { s with heap:=h',toks:=tk }:=I.turned (fun b o hb e => kk b o (by simpa using hb) e) f0 f1 f3 f4 f5
    refine ⟨_,rfl,go_of (s:={ s with heap:=h',toks:=tk }) (n := "range_iterator") st' rfl rfl (by decide) ⟨.int (lo + i),H,I1,⟨t,?_⟩,⟨rfl,rfl⟩,st',fun b hb => (hf b hb).1⟩⟩
    rw [Int.mul_one]
  done:=by
    intro X hP hw hK hc i pins s σ H E I hf st hg
    subst hP hw hK
    obtain ⟨f0,f1,f2,f3,f4,f5⟩:=hf it (by simp)
    exact wpAny_pyNext_range_end (I.ok.hd hc) st (by have:n≤i:=hg; omega) fun h' eb => ⟨rfl,I.turned (t':=s.toks) (fun b o hb e => eb b o hb e) f0 f1 f3 f4 f5⟩
  self:=fun _ _ _ _ _ st h => wpAny_pyIter_rangeiter st h
end L2
namespace L2
open PySem PySem.Spec PyProof.Rows
section
variable {X:Cx} {tg:Expr}
def iList (K:PySem.W.Frag) (tl:TE):TI:=fun σ H R => tl σ H fun x H1 => ∃ a,x = .ref a∧(∃ xs,SqL K H1 a xs)∧R (Itl K a) H1
def iTup (K:PySem.W.Frag) (tl:TE):TI:=fun σ H R => tl σ H fun x H1 => ∃ a,x = .ref a∧(∃ xs,SqT K H1 a xs)∧R (Itt K a) H1
theorem pi_list {l:Expr} {tl:TE} (hl:PE X l tl):PI X tg l (iList X.K tl):=by
  intro pins s σ H R I h
  refine thn (hl pins s σ H _ I h) fun v s1 ⟨x,H1,I1,r1,q1⟩ => ?_
  obtain ⟨a,e,⟨xs,hq⟩,q⟩:=q1
  subst e
  cases r1
  obtain ⟨its,rv,p,hz⟩:=I1.list hq
  refine wpAny_pyIter_list p.isList ?_
  refine ⟨s1.heap.objs.size,[s1.heap.objs.size],_,_,H1,rfl,I1.kept (t':=s1.toks) fun b o e => Heap.get?_push_of_some _ e,turn_list a _,⟨_,Heap.get?_push_size _ rfl,rfl,rfl⟩,fun b hb => ?_,q⟩
  have e:b=s1.heap.objs.size:=by simpa using hb
  subst e
  exact I1.fpOk (Nat.le_refl _) (I1.hok.fresh (Nat.le_refl _))
theorem pi_tup {l:Expr} {tl:TE} (hl:PE X l tl):PI X tg l (iTup X.K tl):=by
  intro pins s σ H R I h
  refine thn (hl pins s σ H _ I h) fun v s1 ⟨x,H1,I1,r1,q1⟩ => ?_
  obtain ⟨a,e,⟨xs,hq⟩,q⟩:=q1
  subst e
  cases r1
  obtain ⟨its,rv,p,hz⟩:=I1.tuple hq
  refine wpAny_pyIter_tuple (show s1.heap.IsTuple a its.toArray from p) ?_
  refine ⟨s1.heap.objs.size,[s1.heap.objs.size],_,_,H1,rfl,I1.kept (t':=s1.toks) fun b o e => Heap.get?_push_of_some _ e,turn_tuple a _,⟨_,Heap.get?_push_size _ rfl,rfl,rfl⟩,fun b hb => ?_,q⟩
  have e:b=s1.heap.objs.size:=by simpa using hb
  subst e
  exact I1.fpOk (Nat.le_refl _) (I1.hok.fresh (Nat.le_refl _))
theorem range_it {pins:List (Addr×Obj)} {σ : St} {H:Hp} {s:Shared} {R:It→Hp→Prop} {E:Value→Shared→Prop} {lo hi:Int} {t u v:Tok} {tk:Nat} (I:Inv X pins σ H s) (h1 : -(2 ^ 62)≤lo) (h2:lo < 2 ^ 62) (h3 : -(2 ^ 62)≤hi) (h4:hi < 2 ^ 62)
    (q:R (Itr lo (hi - lo).toNat) H):wpAny (model X.prog X.w) X.A (pyIter (.ref s.heap.objs.size)) (PIE X pins σ tg R) E { s with heap:=s.heap.push { cls:=.type "range",data:=.fields #[.int lo t,.int hi u,.int 1 v] },toks:=tk }:=by
  refine wpAny_pyIter_range (IsRange.new ..) (small_one h1 h2 h3 h4) ?_
  have I1:Inv X pins σ H { s with heap:=s.heap.push { cls:=.type "range",data:=.fields #[.int lo t,.int hi u,.int 1 v] },toks:=tk }:=I.kept fun b o e => Heap.get?_push_of_some _ e
  refine ⟨(s.heap.push { cls:=.type "range",data:=.fields #[.int lo t,.int hi u,.int 1 v] }).objs.size,[(s.heap.push { cls:=.type "range",data:=.fields #[.int lo t,.int hi u,.int 1 v] }).objs.size],_,_,H,rfl,
    I1.kept (t':=tk) fun b o e => Heap.get?_push_of_some _ e,turn_range _ lo (hi - lo).toNat,?_,fun b hb => ?_,q⟩
  · have e1:lo + ((0:Nat):Int) * 1=lo:=by simp
    have e2:(((hi - lo).toNat:Nat):Int) - ((0:Nat):Int)=Builtin.Range.rangeSize lo hi 1:=by rw [rangeSize_one]; split <;> omega
    show IsRangeIter _ _ (lo + ((0:Nat):Int) * 1) ((((hi - lo).toNat:Nat):Int) - ((0:Nat):Int)) 1
    rw [e1,e2]
    exact Heap.get?_push_size _ rfl
  · have e:b=(s.heap.push { cls:=.type "range",data:=.fields #[.int lo t,.int hi u,.int 1 v] }).objs.size:=by simpa using hb
    subst e
    exact I1.fpOk (Nat.le_refl _) (I1.hok.fresh (Nat.le_refl _))
def iRng1 (ta:TA):TI:=fun σ H R => ta σ H fun vs H1 => ∃ j:Int,vs=[.int j]∧-(2 ^ 62)≤j∧j < 2 ^ 62∧R (Itr 0 j.toNat) H1
def iRng2 (ta:TA):TI:=fun σ H R => ta σ H fun vs H1 => ∃ i j:Int,vs=[.int i,.int j]∧(-(2 ^ 62)≤i∧i < 2 ^ 62∧-(2 ^ 62)≤j∧j < 2 ^ 62)∧R (Itr i (j - i).toNat) H1
theorem pi_range1 {a:Expr} {ta:TA} {p pos:Pos} (hg:Gl X "range") (hm:X.mg "range" = none) (ha:PA X [a] ta) (hs:starEach [a] X.env=[(false,eval a X.env)]:=by rfl):PI X tg (.Call (.Name "range" p) [a] [] pos) (iRng1 ta):=by
  intro pins s σ H R I h
  refine Call_ (ld_blt I hg hm boot_range (PyProof.Rows.callWith_type1 (thn (ha pos pins s σ H _ I h) fun us s1 ⟨vs,H1,I1,r1,q1⟩ => ?_) hs rfl))
  obtain ⟨j,e,q1,q2,q⟩:=q1
  subst e
  cases r1 with
  | cons r rr =>
    cases rr
    obtain ⟨t,rfl⟩:=r
    exact call_range_1 (range_it I1 (by omega) (by omega) q1 q2 (by simpa using q))
theorem pi_range2 {a b:Expr} {ta:TA} {p pos:Pos} (hg:Gl X "range") (hm:X.mg "range" = none) (ha:PA X [a,b] ta) (hs:starEach [a,b] X.env=[(false,eval a X.env),(false,eval b X.env)]:=by rfl) (hs2:starEach [b] X.env=[(false,eval b X.env)]:=by rfl) :
    PI X tg (.Call (.Name "range" p) [a,b] [] pos) (iRng2 ta):=by
  intro pins s σ H R I h
  refine Call_ (ld_blt I hg hm boot_range (PyProof.Rows.callWith_type1 (thn (ha pos pins s σ H _ I h) fun us s1 ⟨vs,H1,I1,r1,q1⟩ => ?_) (by rw [hs,hs2]) (by rw [hs2]; rfl)))
  obtain ⟨i,j,e,⟨q1,q2,q3,q4⟩,q⟩:=q1
  subst e
  cases r1 with
  | cons r rr =>
    cases rr with
    | cons r' rr =>
      cases rr
      obtain ⟨t,rfl⟩:=r
      obtain ⟨t',rfl⟩:=r'
      exact call_range_2 (range_it I1 q1 q2 q3 q4 q)
def tFor (wi:TI) (g:TG) (tb:TS):TS:=fun D σ H => wi σ H fun J H1 => ∃ W:Nat→Nat→St→Hp→Prop,(∃ m,W 0 m σ H1)∧∀ i m σ H,W i m σ H →
  (J.stop i H∧D.nx σ H)∨(J.go i H∧∃ N:St→Hp→Prop,(∀ σ' H',N σ' H'→∃ m',m' < m∧W (i + 1) m' σ' H')∧∀ x H',J.yld i H x H'→g x σ H' fun σ2 H2 => tb { D with nx:=N,ct:=N,bk:=D.nx } σ2 H2)
def pinsAt (fp:List Addr) (h:Heap):List (Addr×Obj):=fp.filterMap fun b => (h.get? b).map fun o => (b,o)
theorem mem_pinsAt {fp:List Addr} {h:Heap} {b:Addr} {o:Obj} (hb:b∈fp) (e:h.get? b=some o):(b,o)∈pinsAt fp h:=List.mem_filterMap.mpr ⟨b,hb,by rw [e]; rfl⟩
theorem of_pinsAt {fp:List Addr} {h:Heap} {p:Addr×Obj} (hp:p∈pinsAt fp h):p.1∈fp∧h.get? p.1=some p.2:=by
  obtain ⟨b,hb,e⟩:=List.mem_filterMap.mp hp
  cases q:h.get? b with
  | none => rw [q] at e; cases e
  | some o =>
    rw [q] at e
    have e':(b,o)=p:=Option.some.inj e
    subst e'
    exact ⟨hb,q⟩
theorem Inv.pinned {pins:List (Addr×Obj)} {σ : St} {H:Hp} {s:Shared} {fp:List Addr} (I:Inv X pins σ H s) (hf:∀ b∈fp,FpOk X pins H b) (ho:∀ b∈fp,∃ o,s.heap.get? b=some o∧∀ v,o.data≠.cell v):Inv X (pins ++ pinsAt fp s.heap) σ H s :=
  I.pins_of fun p hp => (List.mem_append.mp hp).elim (fun z => I.pin p (List.mem_append_right _ z)) fun z => by
    obtain ⟨hb,e⟩:=of_pinsAt z
    obtain ⟨f0,f1,f2,_⟩:=hf p.1 hb
    obtain ⟨o,e',d⟩:=ho p.1 hb
    rw [e] at e'; cases e'
    exact ⟨e,f0,f1,f2,d⟩
theorem Inv.unpinned {pins pl:List (Addr×Obj)} {σ : St} {H:Hp} {s:Shared} (I:Inv X (pins ++ pl) σ H s):Inv X pins σ H s:=I.pins_of fun p hp => I.pin p (List.mem_append_right _ (List.mem_append_left _ hp))
theorem ps_for {iter:Expr} {body:List Stmt} {wi:TI} {g:TG} {tb:TS} {pos:Pos} (hp:PassesOwn (model X.prog X.w) X.A X.env X.xe) (hc:X.calm=true) (hi:PI X tg iter wi) (hg:PG X tg g) (hb:PSs X body tb)
    (hs:∀ x,foldedSetIterable iter X.env x=pure x:=by intro _; rfl):PS X (.For tg iter body [] pos) (tFor wi g tb):=by
  intro pins s σ H D I h
  refine wpAny_For (thn (hi pins s σ H _ I h) fun v s1 h1 => thn h1 fun itv s2 h2 => ?_) hs
  obtain ⟨it,fp,tn,J,H2,e,I2,T,st2,f2,W,⟨m0,w0⟩,turn⟩:=h2
  subst e
  have stat:∀ {H':Hp},(∀ b∈fp,H' b=none)→∀ b∈fp,FpOk X pins H' b:=fun hn b hb => ⟨hn b hb,(f2 b hb).2⟩
  refine codeAny_forLoop_any (fun n s' => ∃ i σ' H',Inv X pins σ' H' s'∧tn i s'.heap∧(∀ b∈fp,H' b=none)∧W i n σ' H') ?_ m0 ⟨0,σ,H2,I2,st2,fun b hb => (f2 b hb).1,w0⟩
  rintro n s3 ⟨i,σ3,H3,I3,st3,fr3,w3⟩
  rcases turn i n σ3 H3 w3 with ⟨stop,qn⟩ | ⟨go,N,hN,step⟩
  · refine wpAny_passesOwn hp (thn (T.done X rfl rfl rfl hc i pins s3 σ3 H3 X.xe I3 (stat fr3) st3 stop) fun r s4 ⟨hr,I4⟩ => ?_)
    subst hr
    exact wpAny_execs_nil ⟨σ3,H3,I4,qn⟩
  · refine wpAny_passesOwn hp (thn (T.item X rfl rfl rfl hc i pins s3 σ3 H3 X.xe I3 (stat fr3) st3 go) fun r s4 ⟨u,hr,h4⟩ => ?_)
    subst hr
    refine wpAny_passesOwn hp (thn h4 fun _ s5 ⟨x,H5,I5,r5,y5,st5,fr5⟩ => ?_)
    have I5':=I5.pinned (stat fr5) (T.obj _ _ st5)
    refine wpAny_passesOwn hp (thn (hg _ s5 σ3 H5 x u _ I5' r5 (step x H5 y5)) fun _ s6 ⟨σ6,H6,I6,q6⟩ => ?_)
    refine wpAny_passesOwn hp (thn (hb _ s6 σ6 H6 _ I6 q6) fun f s7 q7 => ?_)
    have again:∀ {σ7:St} {H7:Hp},Inv X (pins ++ pinsAt fp s5.heap) σ7 H7 s7→N σ7 H7→∃ m,m < n∧∃ i σ' H',Inv X pins σ' H' s7∧tn i s7.heap∧(∀ b∈fp,H' b=none)∧W i m σ' H':=fun {σ7 H7} I7 n7 => by
      obtain ⟨m',hm,w7⟩:=hN σ7 H7 n7
      refine ⟨m',hm,i + 1,σ7,H7,I7.unpinned,T.keep _ _ _ st5 fun b hb o e => (I7.pin (b,o) (List.mem_append_right _ (List.mem_append_right _ (mem_pinsAt hb e)))).1,fun b hb => ?_,w7⟩
      obtain ⟨o,e,d⟩:=T.obj _ _ st5 b hb
      exact (I7.pin (b,o) (List.mem_append_right _ (List.mem_append_right _ (mem_pinsAt hb e)))).2.1
    cases f with
    | next => obtain ⟨σ7,H7,I7,n7⟩:=q7; exact again I7 n7
    | cont => obtain ⟨σ7,H7,I7,n7⟩:=q7; exact again I7 n7
    | brk => obtain ⟨σ7,H7,I7,q7⟩:=q7; exact ⟨σ7,H7,I7.unpinned,q7⟩
    | ret v => obtain ⟨x7,σ7,H7,I7,r7,q7⟩:=q7; exact ⟨x7,σ7,H7,I7.unpinned,r7,q7⟩
end
theorem for_list {K:PySem.W.Frag} {a:Addr} {xs:List V} {g:TG} {tb:TS} {D:Ends} {σ : St} {H:Hp} (Pv:Nat→St→Hp→Prop) (h0:Pv 0 σ H) (hl:∀ i σ H,i≤xs.length→Pv i σ H→SqL K H a xs)
    (hs:∀ i x σ H,xs[i]? = some x→Pv i σ H→g x σ H fun σ2 H2 => tb { D with nx:=Pv (i + 1),ct:=Pv (i + 1),bk:=D.nx } σ2 H2) (hd:∀ σ H,Pv xs.length σ H→D.nx σ H) :
    ∃ W:Nat→Nat→St→Hp→Prop,(∃ m,W 0 m σ H)∧∀ i m σ H,W i m σ H →
      ((Itl K a).stop i H∧D.nx σ H)∨((Itl K a).go i H∧∃ N:St→Hp→Prop,(∀ σ' H',N σ' H'→∃ m',m' < m∧W (i + 1) m' σ' H')∧∀ x H',(Itl K a).yld i H x H'→g x σ H' fun σ2 H2 => tb { D with nx:=N,ct:=N,bk:=D.nx } σ2 H2):=by
  refine ⟨fun i m σ H => m=xs.length - i∧i≤xs.length∧Pv i σ H,⟨xs.length,by simp,Nat.zero_le _,h0⟩,?_⟩
  rintro i m σ H ⟨rfl,hi,p⟩
  have q:=hl i σ H hi p
  by_cases hlt:i < xs.length
  · refine .inr ⟨⟨xs,xs[i],q,by simp [hlt]⟩,Pv (i + 1),fun σ' H' p' => ⟨xs.length - (i + 1),by omega,rfl,hlt,p'⟩,fun x H' y => ?_⟩
    obtain ⟨e,y⟩:=y
    subst e
    exact hs i x σ _ (y xs q) p
  · have e:i=xs.length:=by omega
    subst e
    exact .inl ⟨⟨xs,q,Nat.le_refl _⟩,hd σ H p⟩
theorem for_range {lo:Int} {n:Nat} {g:TG} {tb:TS} {D:Ends} {σ : St} {H:Hp} (Pv:Nat→St→Hp→Prop) (h0:Pv 0 σ H)
    (hs:∀ i σ H,i < n→Pv i σ H→g (.int (lo + i)) σ H fun σ2 H2 => tb { D with nx:=Pv (i + 1),ct:=Pv (i + 1),bk:=D.nx } σ2 H2) (hd:∀ σ H,Pv n σ H→D.nx σ H) :
    ∃ W:Nat→Nat→St→Hp→Prop,(∃ m,W 0 m σ H)∧∀ i m σ H,W i m σ H →
      ((Itr lo n).stop i H∧D.nx σ H)∨((Itr lo n).go i H∧∃ N:St→Hp→Prop,(∀ σ' H',N σ' H'→∃ m',m' < m∧W (i + 1) m' σ' H')∧∀ x H',(Itr lo n).yld i H x H'→g x σ H' fun σ2 H2 => tb { D with nx:=N,ct:=N,bk:=D.nx } σ2 H2):=by
  refine ⟨fun i m σ H => m=n - i∧i≤n∧Pv i σ H,⟨n,by simp,Nat.zero_le _,h0⟩,?_⟩
  rintro i m σ H ⟨rfl,hi,p⟩
  by_cases hlt:i < n
  · refine .inr ⟨hlt,Pv (i + 1),fun σ' H' p' => ⟨n - (i + 1),by omega,rfl,hlt,p'⟩,fun x H' y => ?_⟩
    obtain ⟨e,y⟩:=y
    subst e y
    exact hs i σ _ hlt p
  · have e:i=n:=by omega
    subst e
    exact .inl ⟨Nat.le_refl _,hd σ H p⟩
end L2
namespace L2
open PySem PySem.Spec PyProof.Rows
abbrev R2:=V→V→Hp→VK→Prop
def OpR (X:Cx) (f:Value→Value→Sem Value) (r:R2):Prop :=
  ∀ (pins:List (Addr×Obj)) (s:Shared) (σ : St) (H:Hp) (x y:V) (v u:Value) (Q:VK),Inv X pins σ H s→RelV x v→RelV y u→r x y H Q →
    wpAny (model X.prog X.w) X.A (f v u) (EP X pins σ Q) X.xe s
def UnR (X:Cx) (f:Value→Sem Value) (r:V→Hp→VK→Prop):Prop :=
  ∀ (pins:List (Addr×Obj)) (s:Shared) (σ : St) (H:Hp) (x:V) (v:Value) (Q:VK),Inv X pins σ H s→RelV x v→r x H Q →
    wpAny (model X.prog X.w) X.A (f v) (EP X pins σ Q) X.xe s
def CallR (X:Cx) (f:Value) (r:List V→Hp→VK→Prop):Prop :=
  ∀ (pins:List (Addr×Obj)) (s:Shared) (σ : St) (H:Hp) (xs:List V) (us:List Value) (Q:VK),Inv X pins σ H s→Vals xs us→r xs H Q →
    wpAny (model X.prog X.w) X.A (call f us) (EP X pins σ Q) X.xe s
def tOp (r:R2) (ta tb:TE):TE:=fun σ H Q => ta σ H fun x H1 => tb σ H1 fun y H2 => r x y H2 Q
def tUn (r:V→Hp→VK→Prop) (ta:TE):TE:=fun σ H Q => ta σ H fun x H1 => r x H1 Q
def rI (C:Int→Int→Prop) (g:Int→Int→V):R2:=fun x y H Q => ∃ i j,x = .int i∧y = .int j∧C i j∧Q (g i j) H
def rI0 (g:Int→Int→V):R2:=fun x y H Q => ∃ i j,x = .int i∧y = .int j∧Q (g i j) H
def rU (g:Int→V):V→Hp→VK→Prop:=fun x H Q => ∃ i,x = .int i∧Q (g i) H
section
variable {X:Cx} {a b c:Expr} {ta tb tc:TE} {pos:Pos}
theorem binT (ha:PE X a ta) (hb:PE X b tb) {pins:List (Addr×Obj)} {s:Shared} {σ : St} {H:Hp} {R:V→V→Hp→Prop} (I:Inv X pins σ H s)
    (h:ta σ H fun x H1 => tb σ H1 fun y H2 => R x y H2) {Q:Value→Shared→Prop} {f:Value→Value→Sem Value}
    (hf:∀ v u s2 x y H2,Inv X pins σ H2 s2→RelV x v→RelV y u→R x y H2→wpAny (model X.prog X.w) X.A (f v u) Q X.xe s2) :
    wpAny (model X.prog X.w) X.A (eval a X.env) (fun v s₁ => wpAny (model X.prog X.w) X.A (eval b X.env) (fun u s₂ => wpAny (model X.prog X.w) X.A (f v u) Q X.xe s₂) X.xe s₁) X.xe s:=by
  refine thn (ha pins s σ H _ I h) fun v s1 ⟨x,H1,I1,r1,q1⟩ => ?_
  refine thn (hb pins s1 σ H1 _ I1 q1) fun u s2 ⟨y,H2,I2,r2,q2⟩ => ?_
  exact hf v u s2 x y H2 I2 r1 r2 q2
theorem pe_op {op:Operator} {r:R2} (ho:OpR X (binaryOp op) r) (ha:PE X a ta) (hb:PE X b tb):PE X (.BinOp a op b pos) (tOp r ta tb):=by
  intro pins s σ H Q I h
  exact wpAny_BinOp (binT ha hb I h fun v u s2 x y H2 I2 rx ry q => ho pins s2 σ H2 x y v u Q I2 rx ry q)
theorem pe_un {op:UnaryOp} {r:V→Hp→VK→Prop} (ho:UnR X (unaryOp op) r) (ha:PE X a ta):PE X (.UnaryOp op a pos) (tUn r ta):=by
  intro pins s σ H Q I h
  exact UnaryOp_ (thn (ha pins s σ H _ I h) fun v s1 ⟨x,H1,I1,r1,q1⟩ => ho pins s1 σ H1 x v Q I1 r1 q1)
theorem opI {f:Value→Value→Sem Value} {C:Int→Int→Prop} {g:Int→Int→Int}
    (rule:∀ (i j:Int) (t u:Tok) (s:Shared) (Q:Value→Shared→Prop) (E:Value→Shared→Prop),C i j→Q (.int (g i j) s.toks) { s with toks:=s.toks + 1 }→wpAny (model X.prog X.w) X.A (f (.int i t) (.int j u)) Q E s) :
    OpR X f (rI C fun i j => .int (g i j)):=by
  intro pins s σ H x y v u Q I rx ry h
  obtain ⟨i,j,rfl,rfl,hc,q⟩:=h
  obtain ⟨t,rfl⟩:=rx
  obtain ⟨t',rfl⟩:=ry
  exact rule i j t t' s _ _ hc ⟨.int (g i j),H,I.tok _,⟨_,rfl⟩,q⟩
theorem opI0 {f:Value→Value→Sem Value} {g:Int→Int→Int}
    (rule:∀ (i j:Int) (t u:Tok) (s:Shared) (Q:Value→Shared→Prop) (E:Value→Shared→Prop),Q (.int (g i j) s.toks) { s with toks:=s.toks + 1 }→wpAny (model X.prog X.w) X.A (f (.int i t) (.int j u)) Q E s) :
    OpR X f (rI0 fun i j => .int (g i j)):=by
  intro pins s σ H x y v u Q I rx ry h
  obtain ⟨i,j,rfl,rfl,q⟩:=h
  obtain ⟨t,rfl⟩:=rx
  obtain ⟨t',rfl⟩:=ry
  exact rule i j t t' s _ _ ⟨.int (g i j),H,I.tok _,⟨_,rfl⟩,q⟩
theorem opB0 {f:Value→Value→Sem Value} {g:Int→Int→Bool}
    (rule:∀ (i j:Int) (t u:Tok) (s:Shared) (Q:Value→Shared→Prop) (E:Value→Shared→Prop),Q (.bool (g i j)) s→wpAny (model X.prog X.w) X.A (f (.int i t) (.int j u)) Q E s) :
    OpR X f (rI0 fun i j => .bl (g i j)):=by
  intro pins s σ H x y v u Q I rx ry h
  obtain ⟨i,j,rfl,rfl,q⟩:=h
  obtain ⟨t,rfl⟩:=rx
  obtain ⟨t',rfl⟩:=ry
  exact rule i j t t' s _ _ ⟨.bl (g i j),H,I,rfl,q⟩
def CDiv (i j:Int):Prop := 0 < j∧j < 1073741824
def CMul (i j:Int):Prop:=(-(2 ^ 64) < i∧i < 2 ^ 64)∨(-(2 ^ 64) < j∧j < 2 ^ 64)
theorem CMul.ok {i j:Int} (h:CMul i j):IntMulOk i j:=by
  rcases h with ⟨h1,h2⟩ | ⟨h1,h2⟩
  · exact .of_left (intBits_le_64 h1 h2)
  · exact .of_right (intBits_le_64 h1 h2)
theorem op_add:OpR X (binaryOp .Add) (rI0 fun i j => .int (i + j)):=opI0 fun _ _ _ _ _ _ _ q => add_int q
theorem op_sub:OpR X (binaryOp .Sub) (rI0 fun i j => .int (i - j)):=opI0 fun _ _ _ _ _ _ _ q => sub_int q
theorem op_mul:OpR X (binaryOp .Mult) (rI CMul fun i j => .int (i * j)):=opI fun _ _ _ _ _ _ _ hc q => mul_int q hc.ok
theorem op_fdiv:OpR X (binaryOp .FloorDiv) (rI CDiv fun i j => .int (i / j)):=opI fun i j _ _ _ _ _ hc q => by
  have h1:(0:Int) < j:=hc.1
  have h2:j < 1073741824:=hc.2
  exact floordiv_int (by omega) (by rw [Int.fdiv_eq_ediv_of_nonneg i (by omega)]; exact q) (.inl (PyProof.noPylong_small (by omega)))
theorem op_mod:OpR X (binaryOp .Mod) (rI (fun _ j => 0 < j) fun i j => .int (i % j)):=opI fun i j _ _ _ _ _ hc q => by
  have h1:(0:Int) < j:=hc
  exact mod_int' (by omega) (by rw [Int.fmod_eq_emod_of_nonneg i (by omega)]; exact q)
theorem unI {f:Value→Sem Value} {g:Int→Int}
    (rule:∀ (i:Int) (t:Tok) (s:Shared) (Q:Value→Shared→Prop) (E:Value→Shared→Prop),Q (.int (g i) s.toks) { s with toks:=s.toks + 1 }→wpAny (model X.prog X.w) X.A (f (.int i t)) Q E s) :
    UnR X f (rU fun i => .int (g i)):=by
  intro pins s σ H x v Q I rx h
  obtain ⟨i,rfl,q⟩:=h
  obtain ⟨t,rfl⟩:=rx
  exact rule i t s _ _ ⟨.int (g i),H,I.tok _,⟨_,rfl⟩,q⟩
theorem un_neg:UnR X (unaryOp .USub) (rU fun i => .int (-i)):=unI fun _ _ _ _ _ q => neg_int q
end
def scal:V→V→Bool
  | .non,.non => true | .non,.int _ => true | .int _,.non => true | .non,.bl _ => true | .bl _,.non => true | .non,.str _ => true | .str _,.non => true
  | .int _,.int _ => true | .bl _,.bl _ => true | .str _,.str _ => true | .byt _,.byt _ => true
  | .int _,.str _ => true | .str _,.int _ => true | .bl _,.str _ => true | .str _,.bl _ => true
  | _,_ => false
def rEq:R2:=fun x y H Q => scal x y=true∧Q (.bl (decide (x=y))) H
def rNe:R2:=fun x y H Q => scal x y=true∧Q (.bl (!decide (x=y))) H
theorem dec_int {i j:Int}:decide (V.int i=V.int j)=(i == j):=by
  rw [Bool.eq_iff_iff]
  simp
theorem dec_bl {i j:Bool}:decide (V.bl i=V.bl j)=(i == j):=by
  rw [Bool.eq_iff_iff]
  simp
theorem dec_str {i j:Str}:decide (V.str i=V.str j)=(i == j):=by
  rw [Bool.eq_iff_iff]
  simp
theorem dec_byt {i j:Array UInt8}:decide (V.byt i=V.byt j)=(i.toList == j.toList):=by
  rw [Bool.eq_iff_iff]
  cases i
  cases j
  simp
section
variable {X:Cx} {a b c:Expr} {ta tb tc:TE} {pos:Pos}
theorem fin_bl {pins:List (Addr×Obj)} {σ : St} {H:Hp} {s:Shared} {Q:VK} {k k':Bool} (I:Inv X pins σ H s) (q:Q (.bl k) H) (e:k=k'):EP X pins σ Q (.bool k') s:=by
  subst e
  exact ⟨.bl k,H,I,rfl,q⟩
theorem op_eq:OpR X (compareOp .Eq) rEq:=by
  intro pins s σ H x y v u Q I rx ry h
  obtain ⟨hs,q⟩:=h
  cases x with
  | non =>
    cases rx
    cases y with
    | non => cases ry; exact PySem.EqNone.eq_none_none (fin_bl I q (by simp))
    | bl j => cases ry; exact PySem.EqNone.eq_none_bool (fin_bl I q (by simp))
    | int j => obtain ⟨t',rfl⟩:=ry; exact PySem.EqNone.eq_none_int (fin_bl I q (by simp))
    | str j => obtain ⟨t',rfl⟩:=ry; exact PySem.EqNone.eq_none_str (fin_bl I q (by simp))
    | _ => exact absurd (show false=true from hs) Bool.false_ne_true
  | bl i =>
    cases rx
    cases y with
    | non => cases ry; exact PySem.EqNone.eq_bool_none (fin_bl I q (by simp))
    | bl j => cases ry; exact eq_bool (fin_bl I q dec_bl)
    | str j => obtain ⟨t',rfl⟩:=ry; exact PySem.EqMixed.eq_bool_str (fin_bl I q (by simp))
    | _ => exact absurd (show false=true from hs) Bool.false_ne_true
  | int i =>
    obtain ⟨t,rfl⟩:=rx
    cases y with
    | non => cases ry; exact PySem.EqNone.eq_int_none (fin_bl I q (by simp))
    | int j => obtain ⟨t',rfl⟩:=ry; exact eq_int (fin_bl I q dec_int)
    | str j => obtain ⟨t',rfl⟩:=ry; exact PySem.EqMixed.eq_int_str (fin_bl I q (by simp))
    | _ => exact absurd (show false=true from hs) Bool.false_ne_true
  | str i =>
    obtain ⟨t,rfl⟩:=rx
    cases y with
    | non => cases ry; exact PySem.EqNone.eq_str_none (fin_bl I q (by simp))
    | bl j => cases ry; exact PySem.EqMixed.eq_str_bool (fin_bl I q (by simp))
    | int j => obtain ⟨t',rfl⟩:=ry; exact PySem.EqMixed.eq_str_int (fin_bl I q (by simp))
    | str j => obtain ⟨t',rfl⟩:=ry; exact eq_str (fin_bl I q dec_str)
    | _ => exact absurd (show false=true from hs) Bool.false_ne_true
  | byt i =>
    obtain ⟨t,rfl⟩:=rx
    cases y with
    | byt j => obtain ⟨t',rfl⟩:=ry; exact PySem.W.eq_bytes (fin_bl I q dec_byt)
    | _ => exact absurd (show false=true from hs) Bool.false_ne_true
  | _ => cases y <;> exact absurd (show false=true from hs) Bool.false_ne_true
theorem op_ne:OpR X (compareOp .NotEq) rNe:=by
  intro pins s σ H x y v u Q I rx ry h
  obtain ⟨hs,q⟩:=h
  cases x with
  | non =>
    cases rx
    cases y with
    | non => cases ry; exact PySem.EqNone.ne_none_none (fin_bl I q (by simp))
    | bl j => cases ry; exact PySem.EqNone.ne_none_bool (fin_bl I q (by simp))
    | int j => obtain ⟨t',rfl⟩:=ry; exact PySem.EqNone.ne_none_int (fin_bl I q (by simp))
    | str j => obtain ⟨t',rfl⟩:=ry; exact PySem.EqNone.ne_none_str (fin_bl I q (by simp))
    | _ => exact absurd (show false=true from hs) Bool.false_ne_true
  | bl i =>
    cases rx
    cases y with
    | non => cases ry; exact PySem.EqNone.ne_bool_none (fin_bl I q (by simp))
    | bl j => cases ry; exact ne_bool (fin_bl I q (congrArg not dec_bl))
    | str j => obtain ⟨t',rfl⟩:=ry; exact PySem.EqMixed.ne_bool_str (fin_bl I q (by simp))
    | _ => exact absurd (show false=true from hs) Bool.false_ne_true
  | int i =>
    obtain ⟨t,rfl⟩:=rx
    cases y with
    | non => cases ry; exact PySem.EqNone.ne_int_none (fin_bl I q (by simp))
    | int j => obtain ⟨t',rfl⟩:=ry; exact ne_int (fin_bl I q (congrArg not dec_int))
    | str j => obtain ⟨t',rfl⟩:=ry; exact PySem.EqMixed.ne_int_str (fin_bl I q (by simp))
    | _ => exact absurd (show false=true from hs) Bool.false_ne_true
  | str i =>
    obtain ⟨t,rfl⟩:=rx
    cases y with
    | non => cases ry; exact PySem.EqNone.ne_str_none (fin_bl I q (by simp))
    | bl j => cases ry; exact PySem.EqMixed.ne_str_bool (fin_bl I q (by simp))
    | int j => obtain ⟨t',rfl⟩:=ry; exact PySem.EqMixed.ne_str_int (fin_bl I q (by simp))
    | str j => obtain ⟨t',rfl⟩:=ry; exact ne_str (fin_bl I q (congrArg not dec_str))
    | _ => exact absurd (show false=true from hs) Bool.false_ne_true
  | byt i =>
    obtain ⟨t,rfl⟩:=rx
    cases y with
    | byt j => obtain ⟨t',rfl⟩:=ry; exact PySem.W.ne_bytes (fin_bl I q (congrArg not dec_byt))
    | _ => exact absurd (show false=true from hs) Bool.false_ne_true
  | _ => cases y <;> exact absurd (show false=true from hs) Bool.false_ne_true
theorem op_lt:OpR X (compareOp .Lt) (rI0 fun i j => .bl (decide (i < j))):=opB0 fun _ _ _ _ _ _ _ q => lt_int q
theorem op_le:OpR X (compareOp .LtE) (rI0 fun i j => .bl (decide (i≤j))):=opB0 fun _ _ _ _ _ _ _ q => le_int q
theorem op_gt:OpR X (compareOp .Gt) (rI0 fun i j => .bl (decide (j < i))):=opB0 fun _ _ _ _ _ _ _ q => gt_int q
theorem op_ge:OpR X (compareOp .GtE) (rI0 fun i j => .bl (decide (j≤i))):=opB0 fun _ _ _ _ _ _ _ q => ge_int q
theorem op_in_str:OpR X (compareOp .In) (fun x y H Q => ∃ i j,x = .str i∧y = .str j∧Q (.bl (!(Builtin.Str.occurrences j i 0 j.length 1).isEmpty)) H):=by
  intro pins s σ H x y v u Q I rx ry h
  obtain ⟨i,j,rfl,rfl,q⟩:=h
  obtain ⟨t,rfl⟩:=rx
  obtain ⟨t',rfl⟩:=ry
  exact in_str (fin_bl I q rfl)
theorem nomark (b:Expr) {op:CmpOp} (h:op≠.In:=by decide) (h2:op≠.NotIn:=by decide):behindInMarks op b=false:=by
  have e1:(op == CmpOp.In)=false:=by cases op <;> first | rfl | exact absurd rfl h
  have e2:(op == CmpOp.NotIn)=false:=by cases op <;> first | rfl | exact absurd rfl h2
  cases b <;> simp [behindInMarks,e1,e2]
theorem pe_cmpR {op:CmpOp} {r:R2} (ho:OpR X (compareOp op) r) (ha:PE X a ta) (hb:PE X b tb) (hm:behindInMarks op b=false):PE X (.Compare a [op] [b] pos) (tOp r ta tb):=by
  intro pins s σ H Q I h
  exact wpAny_Compare1 (binT ha hb I h fun v u s2 x y H2 I2 rx ry q => ho pins s2 σ H2 x y v u Q I2 rx ry q) hm
def tTest (t:TE):TT:=fun σ H Q => t σ H fun x H' => ∃ k,x = .bl k∧Q k H'
theorem pt_cmpR {op:CmpOp} {r:R2} (ho:OpR X (compareOp op) r) (ha:PE X a ta) (hb:PE X b tb) (hm:behindInMarks op b=false):PT X (.Compare a [op] [b] pos) (tTest (tOp r ta tb)):=by
  intro pins s σ H Q I h
  refine wpAny_isTrue_Compare1 (thn (ha pins s σ H _ I h) fun v s1 ⟨x,H1,I1,r1,q1⟩ => thn (hb pins s1 σ H1 _ I1 q1) fun u s2 ⟨y,H2,I2,r2,q2⟩ =>
    thn (ho pins s2 σ H2 x y v u _ I2 r1 r2 q2) fun c s3 ⟨z,H3,I3,r3,k,e,q3⟩ => ?_) hm
  subst e
  cases r3
  exact wpAny_truthy_bool ⟨H3,I3,q3⟩
def tChain (r r':R2) (ta tb tc:TE):TE:=fun σ H Q => ta σ H fun x H1 => tb σ H1 fun y H2 => r x y H2 fun z H3 => ∃ k,z = .bl k ∧
  (if k=true then tc σ H3 fun w' H4 => r' y w' H4 Q else Q (.bl false) H3)
theorem pt_chain {op op':CmpOp} {r r':R2} (ho:OpR X (compareOp op) r) (ho':OpR X (compareOp op') r') (ha:PE X a ta) (hb:PE X b tb) (hc:PE X c tc)
    (hm:lastMarks [op,op'] [b,c] = false:=by with_unfolding_all rfl):PT X (.Compare a [op,op'] [b,c] pos) (tTest (tChain r r' ta tb tc)):=by
  intro pins s σ H Q I h
  refine isTrue_chain (thn (ha pins s σ H _ I h) fun v s1 ⟨x,H1,I1,r1,q1⟩ => test_link (thn (hb pins s1 σ H1 _ I1 q1) fun u s2 ⟨y,H2,I2,r2,q2⟩ =>
    thn (ho pins s2 σ H2 x y v u _ I2 r1 r2 q2) fun d s3 ⟨z,H3,I3,r3,k,e,q3⟩ => ?_)) hm
  subst e
  cases r3
  refine wpAny_truthy_bool ?_
  cases k with
  | false =>
    obtain ⟨k',e',q'⟩:=q3
    cases e'
    exact ite_ff ⟨H3,I3,q'⟩
  | true =>
    refine ite_tt (test_last (thn (hc pins s3 σ H3 _ I3 q3) fun w' s4 ⟨z',H4,I4,r4,q4⟩ => thn (ho' pins s4 σ H4 y z' u w' _ I4 r2 r4 q4) fun d' s5 ⟨z2,H5,I5,r5,k2,e2,q5⟩ => ?_))
    subst e2
    cases r5
    exact wpAny_truthy_bool ⟨H5,I5,q5⟩
theorem line63:(sizeLine:Nat) < 2 ^ 63:=by rw [sizeLine_eq]; decide
theorem op_add_str:OpR X (binaryOp .Add) (fun x y H Q => ∃ i j,x = .str i∧y = .str j∧i.length + j.length≤sizeLine∧Q (.str (i ++ j)) H):=by
  intro pins s σ H x y v u Q I rx ry h
  obtain ⟨i,j,rfl,rfl,hz,q⟩:=h
  obtain ⟨t,rfl⟩:=rx
  obtain ⟨t',rfl⟩:=ry
  exact add_str (fun t' tk => ⟨.str (i ++ j),H,I.tok _,⟨_,rfl⟩,q⟩) hz
theorem vals1 {x:V} {us:List Value} (r:Vals [x] us):∃ u,us=[u]∧RelV x u:=by
  cases r with
  | cons r1 r2 => cases r2; exact ⟨_,rfl,r1⟩
theorem call_str_int:CallR X (.type "str") (fun xs H Q => ∃ i,xs=[.int i]∧i.natAbs.log2 < 1920∧Q (.str (toString i)) H):=by
  intro pins s σ H xs us Q I r h
  obtain ⟨i,rfl,hz,q⟩:=h
  obtain ⟨u,rfl,t,rfl⟩:=vals1 r
  exact PySem.P.str_of_int hz ⟨.str _,H,I.tok _,⟨_,rfl⟩,q⟩
end
end L2
namespace L2
open PySem PySem.Spec PyProof.Rows
structure ObjM (h:Heap) (x dx C:Addr) (mA:Str→Option Value):Prop where
  obj:h.get? x=some (PySem.W.instObj C dx)
  ns:h.Ns1 dx mA
  ne:dx≠x
theorem lookIn_ns {h:Heap} {dx:Addr} {mA:Str→Option Value} (n:h.Ns1 dx mA):∃ od,h.get? dx=some od∧∀ name,PySem.W.lookIn name od=some (mA name):=by
  obtain ⟨o,es,ep,ho,hd,hk,_,hm⟩:=n
  refine ⟨o,ho,fun name => ?_⟩
  have e:=hm name
  unfold nsFind findBy at e
  rw [← Array.find?_toList] at e
  unfold PySem.W.lookIn
  rw [hd]
  dsimp only
  split
  · rename_i y q
    rw [q] at e
    exact congrArg some e
  · rename_i q
    rw [q] at e
    have a:es.toList.any (·.refKey)=false:=by
      rw [List.any_eq_false]
      intro y hy
      obtain ⟨z,t,hkey⟩:=hk y (Array.mem_toList_iff.mp hy)
      simp [DictEntry.refKey,hkey]
    have a':¬ es.toList.any (·.refKey)=true:=by rw [a]; exact Bool.false_ne_true
    rw [if_neg a']
    exact congrArg some e
theorem ObjM.look {h:Heap} {x dx C:Addr} {mA:Str→Option Value} (I:ObjM h x dx C mA):∃ od,PySem.W.InstAt h x (PySem.W.instObj C dx) C (some od)∧∀ name,PySem.W.lookIn name od=some (mA name) :=
  let ⟨od,ho,hl⟩:=lookIn_ns I.ns
  ⟨od,⟨I.obj,rfl,rfl,ho⟩,hl⟩
section
variable {prog:Program} {w:World} {A:Around} {E:Value→Shared→Prop} {s:Shared} {K:PySem.W.Frag} {x dx C f:Addr} {mA:Str→Option Value} {name:Str} {v:Value}
theorem get_map {expr:Bool} {Q:Value→Shared→Prop} (X:K.In s.heap) (I:ObjM s.heap x dx C mA) (hg:PySem.W.plainGet K C name=true) (hh:PySem.W.hasDictIn K C=true)
    (ha:PySem.W.findIn K (.ref C) name=some none) (hv:mA name=some v) (hv':PySem.W.handedIn v=true) (h:Q v { s with toks:=s.toks + 1 }) :
    wpAny (model prog w) A (getAttr (.ref x) name expr) Q E s:=by
  obtain ⟨od,J,hl⟩:=I.look
  exact PySem.W.get_value X J (PySem.W.plainGet_of hg).1 (PySem.W.findObj_own hh ha rfl (by rw [hl,hv])) hv' h
theorem set_map {ns:List Str} {Q:Unit→Shared→Prop} (X:K.In s.heap) (I:ObjM s.heap x dx C mA)
    (hs:PySem.W.findIn K (.ref C) "__setattr__" = some (some (.builtin "object.__setattr__"))) (hp:PySem.W.plainOver K C=true) (ht:PySem.W.takerIn K C name=some none) (hh:PySem.W.hasDictIn K C=true)
    (hw:PySem.Within mA ns) (hsz:ns.length≤sizeLine)
    (h:∀ h',ObjM h' x dx C (fun y => if y=name then some v else mA y)→Heap.SameBut dx s.heap h'→Q () { s with heap:=h',toks:=s.toks + 2 }) :
    wpAny (model prog w) A (setAttr (.ref x) name v) Q E s:=by
  obtain ⟨od,J,hl⟩:=I.look
  refine PySem.W.set_plain X J hs (PySem.W.osa_open (s:={ s with toks:=s.toks + 1 }) (r:=none) X J hp ht fun b => ?_)
  obtain ⟨cd,hc,hd'⟩:=PySem.W.any_some hh
  have hx:s.heap.get? x=some ⟨.ref C,some dx,.plain,#[]⟩:=I.obj
  refine wpAny_bind (wpAny_pure (wpAny_bind (wpAny_bind (wpAny_loadPart hx (wpAny_bind (PySem.W.Looks.here (s:={ s with toks:=s.toks + 1 }) (PySem.W.looks_clsIn X hc) ?_))))))
  rw [hd']
  refine wpAny_pure (a:=some dx) (wpAny_bind (wpAny_pure (wpAny_bind ?_)))
  refine wpAny_nsSet1 (s:={ s with toks:=s.toks + 1 }) I.ns fun h' hn2 hs2 => ?_
  obtain ⟨oD,esD,epD,hoD,hdD,hcD⟩:=hn2.count (PySem.Within.cons name v hw)
  refine wpAny_bind (wpAny_lookBehind hoD (by rw [hdD]; exact pastItsLine_dict (Nat.le_trans hcD (by rw [List.length_cons]; omega))) ?_)
  exact wpAny_pure (h _ ⟨(hs2.2 _ (Ne.symm I.ne)).trans I.obj,hn2,I.ne⟩ hs2)
theorem make_map {R:Result→Shared→Prop} {vs:List Value} {kw:List (Str×Value)} (X:K.In s.heap) (hm:PySem.W.makesIn K C=true)
    (hi:PySem.W.findIn K (.ref C) "__init__" = some (some (.ref f))) (hf:PySem.W.typeIn K (.ref f)=some (.type "function"))
    (h:codeAny (model prog w) (A.under (.builtin "type.__call__" ⟨.ref C :: vs,kw⟩)) (.call (.ref f) ⟨.ref (s.heap.objs.size + 1) :: vs,kw⟩) (PySem.W.InitBack (s.heap.objs.size + 1) R)
      { s with heap:=(s.heap.push PySem.W.emptyDict).push (PySem.W.instObj C s.heap.objs.size) }) :
    codeAny (model prog w) A (.call (.ref C) ⟨vs,kw⟩) R s:=by
  obtain ⟨hh,g,d,t,os⟩:=s
  exact PySem.W.make_core (PySem.W.makes_of X hm) (PySem.W.looks_findIn X hi) (fun self => PySem.W.bind_fn X self hf) (.inl rfl) h
end
def putF (f:Str) (v:V):List (Str×V)→List (Str×V)
  | [] => [(f,v)]
  | (g,x) :: r => if g=f then (g,v) :: r else (g,x) :: putF f v r
theorem lookup_putF (f g:Str) (v:V):∀ fs:List (Str×V),(putF f v fs).lookup g=if g=f then some v else fs.lookup g
  | [] => by
    show List.lookup g [(f,v)] = _
    by_cases h:g=f
    · have hb:(g == f)=true:=beq_iff_eq.mpr h
      simp only [List.lookup,hb,if_pos h]
    · have hb:(g == f)=false:=beq_eq_false_iff_ne.mpr h
      simp only [List.lookup,hb,if_neg h]
  | (k,x) :: r => by
    have ih:=lookup_putF f g v r
    rw [show putF f v ((k,x) :: r)=(if k=f then (k,v) :: r else (k,x) :: putF f v r) from rfl]
    by_cases hk:k=f
    · rw [if_pos hk]
      by_cases h:g=k
      · have hb:(g == k)=true:=beq_iff_eq.mpr h
        simp only [List.lookup,hb,if_pos (h.trans hk)]
      · have hb:(g == k)=false:=beq_eq_false_iff_ne.mpr h
        simp only [List.lookup,hb,if_neg (fun e:g=f => h (e.trans hk.symm))]
    · rw [if_neg hk]
      by_cases h:g=k
      · have hb:(g == k)=true:=beq_iff_eq.mpr h
        simp only [List.lookup,hb,if_neg (fun e:g=f => hk (h.symm.trans e))]
      · have hb:(g == k)=false:=beq_eq_false_iff_ne.mpr h
        simp only [List.lookup,hb]
        exact ih
theorem keys_putF (f:Str) (v:V):∀ fs:List (Str×V),f∈(putF f v fs).map (·.1)∧∀ g,g∈fs.map (·.1)→g∈(putF f v fs).map (·.1)
  | [] => ⟨by simp [putF],fun g h => by simp at h⟩
  | (k,x) :: r => by
    obtain ⟨i1,i2⟩:=keys_putF f v r
    rw [show putF f v ((k,x) :: r)=(if k=f then (k,v) :: r else (k,x) :: putF f v r) from rfl]
    by_cases hk:k=f
    · rw [if_pos hk]
      subst hk
      exact ⟨by simp,fun g h => by simpa using h⟩
    · rw [if_neg hk]
      refine ⟨?_,fun g h => ?_⟩
      · rw [List.map_cons]
        exact List.mem_cons_of_mem _ i1
      · rw [List.map_cons] at h ⊢
        rcases List.mem_cons.mp h with e | e
        · exact List.mem_cons.mpr (.inl e)
        · exact List.mem_cons_of_mem _ (i2 g e)
theorem length_putF (f:Str) (v:V):∀ fs:List (Str×V),(putF f v fs).length≤fs.length + 1
  | [] => by simp [putF]
  | (k,x) :: r => by
    have ih:=length_putF f v r
    rw [show putF f v ((k,x) :: r)=(if k=f then (k,v) :: r else (k,x) :: putF f v r) from rfl]
    by_cases hk:k=f
    · rw [if_pos hk,List.length_cons,List.length_cons]; omega
    · rw [if_neg hk,List.length_cons,List.length_cons]; omega
theorem RelO.some_of {v:V} {o:Option Value} (r:RelO (some v) o):∃ u,o=some u∧RelV v u:=by
  cases o with
  | none => exact (show False from r).elim
  | some u => exact ⟨u,rfl,r⟩
theorem handed_of {v:V} {u:Value} (r:RelV v u):PySem.W.handedIn u=true:=by
  cases v with
  | non => cases (show u=Value.none from r); rfl
  | bl b => cases (show u=Value.bool b from r); rfl
  | int i => obtain ⟨t,e⟩:=(show ∃ t,u=Value.int i t from r); cases e; rfl
  | str x => obtain ⟨t,e⟩:=(show ∃ t,u=Value.str x t from r); cases e; rfl
  | byt b => obtain ⟨t,e⟩:=(show ∃ t,u=Value.bytes b t from r); cases e; rfl
  | flt b => obtain ⟨t,e⟩:=(show ∃ t,u=Value.float b t from r); cases e; rfl
  | ref a => cases (show u=Value.ref a from r); rfl
  | ty n => cases (show u=Value.type n from r); rfl
section
variable {P:Program} {w:World} {H H':Hp} {h h':Heap} {a C dx:Addr} {fs fs':List (Str×V)}
theorem ins_get (hok:HOk P w H h) (e:H a=some (.ins C dx fs)):∃ mA,ObjM h a dx C mA∧(∀ f,RelO (fs.lookup f) (mA f))∧PySem.Within mA (fs.map (·.1))∧fs.length≤1000∧H dx=some (.own a):=by
  obtain ⟨d,z,ne,ob,mA,n,r,q⟩:=(show ObjOk P w H h a (.ins C dx fs) from hok a _ e)
  exact ⟨mA,⟨ob,n,ne⟩,r,q,z,d⟩
end
structure Cls (K:PySem.W.Frag) (C:Addr):Prop where
  pg:PySem.W.plainGet K C Str.empty=true
  hd:PySem.W.hasDictIn K C=true
  po:PySem.W.plainOver K C=true
  sa:PySem.W.findIn K (.ref C) "__setattr__" = some (some (.builtin "object.__setattr__"))
theorem Cls.get {K:PySem.W.Frag} {C:Addr} (c:Cls K C) (f:Str):PySem.W.plainGet K C f=true:=c.pg
def NoAttr (K:PySem.W.Frag) (C:Addr) (f:Str):Prop:=PySem.W.findIn K (.ref C) f=some none
theorem NoAttr.taker {K:PySem.W.Frag} {C:Addr} {f:Str} (n:NoAttr K C f):PySem.W.takerIn K C f=some none:=by
  unfold PySem.W.takerIn
  rw [show PySem.W.findIn K (.ref C) f=some none from n]
  rfl
section
variable {X:Cx} {pins:List (Addr×Obj)} {σ : St} {H:Hp} {s:Shared} {a C dx:Addr} {fs:List (Str×V)} {f:Str} {v:V} {A:Around} {E:Value→Shared→Prop}
theorem getattr_ok {b:Bool} {Q:Value→Shared→Prop} (I:Inv X pins σ H s) (e:H a=some (.ins C dx fs)) (c:Cls X.K C) (n:NoAttr X.K C f) (l:fs.lookup f=some v)
    (h:∀ u s',Inv X pins σ H s'→RelV v u→Q u s'):wpAny (model X.prog X.w) A (getAttr (.ref a) f b) Q E s:=by
  obtain ⟨mA,O,r,_,_,_⟩:=ins_get I.hok e
  obtain ⟨u,hu,ru⟩:=RelO.some_of (v:=v) (o:=mA f) (by rw [← l]; exact r f)
  exact get_map I.kIn O (c.get f) c.hd n hu (handed_of ru) (h u _ (I.tok _) ru)
theorem setattr_ok {y:V} {u:Value} {Q:Unit→Shared→Prop} (I:Inv X pins σ H s) (e:H a=some (.ins C dx fs)) (c:Cls X.K C) (n:NoAttr X.K C f) (hl:fs.length < 1000) (ry:RelV y u)
    (h:∀ s',Inv X pins σ (upd H a (.ins C dx (putF f y fs))) s'→Q () s'):wpAny (model X.prog X.w) A (setAttr (.ref a) f u) Q E s:=by
  obtain ⟨mA,O,r,wi,_,ho⟩:=ins_get I.hok e
  have hz:(fs.map (·.1)).length≤sizeLine:=by rw [List.length_map,sizeLine_eq]; omega
  refine set_map I.kIn O c.sa c.po n.taker c.hd wi hz fun h' O' sb => h _ ?_
  have hd:∃ o,h'.get? dx=some o:=let ⟨o,_,_,e',_⟩:=O'.ns; ⟨o,e'⟩
  refine I.write (x:=a) (e:=dx) (by rw [e]; exact True.intro) (.inr ho) (fun b q hb z => (sb.2 b hb).trans z) hd ?_
  refine ⟨by rw [upd_ne O.ne]; exact ho,?_,O.ne,O'.obj,_,O'.ns,fun g => ?_,fun g hg => ?_⟩
  · have:=length_putF f y fs; omega
  · show RelO ((putF f y fs).lookup g) (if g=f then some u else mA g)
    rw [lookup_putF]
    by_cases q:g=f
    · rw [if_pos q,if_pos q]; exact ry
    · rw [if_neg q,if_neg q]; exact r g
  · by_cases q:g=f
    · rw [q]; exact (keys_putF f y fs).1
    · refine (keys_putF f y fs).2 g (wi g fun z => hg ?_)
      show (if g=f then some u else mA g)=none
      rw [if_neg q]; exact z
theorem Inv.made (I:Inv X pins σ H s):Inv X pins σ (upd (upd H s.heap.objs.size (.own (s.heap.objs.size + 1))) (s.heap.objs.size + 1) (.ins C s.heap.objs.size []))
    { s with heap:=(s.heap.push PySem.W.emptyDict).push (PySem.W.instObj C s.heap.objs.size) }:=by
  have e1:(s.heap.push PySem.W.emptyDict).get? s.heap.objs.size=some PySem.W.emptyDict:=Heap.get?_push_size s.heap rfl
  have e2:((s.heap.push PySem.W.emptyDict).push (PySem.W.instObj C s.heap.objs.size)).get? (s.heap.objs.size + 1)=some (PySem.W.instObj C s.heap.objs.size):=by
    have:=Heap.get?_push_size (s.heap.push PySem.W.emptyDict) (o:=PySem.W.instObj C s.heap.objs.size) rfl
    rwa [Heap.size_push] at this
  have e3:(s.heap.push PySem.W.emptyDict).Ns s.heap.objs.size (fun _ => none):=⟨PySem.W.emptyDict,#[],_,e1,rfl,(fun e he => absurd he (by simp)),fun _ => rfl⟩
  have I1:=I.laid (a:=s.heap.objs.size) (o:=.own (s.heap.objs.size + 1)) (h':=s.heap.push PySem.W.emptyDict) (t':=s.toks) (fun b u q => Heap.get?_push_of_some _ q) (Nat.le_refl _) ⟨_,e1⟩
  refine I1.laid (a:=s.heap.objs.size + 1) (o:=.ins C s.heap.objs.size []) (t':=s.toks) (fun b u q => Heap.get?_push_of_some _ q) (Nat.le_of_eq (Heap.size_push _ _)) ?_
  have ne:s.heap.objs.size≠s.heap.objs.size + 1:=Nat.ne_of_lt (Nat.lt_succ_self _)
  refine ⟨by rw [upd_ne ne,upd_same],Nat.zero_le _,ne,e2,fun _ => none,(Heap.Ns1.of_empty e3).at fun o q => Heap.get?_push_of_some _ q,fun _ => True.intro,fun y hy => absurd rfl hy⟩
theorem attr_of {prog:Program} {w:World} {env:Env} {e:Expr} {f:Str} {pos:Pos} {s:Shared} {Q:Value→Shared→Prop} (hb:attributeBase e f env (eval e env)=eval e env)
    (h:wpAny (model prog w) A (eval e env) (fun o s₁ => wpAny (model prog w) A (getAttr o f true) Q E s₁) E s):wpAny (model prog w) A (eval (.Attribute e f pos) env) Q E s :=
  Attribute_any_ h (by rw [arm_eval_Attribute,hb])
end
def tFld (K:PySem.W.Frag) (ta:TE) (f:Str):TE:=fun σ H Q => ta σ H fun x H1 => ∃ a C dx fs v,x = .ref a∧H1 a=some (.ins C dx fs)∧Cls K C∧NoAttr K C f∧fs.lookup f=some v∧Q v H1
def sFld (K:PySem.W.Frag) (ta tv:TE) (f:Str):TS:=fun D σ H => tv σ H fun y H1 => ta σ H1 fun x H2 => ∃ a C dx fs,x = .ref a∧H2 a=some (.ins C dx fs)∧Cls K C∧NoAttr K C f∧fs.length < 1000 ∧
  D.nx σ (upd H2 a (.ins C dx (putF f y fs)))
section
variable {X:Cx} {o e value:Expr} {f:Str} {pos pos' tpos:Pos} {ta tv:TE}
theorem pe_fld (he:PE X e ta) (hb:attributeBase e f X.env (eval e X.env)=eval e X.env):PE X (.Attribute e f pos) (tFld X.K ta f):=by
  intro pins s σ H Q I h
  refine attr_of hb (thn (he pins s σ H _ I h) fun u s1 ⟨x,H1,I1,rx,a,C,dx,fs,v,ex,ea,c,n,l,q⟩ => ?_)
  subst ex
  obtain rfl:u=Value.ref a:=rx
  exact getattr_ok I1 ea c n l fun u' s2 I2 ru => ⟨v,H1,I2,ru,q⟩
theorem ps_fld (ha:PE X o ta) (hv:PE X value tv) (hs:swapsWith value (some (.Attribute o f pos')) pos.line X.env=pure false):PS X (.Assign [.Attribute o f pos'] value pos) (sFld X.K ta tv f):=by
  intro pins s σ H D I h
  refine plainObj_wpAny_Assign_Attribute (thn (hv pins s σ H _ I h) fun u s1 ⟨y,H1,I1,ry,q⟩ => thn (ha pins s1 σ H1 _ I1 q) fun ov s2 ⟨x,H2,I2,rx,a,C,dx,fs,ex,ea,c,n,l,q2⟩ => ?_) hs
  subst ex
  obtain rfl:ov=Value.ref a:=rx
  exact setattr_ok I2 ea c n l ry fun s3 I3 => ⟨σ,_,I3,q2⟩
end
section
variable {X:Cx} {pins:List (Addr×Obj)} {σ : St} {H:Hp} {s:Shared} {A:Around} {E:Value→Shared→Prop} {Q:Value→Shared→Prop} {c:Value} {b:Bool}
inductive TyOf (K:PySem.W.Frag) (H:Hp):V→Value→Prop where
  | non:TyOf K H .non (.type "NoneType")
  | bl (x:Bool):TyOf K H (.bl x) (.type "bool")
  | int (i:Int):TyOf K H (.int i) (.type "int")
  | str (x:Str):TyOf K H (.str x) (.type "str")
  | flt (x:UInt64):TyOf K H (.flt x) (.type "float")
  | lst {a:Addr} {xs:List V} (e:H a=some (.lst xs)):TyOf K H (.ref a) (.type "list")
  | frz {a:Addr} {o:Obj} {xs:List V} (e:H a=some (.frz o (.lst xs))):TyOf K H (.ref a) (.type "list")
  | tup {a:Addr} {xs:List V} (e:H a=some (.tup xs)):TyOf K H (.ref a) (.type "tuple")
  | dK {a:Addr} {kvs:List (Key×V)} (e:H a=some (.dK kvs)):TyOf K H (.ref a) (.type "dict")
  | dT {a:Addr} {kvs:List (List Key×V)} (e:H a=some (.dT kvs)):TyOf K H (.ref a) (.type "dict")
  | ins {a C dx:Addr} {fs:List (Str×V)} (e:H a=some (.ins C dx fs)) (cl:Cls K C) (ha:PySem.W.findIn K (.ref C) "__class__" = some (some (.builtin "object.__class__")))
      (hn:PySem.W.specialIn K (.builtin "object.__class__") "__get__" = some (some (.builtin "getset_descriptor.__get__"))) (htk:PySem.W.takesIn K (.builtin "object.__class__")=some true)
      (hm:PySem.W.mroIn K C (.type "object")=some true):TyOf K H (.ref a) (.ref C)
theorem isinst_ok {x:V} {u t:Value} (I:Inv X pins σ H s) (rx:RelV x u) (ty:TyOf X.K H x t) (e:PySem.W.kitOne X.K t c=some b) (h:∀ tk,Q (.bool b) { s with toks:=tk }) :
    wpAny (model X.prog X.w) A (call (.builtin "isinstance") [u,c]) Q E s:=by
  cases ty with
  | non => cases (show u=Value.none from rx); exact PySem.W.kia_one PySem.W.kitx_none I.kIn True.intro e (fun z => nomatch z) h
  | bl y => cases (show u=Value.bool y from rx); exact PySem.W.kia_one PySem.W.kitx_bool I.kIn True.intro e (fun z => nomatch z) h
  | int i => obtain ⟨t,q⟩:=(show ∃ t,u=Value.int i t from rx); cases q; exact PySem.W.kia_one PySem.W.kitx_int I.kIn True.intro e (fun z => nomatch z) h
  | str y => obtain ⟨t,q⟩:=(show ∃ t,u=Value.str y t from rx); cases q; exact PySem.W.kia_one PySem.W.kitx_str I.kIn True.intro e (fun z => nomatch z) h
  | flt y => obtain ⟨t,q⟩:=(show ∃ t,u=Value.float y t from rx); cases q; exact PySem.W.kia_one PySem.W.kitx_float I.kIn True.intro e (fun z => nomatch z) h
  | @lst a xs ea =>
    cases (show u=Value.ref a from rx)
    obtain ⟨_,_,n,_,h1⟩:=(show ObjOk X.prog X.w H s.heap a (.lst xs) from I.hok a _ ea)
    exact PySem.W.kia_one PySem.W.kitx_list I.kIn ⟨_,h1,rfl⟩ e (fun z => nomatch z) h
  | @frz a ob xs ea =>
    cases (show u=Value.ref a from rx)
    obtain ⟨_,_,_,n,_,h1⟩:=(show ObjOk X.prog X.w H s.heap a (.frz ob (.lst xs)) from I.hok a _ ea)
    exact PySem.W.kia_one PySem.W.kitx_list I.kIn ⟨_,h1,rfl⟩ e (fun z => nomatch z) h
  | @tup a xs ea =>
    cases (show u=Value.ref a from rx)
    obtain ⟨_,_,_,p⟩:=(show ObjOk X.prog X.w H s.heap a (.tup xs) from I.hok a _ ea)
    obtain ⟨o,h1,h2,_⟩:=p
    exact PySem.W.kia_one PySem.W.kitx_tuple I.kIn ⟨o,h1,h2⟩ e (fun z => nomatch z) h
  | @dK a kvs ea =>
    cases (show u=Value.ref a from rx)
    obtain ⟨_,_,vs,_,p⟩:=(show ObjOk X.prog X.w H s.heap a (.dK kvs) from I.hok a _ ea)
    obtain ⟨o,es,ep,h1,h2,_⟩:=p
    exact PySem.W.kia_one PySem.W.kitx_dict I.kIn ⟨o,h1,h2.1⟩ e (fun z => nomatch z) h
  | @dT a kvs ea =>
    cases (show u=Value.ref a from rx)
    obtain ⟨_,_,xs,_,o,es,ep,h1,h2,_⟩:=(show ObjOk X.prog X.w H s.heap a (.dT kvs) from I.hok a _ ea)
    exact PySem.W.kia_one PySem.W.kitx_dict I.kIn ⟨o,h1,h2.1⟩ e (fun z => nomatch z) h
  | @ins a C dx fs ea cl ha hn htk hm =>
    cases (show u=Value.ref a from rx)
    obtain ⟨mA,O,_⟩:=ins_get I.hok ea
    obtain ⟨od,J,_⟩:=O.look
    exact PySem.W.kia_one (PySem.W.kitx_own (cl.get _) cl.hd ha hn htk hm) I.kIn J e (fun z => nomatch z) h
end
end L2
namespace L2
open PySem PySem.Spec PyProof.Rows
structure Room (k:Nat) (A:Around):Prop where
  hd:A.handled=none
  dp:A.depth + 3 * k + 5 < recursionLimit
  un:A.units + 16 * k + 200 < cLine
theorem Room.mono {j k:Nat} {A:Around} (r:Room k A) (h:j≤k):Room j A:=⟨r.hd,by have:=r.dp; omega,by have:=r.un; omega⟩
theorem Room.deeper {k:Nat} {A:Around} (r:Room (k + 1) A) (env:Env):Room k (A.deeper env) :=
  ⟨r.hd,by have:=r.dp; show A.depth + 1 + 3 * k + 5 < _; omega,by have:=r.un; show A.units + 3 + 16 * k + 200 < _; omega⟩
theorem make_depth {A:Around} {C:Addr} {us:List Value} {kw:List (Str×Value)}:(A.under (.builtin "type.__call__" ⟨.ref C :: us,kw⟩)).depth=A.depth + 1:=by
  first | rfl | simp [Around.under,Code.weight,Code.isCreation,Code.isGuard,Code.isCaller,Code.frames,Code.isFrame,guardIds]
theorem make_units {A:Around} {C:Addr} {us:List Value} {kw:List (Str×Value)}:(A.under (.builtin "type.__call__" ⟨.ref C :: us,kw⟩)).units=A.units + 1:=by
  first | rfl | simp [Around.under,Code.cUnits,Code.frames,Code.isFrame]
theorem Room.make {k:Nat} {A:Around} (r:Room (k + 1) A) (C:Addr) (us:List Value) (kw:List (Str×Value)):Room k (A.under (.builtin "type.__call__" ⟨.ref C :: us,kw⟩)) :=
  ⟨r.hd,by have:=r.dp; rw [make_depth]; omega,by have:=r.un; rw [make_units]; omega⟩
theorem Room.depth {k:Nat} {A:Around} (r:Room k A):A.depth < recursionLimit:=by have:=r.dp; omega
theorem Room.units {k:Nat} {A:Around} (r:Room k A):A.units + 64 < cLine:=by have:=r.un; omega
def tNil:TA:=fun _ H Q => Q [] H
def tCons (ta:TE) (tr:TA):TA:=fun σ H Q => ta σ H fun x H1 => tr σ H1 fun xs H2 => Q (x :: xs) H2
section
variable {X:Cx} {e:Expr} {es:List Expr} {te:TE} {t:TA} {pos:Pos}
theorem pa_nil:PA X [] tNil:=fun _ _ _ _ H Q I h => Calls.spliced_nil ⟨[],H,I,.nil,h⟩
theorem pa_cons (ha:PE X e te) (hr:PA X es t) (hs:starEach (e :: es) X.env=(false,eval e X.env) :: starEach es X.env:=by rfl):PA X (e :: es) (tCons te t):=by
  intro pos pins s σ H Q I h
  rw [hs]
  show wpAny _ _ (spliced ((false,eval e X.env) :: backTo pos (starEach es X.env))) _ _ s
  refine Calls.spliced_cons (thn (ha pins s σ H _ I h) fun u s1 ⟨x,H1,I1,r1,q1⟩ => ?_)
  exact thn (hr pos pins s1 σ H1 _ I1 q1) fun us s2 ⟨xs,H2,I2,r2,q2⟩ => ⟨x :: xs,H2,I2,.cons r1 r2,q2⟩
def tTup (t:TA):TE:=fun σ H Q => t σ H fun xs H1 => xs.length≤sizeLine∧∀ p,H1 p=none→Q (.ref p) (upd H1 p (.tup xs))
def tLst (t:TA):TE:=fun σ H Q => t σ H fun xs H1 => xs.length≤sizeLine∧∀ p,H1 p=none→Q (.ref p) (upd H1 p (.lst xs))
theorem pe_tup {x1} (h:PA X es t):PE X (.Tuple es x1 pos) (tTup t):=by
  intro pins s σ H Q I hq
  refine wpAny_Tuple_spliced (thn (h pos pins s σ H _ I hq) fun us s1 ⟨xs,H1,I1,r,z,q⟩ => ⟨by rw [← r.length]; exact z,?_⟩)
  have hf:H1 s1.heap.objs.size=none:=I1.hok.fresh (Nat.le_refl _)
  refine ⟨.ref s1.heap.objs.size,upd H1 s1.heap.objs.size (.tup xs),I1.laid (t':=s1.toks) (fun b u e => Heap.get?_push_of_some _ e) (Nat.le_refl _) ?_,rfl,q _ hf⟩
  exact ⟨z,us,r,⟨_,Heap.get?_push_size _ rfl,rfl,_,rfl⟩⟩
theorem pe_lst (h:PA X es t):PE X (.List es pos) (tLst t):=by
  intro pins s σ H Q I hq
  refine wpAny_List_spliced (thn (h pos pins s σ H _ I hq) fun us s1 ⟨xs,H1,I1,r,z,q⟩ => ⟨by rw [← r.length]; exact z,?_⟩)
  have hf:H1 s1.heap.objs.size=none:=I1.hok.fresh (Nat.le_refl _)
  refine ⟨.ref s1.heap.objs.size,upd H1 s1.heap.objs.size (.lst xs),I1.laid (t':=s1.toks) (fun b u e => Heap.get?_push_of_some _ e) (Nat.le_refl _) ?_,rfl,q _ hf⟩
  exact ⟨z,us,0,r,Heap.get?_push_size _ rfl⟩
end
abbrev Sp:=List V→Hp→VK→XK→Prop
abbrev CXT:=List Env→Hp→Shared→XK→Value→Shared→Prop
structure Env0 (P:Program) (w:World) (K:PySem.W.Frag) (mg:Str→Option Value) (base:Heap) (A:Around) (outer:List Env) (s:Shared) (H:Hp):Prop where
  frames:A.frames=some outer
  mod:Mod K mg base
  bs:∀ b o,base.get? b=some o→s.heap.get? b=some o∧H b=none
  bsz:base.objs.size≤s.heap.objs.size
  funs:s.heap.FunFrames base outer
  frf:∀ b∈frs outer,H b=none
  hok:HOk P w H s.heap
  bare:AllBare s.gens
def CE (outer:List Env) (P:Program) (w:World) (H:Hp) (s:Shared) (Q:VK) (u:Value) (s':Shared):Prop :=
  ∃ v H',s'.os=s.os∧AllBare s'.gens∧Un (frs outer) [] H H' s.heap s'.heap∧HOk P w H' s'.heap∧RelV v u∧Q v H'
def CR (CX:CXT) (outer:List Env) (P:Program) (w:World) (H:Hp) (s:Shared) (Q:VK) (E:XK) (r:Result) (s':Shared):Prop :=
  match r with
  | .ok (.ret u) => CE outer P w H s Q u s'
  | .ok _ => False
  | .error e => CX outer H s E e s'
structure FnOk (P:Program) (w:World) (K:PySem.W.Frag) (mg:Str→Option Value) (base:Heap) (CX:CXT) (k:Nat) (f:Addr) (fd:FuncData) (ps:List Str) (sp:Sp):Prop where
  len:∀ vs H Q E,sp vs H Q E→vs.length=ps.length
  run:∀ (A:Around) (outer:List Env) (s:Shared) (H:Hp) (args:Args) (us:List Value) (vs:List V) (Q:VK) (E:XK),Room k A→Env0 P w K mg base A outer s H→BindsTo s fd args (ps.zip us)→Vals vs us→sp vs H Q E →
    codeAny (model P w) A (.call (.ref f) args) (CR CX outer P w H s Q E) s
theorem Env0.make {P:Program} {w:World} {K:PySem.W.Frag} {mg:Str→Option Value} {base:Heap} {A:Around} {outer:List Env} {s:Shared} {H:Hp} (e:Env0 P w K mg base A outer s H) (C:Addr) (us:List Value) (kw:List (Str×Value)) :
    Env0 P w K mg base (A.under (.builtin "type.__call__" ⟨.ref C :: us,kw⟩)) outer s H:=⟨by first | exact e.frames | (simpa [Around.under,Code.envs,Code.isFrame,pushEnvs] using e.frames),e.mod,e.bs,e.bsz,e.funs,e.frf,e.hok,e.bare⟩
section
variable {X:Cx} {pins:List (Addr×Obj)} {σ : St} {H:Hp} {s s':Shared}
theorem Inv.env0 (I:Inv X pins σ H s):Env0 X.prog X.w X.K X.mg X.base X.A X.stack s H :=
  ⟨I.ok.frames,I.ok.mod,I.bs,Nat.le_trans I.ok.bsz I.sz,I.stack,I.stkFree,I.hok,I.bare⟩
theorem Inv.after {Q:VK} {u:Value} (I:Inv X pins σ H s) (h:CE X.stack X.prog X.w H s Q u s'):EP X pins σ Q u s':=by
  obtain ⟨v,H',os,bare,un,hok,r,q⟩:=h
  obtain ⟨hh,g,d,t,os'⟩:=s'
  obtain rfl:os'=s.os:=os
  exact ⟨v,H',I.call (h':=hh) (g':=g) (d':=d) (t':=t) (ch:=[]) un hok bare (fun b z => absurd z (by simp)),r,q⟩
end
def tCall (sp:Sp) (dvs:List V) (E:XK) (t:TA):TE:=fun σ H Q => t σ H fun vs H1 => sp (vs ++ dvs) H1 Q E
def tMake (C:Addr) (sp:Sp) (dvs:List V) (E:XK) (t:TA):TE:=fun σ H Q => t σ H fun vs H1 => ∀ x dx,H1 x=none→H1 dx=none→dx≠x →
  sp (.ref x :: (vs ++ dvs)) (upd (upd H1 dx (.own x)) x (.ins C dx [])) (fun v H2 => v = .non∧Q (.ref x) H2) E
def Binds (K:PySem.W.Frag) (fd:FuncData) (ps:List Str) (ds:List Value):Prop :=
  ∀ (s:Shared) (us:List Value),K.In s.heap→(us ++ ds).length=ps.length→BindsTo s fd ⟨us,[]⟩ (ps.zip (us ++ ds))
theorem Binds.all {K:PySem.W.Frag} {fd:FuncData} {ps:List Str} (h:∀ us:List Value,us.length=ps.length→bindArgs fd ⟨us,[]⟩ = pure (ps.zip us)):Binds K fd ps []:=fun s us _ hl => by
  rw [List.append_nil] at hl ⊢
  exact .of_eq (h us hl)
def Passes (CX:CXT) (X:Cx) (E:XK):Prop := ∀ (pins:List (Addr×Obj)) (σ : St) (H:Hp) (s:Shared) (e:Value) (s':Shared),Inv X pins σ H s→CX X.stack H s E e s'→X.xe e s'
section
variable {X:Cx} {CX:CXT} {k:Nat} {f C:Addr} {fd:FuncData} {ps:List Str} {sp:Sp} {dvs:List V} {ds:List Value} {E:XK} {x m:Str} {p pos apos:Pos} {e o:Expr} {es:List Expr} {ta:TE} {t:TA}
theorem run_fn {pins:List (Addr×Obj)} {σ : St} {H:Hp} {s:Shared} {Q:VK} {us:List Value} {vs:List V} (F:FnOk X.prog X.w X.K X.mg X.base CX k f fd ps sp) (hr:Room k X.A) (hb:Binds X.K fd ps ds) (hd:Vals dvs ds) (hx:Passes CX X E)
    (I:Inv X pins σ H s) (r:Vals vs us) (h:sp (vs ++ dvs) H Q E):wpAny (model X.prog X.w) X.A (call (.ref f) us) (EP X pins σ Q) X.xe s:=by
  have r2:Vals (vs ++ dvs) (us ++ ds):=r.append hd
  have hl:(us ++ ds).length=ps.length:=by rw [← r2.length]; exact F.len _ _ _ _ h
  refine wpAny_call (codeAny_mono (F.run X.A X.stack s H ⟨us,[]⟩ (us ++ ds) (vs ++ dvs) Q E hr I.env0 (hb s us I.kIn hl) r2 h) fun r s' hq => ?_)
  cases r with
  | error e => exact hx pins σ H s e s' I hq
  | ok fl =>
    cases fl with
    | ret u => exact I.after hq
    | next => exact False.elim hq
    | brk => exact False.elim hq
    | cont => exact False.elim hq
theorem pe_call (F:FnOk X.prog X.w X.K X.mg X.base CX k f fd ps sp) (hr:Room k X.A) (hg:Gl X x) (hm:X.mg x=some (.ref f)) (hk:PySem.W.keepIn X.K (.ref f)=true) (hb:Binds X.K fd ps ds) (hd:Vals dvs ds) (hx:Passes CX X E)
    (ha:PA X (e :: es) t) (hdb:(x == ("__debug__" : Str))=false:=by decide) (he:starEach (e :: es) X.env=(false,eval e X.env) :: starEach es X.env:=by rfl) (hpl:(backTo pos (starEach es X.env)).any (·.1)=false:=by rfl) :
    PE X (.Call (.Name x p) (e :: es) [] pos) (tCall sp dvs E t):=by
  intro pins s σ H Q I h
  refine wpAny_Call_Name_kw (ld_glob I hg hm ?_ hdb)
  refine PySem.W.callWith_K (h₀:=X.base) I.ok.mod.kin hk (thn (ha pos pins s σ H _ I h) fun us s1 ⟨vs,H1,I1,r,q⟩ => ⟨I1.kIn,?_⟩) he hpl
  exact run_fn F hr hb hd hx I1 r q
structure Mk (K:PySem.W.Frag) (C f:Addr):Prop where
  makes:PySem.W.makesIn K C=true
  init:PySem.W.findIn K (.ref C) "__init__" = some (some (.ref f))
  fn:PySem.W.isFn K (.ref f)=true
  kp:PySem.W.keepIn K (.ref C)=true
theorem run_make {pins:List (Addr×Obj)} {σ : St} {H:Hp} {s:Shared} {Q:VK} {us:List Value} {vs:List V} (M:Mk X.K C f) (F:FnOk X.prog X.w X.K X.mg X.base CX k f fd ps sp) (hr:Room (k + 1) X.A) (hb:Binds X.K fd ps ds) (hd:Vals dvs ds)
    (hx:Passes CX X E) (I:Inv X pins σ H s) (r:Vals vs us)
    (h:∀ x dx,H x=none→H dx=none→dx≠x→sp (.ref x :: (vs ++ dvs)) (upd (upd H dx (.own x)) x (.ins C dx [])) (fun v H2 => v = .non∧Q (.ref x) H2) E) :
    wpAny (model X.prog X.w) X.A (call (.ref C) us) (EP X pins σ Q) X.xe s:=by
  have hq:=h (s.heap.objs.size + 1) s.heap.objs.size (I.hok.fresh (Nat.le_succ _)) (I.hok.fresh (Nat.le_refl _)) (Nat.ne_of_lt (Nat.lt_succ_self _))
  have I2:=Inv.made (C:=C) I
  have r2:Vals (V.ref (s.heap.objs.size + 1) :: (vs ++ dvs)) (Value.ref (s.heap.objs.size + 1) :: (us ++ ds)):=.cons rfl (r.append hd)
  have hl:(Value.ref (s.heap.objs.size + 1) :: us ++ ds).length=ps.length:=by
    have e:=r2.length
    rw [F.len _ _ _ _ hq] at e
    exact e.symm
  refine wpAny_call (make_map (f:=f) I.kIn M.makes M.init (beq_iff_eq.mp M.fn) (codeAny_mono (F.run _ X.stack _ _ ⟨Value.ref (s.heap.objs.size + 1) :: us,[]⟩ (Value.ref (s.heap.objs.size + 1) :: (us ++ ds)) _ _ E (hr.make C us [])
    (I2.env0.make C us []) (hb _ (Value.ref (s.heap.objs.size + 1) :: us) I2.kIn hl) r2 hq) fun r s' hq' => ?_))
  cases r with
  | error e => exact hx pins σ _ _ e s' I2 hq'
  | ok fl =>
    cases fl with
    | ret u =>
      obtain ⟨v,H',I3,rv,ev,q3⟩:=I2.after hq'
      subst ev
      exact ⟨rv,⟨V.ref (s.heap.objs.size + 1),H',I3,rfl,q3⟩⟩
    | next => exact False.elim hq'
    | brk => exact False.elim hq'
    | cont => exact False.elim hq'
theorem pe_make (M:Mk X.K C f) (F:FnOk X.prog X.w X.K X.mg X.base CX k f fd ps sp) (hr:Room (k + 1) X.A) (hg:Gl X x) (hm:X.mg x=some (.ref C)) (hb:Binds X.K fd ps ds) (hd:Vals dvs ds) (hx:Passes CX X E)
    (ha:PA X (e :: es) t) (hdb:(x == ("__debug__" : Str))=false:=by decide) (he:starEach (e :: es) X.env=(false,eval e X.env) :: starEach es X.env:=by rfl) (hpl:(backTo pos (starEach es X.env)).any (·.1)=false:=by rfl) :
    PE X (.Call (.Name x p) (e :: es) [] pos) (tMake C sp dvs E t):=by
  intro pins s σ H Q I h
  refine wpAny_Call_Name_kw (ld_glob I hg hm ?_ hdb)
  refine PySem.W.callWith_K (h₀:=X.base) I.ok.mod.kin M.kp (thn (ha pos pins s σ H _ I h) fun us s1 ⟨vs,H1,I1,r,q⟩ => ⟨I1.kIn,?_⟩) he hpl
  exact run_make M F hr hb hd hx I1 r q
end
section
variable {X:Cx} {CX:CXT} {k:Nat} {f C:Addr} {fd:FuncData} {ps ks:List Str} {sp:Sp} {E:XK} {x m:Str} {p pos apos kpos:Pos} {e o:Expr} {es:List Expr} {kws:List Keyword} {te ta:TE} {t tk:TA} {nm:Option Str}
variable {g:List Value→List Value→List Value} {gV:List V→List V→List V}
end
structure FnScope (N P:List Str) (sc:Scope):Prop where
  kind:sc.kind = .function
  co:sc.isCoroutine=false
  gen:sc.isGenerator=false
  nd:N.Nodup
  pre:N.take P.length=P
  par:∀ x∈P,sc.names.lookup x=some .local∨sc.names.lookup x=some .cell
  nofree:∀ y∈sc.names,y.2≠.free
theorem bindL_out {kindOf:Str→Option NameKind} {x:Str}:∀ {binds:List (Str×Value)} {m:Str→Option Value},(∀ v,(x,v) ∉ binds)→bindL kindOf binds m x=m x
  | [],_,_ => rfl
  | (n,v) :: r,m,h => by
    unfold bindL
    rw [bindL_out fun w hw => h w (List.mem_cons_of_mem _ hw)]
    split
    · have:x≠n:=by rintro rfl; exact h v List.mem_cons_self
      simp [this]
    · rfl
theorem bindC_out {kindOf:Str→Option NameKind} {x:Str}:∀ {binds:List (Str×Value)} {m:Str→Option Value},(∀ v,(x,v) ∉ binds)→bindC kindOf binds m x=m x
  | [],_,_ => rfl
  | (n,v) :: r,m,h => by
    unfold bindC
    rw [bindC_out fun w hw => h w (List.mem_cons_of_mem _ hw)]
    split
    · rfl
    · have:x≠n:=by rintro rfl; exact h v List.mem_cons_self
      simp [this]
theorem bindL_get {kindOf:Str→Option NameKind} {x:Str} {v:Value}:∀ {P:List Str} {vs:List Value} {i:Nat} {m:Str→Option Value},P.Nodup→P[i]? = some x→vs[i]? = some v→kindOf x=some .local →
    bindL kindOf (P.zip vs) m x=some v
  | [],_,_,_,_,h,_,_ => by simp at h
  | _ :: _,[],_,_,_,_,h,_ => by simp at h
  | p :: P,w :: vs,0,m,nd,h1,h2,hk => by
    simp at h1 h2; subst h1; subst h2
    show bindL kindOf ((p,w) :: P.zip vs) m p=_
    unfold bindL
    rw [bindL_out fun v hv => (List.nodup_cons.mp nd).1 (List.of_mem_zip hv).1,if_pos hk]
    simp
  | p :: P,w :: vs,i + 1,m,nd,h1,h2,hk => by
    show bindL kindOf ((p,w) :: P.zip vs) m x=_
    unfold bindL
    exact bindL_get (i:=i) (List.nodup_cons.mp nd).2 (by simpa using h1) (by simpa using h2) hk
theorem bindC_get {kindOf:Str→Option NameKind} {x:Str} {v:Value}:∀ {P:List Str} {vs:List Value} {i:Nat} {m:Str→Option Value},P.Nodup→P[i]? = some x→vs[i]? = some v→kindOf x≠some .local →
    bindC kindOf (P.zip vs) m x=some v
  | [],_,_,_,_,h,_,_ => by simp at h
  | _ :: _,[],_,_,_,_,h,_ => by simp at h
  | p :: P,w :: vs,0,m,nd,h1,h2,hk => by
    simp at h1 h2; subst h1; subst h2
    show bindC kindOf ((p,w) :: P.zip vs) m p=_
    unfold bindC
    rw [bindC_out fun v hv => (List.nodup_cons.mp nd).1 (List.of_mem_zip hv).1,if_neg hk]
    simp
  | p :: P,w :: vs,i + 1,m,nd,h1,h2,hk => by
    show bindC kindOf ((p,w) :: P.zip vs) m x=_
    unfold bindC
    exact bindC_get (i:=i) (List.nodup_cons.mp nd).2 (by simpa using h1) (by simpa using h2) hk
def start (N:List Str) (vs:List V):St:=vs.map some ++ List.replicate (N.length - vs.length) none
def cxOf (CX:CXT) (P:Program) (w:World) (K:PySem.W.Frag) (mg:Str→Option Value) (base:Heap) (N:List Str) (qual:Str) (scope:Scope) (f:Addr) (cd:Value) (A:Around) (outer:List Env) (s:Shared) (H:Hp) (E:XK):Cx where
  prog:=P
  w:=w
  K:=K
  mg:=mg
  base:=base
  A:=A.deeper (envOfC qual scope s.heap.objs.size f cd)
  N:=N
  s₀:=s
  H₀:=H
  env:=envOfC qual scope s.heap.objs.size f cd
  outer:=outer
  stack:=envOfC qual scope s.heap.objs.size f cd :: outer
  ex:=[]
  calm:=true
  fn:=fun _ => true
  pn:=[]
  xe:=fun e s' => wpAny (model P w) (A.deeper (envOfC qual scope s.heap.objs.size f cd)) (leaving (envOfC qual scope s.heap.objs.size f cd) e) (fun _ s'' => CX outer H s E e s'') (fun e' s'' => CX outer H s E e' s'') s'
theorem cell_has {sc:Scope} {n:Nat} {x:Str} (h:sc.names.lookup x=some .cell):∃ c,(cellsFrom n sc.names []).lookup x=some c:=by
  have q:=PySem.W.cellsFrom_some sc.names n [] (.inl h)
  exact Option.isSome_iff_exists.mp q
theorem inv_start {CX:CXT} {P:Program} {w:World} {K:PySem.W.Frag} {mg:Str→Option Value} {base:Heap} {N ps:List Str} {qual:Str} {scope:Scope} {f:Addr} {cd:Value} {A:Around} {outer:List Env} {s s1:Shared} {H:Hp} {E:XK} {us:List Value} {vs:List V}
    (S:FnScope N ps scope) (hd:A.handled=none) (e0:Env0 P w K mg base A outer s H) (hl:vs.length=ps.length) (r:Vals vs us)
    (x:InCallC s s.heap.objs.size (bindL (envOfC qual scope s.heap.objs.size f cd).kindOf (ps.zip us) fun _ => none) (cellsFrom (s.heap.objs.size + 1) scope.names []) (bindC (envOfC qual scope s.heap.objs.size f cd).kindOf (ps.zip us) fun _ => none) s1) :
    Inv (cxOf CX P w K mg base N qual scope f cd A outer s H E) [] (start N vs) H s1:=by
  have hpl:ps.length≤N.length:=by have:=congrArg List.length S.pre; rw [List.length_take] at this; omega
  obtain ⟨h1,tk,rfl,hk⟩:=x.done
  have noA:∀ b:Addr,b ∉ (cxOf CX P w K mg base N qual scope f cd A outer s H E).ex:=fun b z => absurd (show b∈([]:List Addr) from z) (by simp)
  refine ⟨⟨e0.mod,S.kind,rfl,rfl,Nat.le_refl _,fun y z c h1 h2 => ?_,fun y hy => ?_,fun y c _ h => ?_,fun _ => hd,Around.frames_deeper e0.frames,.inr ⟨rfl,rfl⟩,fun b z => absurd z (noA b),e0.bs,e0.bsz,fun b _ _ => noA b,fun b z => absurd z (noA b),e0.funs,e0.frf⟩,
    rfl,e0.bare,Un.kept hk,⟨_,x.toInCall.ns,fun i y v h1 h2 h3 => ?_⟩,fun y c h => ⟨_,x.cell y c h⟩,e0.hok.fresh (Nat.le_refl _),fun y c h => ?_,fun p hp => absurd (show p∈([]:List (Addr×Obj)) from hp) (by simp),e0.hok.kept hk,?_⟩
  · exact name_of_addr x.apart (PySem.mem_of_lookup h1) (PySem.mem_of_lookup h2)
  · have hy:scope.names.lookup y=some .cell∨scope.names.lookup y=some .free:=hy
    rcases hy with hy | hy
    · exact cell_has hy
    · exact absurd rfl (S.nofree _ (PySem.mem_of_lookup hy))
  · exact Nat.le_of_lt (x.above y c (PySem.mem_of_lookup h))
  · have hi:i < vs.length:=by
      unfold start at h2
      by_cases hi:i < vs.length
      · exact hi
      · rw [List.getElem?_append_right (by simpa using hi)] at h2
        rw [List.getElem?_replicate] at h2
        split at h2 <;> cases h2
    have ha:vs[i]? = some v:=by
      unfold start at h2
      rw [List.getElem?_append_left (by simpa using hi),List.getElem?_map] at h2
      cases e:vs[i]? with
      | none => rw [e] at h2; cases h2
      | some a => rw [e] at h2; cases h2; rfl
    obtain ⟨u,hu,rv⟩:=r.get ha
    have hp:ps[i]? = some y:=by
      rw [← S.pre,List.getElem?_take_of_lt (by omega)]; exact h1
    have ndP:ps.Nodup:=by rw [← S.pre]; exact S.nd.sublist (List.take_sublist _ _)
    refine ⟨u,rv,?_⟩
    rcases S.par y (List.mem_of_getElem? hp) with k | k
    · exact .inl ⟨k,bindL_get ndP hp hu k⟩
    · obtain ⟨c,e⟩:=cell_has (n:=s.heap.objs.size + 1) k
      refine .inr ⟨.inl k,c,e,?_⟩
      have q:=x.cell y c e
      rw [bindC_get ndP hp hu (by show scope.names.lookup y≠_; rw [k]; decide)] at q
      exact q
  · exact e0.hok.fresh (Nat.le_of_lt (x.above y c (PySem.mem_of_lookup h)))
  · unfold start
    show _=N.length
    rw [List.length_append,List.length_map,List.length_replicate]
    omega
theorem fn_of {CX:CXT} {P:Program} {w:World} {K:PySem.W.Frag} {mg:Str→Option Value} {base:Heap} {k:Nat} {f:Addr} {name qual:Str} {params:Arguments} {body:List Stmt} {scope:Scope} {dV kV doc pm cdv ct oc:Value} {an od:Option Addr}
    {osl:Array (Option Value)} {N ps:List Str} {sp:Sp} (lk:K.lookup f=some ⟨oc,od,.func (PySem.W.fnOf name qual params body scope dV kV doc pm an cdv ct),osl⟩) (hcd:PySem.W.codeIn K cdv qual=true) (S:FnScope N ps scope)
    (len:∀ vs H Q E,sp vs H Q E→vs.length=ps.length)
    (hbody:∀ (A:Around) (outer:List Env) (s:Shared) (H:Hp) (vs:List V) (Q:VK) (E:XK),Room k (A.deeper (envOfC qual scope s.heap.objs.size f cdv))→sp vs H Q E →
      ∃ t,PSs (cxOf CX P w K mg base N qual scope f cdv A outer s H E) body t∧t { nx:=fun _ H' => Q .non H',rt:=Q } (start N vs) H) :
    FnOk P w K mg base CX (k + 1) f (PySem.W.fnOf name qual params body scope dV kV doc pm an cdv ct) ps sp:=by
  refine ⟨len,fun A outer s H args us vs Q E hr e0 hb r hsp => ?_⟩
  have hl:=len _ _ _ _ hsp
  have KX:K.In s.heap:=e0.mod.kin.keeps fun b o e => (e0.bs b o e).1
  have lim:s.heap.NoLimit:=e0.mod.nolimit.keeps fun b o e => (e0.bs b o e).1
  have hkind:∀ y∈ps.zip us,scope.names.lookup y.1=some .local∨(scope.names.lookup y.1=some .cell∧((cellsFrom (s.heap.objs.size + 1) scope.names []).lookup y.1).isSome=true):=fun ⟨n,v⟩ hy => by
    rcases S.par n (List.of_mem_zip hy).1 with q | q
    · exact .inl q
    · exact .inr ⟨q,PySem.W.cellsFrom_some _ _ _ (.inl q)⟩
  refine codeAny_call_function hr.depth (KX _ _ lk) rfl S.co S.gen rfl (PySem.W.codeRec_of KX hcd) (hb _ _ _ _ ?_)
  refine wpAny_newFunctionEnv_cells S.kind hkind fun env he s1 x => ?_
  subst he
  refine ⟨lim.keeps x.toInCall.keep,codeAny_func ?_⟩
  obtain ⟨t,ht,hq⟩:=hbody A outer s H vs Q E (hr.deeper _) hsp
  have I:Inv (cxOf CX P w K mg base N qual scope f cdv A outer s H E) [] (start N vs) H s1:=inv_start S hr.hd e0 hl r x
  refine wpAny_mono (ht [] s1 (start N vs) H _ I hq) (fun fl s' hs => ?_) fun e s' hs => hs
  have fin:∀ {σ':St} {H':Hp} {v:V} {u:Value},Inv (cxOf CX P w K mg base N qual scope f cdv A outer s H E) [] σ' H' s'→RelV v u→Q v H'→CE outer P w H s Q u s' :=
    fun {σ' H' v u} J rv q => ⟨v,H',J.os,J.bare,J.base,J.hok,rv,q⟩
  cases fl with
  | ret u =>
    obtain ⟨v,σ',H',J,rv,q⟩:=hs
    exact fin J rv q
  | next =>
    obtain ⟨σ',H',J,q⟩:=hs
    exact fin (v:=V.non) (u:=Value.none) J rfl q
  | brk =>
    obtain ⟨_,_,_,q⟩:=hs
    exact False.elim q
  | cont =>
    obtain ⟨_,_,_,q⟩:=hs
    exact False.elim q
end L2
namespace L2
open PySem PySem.Spec PyProof.Rows
section
variable {X:Cx} {x:Str} {p pos:Pos} {e:Expr} {es:List Expr} {t:TA} {id T:String} {r:List V→Hp→VK→Prop}
def tCB (r:List V→Hp→VK→Prop) (t:TA):TE:=fun σ H Q => t σ H fun vs H1 => r vs H1 Q
theorem pe_callB (hc:CallR X (.builtin id) r) (hg:Gl X x) (hm:X.mg x=none) (hv:bootBuiltins x=some (.builtin id)) (ha:PA X (e :: es) t) (hn:x≠"__name__" := by decide) (hdb:(x == ("__debug__" : Str))=false:=by decide)
    (he:starEach (e :: es) X.env=(false,eval e X.env) :: starEach es X.env:=by rfl) (hpl:(backTo pos (starEach es X.env)).any (·.1)=false:=by rfl):PE X (.Call (.Name x p) (e :: es) [] pos) (tCB r t):=by
  intro pins s σ H Q I h
  refine wpAny_Call_Name_kw (ld_blt I hg hm hv ?_ hn hdb)
  exact PyProof.Rows.callWith_builtin1 (thn (ha pos pins s σ H _ I h) fun us s1 ⟨vs,H1,I1,r1,q1⟩ => hc pins s1 σ H1 vs us Q I1 r1 q1) he hpl
theorem pe_callTy (hc:CallR X (.type T) r) (hg:Gl X x) (hm:X.mg x=none) (hv:bootBuiltins x=some (.type T)) (ha:PA X (e :: es) t) (hn:x≠"__name__" := by decide) (hdb:(x == ("__debug__" : Str))=false:=by decide)
    (he:starEach (e :: es) X.env=(false,eval e X.env) :: starEach es X.env:=by rfl) (hpl:(backTo pos (starEach es X.env)).any (·.1)=false:=by rfl):PE X (.Call (.Name x p) (e :: es) [] pos) (tCB r t):=by
  intro pins s σ H Q I h
  refine wpAny_Call_Name_kw (ld_blt I hg hm hv ?_ hn hdb)
  exact PyProof.Rows.callWith_type1 (thn (ha pos pins s σ H _ I h) fun us s1 ⟨vs,H1,I1,r1,q1⟩ => hc pins s1 σ H1 vs us Q I1 r1 q1) he hpl
end
end L2
namespace HT
open PySem PyProof.Rows
section
open PySem.SeqAt
open PySem.AutoSeq1 (wpAny_loadPart')
open PySem.MeetsSeq PySem.MeetsSeq2 PySem.MeetsSeq3
end
section
variable {prog:Program} {w:World} {A:Around} {E:Value→Shared→Prop} {s:Shared}
def sIx (n d:Nat):Option Int→Nat
  | none => d
  | some v => if v < 0 then (v + (n:Int)).toNat else min v.toNat n
theorem sIx_none (n d:Nat):sIx n d none=d:=rfl
theorem sIx_nat (n d k:Nat):sIx n d (some (k:Int))=min k n:=by
  show (if (k:Int) < 0 then ((k:Int) + (n:Int)).toNat else min (k:Int).toNat n)=min k n
  rw [if_neg (by omega),Int.toNat_natCast]
end
end HT
namespace L2
open PySem PySem.Spec PyProof.Rows
abbrev TO:=St→Hp→(Option Int→Hp→Prop)→Prop
def PO (X:Cx) (e:Option Expr) (t:TO):Prop :=
  ∀ (pins:List (Addr×Obj)) (s:Shared) (σ : St) (H:Hp) (Q:Option Int→Hp→Prop),Inv X pins σ H s→t σ H Q →
    wpAny (model X.prog X.w) X.A (evalPart e X.env) (fun u s' => ∃ o H',Inv X pins σ H' s'∧IsPart u o∧Q o H') X.xe s
def tNoPart:TO:=fun _ H Q => Q none H
def tPart (t:TE):TO:=fun σ H Q => t σ H fun x H1 => ∃ i,x = .int i∧Q (some i) H1
section
variable {X:Cx} {e:Expr} {te:TE} {lo hi:Option Expr} {tl th:TO} {pos p2:Pos}
theorem po_none:PO X none tNoPart:=by
  intro pins s σ H Q I h
  rw [evalPart_none]
  exact wpAny_pure ⟨none,H,I,.none,h⟩
theorem po_some (h:PE X e te):PO X (some e) (tPart te):=by
  intro pins s σ H Q I hw
  rw [evalPart_some]
  refine thn (h pins s σ H _ I hw) fun u s1 ⟨x,H1,I1,r1,q1⟩ => ?_
  obtain ⟨i,rfl,q⟩:=q1
  obtain ⟨t,rfl⟩:=r1
  exact ⟨some i,H1,I1,.int i t,q⟩
def SlR (X:Cx) (r:V→Option Int→Option Int→Hp→VK→Prop):Prop :=
  ∀ (pins:List (Addr×Obj)) (s:Shared) (σ : St) (H:Hp) (x:V) (v vl vu:Value) (lo hi:Option Int) (sl:Addr) (Q:VK),Inv X pins σ H s→RelV x v→s.heap.IsSliceOf sl vl vu .none→IsPart vl lo→IsPart vu hi→r x lo hi H Q →
    ∃ T id,typeLookup (.type T) "__getitem__" = pure (some (.builtin id))∧s.TypeIs v T∧wpAny (model X.prog X.w) X.A (getItem v (.ref sl)) (EP X pins σ Q) X.xe s
def tSl (r:V→Option Int→Option Int→Hp→VK→Prop) (te:TE) (tl th:TO):TE:=fun σ H Q => te σ H fun x H1 => tl σ H1 fun l H2 => th σ H2 fun u H3 => r x l u H3 Q
theorem pe_slice {r:V→Option Int→Option Int→Hp→VK→Prop} (hr:SlR X r) (he:PE X e te) (hl:PO X lo tl) (hu:PO X hi th):PE X (.Subscript e (.Slice lo hi none p2) pos) (tSl r te tl th):=by
  intro pins s σ H Q I h
  refine Subscript_ (thn (he pins s σ H _ I h) fun v s1 ⟨x,H1,I1,r1,q1⟩ => ?_)
  refine wpAny_Slice (thn (hl pins s1 σ H1 _ I1 q1) fun vl s2 ⟨l,H2,I2,pl,q2⟩ => thn (hu pins s2 σ H2 _ I2 q2) fun vu s3 ⟨u,H3,I3,pu,q3⟩ => ?_)
  rw [evalPart_none]
  refine wpAny_pure ?_
  have I4:Inv X pins σ H3 { s3 with heap:=s3.heap.push { cls:=.type "slice",data:=.fields #[vl,vu,.none] } }:=I3.kept (t':=s3.toks) fun b ob q => Heap.get?_push_of_some _ q
  obtain ⟨T,id,hT,ht,hg⟩:=hr pins { s3 with heap:=s3.heap.push { cls:=.type "slice",data:=.fields #[vl,vu,.none] } } σ H3 x v vl vu l u s3.heap.objs.size Q I4 r1 (Heap.IsSliceOf.new ..) pl pu q3
  show wpAny (model X.prog X.w) X.A (subscriptTail e (.Slice lo hi none p2) v (.ref s3.heap.objs.size)) (EP X pins σ Q) X.xe { s3 with heap:=s3.heap.push { cls:=.type "slice",data:=.fields #[vl,vu,.none] } }
  exact tail_any (ops:=[.ref s3.heap.objs.size,v]) ht hT hg (by with_unfolding_all rfl)
def cutV (xs:List V) (lo hi:Option Int):List V:=(xs.drop (HT.sIx xs.length 0 lo)).take (HT.sIx xs.length xs.length hi - HT.sIx xs.length 0 lo)
theorem cutV_length (xs:List V) (lo hi:Option Int):(cutV xs lo hi).length≤xs.length:=by
  unfold cutV
  rw [List.length_take,List.length_drop]
  omega
end
end L2
namespace L2
open PySem PySem.Spec PyProof.Rows
def ixN (n:Nat) (i:Int):Option Nat:=if 0≤i then (if i < n then some i.toNat else none) else if -(n:Int)≤i then some (i + n).toNat else none
def atI {α : Type} (xs:List α) (i:Int):Option α:=(ixN xs.length i).bind fun j => xs[j]?
theorem ixN_seq {n:Nat} {i:Int} {j:Nat} (h:ixN n i=some j):seqIndex? i n=some j∧j < n∧-(n:Int)≤i∧i < n:=by
  unfold ixN at h
  by_cases h0 : 0≤i
  · rw [if_pos h0] at h
    by_cases h1:i < n
    · rw [if_pos h1] at h
      have e:i.toNat=j:=Option.some.inj h
      exact ⟨by rw [seqIndex_of h0 h1,e],by omega,by omega,h1⟩
    · rw [if_neg h1] at h; cases h
  · rw [if_neg h0] at h
    by_cases h1 : -(n:Int)≤i
    · rw [if_pos h1] at h
      have e:(i + n).toNat=j:=Option.some.inj h
      exact ⟨by rw [seqIndex_neg (by omega) h1,e],by omega,h1,by omega⟩
    · rw [if_neg h1] at h; cases h
theorem atI_get {α : Type} {xs:List α} {i:Int} {v : α} (h:atI xs i=some v):∃ j,seqIndex? i xs.length=some j∧xs[j]? = some v∧j < xs.length∧-(xs.length:Int)≤i∧i < xs.length:=by
  unfold atI at h
  cases e:ixN xs.length i with
  | none => rw [e] at h; cases h
  | some j =>
    rw [e] at h
    obtain ⟨h1,h2,h3,h4⟩:=ixN_seq e
    exact ⟨j,h1,h,h2,h3,h4⟩
theorem atI_nat {α : Type} {xs:List α} {j:Nat} {v : α} (h:xs[j]? = some v):atI xs (j:Int)=some v:=by
  have hj:j < xs.length:=(List.getElem?_eq_some_iff.mp h).1
  have e:ixN xs.length (j:Int)=some j:=by
    unfold ixN
    rw [if_pos (by omega),if_pos (by omega)]; simp
  unfold atI; rw [e]; exact h
def PlainIx (b:Expr):Prop := ∀ o i,subscripted b false o i=operate [o,i] (getItem o i)
def IxR (X:Cx) (r:R2):Prop :=
  ∀ (value slice:Expr) (pins:List (Addr×Obj)) (s:Shared) (σ : St) (H:Hp) (x y:V) (v u:Value) (Q:VK),Inv X pins σ H s→RelV x v→RelV y u→r x y H Q →
    subscripted slice false v u=operate [v,u] (getItem v u)→wpAny (model X.prog X.w) X.A (subscriptTail value slice v u) (EP X pins σ Q) X.xe s
def MtR (X:Cx) (id:String) (r:V→List V→Hp→VK→Prop):Prop :=
  ∀ (pins:List (Addr×Obj)) (s:Shared) (σ : St) (H:Hp) (x:V) (xs:List V) (v:Value) (us:List Value) (Q:VK),Inv X pins σ H s→RelV x v→Vals xs us→r x xs H Q →
    wpAny (model X.prog X.w) X.A (call (.builtin id) (v :: us)) (EP X pins σ Q) X.xe s
section
variable {X:Cx} {a b:Expr} {ta tb:TE} {pos:Pos}
theorem pe_ix {r:R2} (hr:IxR X r) (ha:PE X a ta) (hb:PE X b tb) (hs:PlainIx b):PE X (.Subscript a b pos) (tOp r ta tb):=by
  intro pins s σ H Q I h
  exact Subscript_ (binT ha hb I h fun v u s2 x y H2 I2 rx ry q => hr a b pins s2 σ H2 x y v u Q I2 rx ry q (hs _ _))
def rIxL (K:PySem.W.Frag):R2:=fun x y H Q => ∃ p xs i v,x = .ref p∧y = .int i∧SqL K H p xs∧atI xs i=some v∧Q v H
def rIxT (K:PySem.W.Frag):R2:=fun x y H Q => ∃ p xs i v,x = .ref p∧y = .int i∧SqT K H p xs∧atI xs i=some v∧Q v H
theorem ix_list:IxR X (rIxL X.K):=by
  intro value slice pins s σ H x y v u Q I rx ry h hs
  obtain ⟨p,xs,i,z,rfl,rfl,hq,he,q⟩:=h
  cases rx
  obtain ⟨t,rfl⟩:=ry
  obtain ⟨its,r,pl,hz⟩:=I.list hq
  obtain ⟨j,h1,h2,h3,h4,h5⟩:=atI_get he
  obtain ⟨w,ew,rw'⟩:=r.get h2
  have hl:=r.length
  have hn:=line63
  have fin:EP X pins σ Q w s:=⟨z,H,I,rw',q⟩
  by_cases h0 : 0≤i
  · have hj:i.toNat=j:=by
      rw [seqIndex_of h0 h5] at h1
      exact Option.some.inj h1
    exact item_listR pl.isList h0 (by omega) (by rw [hj]; simpa using ew) fin hs
  · have hj:(i + (its.toArray.size:Int)).toNat=j:=by
      rw [seqIndex_neg (by omega) h4] at h1
      rw [List.size_toArray,← hl]
      exact Option.some.inj h1
    exact subscriptTail_builtinR (x:=w) pl.isList.typeIs slot_list_getitem.lookup
      (wpAny_getItem_list_neg (Q:=fun r s' => r=w∧EP X pins σ Q r s') pl.isList (by omega) (by rw [List.size_toArray] <;> omega) (by omega) (by rw [hj]; simpa using ew) ⟨rfl,fin⟩) hs
theorem ix_tup:IxR X (rIxT X.K):=by
  intro value slice pins s σ H x y v u Q I rx ry h hs
  obtain ⟨p,xs,i,z,rfl,rfl,hq,he,q⟩:=h
  cases rx
  obtain ⟨t,rfl⟩:=ry
  obtain ⟨its,r,pl,hz⟩:=I.tuple hq
  obtain ⟨j,h1,h2,h3,h4,h5⟩:=atI_get he
  obtain ⟨w,ew,rw'⟩:=r.get h2
  have hl:=r.length
  have hn:=line63
  have fin:EP X pins σ Q w s:=⟨z,H,I,rw',q⟩
  exact subscriptTail_builtinR (x:=w) pl.typeIs slot_tuple_getitem.lookup
    (getItem_tuple (j:=j) (Q:=fun r s' => r=w∧EP X pins σ Q r s') pl (by omega) (by omega) (by rw [List.size_toArray,← hl]; exact h1) (by simpa using ew) ⟨rfl,fin⟩) hs
theorem slice_bounds (lo hi:Option Int) (n:Nat):(sliceBounds lo hi none n).1=((HT.sIx n 0 lo:Nat):Int)∧(sliceBounds lo hi none n).2.1=((HT.sIx n n hi:Nat):Int)∧(sliceBounds lo hi none n).2.2=1:=by
  refine ⟨?_,?_,rfl⟩
  · cases lo with
    | none => simp [sliceBounds,HT.sIx]
    | some i =>
      simp only [sliceBounds,HT.sIx,Option.getD_none,show (1:Int) > 0 by decide,if_true]
      by_cases h:i < 0
      · simp only [h,if_true] <;> omega
      · simp only [h,if_false] <;> omega
  · cases hi with
    | none => simp [sliceBounds,HT.sIx]
    | some i =>
      simp only [sliceBounds,HT.sIx,Option.getD_none,show (1:Int) > 0 by decide,if_true]
      by_cases h:i < 0
      · simp only [h,if_true] <;> omega
      · simp only [h,if_false] <;> omega
theorem slicePick_cut (its:List Value) (lo hi:Option Int):slicePick its.toArray lo hi none=((its.drop (HT.sIx its.length 0 lo)).take (HT.sIx its.length its.length hi - HT.sIx its.length 0 lo)).toArray:=by
  obtain ⟨h1,h2,h3⟩:=slice_bounds lo hi its.toArray.size
  unfold slicePick
  rw [h1,h2,h3]
  simp only [sliceRange_one,pick_run,List.size_toArray] <;> rfl
def rSlL (K:PySem.W.Frag):V→Option Int→Option Int→Hp→VK→Prop:=fun x lo hi H Q => ∃ a xs,x = .ref a∧SqL K H a xs∧∀ p,H p=none→Q (.ref p) (upd H p (.lst (cutV xs lo hi)))
theorem sl_list:SlR X (rSlL X.K):=by
  intro pins s σ H x v vl vu lo hi sl Q I rx hs pl pu h
  obtain ⟨a,xs,rfl,hx,q⟩:=h
  cases rx
  obtain ⟨its,r,ht,hz⟩:=I.list hx
  have hlen:=r.length
  refine ⟨"list",_,slot_list_getitem.lookup,ht.isList.typeIs,?_⟩
  refine wpAny_getItem_list_slice ht.isList hs pl pu .none (by simp) ?_ (by rw [List.size_toArray] <;> omega)
  rw [slicePick_cut,← hlen]
  refine ⟨.ref s.heap.objs.size,_,I.laid (t':=s.toks) (o:=.lst (cutV xs lo hi)) (fun b ob q => Heap.get?_push_of_some _ q) (Nat.le_refl _) ?_,rfl,q _ (I.hok.fresh (Nat.le_refl _))⟩
  exact ⟨Nat.le_trans (cutV_length xs lo hi) hz,_,0,(r.drop (HT.sIx xs.length 0 lo)).take (HT.sIx xs.length xs.length hi - HT.sIx xs.length 0 lo),Heap.get?_push_size _ rfl⟩
def flatV:V→Bool
  | .non => true
  | .bl _ => true
  | .int _ => true
  | .str _ => true
  | _ => false
def eqV:V→V→Bool
  | .non,.non => true
  | .bl a,.bl b => a == b
  | .bl a,.int b => (if a then 1 else 0) == b
  | .int a,.bl b => a == (if b then 1 else 0)
  | .int a,.int b => a == b
  | .str a,.str b => a == b
  | _,_ => false
theorem eqAt_V {A:Around} {s:Shared} {y x:V} {u v:Value} (ry:RelV y u) (rx:RelV x v) (fy:flatV y=true) (fx:flatV x=true):SeqAt.EqAt A s u v (eqV y x):=by
  cases y with
  | non =>
    cases ry
    cases x with
    | non => cases rx; exact SeqAt.EqAt.same _
    | bl b => cases rx; exact SeqAt.EqAt.none_bool b
    | int b => obtain ⟨t,rfl⟩:=rx; exact SeqAt.EqAt.none_int b t
    | str b => obtain ⟨t,rfl⟩:=rx; exact SeqAt.EqAt.none_str b t
    | _ => exact absurd (show false=true from fx) Bool.false_ne_true
  | bl a =>
    cases ry
    cases x with
    | non => cases rx; exact SeqAt.EqAt.bool_none a
    | bl b => cases rx; exact SeqAt.EqAt.bool_bool a b
    | int b => obtain ⟨t,rfl⟩:=rx; exact SeqAt.EqAt.bool_int a b t
    | str b => obtain ⟨t,rfl⟩:=rx; exact SeqAt.EqAt.bool_str a b t
    | _ => exact absurd (show false=true from fx) Bool.false_ne_true
  | int a =>
    obtain ⟨t',rfl⟩:=ry
    cases x with
    | non => cases rx; exact SeqAt.EqAt.int_none a t'
    | bl b => cases rx; exact SeqAt.EqAt.int_bool a t' b
    | int b => obtain ⟨t,rfl⟩:=rx; exact SeqAt.EqAt.int_int a t' b t
    | str b => obtain ⟨t,rfl⟩:=rx; exact SeqAt.EqAt.int_str a t' b t
    | _ => exact absurd (show false=true from fx) Bool.false_ne_true
  | str a =>
    obtain ⟨t',rfl⟩:=ry
    cases x with
    | non => cases rx; exact SeqAt.EqAt.str_none a t'
    | bl b => cases rx; exact SeqAt.EqAt.str_bool a t' b
    | int b => obtain ⟨t,rfl⟩:=rx; exact SeqAt.EqAt.str_int a t' b t
    | str b => obtain ⟨t,rfl⟩:=rx; exact SeqAt.EqAt.str_str a t' b t
    | _ => exact absurd (show false=true from fx) Bool.false_ne_true
  | _ => exact absurd (show false=true from fy) Bool.false_ne_true
def eqU (x:V) (u:Value):Bool:=match u with
  | .none => eqV .non x
  | .bool b => eqV (.bl b) x
  | .int i _ => eqV (.int i) x
  | .str z _ => eqV (.str z) x
  | _ => false
theorem eqU_of {x y:V} {u:Value} (r:RelV y u) (f:flatV y=true):eqU x u=eqV y x:=by
  cases y with
  | non => cases r; rfl
  | bl b => cases r; rfl
  | int i => obtain ⟨t,rfl⟩:=r; rfl
  | str z => obtain ⟨t,rfl⟩:=r; rfl
  | _ => exact absurd (show false=true from f) Bool.false_ne_true
theorem any_eqU {x:V}:∀ {xs:List V} {us:List Value},Vals xs us→xs.all flatV=true→us.any (eqU x)=xs.any fun y => eqV y x
  | _,_,.nil,_ => rfl
  | y :: xs,u :: us,.cons r t,f => by
    rw [List.all_cons,Bool.and_eq_true] at f
    rw [List.any_cons,List.any_cons,eqU_of r f.1,any_eqU t f.2]
theorem mem_eqAt {A:Around} {s:Shared} {x:V} {v:Value} (rx:RelV x v) (fx:flatV x=true):∀ {xs:List V} {us:List Value},Vals xs us→xs.all flatV=true→∀ u∈us,SeqAt.EqAt A s u v (eqU x u)
  | _,_,.nil,_ => fun u hu => by cases hu
  | y :: xs,u :: us,.cons r t,f => fun u' hu => by
    rw [List.all_cons,Bool.and_eq_true] at f
    rcases List.mem_cons.mp hu with rfl | hu
    · rw [eqU_of r f.1]; exact eqAt_V r rx f.1 fx
    · exact mem_eqAt rx fx t f.2 u' hu
def inV (x:V) (xs:List V):Bool:=xs.any fun y => eqV y x
def rIn (K:PySem.W.Frag) (neg:Bool):R2:=fun x y H Q => ∃ p xs,y = .ref p∧(SqL K H p xs∨SqT K H p xs)∧flatV x=true∧xs.all flatV=true∧Q (.bl (if neg then !inV x xs else inV x xs)) H
theorem op_in_seq:OpR X (compareOp .In) (rIn X.K false):=by
  intro pins s σ H x y v u Q I rx ry h
  obtain ⟨p,xs,rfl,hq,fx,fs,q⟩:=h
  cases ry
  rcases hq with hq | hq
  · obtain ⟨its,r,pl,hz⟩:=I.list hq
    refine SeqAt.in_listAt (eqU x) pl.isList (fun w hw => mem_eqAt rx fx r fs w (by simpa using hw)) ⟨.bl _,H,I,rfl,?_⟩
    rw [show its.toArray.any (eqU x)=its.any (eqU x) by simp,any_eqU r fs]
    exact q
  · obtain ⟨its,r,pl,hz⟩:=I.tuple hq
    refine SeqAt.in_tupleAt (eqU x) pl (fun w hw => mem_eqAt rx fx r fs w (by simpa using hw)) ⟨.bl _,H,I,rfl,?_⟩
    rw [show its.toArray.any (eqU x)=its.any (eqU x) by simp,any_eqU r fs]
    exact q
theorem op_notIn_seq:OpR X (compareOp .NotIn) (rIn X.K true):=by
  intro pins s σ H x y v u Q I rx ry h
  obtain ⟨p,xs,rfl,hq,fx,fs,q⟩:=h
  cases ry
  rcases hq with hq | hq
  · obtain ⟨its,r,pl,hz⟩:=I.list hq
    refine SeqAt.notIn_listAt (eqU x) pl.isList (fun w hw => mem_eqAt rx fx r fs w (by simpa using hw)) ⟨.bl _,H,I,rfl,?_⟩
    rw [show its.toArray.any (eqU x)=its.any (eqU x) by simp,any_eqU r fs]
    exact q
  · obtain ⟨its,r,pl,hz⟩:=I.tuple hq
    refine SeqAt.notIn_tupleAt (eqU x) pl (fun w hw => mem_eqAt rx fx r fs w (by simpa using hw)) ⟨.bl _,H,I,rfl,?_⟩
    rw [show its.toArray.any (eqU x)=its.any (eqU x) by simp,any_eqU r fs]
    exact q
theorem call_len_seq:CallR X (.builtin "len") (fun xs H Q => ∃ p ys,xs=[.ref p]∧(SqL X.K H p ys∨SqT X.K H p ys)∧Q (.int ys.length) H):=by
  intro pins s σ H xs us Q I r h
  obtain ⟨p,ys,rfl,hq,q⟩:=h
  obtain ⟨u,rfl,rx⟩:=vals1 r
  cases rx
  have hn:=line63
  rcases hq with hq | hq
  · obtain ⟨its,r',pl,hz⟩:=I.list hq
    have hlen:=r'.length
    exact Calls.call_len_list pl.isList (by simp only [List.size_toArray] <;> omega) ⟨.int ys.length,H,I.tok _,⟨s.toks + 1,by rw [List.size_toArray,hlen]⟩,q⟩
  · obtain ⟨its,r',pl,hz⟩:=I.tuple hq
    have hlen:=r'.length
    exact len_tuple pl (by simp only [List.size_toArray] <;> omega) ⟨.int ys.length,H,I.tok _,⟨s.toks + 1,by rw [List.size_toArray,hlen]⟩,q⟩
theorem call_len_str:CallR X (.builtin "len") (fun xs H Q => ∃ z,xs=[.str z]∧z.length≤sizeLine∧Q (.int z.length) H):=by
  intro pins s σ H xs us Q I r h
  obtain ⟨z,rfl,hz,q⟩:=h
  obtain ⟨u,rfl,t,rfl⟩:=vals1 r
  have hn:=line63
  exact len_str (by omega) ⟨.int z.length,H,I.tok _,⟨_,rfl⟩,q⟩
theorem call_list_of:CallR X (.type "list") (fun xs H Q => ∃ p ys,xs=[.ref p]∧(SqL X.K H p ys∨SqT X.K H p ys)∧∀ l,H l=none→Q (.ref l) (upd H l (.lst ys))):=by
  intro pins s σ H xs us Q I r h
  obtain ⟨p,ys,rfl,hq,q⟩:=h
  obtain ⟨u,rfl,rx⟩:=vals1 r
  cases rx
  have fin:∀ (its:List Value),Vals ys its→ys.length≤sizeLine→∀ (h':Heap) (c':Nat),(∀ b o',s.heap.get? b=some o'→h'.get? b=some o') →
      h'.get? s.heap.objs.size=some { cls:=.type "list",dict:=none,data:=.seq its.toArray c',slots := #[] }→EP X pins σ Q (.ref s.heap.objs.size) { s with heap:=h' }:=fun its r' hz h' c' kp e =>
    ⟨.ref s.heap.objs.size,_,I.laid (t':=s.toks) kp (Nat.le_refl _) (show ObjOk X.prog X.w _ h' _ (.lst ys) from ⟨hz,its,c',r',e⟩),rfl,q _ (I.hok.fresh (Nat.le_refl _))⟩
  rcases hq with hq | hq
  · obtain ⟨its,r',pl,hz⟩:=I.list hq
    have hlen:=r'.length
    obtain ⟨o,ho,hc,n,hd⟩:=pl.isList
    exact call_list_seq p (.inl rfl) ho hc hd (fun h' c' kp e => fin its r' hz h' c' kp e) (by simp only [List.size_toArray] <;> omega)
  · obtain ⟨its,r',pl,hz⟩:=I.tuple hq
    have hlen:=r'.length
    obtain ⟨o,ho,hc,n,hd⟩:=pl
    exact call_list_seq p (.inr rfl) ho hc hd (fun h' c' kp e => fin its r' hz h' c' kp e) (by simp only [List.size_toArray] <;> omega)
theorem call_tuple_of:CallR X (.type "tuple") (fun xs H Q => ∃ p ys,xs=[.ref p]∧((SqL X.K H p ys∧∀ l,H l=none→Q (.ref l) (upd H l (.tup ys)))∨(SqT X.K H p ys∧Q (.ref p) H))):=by
  intro pins s σ H xs us Q I r h
  obtain ⟨p,ys,rfl,h⟩:=h
  obtain ⟨u,rfl,rx⟩:=vals1 r
  cases rx
  rcases h with ⟨hq,q⟩ | ⟨hq,q⟩
  · obtain ⟨its,r',pl,hz⟩:=I.list hq
    have hlen:=r'.length
    refine call_tuple_list pl.isList (fun h' kp => ?_) (by simp only [List.size_toArray] <;> omega)
    have I1:Inv X pins σ H { s with heap:=h' }:=I.kept (t':=s.toks) kp
    have I2:Inv X pins σ (upd H h'.objs.size (.tup ys)) { s with heap:=h'.push { cls:=.type "tuple",data:=.seq its.toArray } } :=
      I1.laid (t':=s.toks) (fun b o e => Heap.get?_push_of_some _ e) (Nat.le_refl _) (show ObjOk X.prog X.w _ _ _ (.tup ys) from ⟨hz,its,r',IsTup.new _ _⟩)
    exact ⟨.ref h'.objs.size,_,I2,rfl,q _ (I1.hok.fresh (Nat.le_refl _))⟩
  · obtain ⟨its,r',pl,hz⟩:=I.tuple hq
    exact call_tuple_same pl ⟨.ref p,H,I,rfl,q⟩
def tyV (K:PySem.W.Frag) (T:String) (x:V) (H:Hp):Prop:=match x with
  | .str _ => T = "str"
  | .int _ => T = "int"
  | .ref p => (T = "list"∧∃ xs,SqL K H p xs)∨(T = "tuple"∧∃ o,K.lookup p=some o∧o.cls = .type "tuple"∧o.dict=none) ∨
      (T = "dict"∧((∃ kvs,H p=some (.dK kvs))∨∃ kvs,H p=some (.dT kvs)))∨(T = "set"∧∃ S n,H p=some (.set S n))
  | _ => False
theorem tyV_is {pins:List (Addr×Obj)} {σ : St} {H:Hp} {s:Shared} {T:String} {x:V} {v:Value} (I:Inv X pins σ H s) (r:RelV x v) (ty:tyV X.K T x H) :
    s.TypeIs v T∧∀ a,v = .ref a→∃ ob,s.heap.get? a=some ob∧ob.dict=none:=by
  cases x with
  | str z =>
    obtain ⟨t,rfl⟩:=r
    cases (show T = "str" from ty)
    exact ⟨typeIs_str s z t,fun _ e => nomatch e⟩
  | int i =>
    obtain ⟨t,rfl⟩:=r
    cases (show T = "int" from ty)
    exact ⟨typeIs_int s i t,fun _ e => nomatch e⟩
  | ref p =>
    cases r
    rcases ty with ⟨rfl,xs,hq⟩ | ⟨rfl,o,hk,hc,hd⟩ | ⟨rfl,hk⟩ | ⟨rfl,S,n,hk⟩
    · obtain ⟨its,_,pl,_⟩:=I.list hq
      refine ⟨pl.isList.typeIs,fun a e => ?_⟩
      cases e
      obtain ⟨o,n,e,c,hd,_⟩:=pl
      exact ⟨o,e,hd⟩
    · refine ⟨⟨o,I.kIn p o hk,hc⟩,fun a e => ?_⟩
      cases e
      exact ⟨o,I.kIn _ o hk,hd⟩
    · have z:∃ o,s.heap.get? p=some o∧o.ExactDict:=by
        rcases hk with ⟨kvs,hk⟩ | ⟨kvs,hk⟩
        · obtain ⟨_,_,_,_,o,_,_,e,ex,_⟩:=I.hok p _ hk
          exact ⟨o,e,ex⟩
        · obtain ⟨_,_,_,_,o,_,_,e,ex,_⟩:=I.hok p _ hk
          exact ⟨o,e,ex⟩
      obtain ⟨o,e,ex⟩:=z
      refine ⟨⟨o,e,ex.1⟩,fun a e2 => ?_⟩
      cases e2
      exact ⟨o,e,ex.2.1⟩
    · obtain ⟨o,_,_,_,e,ex,_⟩:=I.hok p _ hk
      refine ⟨⟨o,e,ex.1⟩,fun a e2 => ?_⟩
      cases e2
      exact ⟨o,e,ex.2.1⟩
  | _ => exact False.elim ty
def tBM (K:PySem.W.Frag) (T:String) (r:V→List V→Hp→VK→Prop) (to:TE) (t:TA):TE:=fun σ H Q => to σ H fun x H1 => tyV K T x H1∧t σ H1 fun xs H2 => r x xs H2 Q
variable {o e:Expr} {es:List Expr} {to:TE} {t:TA} {name:Str} {apos cpos:Pos} {T id:String} {r:V→List V→Hp→VK→Prop}
theorem pe_bm (pa:PlainAttrs T) (slot:Slot T name id) (hty:typeOf (.builtin id)=pure (.type "method_descriptor")) (hm:MtR X id r) (ho:PE X o to) (ha:PA X (e :: es) t)
    (hbase:attributeBase o name X.env (eval o X.env)=eval o X.env:=by rfl)
    (hfew:((backTo cpos (starEach (e :: es) X.env)).all (fun x => !x.1) && (backToKw cpos (keywordEach [] X.env)).all (fun x => x.1.isSome)
      && decide ((e :: es).length + ([]:List Keyword).length + (if ([]:List Keyword).isEmpty then 0 else 1) < 30))=true:=by rfl)
    (hline:(apos.endLine == cpos.line)=true:=by rfl) (hs:starEach (e :: es) X.env=(false,eval e X.env) :: starEach es X.env:=by rfl) (hplain:(backTo cpos (starEach es X.env)).any (·.1)=false:=by rfl) :
    PE X (.Call (.Attribute o name apos) (e :: es) [] cpos) (tBM X.K T r to t):=by
  intro pins s σ H Q I h
  refine wpAny_Call_method_late hbase hfew hline rfl (thn (ho pins s σ H _ I h) fun v s1 ⟨x,H1,I1,r1,ty,q1⟩ => ?_)
  obtain ⟨h1,h2⟩:=tyV_is I1 r1 ty
  refine ⟨T,id,pa,slot,hty,h1,h2,?_⟩
  have hA:=ha cpos pins s1 σ H1 _ I1 q1
  rw [hs] at hA ⊢
  refine Calls.callWith_builtin (by show (false || (backTo cpos (starEach es X.env)).any (·.1))=false; rw [hplain] <;> rfl) (Calls.evalArgs_plain ?_)
  exact thn hA fun us s2 ⟨vs,H2,I2,r2,q2⟩ => hm pins s2 σ H2 x vs v us Q I2 r1 r2 q2
end
end L2
namespace L2
open PySem PySem.Spec PyProof.Rows
def MtM (X:Cx) (id:String) (r:V→List V→Hp→VK→Prop):Prop :=
  ∀ (pins:List (Addr×Obj)) (s:Shared) (σ : St) (H:Hp) (x:V) (xs:List V) (v:Value) (us:List Value) (Q:VK),Inv X pins σ H s→RelV x v→Vals xs us→r x xs H Q →
    wpAny (model X.prog X.w) X.A (call (.builtin id) (v :: us)) (EP X pins σ Q) X.xe s
theorem Vals.one:∀ {x:V} {us:List Value},Vals [x] us→∃ u,us=[u]∧RelV x u
  | _,_,.cons r .nil => ⟨_,rfl,r⟩
theorem Vals.two:∀ {x y:V} {us:List Value},Vals [x,y] us→∃ u v,us=[u,v]∧RelV x u∧RelV y v
  | _,_,_,.cons r (.cons q .nil) => ⟨_,_,rfl,r,q⟩
section
variable {X:Cx} {pins:List (Addr×Obj)} {σ : St} {H:Hp} {s:Shared} {l b:Addr} {xs ys zs:List V}
theorem Inv.lset {its its':List Value} {n:Nat} {f:Array Value→Array Value} {t':Nat} (I:Inv X pins σ H s) (hH:H l=some (.lst xs))
    (e:s.heap.get? l=some { cls:=.type "list",data:=.seq its.toArray n }) (hf:f its.toArray=its'.toArray) (hv:Vals ys its') (hz:ys.length≤sizeLine) :
    Inv X pins σ (upd H l (.lst ys)) { s with heap:=s.heap.update l (Obj.mapSeq f),toks:=t' }:=by
  have q:=PySem.IsL.update e f
  rw [hf] at q
  refine I.write (x:=l) (e:=l) (by rw [hH]; exact trivial) (.inl rfl) (fun b' u hb hu => (Heap.get?_update_other s.heap (Obj.mapSeq f) (Ne.symm hb)).trans hu) ⟨_,q⟩ ?_
  exact ⟨hz,its',_,hv,q⟩
theorem Inv.lnew {its:List Value} {t':Nat} (I:Inv X pins σ H s) (hv:Vals ys its) (hz:ys.length≤sizeLine) :
    Inv X pins σ (upd H s.heap.objs.size (.lst ys)) { s with heap:=s.heap.push { cls:=.type "list",data:=.seq its.toArray },toks:=t' } :=
  I.laid (fun _ _ q => Heap.get?_push_of_some _ q) (Nat.le_refl _) ⟨hz,its,0,hv,Heap.get?_push_size _ rfl⟩
theorem Inv.fresh (I:Inv X pins σ H s):H s.heap.objs.size=none:=I.hok.fresh (Nat.le_refl _)
theorem Inv.lstM (I:Inv X pins σ H s) (hH:H l=some (.lst xs)):xs.length≤sizeLine∧∃ (its:List Value) (n:Nat),Vals xs its∧xs.length=its.length∧s.heap.get? l=some { cls:=.type "list",data:=.seq its.toArray n }:=by
  obtain ⟨z,its,n,r,e⟩:=I.hok l _ hH
  exact ⟨z,its,n,r,r.length,e⟩
end
section
variable {X:Cx}
def rAppend:V→List V→Hp→VK→Prop:=fun x vs H Q => ∃ l xs y,x = .ref l∧vs=[y]∧H l=some (.lst xs)∧xs.length < sizeLine∧Q .non (upd H l (.lst (xs ++ [y])))
theorem mt_append:MtM X "list.append" rAppend:=by
  intro pins s σ H x vs v us Q I rx rv h
  obtain ⟨l,xs,y,rfl,rfl,hH,hz,q⟩:=h
  cases rx
  obtain ⟨u,rfl,ru⟩:=rv.one
  obtain ⟨z,its,n,r,hl,e⟩:=I.lstM hH
  refine call_meets F.slot_list_append ⟨_,e,rfl⟩ F.entry_list_append (F.args_list_append_2 _ _) (PySem.list_append l its.toArray n u (by rw [List.size_toArray]; omega)) ⟨e,?_⟩
  refine ⟨.non,_,I.lset (its':=its ++ [u]) hH e (by simp) (r.append (.cons ru .nil)) ?_,rfl,q⟩
  rw [List.length_append,List.length_singleton]
  omega
def rCat:R2:=fun x y H Q => ∃ l b xs zs,x = .ref l∧y = .ref b∧H l=some (.lst xs)∧H b=some (.lst zs)∧xs.length + zs.length≤sizeLine∧∀ p,H p=none→Q (.ref p) (upd H p (.lst (xs ++ zs)))
theorem op_cat:OpR X (binaryOp .Add) rCat:=by
  intro pins s σ H x y v u Q I rx ry h
  obtain ⟨l,b,xs,zs,rfl,rfl,hH,hB,hz,q⟩:=h
  cases rx
  cases ry
  obtain ⟨z,its,n,r,hl,e⟩:=I.lstM hH
  obtain ⟨z2,its2,n2,r2,hl2,e2⟩:=I.lstM hB
  refine PySem.P.add_list e e2 ?_ (by rw [List.size_toArray,List.size_toArray]; omega)
  have ea:its.toArray ++ its2.toArray=(its ++ its2).toArray:=by simp
  rw [ea]
  exact ⟨.ref _,_,I.lnew (t':=s.toks) (r.append r2) (by rw [List.length_append]; omega),rfl,q _ I.fresh⟩
end
section
variable {prog:Program} {w:World} {A:Around} {E:Value→Shared→Prop} {s:Shared}
end
section
variable {X:Cx}
end
end L2
namespace Att
open PySem PySem.W PySem.Calls PyProof.Rows
theorem ints_of_wellAll {P:Params} {h:Heap}:∀ (ns:List Int) (vs:List Value),WellAll P h vs (ns.map WData.int)→IntsAre vs ns:=by
  intro ns
  induction ns with
  | nil =>
    intro vs w
    rw [List.map_nil] at w
    cases w
    exact .nil
  | cons n ns ih =>
    intro vs w
    rw [List.map_cons] at w
    cases w with
    | cons a b =>
      cases a
      exact .cons _ _ (ih _ b)
theorem script_of {l:OpenLaw} {n:Nat} (hn:l.most=some n) {P:Params} {h:Heap} {args:List WData} {vals:List Value}
    (hpre:l.row.toRowW.claim.pre args=true) (hwl:WellAll P h vals args) :
    ∃ a vs ns,vals=[Value.ref a]∧args=[WData.list (ns.map WData.int)]∧h.get? a=some { cls:=.type "list",data:=.seq vs.toArray }∧IntsAre vs ns∧ns.length≤n:=by
  have hsh:WShape.hasAll [] args [.list .int] = true:=(pre_splitW hpre).1
  have hc:l.pre.holds [] { args:=args } = true:=(pre_splitW hpre).2
  obtain ⟨d,r,rfl,h1,h2⟩:=hasAllW_cons hsh
  obtain rfl:=hasAllW_nil h2
  obtain ⟨xs,rfl,h3⟩:=hasW_list h1
  obtain ⟨ns,rfl⟩:=items_int h3
  have hlen:ns.length≤n:=by
    unfold OpenLaw.pre at hc
    have h4:(WTm.not (.lt (.lit (.int (n:Int))) (.len (.arg 0)))).holds [] { args:=[.list (ns.map .int)] } = true:=by
      have h4:=(holds_andW hc).1
      rw [hn] at h4
      exact h4
    have h5:=condW_of h4 (w_not (w_lt w_lit (w_len_list (w_arg rfl))))
    rw [List.length_map] at h5
    refine Nat.le_of_not_lt fun q => ?_
    have q':(n:Int) < ((ns.length:Nat):Int):=by omega
    first
      | (rw [decide_eq_true q'] at h5; exact absurd h5 (by decide))
      | (simp at h5; omega)
  cases hwl with
  | cons w1 w2 =>
    cases w2
    cases w1 with
    | list ho hall => exact ⟨_,_,ns,rfl,rfl,ho,ints_of_wellAll ns _ hall,hlen⟩
theorem post_true (l:OpenLaw) (args:List WData):l.row.toRowW.claim.post args (.bool true) args=true :=
  postW_of (r:=l.row.toRowW) (X:=(true == true))
    (show WShape.has [] (.bool true) .bool=true by first | rfl | decide | simp [WShape.has,WShape.arms,WShape.armsAll])
    (show (WTm.eq .res (.lit (.bool true))).value [] { args:=args,res:=some (.bool true),after:=args } = some (.bool (true == true)) from w_eq_bool (w_res rfl) w_lit) rfl
theorem attach_call {l:OpenLaw} {n:Nat} {q:Program} {loose:List Str} {XP:(Str→Option Value)→Heap→Prop} {YP:World→Heap→Prop} {d:DefRec}
    (hn:l.most=some n) (hdf:d.params.defaults=[])
    (call:∀ (w:World) (s₀ s₁:Shared) (mg mb:Str→Option Value) (fa:Addr) (o:Obj) (pm cd doc:Value) (a:Addr) (vs:List Value) (ns:List Int),
      Ground q loose [] XP w s₀ mg mb s₁.heap→YP w s₁.heap →
      s₁.heap.get? fa=some o→o.data = .func (docDef d.name d.params d.body d.scope pm cd doc)→s₁.heap.CodeRec cd d.name→mg d.name=some (.ref fa) →
      s₁.heap.get? a=some { cls:=.type "list",data:=.seq vs.toArray }→IntsAre vs ns→ns.length≤n→s₁.gens = #[] →
      codeAny (model l.prog w) callerA (.call (.ref fa) ⟨[.ref a],[]⟩) (fun r s' => r = .ok (.ret (.bool true))∧OldK s₁.heap s'.heap∧s'.os=s₁.os∧AllBare s'.gens) s₁) :
    WalkO q loose XP YP l.row.toRowW d [] (fun f vs => PySem.call f vs):=by
  intro w s₀ s₁ mg mb G Y fa o pm cd doc dV kV ho hd hcd hD hmg hg args vals as hpre hlay hrd hwl hlo
  obtain rfl:dV = .none:=Dflts.none hD hdf
  obtain rfl:kV = .none:=Dflts.noKw hD
  obtain ⟨a,vs,ns,rfl,rfl,hobj,hints,hlen⟩:=script_of hn hpre hwl
  refine enter_call (codeAny_mono (call w s₀ s₁ mg mb fa o pm cd doc a vs ns G Y ho (fd_plain hd) hcd hmg hobj hints hlen hg) fun r s' hq => ?_)
  obtain ⟨rfl,h2,h3,h4⟩:=hq
  exact ⟨.inl ⟨.bool true,.bool true,[],rfl,fun _ => rfl,.bool true,post_true l _,fun _ => ⟨List.Pairwise.nil,fun _ hm => (nomatch hm)⟩⟩,h2,h3,h4⟩
section
variable {prog:Program} {w:World} {A:Around} {E:Value→Shared→Prop} {s:Shared} {K:Frag}
end
end Att
namespace L2
open PySem PySem.Spec PyProof.Rows
theorem vals_ints:∀ {vs:List Value} {ns:List Int},IntsAre vs ns→Vals (ns.map V.int) vs
  | _,_,.nil => .nil
  | _,_,.cons n t h => .cons ⟨t,rfl⟩ (vals_ints h)
def Only (H:Hp):Prop := ∀ b,H b=none∨∃ o xs,H b=some (.frz o (.lst xs))
theorem law_call {P:Program} {w:World} {K:PySem.W.Frag} {mg mb:Str→Option Value} {CX:CXT} {k:Nat} {fa a:Addr} {fd:FuncData} {x:Str} {sp:Sp} {s₁:Shared} {vs:List Value} {ns:List Int}
    (KX:K.In s₁.heap) (hns:s₁.heap.Ns mainGlobals mg) (hb:s₁.heap.Ns builtinsNs mb) (hbb:∀ x:Str,x≠"__name__"→mb x=bootBuiltins x) (hlim:s₁.heap.NoLimit) (hg:s₁.gens = #[])
    (ha:s₁.heap.get? a=some { cls:=.type "list",data:=.seq vs.toArray }) (hi:IntsAre vs ns) (hl:ns.length≤sizeLine) (hr:Room k callerA)
    (F:∀ base:Heap,K.In base→base.Ns mainGlobals mg→FnOk P w K mg base CX k fa fd [x] sp) (hbind:∀ (s:Shared) (u:Value),BindsTo s fd ⟨[u],[]⟩ [(x,u)])
    (hsp:∀ H:Hp,Only H→SqL K H a (ns.map V.int)→sp [.ref a] H (fun v _ => v = .bl true) fun _ _ _ => False)
    (hCX:∀ H e s',CX [] H s₁ (fun _ _ _ => False) e s'→False) :
    codeAny (model P w) callerA (.call (.ref fa) ⟨[.ref a],[]⟩) (fun r s' => r = .ok (.ret (.bool true))∧OldK s₁.heap s'.heap∧s'.os=s₁.os∧AllBare s'.gens) s₁:=by
  have rv:=vals_ints hi
  have lenV:=hi.length
  have core:∀ H:Hp,Only H→SqL K H a (ns.map V.int)→HOk P w H s₁.heap→(∀ b,H b≠none→b=a)→(H a≠none→K.lookup a=none) →
      codeAny (model P w) callerA (.call (.ref fa) ⟨[.ref a],[]⟩) (fun r s' => r = .ok (.ret (.bool true))∧OldK s₁.heap s'.heap∧s'.os=s₁.os∧AllBare s'.gens) s₁:=by
    intro H hO hS hok hA hK
    have base_of:∀ {b:Addr} {o:Obj},s₁.heap.get? b=some o→H b=none→(hidT s₁.heap H).get? b=some o:=fun e n => hidT_get e n
    have noA:∀ {b:Addr} {o:Obj} {es:Array DictEntry} {ep:Nat},s₁.heap.get? b=some o→o.data = .dict es ep→H b=none:=fun {b o es ep} e d => by
      cases q:H b with
      | none => rfl
      | some u =>
        have e':b=a:=hA b (by rw [q]; simp)
        subst e'
        rw [ha] at e; cases e
        have d':Data.seq vs.toArray _=Data.dict es ep:=d
        cases d'
    have nsK:∀ {b:Addr} {m:Str→Option Value},s₁.heap.Ns b m→(hidT s₁.heap H).Ns b m:=fun {b m} ⟨o,es,ep,e,d,r⟩ => ⟨o,es,ep,base_of e (noA e d),d,r⟩
    have hKb:K.In (hidT s₁.heap H):=fun b o e => base_of (KX b o e) (by
      cases q:H b with
      | none => rfl
      | some u =>
        have e':b=a:=hA b (by rw [q]; simp)
        subst e'
        rw [hK (by rw [q]; simp)] at e; cases e)
    have hM:Mod K mg (hidT s₁.heap H):=⟨hKb,nsK hns,⟨mb,nsK hb,hbb⟩,let ⟨mc,h1,h2⟩:=hlim; ⟨mc,nsK h1,h2⟩⟩
    have e0:Env0 P w K mg (hidT s₁.heap H) callerA [] s₁ H:=⟨rfl,hM,fun b o e => of_hidT e,Nat.le_of_eq (hidT_size _ _),trivial,fun b hb => absurd (show b∈([]:List Addr) from hb) (by simp),hok,.of_eq hg⟩
    refine codeAny_mono ((F _ hKb (nsK hns)).run callerA [] s₁ H ⟨[.ref a],[]⟩ [.ref a] [.ref a] _ _ hr e0 (hbind s₁ (.ref a)) (.cons rfl .nil) (hsp H hO hS)) fun r s' h => ?_
    cases r with
    | error e => exact (hCX H e s' h).elim
    | ok fl =>
      cases fl with
      | next => exact False.elim h
      | brk => exact False.elim h
      | cont => exact False.elim h
      | ret u =>
        obtain ⟨v,H',os,bare,un,hok',r',q⟩:=h
        have q':v = .bl true:=q
        subst q'
        obtain rfl:u=Value.bool true:=r'
        refine ⟨rfl,OldK.of_keep fun b o e => ?_,os,bare⟩
        cases q:H b with
        | none => exact un.keep b o e q (by intro z; exact absurd (show b∈([]:List Addr) from z) (by simp)) (by simp)
        | some u =>
          rcases hO b with z | ⟨ob,xs,z⟩
          · rw [q] at z; cases z
          · have z2:=un.frzs b ob _ z
            obtain ⟨e1,_⟩:=hok b _ z
            obtain ⟨e2,_⟩:=hok' b _ z2
            rw [e] at e1; cases e1
            exact e2
  cases hk:K.lookup a with
  | some o =>
    have e:=KX a o hk
    rw [ha] at e
    cases e
    refine core (fun _ => none) (fun _ => .inl rfl) (.inr ⟨_,vs.toArray,_,hk,rfl,rfl,rfl,by rw [List.size_toArray,lenV]; exact hl,by simpa using rv⟩) (fun b u z => by have z':(none:Option HO)=some u:=z; cases z') (fun b z => absurd rfl z) fun z => absurd rfl z
  | none =>
    refine core (fun b => if b=a then some (.frz { cls:=.type "list",data:=.seq vs.toArray } (.lst (ns.map V.int))) else none) (fun b => ?_) (.inl (.inr ⟨{ cls:=.type "list",data:=.seq vs.toArray },if_pos rfl⟩)) (fun b u z => ?_) (fun b z => ?_) fun _ => hk
    · by_cases hb:b=a
      · exact .inr ⟨_,_,if_pos hb⟩
      · exact .inl (if_neg hb)
    · by_cases hb:b=a
      · have z':=(if_pos hb).symm.trans z
        cases z'
        subst hb
        exact ⟨ha,by rw [List.length_map]; exact hl,vs,_,rv,ha⟩
      · have z':=(if_neg hb).symm.trans z
        cases z'
    · by_cases hb:b=a
      · exact hb
      · exact absurd (if_neg hb) z
end L2
namespace L2
open PySem PySem.Spec PyProof.Rows
theorem walk_of {l:PySem.W.OpenLaw} {n k:Nat} {q:Program} {loose:List Str} {XP:(Str→Option Value)→Heap→Prop} {YP:World→Heap→Prop} {d:DefRec} {K:Params→PySem.W.Frag} {CX:World→CXT} {sp:World→Sp} {x:Str}
    (hn:l.most=some n) (hn2:n≤sizeLine) (hdf:d.params.defaults=[]) (hr:Room k callerA)
    (hY:∀ (w:World) (h:Heap),YP w h→(K w.params).In h)
    (F:∀ (w:World) (mg:Str→Option Value) (fa:Addr) (h:Heap),(K w.params).In h→h.Ns mainGlobals mg→mg d.name=some (.ref fa) →
      ∃ fd:FuncData,(∀ (s:Shared) (u:Value),BindsTo s fd ⟨[u],[]⟩ [(x,u)]) ∧
        ∀ base:Heap,(K w.params).In base→base.Ns mainGlobals mg→FnOk l.prog w (K w.params) mg base (CX w) k fa fd [x] (sp w))
    (hsp:∀ (w:World) (H:Hp) (a:Addr) (ns:List Int),ns.length≤n→Only H→SqL (K w.params) H a (ns.map V.int)→sp w [.ref a] H (fun v _ => v = .bl true) fun _ _ _ => False)
    (hCX:∀ (w:World) (H:Hp) (s:Shared) (e:Value) (s':Shared),CX w [] H s (fun _ _ _ => False) e s'→False) :
    PySem.W.WalkO q loose XP YP l.row.toRowW d [] (fun f vs => PySem.call f vs):=by
  refine Att.attach_call hn hdf fun w s₀ s₁ mg mb fa o pm cd doc a vs ns G Y ho hd hcd hmg hobj hints hlen hg => ?_
  have KX:=hY w _ Y
  obtain ⟨fd,hb,hF⟩:=F w mg fa _ KX G.T.g hmg
  exact law_call KX G.T.g G.T.b G.T.builtins G.T.nolimit hg hobj hints (Nat.le_trans hlen hn2) hr hF hb (fun H hO hS => hsp w H a ns hlen hO hS) fun H e s' => hCX w H s₁ e s'
end L2
namespace L2
open PySem PySem.Spec PyProof.Rows
def inClass (s:Stmt) (j:Nat):Stmt:=match s with
  | .ClassDef _ _ _ body _ _ _ _ _ _ _ => body.getD j (.Pass ⟨0,0,0,0⟩)
  | _ => .Pass ⟨0,0,0,0⟩
def defArgs (s:Stmt):Arguments:=match s with
  | .FunctionDef _ a _ _ _ _ _ _ _ _ => a
  | _ => { posonlyargs:=[],args:=[],vararg:=none,kwonlyargs:=[],kw_defaults:=[],kwarg:=none,defaults:=[] }
def defBody (s:Stmt):List Stmt:=match s with
  | .FunctionDef _ _ b _ _ _ _ _ _ _ => b
  | _ => []
def defScope (s:Stmt):Scope:=match s with
  | .FunctionDef _ _ _ _ _ _ sc _ _ _ => sc
  | _ => { kind:=.function,names:=[],isGenerator:=false,isCoroutine:=false }
abbrev CX0:CXT:=fun _ _ _ _ _ _ => False
abbrev E0:XK:=fun _ _ _ => False
theorem pass0 {X:Cx}:Passes CX0 X E0:=fun _ _ _ _ _ _ _ h => h.elim
structure Fun (K:PySem.W.Frag) (x qual:Str) (st:Stmt) (f:Addr) (fd:FuncData):Prop where
  ex:∃ (oc:Value) (od:Option Addr) (kV doc pm:Value) (an:Option Addr) (cdv ct:Value) (osl:Array (Option Value)),
    fd=PySem.W.fnOf x qual (defArgs st) (defBody st) (defScope st) .none kV doc pm an cdv ct∧K.lookup f=some ⟨oc,od,.func fd,osl⟩∧PySem.W.codeIn K cdv qual=true
  kp:PySem.W.keepIn K (.ref f)=true
section
variable {P:Program} {w:World} {K:PySem.W.Frag} {mg:Str→Option Value} {base:Heap}
theorem Fun.ok {x qual:Str} {st:Stmt} {f:Addr} {fd:FuncData} {N ps:List Str} {k:Nat} {sp:Sp} (F:Fun K x qual st f fd) (S:FnScope N ps (defScope st)) (len:∀ vs H Q E,sp vs H Q E→vs.length=ps.length)
    (hbody:∀ (cdv:Value) (A:Around) (outer:List Env) (s:Shared) (H:Hp) (vs:List V) (Q:VK) (E:XK),Room k (A.deeper (envOfC qual (defScope st) s.heap.objs.size f cdv))→sp vs H Q E →
      ∃ t,PSs (cxOf CX0 P w K mg base N qual (defScope st) f cdv A outer s H E).nox (defBody st) t∧t { nx:=fun _ H' => Q .non H',rt:=Q } (start N vs) H):FnOk P w K mg base CX0 (k + 1) f fd ps sp:=by
  obtain ⟨oc,od,kV,doc,pm,an,cdv,ct,osl,rfl,lk,hcd⟩:=F.ex
  refine fn_of lk hcd S len fun A outer s H vs Q E hr hsp => ?_
  obtain ⟨t,h,q⟩:=hbody cdv A outer s H vs Q E hr hsp
  exact ⟨t,h.nox,q⟩
theorem Fun.binds {x qual:Str} {st:Stmt} {f:Addr} {fd:FuncData} {ps:List Str} (F:Fun K x qual st f fd)
    (h:∀ (kV doc pm:Value) (an:Option Addr) (cdv ct:Value) (us:List Value),us.length=ps.length→bindArgs (PySem.W.fnOf x qual (defArgs st) (defBody st) (defScope st) .none kV doc pm an cdv ct) ⟨us,[]⟩ = pure (ps.zip us)):Binds K fd ps []:=by
  obtain ⟨oc,od,kV,doc,pm,an,cdv,ct,osl,rfl,lk,hcd⟩:=F.ex
  exact .all (h kV doc pm an cdv ct)
theorem fun_mk {x qual:Str} {st:Stmt} {f:Addr} {oc:Value} {od an:Option Addr} {osl:Array (Option Value)} {kV doc pm cdv ct:Value} (l:K.lookup f=some ⟨oc,od,.func (PySem.W.fnOf x qual (defArgs st) (defBody st) (defScope st) .none kV doc pm an cdv ct),osl⟩)
    (c:PySem.W.codeIn K cdv qual=true) (k:PySem.W.keepIn K (.ref f)=true):Fun K x qual st f (PySem.W.fnOf x qual (defArgs st) (defBody st) (defScope st) .none kV doc pm an cdv ct):=⟨⟨oc,od,kV,doc,pm,an,cdv,ct,osl,rfl,l,c⟩,k⟩
end
theorem small1000 {n:Nat} (h:n≤1000):n < sizeLine:=Nat.lt_of_le_of_lt h (by decide)
section
variable {X:Cx}
theorem pv (i:Nat) {x:Str} {pos:Pos} (hN:X.N[i]? = some x:=by rfl) (hv:Vis X.env.scope x:=by first | exact Or.inl rfl | exact Or.inr (Or.inl rfl) | exact Or.inr (Or.inr rfl)) (hd:(x == ("__debug__" : Str))=false:=by decide)
    (hcd:(x == ("__classdict__" : Str))=false:=by decide):PE X (.Name x pos) (tVar i):=pe_var hN hv hd hcd
end
theorem iteF {A B:Prop} (h:B):if false=true then A else B:=by
  rw [if_neg Bool.false_ne_true]
  exact h
theorem iteT {A B:Prop} (h:A):if true=true then A else B:=by
  rw [if_pos rfl]
  exact h
theorem ite2 {c A B:Prop} [Decidable c] (h1:c→A) (h2:¬ c→B):if c then A else B:=by
  by_cases h:c
  · rw [if_pos h]
    exact h1 h
  · rw [if_neg h]
    exact h2 h
theorem iteNS {c A B:Prop} [Decidable c] (hc:c) (h:B):if (!decide c)=true then A else B:=by
  rw [decide_eq_true hc]
  exact iteF h
def Same (H H':Hp):Prop := ∀ b o,H b=some o→H' b=some o
theorem Same.refl (H:Hp):Same H H:=fun _ _ h => h
theorem Same.trans {H H1 H2:Hp} (a:Same H H1) (b:Same H1 H2):Same H H2:=fun c o h => b c o (a c o h)
theorem Same.free {H H':Hp} (e:Same H H') {l:Addr} (h:H' l=Option.none):H l=Option.none:=by
  cases q:H l with
  | none => rfl
  | some o =>
    rw [e l o q] at h
    cases h
theorem Same.seq {K:PySem.W.Frag} {H H':Hp} {a:Addr} {xs:List V} (e:Same H H') (h:SqL K H a xs):SqL K H' a xs:=by
  rcases h with (h | ⟨o,h⟩) | h
  · exact .inl (.inl (e _ _ h))
  · exact .inl (.inr ⟨o,e _ _ h⟩)
  · exact .inr h
end L2
set_option linter.all false
namespace Rm
def hold (hs:List Int) (i:Nat):Int:=hs.getD i (-1)
structure Tree (hs:List Int):Prop where
  pos : 0 < hs.length
  root:hold hs 0 = -1
  up:∀ i:Nat,0 < i→i < hs.length→0≤hold hs i∧hold hs i < (i:Int)
def kids (hs:List Int) (k:Int):List Int:=((List.range hs.length).filter fun j => decide (hold hs j=k)).map fun (j:Nat) => (j:Int)
def chain (hs:List Int) (i:Nat):List Nat :=
  if h : 0≤hold hs i∧hold hs i < (i:Int) then i :: chain hs (hold hs i).toNat else [i]
termination_by i
decreasing_by omega
theorem chain_up {hs:List Int} {i:Nat} (h : 0≤hold hs i∧hold hs i < (i:Int)):chain hs i=i :: chain hs (hold hs i).toNat:=by
  rw [chain,dif_pos h]
theorem chain_top {hs:List Int} {i:Nat} (h:¬ 0≤hold hs i):chain hs i=[i]:=by
  rw [chain,dif_neg fun z => h z.1]
theorem chain_self (hs:List Int) (i:Nat):i∈chain hs i:=by
  rw [chain]; split <;> exact List.mem_cons_self
theorem chain_le {hs:List Int} {j:Nat}:∀ i:Nat,j∈chain hs i→j≤i:=by
  intro i
  induction i using Nat.strongRecOn with
  | ind i ih =>
    intro h
    by_cases z : 0≤hold hs i∧hold hs i < (i:Int)
    · rw [chain_up z] at h
      rcases List.mem_cons.mp h with h | h
      · omega
      · have:=ih (hold hs i).toNat (by omega) h
        omega
    · rw [chain,dif_neg z] at h
      have:=List.mem_singleton.mp h
      omega
def wi (hs:List Int) (i j:Nat):Bool:=decide (j∈chain hs i)
theorem wi_step {hs:List Int} {p j:Nat} (h : 0≤hold hs p∧hold hs p < (p:Int)) (hj:j < p):wi hs p j=wi hs (hold hs p).toNat j:=by
  unfold wi
  rw [chain_up h]
  refine decide_eq_decide.mpr ⟨fun z => ?_,fun z => List.mem_cons_of_mem _ z⟩
  rcases List.mem_cons.mp z with z | z
  · omega
  · exact z
theorem wi_end {hs:List Int} {p j:Nat} (hj:p≤j):wi hs p j=decide (p=j):=by
  unfold wi
  refine decide_eq_decide.mpr ⟨fun z => ?_,fun z => z ▸ chain_self hs p⟩
  have:=chain_le p z
  omega
theorem hold_lt {hs:List Int} (T:Tree hs) {i:Nat} (hi:i < hs.length):hold hs i < (i:Int):=by
  by_cases h:i=0
  · subst h; rw [T.root]; decide
  · exact (T.up i (by omega) hi).2
theorem hold_get {hs:List Int} {i:Nat} (hi:i < hs.length):hs[i]? = some (hold hs i):=by
  unfold hold
  rw [List.getD_eq_getElem?_getD,List.getElem?_eq_getElem hi]; rfl
theorem kids_nil {hs:List Int} {k:Int}:kids hs k=[] ↔ ∀ j:Nat,j < hs.length→hold hs j≠k:=by
  unfold kids
  rw [List.map_eq_nil_iff,List.filter_eq_nil_iff]
  refine ⟨fun h j hj e => h j (List.mem_range.mpr hj) (decide_eq_true e),fun h j hj e => h j (List.mem_range.mp hj) (of_decide_eq_true e)⟩
theorem range_filter_succ (p:Nat→Bool) (i:Nat):(List.range (i + 1)).filter p=(List.range i).filter p ++ (if p i=true then [i] else []):=by
  rw [List.range_succ,List.filter_append]
  cases h:p i <;> simp [h]
def cell (ns:List Int) (k:Nat):Int:=ns.getD k 0
def lh (ns:List Int) (k:Nat):Int:=if k=0 then -1 else cell ns k % (k:Int)
def holders (ns:List Int) (m:Nat):List Int:=(List.range m).map (lh ns)
theorem holders_len (ns:List Int) (m:Nat):(holders ns m).length=m:=by simp [holders]
theorem holders_hold {ns:List Int} {m i:Nat} (hi:i < m):hold (holders ns m) i=lh ns i:=by
  unfold hold holders
  rw [List.getD_eq_getElem?_getD,List.getElem?_map,List.getElem?_range hi]; rfl
theorem holders_tree (ns:List Int) {m:Nat} (hm : 0 < m):Tree (holders ns m):=by
  refine ⟨by rw [holders_len]; exact hm,?_,fun i h0 hi => ?_⟩
  · rw [holders_hold hm]; rfl
  · rw [holders_len] at hi
    rw [holders_hold hi]
    unfold lh
    rw [if_neg (by omega)]
    exact ⟨Int.emod_nonneg _ (by omega),Int.emod_lt_of_pos _ (by omega)⟩
theorem holders_succ (ns:List Int) (m:Nat):holders ns (m + 1)=holders ns m ++ [lh ns m]:=by
  unfold holders
  rw [List.range_succ,List.map_append]; rfl
theorem mem_holders {ns:List Int} {m:Nat} {k:Int}:k∈holders ns m ↔ kids (holders ns m) k≠[]:=by
  rw [Ne,kids_nil]
  constructor
  · intro h z
    obtain ⟨j,hj,e⟩:=List.mem_map.mp h
    have hj:=List.mem_range.mp hj
    exact z j (by rw [holders_len]; exact hj) (by rw [holders_hold hj]; exact e)
  · intro h
    refine Classical.byContradiction fun z => h fun j hj e => z ?_
    rw [holders_len] at hj
    rw [holders_hold hj] at e
    exact List.mem_map.mpr ⟨j,List.mem_range.mpr hj,e⟩
end Rm
namespace Rm
theorem tail_lt {hs:List Int} {i j:Nat} (h:j∈(chain hs i).tail):j < i:=by
  by_cases z : 0≤hold hs i∧hold hs i < (i:Int)
  · rw [chain_up z] at h
    have:=chain_le _ h
    omega
  · rw [chain,dif_neg z] at h
    simp at h
def li (hs:List Int) (i j:Nat):Bool:=decide (j∈(chain hs i).tail)
theorem li_eq (hs:List Int) (i j:Nat):li hs i j=(!decide (i=j) && wi hs i j):=by
  have hc:chain hs i=i :: (chain hs i).tail:=by rw [chain]; split <;> rfl
  unfold li wi
  by_cases e:i=j
  · subst e
    have:¬ i∈(chain hs i).tail:=fun z => absurd (tail_lt z) (Nat.lt_irrefl _)
    simp [this]
  · have:j∈chain hs i ↔ j∈(chain hs i).tail:=by
      rw [hc]
      refine ⟨fun z => ?_,fun z => List.mem_cons_of_mem _ z⟩
      rcases List.mem_cons.mp z with z | z
      · exact absurd z.symm e
      · exact z
    simp [e,this]
def upper (hs:List Int) (h:Int):List Nat:=if 0≤h then chain hs h.toNat else []
theorem upper_neg (hs:List Int):upper hs (-1)=[]:=rfl
theorem tail_upper {hs:List Int} (T:Tree hs) {i:Nat} (hi:i < hs.length):(chain hs i).tail=upper hs (hold hs i):=by
  unfold upper
  by_cases z : 0≤hold hs i
  · rw [if_pos z,chain_up ⟨z,hold_lt T hi⟩]; rfl
  · rw [if_neg z,chain_top z]; rfl
theorem upper_step {hs:List Int} (T:Tree hs) {i:Nat} (hi:i < hs.length):upper hs (i:Int)=i :: upper hs (hold hs i):=by
  rw [← tail_upper T hi]
  unfold upper
  rw [if_pos (by omega),Int.toNat_natCast]
  rw [chain]; split <;> rfl
end Rm
namespace Rm
end Rm
set_option Elab.async false
set_option linter.all false
set_option maxRecDepth 100000
set_option maxHeartbeats 4000000
namespace L2
open PySem PySem.Spec PyProof.Rows
mutual
inductive RdV (K:PySem.W.Frag) (H:Hp):V→PyData→Prop
  | non:RdV K H .non .none
  | bl (b:Bool):RdV K H (.bl b) (.bool b)
  | int (i:Int):RdV K H (.int i) (.int i)
  | str (x:Str):RdV K H (.str x) (.str x)
  | lst {a:Addr} {xs:List V} {ds:List PyData}:SqL K H a xs→RdVs K H xs ds→RdV K H (.ref a) (.list ds)
  | tup {a:Addr} {xs:List V} {ds:List PyData}:SqT K H a xs→RdVs K H xs ds→RdV K H (.ref a) (.tuple ds)
inductive RdVs (K:PySem.W.Frag) (H:Hp):List V→List PyData→Prop
  | nil:RdVs K H [] []
  | cons {x:V} {d:PyData} {xs:List V} {ds:List PyData}:RdV K H x d→RdVs K H xs ds→RdVs K H (x :: xs) (d :: ds)
end
section
variable {X:Cx} {pins:List (Addr×Obj)} {σ : St} {H:Hp} {s:Shared}
mutual
theorem RdV.reads (I:Inv X pins σ H s):∀ {v:V} {d:PyData} {u:Value},RdV X.K H v d→RelV v u→∃ as,Reads s.heap u d as
  | _,_,u,.non,r => by
    cases (show u=Value.none from r)
    exact ⟨_,.none⟩
  | _,_,u,.bl b,r => by
    cases (show u=Value.bool b from r)
    exact ⟨_,.bool b⟩
  | _,_,u,.int i,r => by
    obtain ⟨t,q⟩:=(show ∃ t,u=Value.int i t from r)
    cases q
    exact ⟨_,.int i t⟩
  | _,_,u,.str x,r => by
    obtain ⟨t,q⟩:=(show ∃ t,u=Value.str x t from r)
    cases q
    exact ⟨_,.str x t⟩
  | _,_,u,.lst (a:=a) h hs,r => by
    cases (show u=Value.ref a from r)
    obtain ⟨its,rv,p,_⟩:=I.list h
    obtain ⟨o,ho,hc,n,hd⟩:=p.isList
    obtain ⟨as,q⟩:=RdVs.reads I hs rv
    exact ⟨_,.list ho hc hd (by simpa using q)⟩
  | _,_,u,.tup (a:=a) h hs,r => by
    cases (show u=Value.ref a from r)
    obtain ⟨its,rv,p,_⟩:=I.tuple h
    obtain ⟨o,ho,hc,n,hd⟩:=p
    obtain ⟨as,q⟩:=RdVs.reads I hs rv
    exact ⟨_,.tuple ho hc hd (by simpa using q)⟩
theorem RdVs.reads (I:Inv X pins σ H s):∀ {vs:List V} {ds:List PyData} {us:List Value},RdVs X.K H vs ds→Vals vs us→∃ as,ReadsAll s.heap us ds as
  | _,_,_,.nil,.nil => ⟨_,.nil⟩
  | _,_,_,.cons h hs,.cons r rs => by
    obtain ⟨as,q⟩:=RdV.reads I h r
    obtain ⟨bs,q'⟩:=RdVs.reads I hs rs
    exact ⟨_,.cons q q'⟩
end
def rEqD (K:PySem.W.Frag) (neg:Bool):R2:=fun x y H Q => ∃ da db,RdV K H x da∧RdV K H y db∧SeqAt.shaped da=true∧SeqAt.shaped db=true∧Q (.bl (if neg then !PyData.eqv da db else PyData.eqv da db)) H
theorem op_eqD (hu:X.A.units + 64 < cLine):OpR X (compareOp .Eq) (rEqD X.K false):=by
  intro pins s σ H x y v u Q I rx ry h
  obtain ⟨da,db,ra,rb,ha,hb,q⟩:=h
  obtain ⟨as,r1⟩:=ra.reads I rx
  obtain ⟨bs,r2⟩:=rb.reads I ry
  exact eq_dataH r1 r2 ha hb hu ⟨.bl _,H,I,rfl,q⟩
theorem call_isinst:CallR X (.builtin "isinstance") (fun xs H Q => ∃ x n t b,xs=[x,.ty n]∧TyOf X.K H x t∧PySem.W.kitOne X.K t (.type n)=some b∧Q (.bl b) H):=by
  intro pins s σ H xs us Q I r h
  obtain ⟨x,n,t,b,rfl,ty,e,q⟩:=h
  obtain ⟨u,u',rfl,rx,ry⟩:=Vals.two r
  cases (show u'=Value.type n from ry)
  exact isinst_ok I rx ty e fun tk => ⟨.bl b,H,I.tok tk,rfl,q⟩
end
structure Bk where
  cl:List (Str×Addr)
  C:Addr
  s:Shared
  H:Hp
  fp:List Addr
  pn:List (Addr×Obj)
def Cx.blk (X:Cx) (N':List Str) (sc:Scope) (b:Bk):Cx where
  prog:=X.prog
  w:=X.w
  K:=X.K
  mg:=X.mg
  base:=X.base
  A:=X.A
  N:=N'
  s₀:=b.s
  H₀:=b.H
  env:=compEnvC sc b.cl b.C X.env
  outer:=X.stack
  stack:=X.stack
  ex:=b.fp
  fn:=fun _ => false
  calm:=X.calm
  pn:=b.pn
  xe:=fun _ _ => False
def bst (ix:List (Option Nat)) (σ : St):St:=ix.map fun o => match o with
  | none => none
  | some j => (σ[j]?).getD none
def fromB (N:List Str) (names:List (Str×NameKind)):List Str→List (Option Nat)→Bool
  | x :: r,some j :: t => decide (N[j]? = some x) && decide (names.lookup x=some .free) && fromB N names r t
  | _ :: r,none :: t => fromB N names r t
  | [],[] => true
  | _,_ => false
theorem fromB_ok {N:List Str} {names:List (Str×NameKind)}:∀ {N':List Str} {ix:List (Option Nat)},fromB N names N' ix=true →
    ix.length=N'.length∧∀ (i j:Nat) (x:Str),N'[i]? = some x→ix[i]? = some (some j)→N[j]? = some x∧names.lookup x=some .free
  | [],[],_ => ⟨rfl,fun i j x e _ => by simp at e⟩
  | x :: r,some j :: t,h => by
    simp only [fromB,Bool.and_eq_true,decide_eq_true_eq] at h
    obtain ⟨hl,hf⟩:=fromB_ok (N':=r) (ix:=t) h.2
    refine ⟨by simp [hl],fun i k y e1 e2 => ?_⟩
    cases i with
    | zero =>
      simp at e1 e2
      subst e1 e2
      exact h.1
    | succ i => exact hf i k y (by simpa using e1) (by simpa using e2)
  | x :: r,none :: t,h => by
    simp only [fromB] at h
    obtain ⟨hl,hf⟩:=fromB_ok (N':=r) (ix:=t) h
    refine ⟨by simp [hl],fun i k y e1 e2 => ?_⟩
    cases i with
    | zero => simp at e2
    | succ i => exact hf i k y (by simpa using e1) (by simpa using e2)
  | [],some _ :: _,h => by simp [fromB] at h
  | [],none :: _,h => by simp [fromB] at h
  | _ :: _,[],h => by simp [fromB] at h
theorem forIn_pure {α β : Type} {f : α→β→Sem (ForInStep β)} (Pv:List α→β→Prop) (hs:∀ x l b,Pv (x :: l) b→∃ b',f x b=pure (.yield b')∧Pv l b') :
    ∀ (l:List α) (b : β),Pv l b→∃ b',forIn l b f=pure b'∧Pv [] b'
  | [],b,h => ⟨b,rfl,h⟩
  | x :: l,b,h => by
    obtain ⟨b1,e1,h1⟩:=hs x l b h
    obtain ⟨b2,e2,h2⟩:=forIn_pure Pv hs l b1 h1
    refine ⟨b2,?_,h2⟩
    rw [List.forIn_cons,e1,pure_bind]
    exact e2
def cstep (env:Env) (x:Str×NameKind) (r:List (Str×Addr)):Sem (ForInStep (List (Str×Addr))) :=
  if x.2 == .free then (do let c ← cellOf env x.1; pure (.yield ((x.1,c) :: r))) else pure (.yield r)
theorem closure_step (sc:Scope) (env:Env):closureFor sc env=(forIn sc.names [] (cstep env) >>= fun cs => pure cs):=by rfl
theorem closure_of {sc:Scope} {env:Env} (h:∀ p∈sc.names,p.2 = .free→∃ c,env.cells.lookup p.1=some c) :
    ∃ cl,closureFor sc env=pure cl∧(∀ x c,cl.lookup x=some c→env.cells.lookup x=some c)∧∀ p∈sc.names,p.2 = .free→∃ c,cl.lookup p.1=some c:=by
  obtain ⟨cl,e,_,h1,h2⟩:=forIn_pure (f:=cstep env)
    (fun l (b:List (Str×Addr)) => (∀ p∈l,p∈sc.names)∧(∀ x c,b.lookup x=some c→env.cells.lookup x=some c)∧∀ p∈sc.names,p.2 = .free→p∈l∨∃ c,b.lookup p.1=some c)
    (fun p l b ⟨g0,g1,g2⟩ => by
      unfold cstep
      by_cases hk:p.2 = .free
      · obtain ⟨c,hc⟩:=h p (g0 p List.mem_cons_self) hk
        have ec:cellOf env p.1=pure c:=by unfold cellOf; rw [hc]
        rw [hk,if_pos (by decide),ec,pure_bind]
        refine ⟨_,rfl,fun q hq => g0 q (List.mem_cons_of_mem _ hq),fun x d e => ?_,fun q hq hf => ?_⟩
        · rw [List.lookup_cons] at e
          cases hx:x == p.1 with
          | true =>
            rw [hx] at e
            cases e
            rw [eq_of_beq hx]; exact hc
          | false =>
            rw [hx] at e
            exact g1 x d e
        · rcases g2 q hq hf with z | ⟨d,hd⟩
          · rcases List.mem_cons.mp z with z | z
            · subst z
              exact .inr ⟨c,by rw [List.lookup_cons,beq_self_eq_true]⟩
            · exact .inl z
          · refine .inr ?_
            rw [List.lookup_cons]
            cases hx:q.1 == p.1 with
            | true => exact ⟨c,rfl⟩
            | false => exact ⟨d,hd⟩
      · rw [if_neg (by simpa using hk)]
        refine ⟨_,rfl,fun q hq => g0 q (List.mem_cons_of_mem _ hq),g1,fun q hq hf => ?_⟩
        rcases g2 q hq hf with z | z
        · rcases List.mem_cons.mp z with z | z
          · subst z; exact absurd hf hk
          · exact .inl z
        · exact .inr z)
    sc.names [] ⟨fun _ z => z,fun x c e => by simp at e,fun p hp _ => .inl hp⟩
  refine ⟨cl,?_,h1,fun p hp hf => (h2 p hp hf).elim (fun z => by simp at z) id⟩
  rw [closure_step,e,pure_bind]
theorem lookup_mem {names:List (Str×NameKind)} {x:Str} {k:NameKind}:names.lookup x=some k→(x,k)∈names:=by
  induction names with
  | nil => intro e; simp at e
  | cons p r ih =>
    intro e
    rw [List.lookup_cons] at e
    cases hx:x == p.1 with
    | true =>
      rw [hx] at e
      cases e
      rw [eq_of_beq hx]; exact List.mem_cons_self
    | false =>
      rw [hx] at e
      exact List.mem_cons_of_mem _ (ih e)
theorem relabel_eq (sc:Scope) (env:Env):(relabel sc env).names=sc.names.map fun p => (p.1,if (p.2 == .free && env.scope.kind == .function && env.kindOf p.1 == some .cell)=true then NameKind.cell else p.2):=by
  show (sc.names.map _)=_
  refine List.map_congr_left fun p _ => ?_
  obtain ⟨n,k⟩:=p
  dsimp only
  split <;> rfl
theorem relabel_in {sc:Scope} {env:Env} {x:Str} {k:NameKind} (hc:∀ y∈sc.names,y.2≠.cell) (h:(relabel sc env).names.lookup x=some k) (hk:k = .cell∨k = .free):(x,NameKind.free)∈sc.names:=by
  have hm:=lookup_mem h
  rw [relabel_eq] at hm
  obtain ⟨p,hp,e⟩:=List.mem_map.mp hm
  obtain ⟨n,k'⟩:=p
  injection e with e1 e2
  dsimp only at e1 e2
  subst e1
  have hk':k' = .free:=by
    by_cases z:(k' == NameKind.free && env.scope.kind == .function && env.kindOf n == some .cell)=true
    · have z':=(Bool.and_eq_true_iff.mp (Bool.and_eq_true_iff.mp z).1).1
      exact eq_of_beq z'
    · rw [if_neg z] at e2
      rcases hk with w | w
      · exact absurd (e2.trans w) (hc _ hp)
      · exact e2.trans w
  subst hk'
  exact hp
theorem relabel_notlocal {sc:Scope} {env:Env} {x:Str} (hf:sc.names.lookup x=some .free):(relabel sc env).names.lookup x≠some .local:=by
  have key:∀ (g:Str→NameKind→NameKind) (l:List (Str×NameKind)),(l.map fun p => (p.1,g p.1 p.2)).lookup x=(l.lookup x).map (g x):=by
    intro g l
    induction l with
    | nil => rfl
    | cons p r ih =>
      rw [List.map_cons,List.lookup_cons,List.lookup_cons]
      cases hx:x == p.1 with
      | true => rw [eq_of_beq hx]; rfl
      | false => exact ih
  rw [relabel_eq,key fun n k => if (k == .free && env.scope.kind == .function && env.kindOf n == some .cell)=true then NameKind.cell else k,hf]
  intro z
  simp only [Option.map_some] at z
  split at z <;> cases z
def PTs (X:Cx) (ifs:List Expr) (t:TT):Prop :=
  ∀ (pins:List (Addr×Obj)) (s:Shared) (σ : St) (H:Hp) (Q:Bool→Hp→Prop),Inv X pins σ H s→t σ H Q →
    wpAny (model X.prog X.w) X.A (forIn ifs true fun c r => if r=true then do let ok ← isTrue c X.env (eval c X.env); pure (ForInStep.yield ok) else pure (ForInStep.yield r)) (TP X pins σ Q) X.xe s
def tYes:TT:=fun _ H Q => Q true H
theorem pts_nil {X:Cx}:PTs X [] tYes:=fun _ _ _ H _ I h => wpAny_tests_nil ⟨H,I,h⟩
theorem pts_one {X:Cx} {c:Expr} {t:TT} (h:PT X c t):PTs X [c] t:=fun pins s σ H Q I q => wpAny_tests_one (h pins s σ H Q I q)
def tLoop (J:It) (g:TG) (tt:TT) (te:TE) (D:Addr) (Q:VK) (σ : St) (H:Hp):Prop :=
  ∃ W:Nat→Nat→St→Hp→Prop,(∃ m,W 0 m σ H)∧∀ i m σ H,W i m σ H→(J.stop i H∧Q (.ref D) H)∨(J.go i H∧∃ (N1:V→St→Hp→Prop) (N2:St→Hp→Prop),
    (∀ y σ' H',N1 y σ' H'→∃ ys,H' D=some (.lst ys)∧ys.length < sizeLine∧∃ m',m' < m∧W (i + 1) m' σ' (upd H' D (.lst (ys ++ [y]))))∧(∀ σ' H',N2 σ' H'→∃ m',m' < m∧W (i + 1) m' σ' H') ∧
    ∀ x H',J.yld i H x H'→g x σ H' fun σ2 H2 => tt σ2 H2 fun b H3 => if b=true then te σ2 H3 (fun y H4 => N1 y σ2 H4) else N2 σ2 H3)
def tComp (wi:TI) (ix:List (Option Nat)) (g:Bk→TG) (tt:Bk→TT) (te:Bk→TE):TE:=fun σ H Q => wi σ H fun J H1 => ∀ (b:Bk) D,H1 D=none→tLoop J (g b) (tt b) (te b) D Q (bst ix σ) (upd H1 D (.lst []))
section
variable {X:Cx}
theorem blk_run {tg elt iter:Expr} {ifs:List Expr} {sc:Scope} {pos:Pos} {N':List Str} {ix:List (Option Nat)} {g:Bk→TG} {tt:Bk→TT} {te:Bk→TE} {Q:VK} {pins:List (Addr×Obj)} {σ : St} {H:Hp} {s:Shared} {it:Addr} {fp:List Addr} {tn:Nat→Heap→Prop} {J:It} {cl:List (Str×Addr)}
    {RR:Value→Addr→Result→Shared→Prop} {E:Value→Shared→Prop}
    (hc:X.calm=true) (hkind:sc.kind = .function) (hcell:∀ y∈sc.names,y.2≠.cell) (hfree:∀ p∈sc.names,p.2 = .free→X.env.kindOf p.1=some .cell) (hfrom:fromB X.N sc.names N' ix=true)
    (hg:∀ b:Bk,PG (X.blk N' sc b) tg (g b)) (ht:∀ b:Bk,PTs (X.blk N' sc b) ifs (tt b)) (he:∀ b:Bk,PE (X.blk N' sc b) elt (te b))
    (hcl:∀ x c,cl.lookup x=some c→X.env.cells.lookup x=some c) (hcl2:∀ p∈sc.names,p.2 = .free→∃ c,cl.lookup p.1=some c)
    (I:Inv X pins σ H s) (T:Turn X.prog X.w X.K tg J fp it tn) (st:tn 0 s.heap) (f2:∀ b∈fp,FpOk X pins H b) (q:∀ (b:Bk) D,H D=none→tLoop J (g b) (tt b) (te b) D Q (bst ix σ) (upd H D (.lst [])))
    (hRR:∀ D C (s':Shared) H',Inv X pins σ H' s'→Q (.ref D) H'→(∃ m,s'.heap.Ns C m)→H' C=none→C≠X.env.locals→X.s₀.heap.objs.size≤C→(∀ x c,X.env.cells.lookup x=some c→c≠C)→(∀ p∈X.pn ++ pins,p.1≠C)→RR (.ref D) C (.ok .next) s') :
    wpAny (model X.prog X.w) X.A (newList []) (fun acc s3 => wpAny (model X.prog X.w) X.A (newFunctionEnv sc X.env.globals cl [] X.env.qual none .none (some X.env)) (fun cenv s4 =>
      codeAny (model X.prog X.w) X.A (.compStart (.ListComp elt [⟨tg,iter,ifs,0⟩] sc pos) 0 (.ref it) acc { cenv with scope:=relabel sc X.env }) (RR acc cenv.locals) s4) E s3) E s:=by
  refine wpAny_newObj_type (wpAny_newFunctionEnv hcell (by intro y hy; simp at hy) (fun h1 hns hsb => ?_) hkind)
  dsimp only at hns hsb ⊢
  have I3:Inv X pins σ (upd H s.heap.objs.size (.lst [])) { s with heap:=s.heap.push { cls:=.type "list",dict:=none,data:=.seq ([]:List Value).toArray } } :=
    I.lnew (t':=s.toks) (ys:=[]) (its:=[]) .nil (by show 0≤sizeLine; decide)
  have hD:H s.heap.objs.size=none:=I.fresh
  generalize hDn:s.heap.objs.size=D at hns hsb I3 hD ⊢
  generalize hh:s.heap.push { cls:=.type "list",dict:=none,data:=.seq ([]:List Value).toArray } = hp at hns hsb I3 ⊢
  generalize hH3:upd H D (.lst [])=H3 at I3 ⊢
  generalize hCn:hp.objs.size=C at hns hsb ⊢
  have hDC:D < C:=by rw [← hCn,← hh,Heap.size_push,hDn]; exact Nat.lt_succ_self _
  have old:∀ b o,hp.get? b=some o→h1.get? b=some o:=fun b o e => hsb.extBut b o (by rw [← hCn]; exact Nat.ne_of_lt (Heap.lt_size e)) (Heap.get?_push_of_some _ e)
  have old0:∀ b o,s.heap.get? b=some o→hp.get? b=some o:=fun b o e => by rw [← hh]; exact Heap.get?_push_of_some _ e
  have fpLt:∀ b∈fp,b < D:=fun b hb => by
    obtain ⟨o,e,_⟩:=T.obj _ _ st b hb
    rw [← hDn]; exact Heap.lt_size e
  have I3s:Inv X pins σ H3 { s with heap:=hp }:=I3
  let B:Bk:=⟨cl,C,{ s with heap:=hp },H3,fp,X.pn ++ pins⟩
  have cellX:∀ x c,cl.lookup x=some c→c≠C∧∀ b∈fp,c≠b:=fun x c e => by
    obtain ⟨v,z⟩:=I3s.cell x c (hcl x c e)
    exact ⟨by rw [← hCn]; exact Nat.ne_of_lt z.lt,fun b hb => (f2 b hb).2.2.2.2.1 x c (hcl x c e)⟩
  have okY:(X.blk N' sc B).Ok:=by
    refine ⟨I.ok.mod,hkind,I.ok.glob,I.ok.blt,?_,fun x y c a b => I.ok.inj x y c (hcl x c a) (hcl y c b),fun x hx => ?_,(fun x c (a:false=true) => (nomatch a)),I.ok.hd,I.ok.frames,.inl rfl,fun b hb => ?_,fun b o e => ?_,?_,fun b o e hb => ?_,fun b hb z => ?_,I3s.stack,I3s.stkFree⟩
    · show hp.objs.size≤C
      rw [hCn]; exact Nat.le_refl _
    · have hx':(relabel sc X.env).names.lookup x=some .cell∨(relabel sc X.env).names.lookup x=some .free:=hx
      rcases hx' with z | z
      · exact hcl2 _ (relabel_in hcell z (.inl rfl)) rfl
      · exact hcl2 _ (relabel_in hcell z (.inr rfl)) rfl
    · exact ⟨Nat.ne_of_lt (Nat.lt_trans (fpLt b hb) hDC),fun x c e => (cellX x c e).2 b hb⟩
    · obtain ⟨z1,z2⟩:=I3s.bs b o e
      exact ⟨z1,z2⟩
    · exact Nat.le_trans I.ok.bsz I3s.sz
    · rcases (f2 b hb).2.2.2.1 with z | z
      · exact I.ok.noex b o e z
      · exact absurd (Nat.lt_of_lt_of_le (Heap.lt_size (h:=X.base) e) (Nat.le_trans I.ok.bsz z)) (Nat.lt_irrefl _)
    · rcases List.mem_cons.mp (I.stkSub b z) with w | w
      · exact (f2 b hb).2.1 w
      · exact (f2 b hb).2.2.1 w
  have frC:∀ b∈frs X.stack,b≠C:=fun b hb => by
    obtain ⟨_,o,ho,_⟩:=I3s.stack.mem hb
    rw [← hCn]; exact Nat.ne_of_lt (Heap.lt_size (h:=hp) ho)
  obtain ⟨hlen,hix⟩:=fromB_ok hfrom
  have IY:Inv (X.blk N' sc B) [] (bst ix σ) H3 { s with heap:=h1,toks:=s.toks + ([]:List (Str×Value)).length }:=by
    refine ⟨okY,rfl,I.bare,Un.kept old,⟨_,hns,fun i x v e1 e2 e3 => ?_⟩,fun x c e => ?_,I3s.hok.fresh (by show hp.objs.size≤C; rw [hCn]; exact Nat.le_refl _),fun x c e => I3s.freeC x c (hcl x c e),fun p hp' => ?_,I3s.hok.kept old,by show (bst ix σ).length=N'.length; rw [← hlen]; simp [bst]⟩
    · have e1':N'[i]? = some x:=e1
      unfold bst at e2
      rw [List.getElem?_map] at e2
      cases hi:ix[i]? with
      | none => rw [hi] at e2; cases e2
      | some o =>
        rw [hi] at e2
        cases o with
        | none => cases e2
        | some j =>
          obtain ⟨hj,hfr⟩:=hix i j x e1' hi
          have e2':(σ[j]?).getD none=some v:=Option.some.inj e2
          have e4 : σ[j]? = some (some v):=by
            cases z : σ[j]? with
            | none => rw [z] at e2'; cases e2'
            | some w => rw [z] at e2'; exact congrArg some e2'
          have hkX:=hfree _ (lookup_mem hfr) rfl
          obtain ⟨m,hn,hl⟩:=I3s.loc
          obtain ⟨u,r,l⟩:=hl j x v hj e4 (.inr (.inl hkX))
          refine ⟨u,r,.inr ⟨?_,?_⟩⟩
          · have e3':(relabel sc X.env).names.lookup x=some .local∨(relabel sc X.env).names.lookup x=some .cell∨(relabel sc X.env).names.lookup x=some .free:=e3
            rcases e3' with z | z
            · exact absurd z (relabel_notlocal hfr)
            · exact z
          · obtain ⟨c,hc'⟩:=hcl2 _ (lookup_mem hfr) rfl
            refine ⟨c,hc',?_⟩
            rcases l with ⟨z,_⟩ | ⟨_,d,hd,hcell'⟩
            · rw [hkX] at z; cases z
            · rw [hcl x c hc'] at hd
              cases hd
              obtain ⟨o,ho,hod⟩:=hcell'
              exact ⟨o,old _ o ho,hod⟩
    · obtain ⟨v,o,ho,hod⟩:=I3s.cell x c (hcl x c e)
      exact ⟨v,o,old _ o ho,hod⟩
    · have hp'':p∈X.pn ++ pins:=by simpa [Cx.blk,B] using hp'
      obtain ⟨z1,z2,z3,z4,z5⟩:=I3s.pin p hp''
      refine ⟨old _ _ z1,z2,by show p.1≠C; rw [← hCn]; exact Nat.ne_of_lt (Heap.lt_size (h:=hp) z1),fun z => ?_,z5⟩
      rcases List.mem_cons.mp (I.stkSub p.1 z) with w | w
      · exact z3 w
      · exact z4 w
  have st1:tn 0 h1:=T.keep _ _ _ st fun b _ o e => old b o (old0 b o e)
  have fpY:∀ {H':Hp},(∀ b∈fp,H' b=none)→∀ b∈fp,FpOk (X.blk N' sc B) [] H' b:=fun hn b hb => by
    refine ⟨hn b hb,Nat.ne_of_lt (Nat.lt_trans (fpLt b hb) hDC),okY.exfs b hb,.inl hb,fun x c e => (cellX x c e).2 b hb,fun p hp' => ?_⟩
    have hp'':p∈X.pn ++ pins:=by simpa [Cx.blk,B] using hp'
    exact (f2 b hb).2.2.2.2.2 p hp''
  have qD:=q B D hD
  rw [hH3] at qD
  obtain ⟨W,⟨m0,w0⟩,turn⟩:=qD
  have fin:∀ {i:Nat} {σ':St} {H':Hp} {s':Shared},Inv (X.blk N' sc B) [] σ' H' s'→Q (.ref D) H'→RR (.ref D) C (.ok .next) s':=fun {i σ' H' s'} I' q' => by
    have IX:Inv X pins σ H' s':=I3s.call' (ch:=fp) I'.os I'.base I'.hok I'.bare fun b hb => by
      obtain ⟨_,a2,_,a4,a5,a6⟩:=f2 b hb
      exact ⟨a4,a2,a5,a6⟩
    have hCs:X.s₀.heap.objs.size≤C:=Nat.le_trans I3s.sz (by show hp.objs.size≤C; rw [hCn]; exact Nat.le_refl _)
    refine hRR D C s' H' IX q' (let ⟨m,hn,_⟩:=I'.loc; ⟨m,hn⟩) I'.free ?_ hCs (fun x c e => ?_) fun p hp' => ?_
    · rw [← hCn]; exact Nat.ne_of_gt I3s.lt
    · obtain ⟨v,z⟩:=I3s.cell x c e
      rw [← hCn]; exact Nat.ne_of_lt z.lt
    · rw [← hCn]; exact Nat.ne_of_lt (Heap.lt_size (h:=hp) (I3s.pin p hp').1)
  have loop:codeAny (model X.prog X.w) X.A (.compLoop (.ListComp elt [⟨tg,iter,ifs,0⟩] sc pos) 0 (.ref it) (.ref D) (compEnvC sc cl C X.env)) (RR (.ref D) C) { s with heap:=h1,toks:=s.toks + ([]:List (Str×Value)).length }:=by
    refine codeAny_loop rfl (fun n s' => ∃ i σ' H',Inv (X.blk N' sc B) [] σ' H' s'∧tn i s'.heap∧(∀ b∈fp,H' b=none)∧W i n σ' H') (fun n s5 hI => ?_) m0 ⟨0,_,_,IY,st1,fun b hb => ?_,w0⟩
    · obtain ⟨i,σ5,H5,I5,st5,fr5,w5⟩:=hI
      show wpAny _ _ ((compTurn (.ListComp elt [⟨tg,iter,ifs,0⟩] sc pos) 0 (.ref it) (.ref D) (compEnvC sc cl C X.env)).onRaise (fun x => do noteFrame x (compEnvC sc cl C X.env); theTreesLotGoes x)) _ _ s5
      refine wpAny_noted ?_
      rw [compTurn_list]
      refine wpAny_bind (wpAny_standAt ?_)
      rcases turn i n σ5 H5 w5 with ⟨stop,qn⟩ | ⟨go,N1,N2,hN1,hN2,step⟩
      · refine wpAny_bind (wpAny_mono (T.done (X.blk N' sc B) rfl rfl rfl hc i [] s5 σ5 H5 (fun _ _ => False) I5 (fpY fr5) st5 stop) (fun r s6 h6 => ?_) fun _ _ f => f.elim)
        obtain ⟨hr,I6⟩:=h6
        subst hr
        exact wpAny_pure (fin (i:=i) I6 qn)
      · refine wpAny_bind (wpAny_mono (T.item (X.blk N' sc B) rfl rfl rfl hc i [] s5 σ5 H5 (fun _ _ => False) I5 (fpY fr5) st5 go) (fun r s6 h6 => ?_) fun _ _ f => f.elim)
        obtain ⟨u,hr,h6⟩:=h6
        subst hr
        refine wpAny_bind (wpAny_mono h6 (fun _ s7 h7 => ?_) fun _ _ f => f.elim)
        obtain ⟨x,H7,I7,r7,y7,st7,fr7⟩:=h7
        have I7':=I7.pinned (fpY fr7) (T.obj _ _ st7)
        refine wpAny_bind (wpAny_mono (hg B _ s7 σ5 H7 x u _ I7' r7 (step x H7 y7)) (fun _ s8 h8 => ?_) fun _ _ f => f.elim)
        obtain ⟨σ8,H8,I8,q8⟩:=h8
        refine wpAny_bind (wpAny_mono (ht B _ s8 σ8 H8 _ I8 q8) (fun ok s9 h9 => ?_) fun _ _ f => f.elim)
        obtain ⟨H9,I9,q9⟩:=h9
        have again:∀ {s':Shared} {H':Hp},Inv (X.blk N' sc B) ([] ++ pinsAt fp s7.heap) σ8 H' s'→(∃ m',m' < n∧W (i + 1) m' σ8 H') →
            ∃ m,m < n∧∃ i σ' H',Inv (X.blk N' sc B) [] σ' H' s'∧tn i s'.heap∧(∀ b∈fp,H' b=none)∧W i m σ' H':=fun {s' H'} I' w' => by
          obtain ⟨m',hm,w'⟩:=w'
          have pn:∀ b∈fp,∀ o,s7.heap.get? b=some o→s'.heap.get? b=some o∧H' b=none:=fun b hb o e => by
            have z:=I'.pin (b,o) (List.mem_append_right _ (List.mem_append_right _ (mem_pinsAt hb e)))
            exact ⟨z.1,z.2.1⟩
          refine ⟨m',hm,i + 1,σ8,H',I'.unpinned,T.keep _ _ _ st7 fun b hb o e => (pn b hb o e).1,fun b hb => ?_,w'⟩
          obtain ⟨o,e,_⟩:=T.obj _ _ st7 b hb
          exact (pn b hb o e).2
        cases ok with
        | false =>
          have q9':N2 σ8 H9:=by simpa using q9
          exact wpAny_pure ⟨rfl,again I9 (hN2 _ _ q9')⟩
        | true =>
          have q9':te B σ8 H9 fun y H4 => N1 y σ8 H4:=by simpa using q9
          refine wpAny_bind (wpAny_bind (wpAny_mono (he B _ s9 σ8 H9 _ I9 q9') (fun y sA hA => ?_) fun _ _ f => f.elim))
          obtain ⟨yv,HA,IA,rA,nA⟩:=hA
          obtain ⟨ys,eA,zA,w'⟩:=hN1 _ _ _ nA
          refine wpAny_bind (wpAny_mono (mt_append (X:=X.blk N' sc B) _ sA σ8 HA (.ref D) [yv] (.ref D) [y] (fun _ H' => H'=upd HA D (.lst (ys ++ [yv]))) IA rfl (.cons rA .nil) ⟨D,ys,yv,rfl,rfl,eA,zA,rfl⟩) (fun _ sB hB => ?_) fun _ _ f => f.elim)
          obtain ⟨_,HB,IB,_,eB⟩:=hB
          subst eB
          exact wpAny_pure (wpAny_pure ⟨rfl,again IB w'⟩)
    · rw [← hH3,upd_ne (Nat.ne_of_lt (fpLt b hb))]
      exact (f2 b hb).1
  exact codeAny_compStart_list loop (T.self _ 0 _ _ _ st1 loop)
theorem pe_comp {tg elt iter:Expr} {ifs:List Expr} {sc:Scope} {pos:Pos} {wi:TI} {g:Bk→TG} {tt:Bk→TT} {te:Bk→TE} (N':List Str) (ix:List (Option Nat)) (hc:X.calm=true)
    (hi:PI X tg iter wi) (hg:∀ b:Bk,PG (X.blk N' sc b) tg (g b)) (ht:∀ b:Bk,PTs (X.blk N' sc b) ifs (tt b)) (he:∀ b:Bk,PE (X.blk N' sc b) elt (te b)) {N:List Str} {ks:List (Str×NameKind)}
    (hN:X.N=N) (hks:X.env.scope.names=ks) (hfree:∀ p∈sc.names,p.2 = .free→ks.lookup p.1=some .cell) (hfrom:fromB N sc.names N' ix=true)
    (hcell:∀ y∈sc.names,y.2≠.cell) (hnames:∀ y∈sc.names,y.2 = .local→sc.names.lookup y.1=some .local) (hkind:sc.kind = .function:=by rfl)
    (hs:∀ x,foldedSetIterable iter X.env x=pure x:=by intro _; rfl):PE X (.ListComp elt [⟨tg,iter,ifs,0⟩] sc pos) (tComp wi ix g tt te):=by
  intro pins s σ H Q I h
  have hfree':∀ p∈sc.names,p.2 = .free→X.env.kindOf p.1=some .cell:=fun p hp hf => by
    show X.env.scope.names.lookup p.1=_
    rw [hks]; exact hfree p hp hf
  obtain ⟨cl,hclos,hcl,hcl2⟩:=closure_of (sc:=sc) (env:=X.env) fun p hp hf => I.ok.has p.1 (.inl (hfree' p hp hf))
  rw [eval_ListComp]
  refine wpAny_comprehension_free (use:=none) rfl hs hclos hkind hnames (thn (hi pins s σ H _ I h) fun v s1 h1 => thn h1 fun itv s2 h2 => ?_)
  obtain ⟨it,fp,tn,J,H2,e,I2,T,st2,f2,q⟩:=h2
  subst e
  refine blk_run (RR:=fun acc C => compPost (model X.prog X.w) X.A X.xe none (EP X pins σ Q) acc C) hc hkind hcell hfree' (by rw [hN]; exact hfrom) hg ht he hcl hcl2 I2 T st2 f2 q ?_
  intro D C s' H' I' q' hns hC hL hsz hcel hpin
  obtain ⟨m,hn⟩:=hns
  refine ⟨m,hn,fun h' hsb => ?_⟩
  exact ⟨.ref D,H',I'.turned (t':=s'.toks) (fun b o hb e => hsb.extBut b o hb e) hC hL (.inr hsz) hcel hpin,rfl,q'⟩
theorem ps_comp {i:Nat} {y:Str} {py spos:Pos} {tg elt iter:Expr} {ifs:List Expr} {sc:Scope} {pos:Pos} {wi:TI} {g:Bk→TG} {tt:Bk→TT} {te:Bk→TE} (N':List Str) (ix:List (Option Nat)) (hc:X.calm=true) (hNd:X.N.Nodup) (hiy:X.N[i]? = some y) (hy:X.env.scope.names.lookup y=some .local)
    (hi:PI X tg iter wi) (hg:∀ b:Bk,PG (X.blk N' sc b) tg (g b)) (ht:∀ b:Bk,PTs (X.blk N' sc b) ifs (tt b)) (he:∀ b:Bk,PE (X.blk N' sc b) elt (te b)) {N:List Str} {ks:List (Str×NameKind)}
    (hN:X.N=N) (hks:X.env.scope.names=ks) (hfree:∀ p∈sc.names,p.2 = .free→ks.lookup p.1=some .cell) (hfrom:fromB N sc.names N' ix=true)
    (hcell:∀ y∈sc.names,y.2≠.cell) (hnames:∀ y∈sc.names,y.2 = .local→sc.names.lookup y.1=some .local) (hkind:sc.kind = .function:=by rfl)
    (hs:∀ x,foldedSetIterable iter X.env x=pure x:=by intro _; rfl) (hsw:swapsWith (.ListComp elt [⟨tg,iter,ifs,0⟩] sc pos) (some (.Name y py)) spos.line X.env=pure true:=by rfl) :
    PS X (.Assign [.Name y py] (.ListComp elt [⟨tg,iter,ifs,0⟩] sc pos) spos) (tAsg (tComp wi ix g tt te) (gName i)):=by
  intro pins s σ H D I h
  have hfree':∀ p∈sc.names,p.2 = .free→X.env.kindOf p.1=some .cell:=fun p hp hf => by
    show X.env.scope.names.lookup p.1=_
    rw [hks]; exact hfree p hp hf
  obtain ⟨cl,hclos,hcl,hcl2⟩:=closure_of (sc:=sc) (env:=X.env) fun p hp hf => I.ok.has p.1 (.inl (hfree' p hp hf))
  rw [exec_Assign_Name_used _ _ _ _ hsw]
  refine wpAny_bind (wpAny_standAt (wpAny_bind ?_))
  show wpAny _ X.A (do let _ ← comprehension (.ListComp elt [⟨tg,iter,ifs,0⟩] sc pos) sc X.env _ (newList []) false (eval iter X.env) (some (assign (.Name y py) X.env))) _ _ s
  refine wpAny_bind (wpAny_mono (wpAny_comprehension_free (use:=some (assign (.Name y py) X.env)) (Q:=fun _ s' => SP X pins D .next s') rfl hs hclos hkind hnames
    (thn (hi pins s σ H _ I h) fun v s1 h1 => thn h1 fun itv s2 h2 => ?_)) (fun _ s' hq => wpAny_pure (wpAny_pure hq)) fun _ _ e => e)
  obtain ⟨it,fp,tn,J,H2,e,I2,T,st2,f2,q⟩:=h2
  subst e
  refine blk_run (Q:=fun x H1 => gName i x σ H1 D.nx) (RR:=fun acc C => compPost (model X.prog X.w) X.A X.xe (some (assign (.Name y py) X.env)) (fun _ s' => SP X pins D .next s') acc C) hc hkind hcell hfree' (by rw [hN]; exact hfrom) hg ht he hcl hcl2 I2 T st2 f2 q ?_
  intro E C s' H' I' q' hns hC hL hsz hcel hpin
  obtain ⟨m,hn⟩:=hns
  show wpAny _ X.A (assign (.Name y py) X.env (.ref E)) _ _ _
  refine wpAny_assign_Name (store_ok2 I' hNd hiy (.inl hy) (show RelV (.ref E) (.ref E) from rfl) (fun s2 I2' hch => ?_) (.inr hy))
  obtain ⟨a,hsb,ha⟩:=hch
  have haC:C≠a:=by
    rcases ha with z | z
    · rw [z]; exact hL
    · exact (hcel _ _ z).symm
  refine ⟨m,hn.sameBut hsb haC,fun h' hsb' => ?_⟩
  exact ⟨_,H',I2'.turned (t':=s2.toks) (fun b o hb e => hsb'.extBut b o hb e) hC hL (.inr hsz) hcel hpin,q'⟩
end
theorem comp_range {lo:Int} {n:Nat} {g:TG} {tt:TT} {te:TE} {D:Addr} {Q:VK} {σ : St} {H:Hp} (Pv:Nat→List V→St→Hp→Prop) (h0:Pv 0 [] σ (upd H D (.lst [])))
    (hs:∀ i ys σ H,i < n→H D=some (.lst ys)→Pv i ys σ H→g (.int (lo + i)) σ H fun σ2 H2 => tt σ2 H2 fun b H3 =>
      if b=true then te σ2 H3 fun y H4 => H4 D=some (.lst ys)∧ys.length < sizeLine∧Pv (i + 1) (ys ++ [y]) σ2 (upd H4 D (.lst (ys ++ [y]))) else H3 D=some (.lst ys)∧Pv (i + 1) ys σ2 H3)
    (hd:∀ ys σ H,H D=some (.lst ys)→Pv n ys σ H→Q (.ref D) H) :
    tLoop (Itr lo n) g tt te D Q σ (upd H D (.lst [])):=by
  refine ⟨fun i m σ H => m=n - i∧i≤n∧∃ ys,H D=some (.lst ys)∧Pv i ys σ H,⟨n,by simp,Nat.zero_le _,[],upd_same,h0⟩,?_⟩
  rintro i m σ H ⟨rfl,hi,ys,hD,p⟩
  by_cases hlt:i < n
  · refine .inr ⟨hlt,fun y σ' H' => H' D=some (.lst ys)∧ys.length < sizeLine∧Pv (i + 1) (ys ++ [y]) σ' (upd H' D (.lst (ys ++ [y]))),fun σ' H' => H' D=some (.lst ys)∧Pv (i + 1) ys σ' H',
      fun y σ' H' q => ⟨ys,q.1,q.2.1,n - (i + 1),by omega,rfl,hlt,_,upd_same,q.2.2⟩,fun σ' H' q => ⟨n - (i + 1),by omega,rfl,hlt,ys,q⟩,fun x H' y => ?_⟩
    obtain ⟨e,y⟩:=y
    subst e y
    exact hs i ys σ _ hlt hD p
  · have e:i=n:=by omega
    subst e
    exact .inl ⟨Nat.le_refl _,hd ys σ H hD p⟩
theorem comp_list {K:PySem.W.Frag} {a:Addr} {xs:List V} {g:TG} {tt:TT} {te:TE} {D:Addr} {Q:VK} {σ : St} {H:Hp} (Pv:Nat→List V→St→Hp→Prop) (h0:Pv 0 [] σ (upd H D (.lst [])))
    (hl:∀ i ys σ H,i≤xs.length→H D=some (.lst ys)→Pv i ys σ H→SqL K H a xs)
    (hs:∀ i x ys σ H,xs[i]? = some x→H D=some (.lst ys)→Pv i ys σ H→g x σ H fun σ2 H2 => tt σ2 H2 fun b H3 =>
      if b=true then te σ2 H3 fun y H4 => H4 D=some (.lst ys)∧ys.length < sizeLine∧Pv (i + 1) (ys ++ [y]) σ2 (upd H4 D (.lst (ys ++ [y]))) else H3 D=some (.lst ys)∧Pv (i + 1) ys σ2 H3)
    (hd:∀ ys σ H,H D=some (.lst ys)→Pv xs.length ys σ H→Q (.ref D) H) :
    tLoop (Itl K a) g tt te D Q σ (upd H D (.lst [])):=by
  refine ⟨fun i m σ H => m=xs.length - i∧i≤xs.length∧∃ ys,H D=some (.lst ys)∧Pv i ys σ H,⟨xs.length,by simp,Nat.zero_le _,[],upd_same,h0⟩,?_⟩
  rintro i m σ H ⟨rfl,hi,ys,hD,p⟩
  have hq:=hl i ys σ H hi hD p
  by_cases hlt:i < xs.length
  · refine .inr ⟨⟨xs,xs[i],hq,by simp [hlt]⟩,fun y σ' H' => H' D=some (.lst ys)∧ys.length < sizeLine∧Pv (i + 1) (ys ++ [y]) σ' (upd H' D (.lst (ys ++ [y]))),fun σ' H' => H' D=some (.lst ys)∧Pv (i + 1) ys σ' H',
      fun y σ' H' q => ⟨ys,q.1,q.2.1,xs.length - (i + 1),by omega,rfl,hlt,_,upd_same,q.2.2⟩,fun σ' H' q => ⟨xs.length - (i + 1),by omega,rfl,hlt,ys,q⟩,fun x H' y => ?_⟩
    obtain ⟨e,y⟩:=y
    subst e
    exact hs i x ys σ _ (y xs hq) hD p
  · have e:i=xs.length:=by omega
    subst e
    exact .inl ⟨⟨xs,hq,Nat.le_refl _⟩,hd ys σ H hD p⟩
theorem comp_rangeA {lo:Int} {n:Nat} {g:TG} {te:TE} {D:Addr} {Q:VK} {σ : St} {H:Hp} (Pv:Nat→List V→St→Hp→Prop) (h0:Pv 0 [] σ (upd H D (.lst [])))
    (hs:∀ i ys σ H,i < n→H D=some (.lst ys)→Pv i ys σ H→g (.int (lo + i)) σ H fun σ2 H3 => te σ2 H3 fun y H4 => H4 D=some (.lst ys)∧ys.length < sizeLine∧Pv (i + 1) (ys ++ [y]) σ2 (upd H4 D (.lst (ys ++ [y]))))
    (hd:∀ ys σ H,H D=some (.lst ys)→Pv n ys σ H→Q (.ref D) H):tLoop (Itr lo n) g tYes te D Q σ (upd H D (.lst [])) :=
  comp_range Pv h0 (fun i ys σ H hi hD p => hs i ys σ H hi hD p) hd
theorem comp_listA {K:PySem.W.Frag} {a:Addr} {xs:List V} {g:TG} {te:TE} {D:Addr} {Q:VK} {σ : St} {H:Hp} (Pv:Nat→List V→St→Hp→Prop) (h0:Pv 0 [] σ (upd H D (.lst [])))
    (hl:∀ i ys σ H,i≤xs.length→H D=some (.lst ys)→Pv i ys σ H→SqL K H a xs)
    (hs:∀ i x ys σ H,xs[i]? = some x→H D=some (.lst ys)→Pv i ys σ H→g x σ H fun σ2 H3 => te σ2 H3 fun y H4 => H4 D=some (.lst ys)∧ys.length < sizeLine∧Pv (i + 1) (ys ++ [y]) σ2 (upd H4 D (.lst (ys ++ [y]))))
    (hd:∀ ys σ H,H D=some (.lst ys)→Pv xs.length ys σ H→Q (.ref D) H):tLoop (Itl K a) g tYes te D Q σ (upd H D (.lst [])) :=
  comp_list Pv h0 hl (fun i x ys σ H hi hD p => hs i x ys σ H hi hD p) hd
end L2
namespace L2
open PySem PySem.Spec PyProof.Rows
section
variable {X:Cx}
end
end L2
namespace L2
open PySem PySem.Spec PyProof.Rows
end L2
set_option Elab.async false
set_option linter.all false
set_option maxRecDepth 100000
set_option maxHeartbeats 4000000
namespace L2
open PySem PySem.Spec PyProof.Rows
section
variable {X:Cx}
seal PySem.Meets in
theorem call_isinstC:CallR X (.builtin "isinstance") (fun xs H Q => ∃ x c t b,xs=[x,.ref c]∧TyOf X.K H x t∧PySem.W.kitOne X.K t (.ref c)=some b∧Q (.bl b) H):=by
  intro pins s σ H xs us Q I r h
  obtain ⟨x,c,t,b,rfl,ty,e,q⟩:=h
  obtain ⟨u,u',rfl,rx,ry⟩:=Vals.two r
  cases (show u'=Value.ref c from ry)
  exact isinst_ok I rx ty e fun tk => ⟨.bl b,H,I.tok tk,rfl,q⟩
end
end L2
set_option Elab.async false
set_option linter.all false
set_option maxRecDepth 100000
set_option maxHeartbeats 4000000
namespace L2
open PySem PySem.Spec PyProof.Rows
section
variable {X:Cx} {pins:List (Addr×Obj)} {σ : St} {H:Hp} {s:Shared} {pos:Pos}
theorem vals_strs:∀ {ts:List Str} {us:List Value},Vals (ts.map V.str) us→∃ l:List (Str×Tok),strValues l=us∧l.map (·.1)=ts
  | [],_,.nil => ⟨[],rfl,rfl⟩
  | t :: ts,_,.cons (b:=u) r rs => by
    obtain ⟨k,e⟩:=(show ∃ k,u=Value.str t k from r)
    obtain ⟨l,h1,h2⟩:=vals_strs rs
    exact ⟨(t,k) :: l,by rw [e,← h1]; rfl,by rw [← h2]; rfl⟩
theorem strs_vals:∀ {l:List (Str×Tok)},Vals ((l.map (·.1)).map V.str) (strValues l)
  | [] => .nil
  | (t,k) :: l => .cons ⟨k,rfl⟩ strs_vals
def rJoin (K:PySem.W.Frag):V→List V→Hp→VK→Prop:=fun x vs H Q => ∃ sep l ts,x = .str sep∧vs=[.ref l]∧SqL K H l (ts.map V.str)∧JoinOk sep ts=true∧Q (.str (Txt.join sep ts)) H
theorem mt_join:MtR X "str.join" (rJoin X.K):=by
  intro pins s σ H x vs v us Q I rx rv h
  obtain ⟨sep,l,ts,rfl,rfl,hq,hj,q⟩:=h
  obtain ⟨k,e⟩:=(show ∃ k,v=Value.str sep k from rx)
  subst e
  obtain ⟨u,rfl,ru⟩:=rv.one
  cases ru
  obtain ⟨its,r,p,hz⟩:=I.list hq
  obtain ⟨ls,rfl,h2⟩:=vals_strs r
  exact SC.join p.isList h2 hj fun t' k' => ⟨.str _,H,I.tok _,⟨_,rfl⟩,q⟩
def rSplit:V→List V→Hp→VK→Prop:=fun x vs H Q => ∃ t sep,x = .str t∧vs=[.str sep]∧(sep.length == 0)=false∧t.length≤sizeLine∧(Builtin.Str.partsBetween t (Builtin.Str.occurrences t sep 0 t.length (t.length + 1)) sep.length).length≤sizeLine∧(Txt.split t sep).length≤sizeLine ∧
  ∀ l,H l=none→Q (.ref l) (upd H l (.lst ((Txt.split t sep).map V.str)))
theorem mt_split:MtR X "str.split" rSplit:=by
  intro pins s σ H x vs v us Q I rx rv h
  obtain ⟨t,sep,rfl,rfl,hs,hz1,hz2,hz3,q⟩:=h
  obtain ⟨k,e⟩:=(show ∃ k,v=Value.str t k from rx)
  subst e
  obtain ⟨u,rfl,ru⟩:=rv.one
  obtain ⟨k2,e2⟩:=(show ∃ k,u=Value.str sep k from ru)
  subst e2
  have fin:∀ (l:List (Str×Tok)) (tk:Nat),l.map (·.1)=Txt.split t sep→EP X pins σ Q (.ref s.heap.objs.size) { s with toks:=tk,heap:=s.heap.push { cls:=.type "list",data:=.seq (strValues l).toArray } }:=fun l tk hl => by
    have hv:Vals ((Txt.split t sep).map V.str) (strValues l):=by rw [← hl]; exact strs_vals
    exact ⟨.ref s.heap.objs.size,_,I.lnew (t':=tk) hv (by rw [List.length_map]; exact hz3),rfl,q _ I.fresh⟩
  cases h1:(decide (t.length < sep.length) || decide (Builtin.Str.strKind t < Builtin.Str.strKind sep))
  · cases hf:(Builtin.Str.occurrences t sep 0 t.length (t.length + 1)).isEmpty
    · refine call_meets PySem.F.slot_str_split (typeIs_str _ _ _) PySem.F.entry_str_split (PySem.F.args_str_split_2 _ _) (meets_str_split_sep t sep k k2 h1 hs hf hz1 hz2) ?_
      show wants _ _ _ { s with toks:=_,heap:=s.heap.push { cls:=.type "list",data:=.seq (strsFrom s.toks (Builtin.Str.partsBetween t (Builtin.Str.occurrences t sep 0 t.length (t.length + 1)) sep.length)).toArray } }
      rw [strsFrom_eq]
      exact fin (numbered s.toks _) _ ((numbered_texts _ _).trans ((if_neg (ne_true_of_eq_false h1)).trans (if_neg (ne_true_of_eq_false hf))).symm)
    · exact call_meets PySem.F.slot_str_split (typeIs_str _ _ _) PySem.F.entry_str_split (PySem.F.args_str_split_2 _ _) (meets_str_split_not_found t sep k k2 h1 hs hf)
        (fin [(t,k)] s.toks ((if_neg (ne_true_of_eq_false h1)).trans (if_pos hf)).symm)
  · exact call_meets PySem.F.slot_str_split (typeIs_str _ _ _) PySem.F.entry_str_split (PySem.F.args_str_split_2 _ _) (meets_str_split_cannot_occur t sep k k2 h1)
      (fin [(t,k)] s.toks (if_pos h1).symm)
def Its (x:Str):It:=⟨fun i _ => i < x.cps.size,fun i H v H' => H'=H∧∃ c,x.cps[i]? = some c∧v = .str ⟨#[c]⟩,fun i _ => x.cps.size≤i⟩
theorem turn_str {P:Program} {w:World} {K:PySem.W.Frag} {tg:Expr} (x:Str) (t:Tok) (it:Addr):Turn P w K tg (Its x) [it] it (fun i h => h.IsStrIter it "str_ascii_iterator" x t i) where
  mem:=by simp
  obj:=fun i h st b hb => by
    have e:b=it:=by simpa using hb
    subst e
    obtain ⟨o,e,c,d⟩:=st
    exact ⟨o,e,fun v z => by rw [d] at z; cases z⟩
  keep:=fun i h h' st k => by
    obtain ⟨o,e,c,d⟩:=st
    exact ⟨o,k it (by simp) o e,c,d⟩
  item:=by
    intro X hP hw hK hc i pins s σ H E I hf st hg
    subst hP hw hK
    have hg':i < x.cps.size:=hg
    obtain ⟨f0,f1,f2,f3,f4,f5⟩:=hf it (by simp)
    have hx:x.cps[i]? = some x.cps[i]:=Array.getElem?_eq_getElem hg'
    refine wpAny_pyNext_ascii_item st hx fun h' st' sb => ?_
    have I1:Inv X pins σ H { s with heap:=h',toks:=s.toks + 1 }:=I.turned (t':=s.toks + 1) (fun b o hb e => (sb.2 b hb).trans e) f0 f1 f3 f4 f5
    obtain ⟨o,e,c,d⟩:=id st'
    exact ⟨_,rfl,go_of (s:={ s with heap:=h',toks:=s.toks + 1 }) e c d (by decide) ⟨.str ⟨#[x.cps[i]]⟩,H,I1,⟨_,rfl⟩,⟨rfl,_,hx,rfl⟩,st',fun b hb => (hf b hb).1⟩⟩
  done:=by
    intro X hP hw hK hc i pins s σ H E I hf st hg
    subst hP hw hK
    obtain ⟨f0,f1,f2,f3,f4,f5⟩:=hf it (by simp)
    have hg':x.cps.size≤i:=hg
    exact wpAny_pyNext_ascii_end (I.ok.hd hc) st (Array.getElem?_eq_none hg') fun h' eb => ⟨rfl,I.turned (t':=s.toks) (fun b o hb e => eb b o hb e) f0 f1 f3 f4 f5⟩
  self:=fun _ _ _ _ _ st h => wpAny_pyIter_striter_ascii st h
def iStr (tl:TE):TI:=fun σ H R => tl σ H fun v H1 => ∃ x,v = .str x∧x.cps.all (· < 128)=true∧R (Its x) H1
theorem pi_str {tg l:Expr} {tl:TE} (hl:PE X l tl):PI X tg l (iStr tl):=by
  intro pins s σ H R I h
  refine thn (hl pins s σ H _ I h) fun v s1 ⟨x,H1,I1,r1,q1⟩ => ?_
  obtain ⟨y,rfl,ha,q⟩:=q1
  obtain ⟨t,e⟩:=(show ∃ t,v=Value.str y t from r1)
  subst e
  refine wpAny_pyIter_ascii ha ?_
  refine ⟨s1.heap.objs.size,[s1.heap.objs.size],_,_,H1,rfl,I1.kept (t':=s1.toks) fun b o e => Heap.get?_push_of_some _ e,turn_str y t _,⟨_,Heap.get?_push_size _ rfl,rfl,rfl⟩,fun b hb => ?_,q⟩
  have e:b=s1.heap.objs.size:=by simpa using hb
  subst e
  exact I1.fpOk (Nat.le_refl _) (I1.hok.fresh (Nat.le_refl _))
theorem comp_strA {x:Str} {g:TG} {te:TE} {D:Addr} {Q:VK} {σ : St} {H:Hp} (Pv:Nat→List V→St→Hp→Prop) (h0:Pv 0 [] σ (upd H D (.lst [])))
    (hs:∀ i c ys σ H,x.cps[i]? = some c→H D=some (.lst ys)→Pv i ys σ H→g (.str ⟨#[c]⟩) σ H fun σ2 H3 => te σ2 H3 fun y H4 => H4 D=some (.lst ys)∧ys.length < sizeLine∧Pv (i + 1) (ys ++ [y]) σ2 (upd H4 D (.lst (ys ++ [y]))))
    (hd:∀ ys σ H,H D=some (.lst ys)→Pv x.cps.size ys σ H→Q (.ref D) H):tLoop (Its x) g tYes te D Q σ (upd H D (.lst [])):=by
  refine ⟨fun i m σ H => m=x.cps.size - i∧i≤x.cps.size∧∃ ys,H D=some (.lst ys)∧Pv i ys σ H,⟨x.cps.size,by simp,Nat.zero_le _,[],upd_same,h0⟩,?_⟩
  rintro i m σ H ⟨rfl,hi,ys,hD,p⟩
  by_cases hlt:i < x.cps.size
  · refine .inr ⟨hlt,fun y σ' H' => H' D=some (.lst ys)∧ys.length < sizeLine∧Pv (i + 1) (ys ++ [y]) σ' (upd H' D (.lst (ys ++ [y]))),fun σ' H' => H' D=some (.lst ys)∧Pv (i + 1) ys σ' H',
      fun y σ' H' q => ⟨ys,q.1,q.2.1,x.cps.size - (i + 1),by omega,rfl,hlt,_,upd_same,q.2.2⟩,fun σ' H' q => ⟨x.cps.size - (i + 1),by omega,rfl,hlt,ys,q⟩,fun v H' y => ?_⟩
    obtain ⟨e,c,hc,rfl⟩:=y
    subst e
    exact hs i c ys σ _ hc hD p
  · have e:i=x.cps.size:=by omega
    subst e
    exact .inl ⟨Nat.le_refl _,hd ys σ H hD p⟩
theorem vals_bls:∀ {bs:List Bool} {us:List Value} {i:Nat} {v:Value},Vals (bs.map V.bl) us→us[i]? = some v→∃ b,bs[i]? = some b∧v = .bool b
  | [],_,i,v,.nil,h => by simp at h
  | b :: bs,_,0,v,.cons (b:=u) r rs,h => by
    have e:u=v:=by simpa using h
    subst e
    exact ⟨b,rfl,(show u=Value.bool b from r)⟩
  | b :: bs,_,i + 1,v,.cons r rs,h => vals_bls (i:=i) rs (by simpa using h)
theorem all_range (bs:List Bool):(List.range bs.length).all (fun i => bs.getD i false)=bs.all id:=by
  rw [Bool.eq_iff_iff,List.all_eq_true,List.all_eq_true]
  constructor
  · intro h x hx
    obtain ⟨i,hi,rfl⟩:=List.mem_iff_getElem.mp hx
    have:=h i (List.mem_range.mpr hi)
    rw [List.getD_eq_getElem?_getD,List.getElem?_eq_getElem hi] at this
    exact this
  · intro h i hi
    have hi':=List.mem_range.mp hi
    rw [List.getD_eq_getElem?_getD,List.getElem?_eq_getElem hi']
    exact h _ (List.getElem_mem hi')
theorem call_all_bools:CallR X (.builtin "all") (fun xs H Q => X.calm=true∧∃ (l:Addr) (bs:List Bool),xs=[.ref l]∧SqL X.K H l (bs.map V.bl)∧Q (.bl (bs.all id)) H):=by
  intro pins s σ H xs us Q I r h
  obtain ⟨hc,l,bs,rfl,hq,q⟩:=h
  obtain ⟨u,rfl,rx⟩:=vals1 r
  cases rx
  obtain ⟨its,rv,p,hz⟩:=I.list hq
  have hl:l < s.heap.objs.size:=by obtain ⟨o,ho,_⟩:=p.isList; exact Heap.lt_size ho
  have hlen:its.length=bs.length:=by rw [← rv.length,List.length_map]
  refine call_all_walk (wpAny_pyIter_list p.isList ⟨s.heap.objs.size,_,_,_,_,_,fun i => bs.getD i false,rfl,Walks.list (by rw [Around.in1_handled]; exact I.ok.hd hc) s.heap.objs.size l (Nat.ne_of_lt hl) its.toArray,⟨⟨_,Heap.get?_push_size _ rfl,rfl,rfl⟩,p.isList.at fun o e => Heap.get?_push_of_some _ e⟩,fun i v s' Q' E' hP hQ' => ?_,fun h' tk hk => ?_⟩)
  · obtain ⟨b,hb,rfl⟩:=vals_bls rv (by simpa using hP)
    have e:bs.getD i false=b:=by rw [List.getD_eq_getElem?_getD,hb]; rfl
    have hQ2:Q' (bs.getD i false) s':=hQ'
    rw [e] at hQ2
    exact wpAny_truthy_bool hQ2
  · have en:(List.range its.toArray.size).all (fun i => bs.getD i false)=bs.all id:=by rw [List.size_toArray,hlen]; exact all_range bs
    rw [en]
    exact ⟨.bl _,H,I.kept (t':=tk) fun b o e => hk b o (by simp only [List.mem_singleton]; exact Nat.ne_of_lt (Heap.lt_size e)) (Heap.get?_push_of_some _ e),rfl,q⟩
end
end L2
set_option Elab.async false
set_option linter.all false
set_option maxRecDepth 100000
set_option maxHeartbeats 4000000
namespace PySem
open Sem (wp)
namespace F
theorem str_no_int:typeLookup (.type "str") "__int__" = pure none:=by rw [typeLookup_type,builtinLookup_eq_fast]; kernel_rfl
theorem str_no_index:typeLookup (.type "str") "__index__" = pure none:=by rw [typeLookup_type,builtinLookup_eq_fast]; kernel_rfl
theorem str_no_trunc:typeLookup (.type "str") "__trunc__" = pure none:=by rw [typeLookup_type,builtinLookup_eq_fast]; kernel_rfl
end F
def wd (n:Nat):Str:=Str.ofString (toString (n:Int))
def dg (n:Nat):List Nat:=if n < 10 then [48 + n] else [48 + n / 10,48 + n % 10]
theorem wd_text:∀ n,n < 100→(List.takeWhile (fun x => x != 0) (if ((wd n).cps.all fun x => decide (x < 128))=true then (wd n).cps.toList else Unicode.numberText (wd n).cps.toList))=dg n∧(if ((wd n).cps.all fun x => decide (x < 128))=true then (wd n).cps.toList else Unicode.numberText (wd n).cps.toList)=dg n:=by decide +kernel
theorem dg_le (n:Nat):(dg n).length≤640:=by
  unfold dg
  split
  · show 1≤640; decide
  · show 2≤640; decide
theorem wp_eq {α : Type} {M:Model} {A:Around} {Q : α→Shared→Prop} {E:Value→Shared→Prop} {s:Shared} {a b:Sem α} (h:a=b) (hb:wpAny M A b Q E s):wpAny M A a Q E s:=by
  rw [h]; exact hb
theorem meets_int_new_wd (n:Nat) (hn:n < 100) (t:Tok):Meets (Builtin.«int.__new__» ⟨[.type "int",.str (wd n) t],[]⟩) (Made.int (n:Int)).spec:=by
  obtain ⟨h1,h2⟩:=wd_text n (by omega)
  obtain ⟨x,hx⟩ : ∃ x,x=wd n:=⟨_,rfl⟩
  rw [← hx] at h1 h2 ⊢
  refine Meets.of_wp fun prog w A R s hs => ?_
  obtain ⟨hp,g,d,tk,os⟩:=s
  have f1:=F.conv_sub_int
  have f2:=F.madeHere_int
  have hT:(⟨hp,g,d,tk,os⟩ : Shared).TypeIs (.str x t) "str" := rfl
  have f3:=F.str_no_int
  have f4:=F.str_no_index
  have f5:=F.str_no_trunc
  repeat (any_goals (first | assumption | wp_step))
  rw [h1,h2,if_pos (dg_le n)]
  repeat (any_goals (first | assumption | wp_step))
  refine wp_eq (b:=mkInt (n:Int)) ?_ ?_
  · clear hs f1 f2 hT f3 f4 f5 h1 h2 hx
    match n,hn with
    | 0,_ => kernel_rfl
    | 1,_ => kernel_rfl
    | 2,_ => kernel_rfl
    | 3,_ => kernel_rfl
    | 4,_ => kernel_rfl
    | 5,_ => kernel_rfl
    | 6,_ => kernel_rfl
    | 7,_ => kernel_rfl
    | 8,_ => kernel_rfl
    | 9,_ => kernel_rfl
    | 10,_ => kernel_rfl
    | 11,_ => kernel_rfl
    | 12,_ => kernel_rfl
    | 13,_ => kernel_rfl
    | 14,_ => kernel_rfl
    | 15,_ => kernel_rfl
    | 16,_ => kernel_rfl
    | 17,_ => kernel_rfl
    | 18,_ => kernel_rfl
    | 19,_ => kernel_rfl
    | 20,_ => kernel_rfl
    | 21,_ => kernel_rfl
    | 22,_ => kernel_rfl
    | 23,_ => kernel_rfl
    | 24,_ => kernel_rfl
    | 25,_ => kernel_rfl
    | 26,_ => kernel_rfl
    | 27,_ => kernel_rfl
    | 28,_ => kernel_rfl
    | 29,_ => kernel_rfl
    | 30,_ => kernel_rfl
    | 31,_ => kernel_rfl
    | 32,_ => kernel_rfl
    | 33,_ => kernel_rfl
    | 34,_ => kernel_rfl
    | 35,_ => kernel_rfl
    | 36,_ => kernel_rfl
    | 37,_ => kernel_rfl
    | 38,_ => kernel_rfl
    | 39,_ => kernel_rfl
    | 40,_ => kernel_rfl
    | 41,_ => kernel_rfl
    | 42,_ => kernel_rfl
    | 43,_ => kernel_rfl
    | 44,_ => kernel_rfl
    | 45,_ => kernel_rfl
    | 46,_ => kernel_rfl
    | 47,_ => kernel_rfl
    | 48,_ => kernel_rfl
    | 49,_ => kernel_rfl
    | 50,_ => kernel_rfl
    | 51,_ => kernel_rfl
    | 52,_ => kernel_rfl
    | 53,_ => kernel_rfl
    | 54,_ => kernel_rfl
    | 55,_ => kernel_rfl
    | 56,_ => kernel_rfl
    | 57,_ => kernel_rfl
    | 58,_ => kernel_rfl
    | 59,_ => kernel_rfl
    | 60,_ => kernel_rfl
    | 61,_ => kernel_rfl
    | 62,_ => kernel_rfl
    | 63,_ => kernel_rfl
    | 64,_ => kernel_rfl
    | 65,_ => kernel_rfl
    | 66,_ => kernel_rfl
    | 67,_ => kernel_rfl
    | 68,_ => kernel_rfl
    | 69,_ => kernel_rfl
    | 70,_ => kernel_rfl
    | 71,_ => kernel_rfl
    | 72,_ => kernel_rfl
    | 73,_ => kernel_rfl
    | 74,_ => kernel_rfl
    | 75,_ => kernel_rfl
    | 76,_ => kernel_rfl
    | 77,_ => kernel_rfl
    | 78,_ => kernel_rfl
    | 79,_ => kernel_rfl
    | 80,_ => kernel_rfl
    | 81,_ => kernel_rfl
    | 82,_ => kernel_rfl
    | 83,_ => kernel_rfl
    | 84,_ => kernel_rfl
    | 85,_ => kernel_rfl
    | 86,_ => kernel_rfl
    | 87,_ => kernel_rfl
    | 88,_ => kernel_rfl
    | 89,_ => kernel_rfl
    | 90,_ => kernel_rfl
    | 91,_ => kernel_rfl
    | 92,_ => kernel_rfl
    | 93,_ => kernel_rfl
    | 94,_ => kernel_rfl
    | 95,_ => kernel_rfl
    | 96,_ => kernel_rfl
    | 97,_ => kernel_rfl
    | 98,_ => kernel_rfl
    | 99,_ => kernel_rfl
    | k + 100,hk => exact absurd hk (by omega)
  · repeat (any_goals (first | assumption | wp_step))
    all_goals first | exact ⟨_,rfl,hs⟩ | skip
section
variable {prog:Program} {w:World} {A:Around} {E:Value→Shared→Prop} {s:Shared}
theorem call_int_wd {n:Nat} (hn:n < 100) {t:Tok} {Q:Value→Shared→Prop} (h:Q (.int (n:Int) s.toks) { s with toks:=s.toks + 1 }):wpAny (model prog w) A (call (.type "int") [.str (wd n) t]) Q E s :=
  call_int_1 (meets_int_new_wd n hn t) (show (Made.int (n:Int)).post _ s from ⟨rfl,h⟩)
end
end PySem
namespace L2
open PySem PySem.Spec PyProof.Rows
theorem call_int_word {X:Cx}:CallR X (.type "int") (fun xs H Q => ∃ n:Nat,n < 100∧xs=[.str (wd n)]∧Q (.int (n:Int)) H):=by
  intro pins s σ H xs us Q I r h
  obtain ⟨n,hn,rfl,q⟩:=h
  obtain ⟨u,rfl,rx⟩:=vals1 r
  obtain ⟨t,e⟩:=(show ∃ t,u=Value.str (wd n) t from rx)
  subst e
  exact call_int_wd hn ⟨.int _,H,I.tok _,⟨_,rfl⟩,q⟩
end L2
set_option Elab.async false
set_option linter.all false
set_option maxRecDepth 100000
set_option maxHeartbeats 4000000
namespace L2
open PySem PySem.Spec PyProof.Rows
theorem cps_inj {a b:Str} (h:a.cps.toList=b.cps.toList):a=b:=Str.ext' (Array.toList_inj.mp h)
theorem cps_app (a b:Str):(a ++ b).cps.toList=a.cps.toList ++ b.cps.toList:=by
  show (a.cps ++ b.cps).toList=_
  rw [Array.toList_append]
def jn (c:Nat):List (List Nat)→List Nat
  | [] => []
  | [x] => x
  | x :: y :: r => x ++ c :: jn c (y :: r)
theorem join_cps (c:Nat):∀ ls:List Str,(Str.join ⟨#[c]⟩ ls).cps.toList=jn c (ls.map fun x => x.cps.toList)
  | [] => rfl
  | [x] => rfl
  | x :: y :: r => by
    show (x ++ ⟨#[c]⟩ ++ Str.join ⟨#[c]⟩ (y :: r)).cps.toList=x.cps.toList ++ c :: jn c ((y :: r).map fun x => x.cps.toList)
    rw [cps_app,cps_app,join_cps c (y :: r),List.append_assoc]; rfl
theorem first_cut {c:Nat}:∀ {x y s t:List Nat},x ++ c :: s=y ++ c :: t→c ∉ x→c ∉ y→x=y∧s=t
  | [],[],s,t,h,_,_ => ⟨rfl,(List.cons.inj h).2⟩
  | [],b :: y,s,t,h,_,hy => absurd (show c∈b :: y by rw [(List.cons.inj h).1]; exact List.mem_cons_self) hy
  | a :: x,[],s,t,h,hx,_ => absurd (show c∈a :: x by rw [← (List.cons.inj h).1]; exact List.mem_cons_self) hx
  | a :: x,b :: y,s,t,h,hx,hy => by
    obtain ⟨h1,h2⟩:=List.cons.inj h
    obtain ⟨h3,h4⟩:=first_cut h2 (fun z => hx (List.mem_cons_of_mem _ z)) (fun z => hy (List.mem_cons_of_mem _ z))
    exact ⟨by rw [h1,h3],h4⟩
theorem jn_inj {c:Nat}:∀ {a b:List (List Nat)},a≠[]→b≠[]→(∀ x∈a,c ∉ x)→(∀ x∈b,c ∉ x)→jn c a=jn c b→a=b
  | [],_,h,_,_,_,_ => absurd rfl h
  | _ :: _,[],_,h,_,_,_ => absurd rfl h
  | [x],[y],_,_,_,_,h => by rw [show x=y from h]
  | [x],y :: y2 :: b,_,_,hx,_,h => by
    have h':x=y ++ c :: jn c (y2 :: b):=h
    exact absurd (show c∈x by rw [h']; simp) (hx x List.mem_cons_self)
  | x :: x2 :: a,[y],_,_,_,hy,h => by
    have h':x ++ c :: jn c (x2 :: a)=y:=h
    exact absurd (show c∈y by rw [← h']; simp) (hy y List.mem_cons_self)
  | x :: x2 :: a,y :: y2 :: b,_,_,hx,hy,h => by
    have h':x ++ c :: jn c (x2 :: a)=y ++ c :: jn c (y2 :: b):=h
    obtain ⟨h1,h2⟩:=first_cut h' (hx x List.mem_cons_self) (hy y List.mem_cons_self)
    rw [h1,jn_inj (by simp) (by simp) (fun z hz => hx z (List.mem_cons_of_mem _ hz)) (fun z hz => hy z (List.mem_cons_of_mem _ hz)) h2]
theorem map_cps_inj:∀ {a b:List Str},(a.map fun x => x.cps.toList)=(b.map fun x => x.cps.toList)→a=b
  | [],[],_ => rfl
  | [],_ :: _,h => by cases h
  | _ :: _,[],h => by cases h
  | x :: a,y :: b,h => by
    obtain ⟨h1,h2⟩:=List.cons.inj (show x.cps.toList :: (a.map fun x => x.cps.toList)=y.cps.toList :: (b.map fun x => x.cps.toList) from h)
    rw [cps_inj h1,map_cps_inj h2]
theorem join_is (sep:Str) (ls:List Str):Txt.join sep ls=Str.join sep ls:=StrLaws.glued_eq_join sep ls
theorem split_join {c:Nat} {ls:List Str} (h0:ls≠[]) (hf:∀ x∈ls,c ∉ x.cps.toList):Txt.split (Txt.join ⟨#[c]⟩ ls) ⟨#[c]⟩ = ls:=by
  have h1:=StrLaws.join_split (Txt.join ⟨#[c]⟩ ls) ⟨#[c]⟩
  have h2:(Str.join ⟨#[c]⟩ (Txt.split (Txt.join ⟨#[c]⟩ ls) ⟨#[c]⟩)).cps.toList=(Txt.join ⟨#[c]⟩ ls).cps.toList:=by rw [h1]
  rw [join_cps] at h2
  have h3:(Txt.join ⟨#[c]⟩ ls).cps.toList=jn c (ls.map fun x => x.cps.toList):=by rw [join_is,join_cps]
  rw [h3] at h2
  refine map_cps_inj (jn_inj (c:=c) ?_ ?_ ?_ ?_ h2)
  · intro e
    have:=split_pos (Txt.join ⟨#[c]⟩ ls) ⟨#[c]⟩
    have e2:=congrArg List.length e
    rw [List.length_map] at e2
    simp at e2
    rw [e2] at this
    cases this
  · intro e
    exact h0 (by simpa using e)
  · intro x hx
    obtain ⟨p,hp,rfl⟩:=List.mem_map.mp hx
    exact StrLaws.split_free _ c p hp
  · intro x hx
    obtain ⟨p,hp,rfl⟩:=List.mem_map.mp hx
    exact hf p hp
theorem joinOk_of {sep:Str} {ts:List Str} (h1:∀ t∈ts,t.length≤1000) (h2:ts.length≤1000) (h3:sep.length≤1):JoinOk sep ts=true:=by
  unfold JoinOk
  have hs:(ts.map (·.length)).sum≤1000 * ts.length:=by
    clear h2
    induction ts with
    | nil => exact Nat.le_refl _
    | cons t ts ih =>
      have a:=h1 t List.mem_cons_self
      have b:=ih fun x hx => h1 x (List.mem_cons_of_mem _ hx)
      rw [List.map_cons,List.sum_cons,List.length_cons,Nat.mul_add]
      omega
  have hm:ts.length * sep.length≤1000 * 1:=Nat.mul_le_mul h2 h3
  have ht:(ts.map (·.length)).sum + ts.length * sep.length≤1001000:=by
    have : 1000 * ts.length≤1000 * 1000:=Nat.mul_le_mul_left _ h2
    omega
  rw [StrLaws.joinTotal]
  unfold Builtin.Str.tooLong
  rw [Bool.not_eq_true',decide_eq_false_iff_not,sizeLine_eq]
  omega
end L2
set_option maxHeartbeats 4000000
namespace Toy
open PySem L2
seal PySem.wpAny
def top (i:Nat):Stmt:=PySem.Challenge.pw_chartfold_k18_charts_written.main.body.getD i (.Pass ⟨0,0,0,0⟩)
abbrev sInit:Stmt:=inClass (top 18) 0
abbrev sCheckRooms:Stmt:=top 19
abbrev sCheckHolder:Stmt:=top 20
abbrev sCheckKind:Stmt:=top 21
abbrev sCheckArrows:Stmt:=top 22
abbrev sCheckArrow:Stmt:=top 23
abbrev sPart:Stmt:=top 24
abbrev sChildren:Stmt:=top 25
abbrev sWithin:Stmt:=top 26
abbrev sLies:Stmt:=top 27
abbrev sScope:Stmt:=top 28
abbrev sShown:Stmt:=top 34
abbrev sRoomLine:Stmt:=top 35
abbrev sArrowLine:Stmt:=top 36
abbrev sNumWord:Stmt:=top 37
abbrev sRead:Stmt:=top 38
abbrev sReadNum:Stmt:=top 39
abbrev sCell:Stmt:=top 41
abbrev sRooms:Stmt:=top 42
abbrev sChain:Stmt:=top 43
abbrev sLScope:Stmt:=top 44
abbrev sCells:Stmt:=top 45
abbrev sAnyA:Stmt:=top 46
abbrev sMark:Stmt:=top 47
abbrev sLText:Stmt:=top 48
abbrev sLaw:Stmt:=top 49
theorem same_new {H:Hp} {p:Addr} (h:H p=none) (o:HO):Same H (upd H p o):=fun b u q => by rw [upd_ne (ne_of_none q h)]; exact q
theorem sameUpd {H H1:Hp} {p:Addr} (h:Same H H1) (hp:H p=none) (o:HO):Same H (upd H1 p o):=fun b u q => by rw [upd_ne (ne_of_none q hp)]; exact h b u q
def Items (H:Hp) (ps:List Addr) (os:List (List V)):Prop:=ps.length=os.length∧∀ (i:Nat) p o,ps[i]? = some p→os[i]? = some o→H p=some (.tup o)
theorem Items.same {H H':Hp} {ps:List Addr} {os:List (List V)} (s:Same H H') (h:Items H ps os):Items H' ps os:=⟨h.1,fun i p o a b => s _ _ (h.2 i p o a b)⟩
theorem Items.at {H:Hp} {ps:List Addr} {os:List (List V)} (h:Items H ps os) {i:Nat} {o:List V} (e:os[i]? = some o):∃ p,(ps.map V.ref)[i]? = some (.ref p)∧H p=some (.tup o):=by
  obtain ⟨hi,_⟩:=List.getElem?_eq_some_iff.mp e
  have hi':i < ps.length:=by rw [h.1]; exact hi
  refine ⟨ps[i],by rw [List.getElem?_map,List.getElem?_eq_getElem hi']; rfl,h.2 i _ o (List.getElem?_eq_getElem hi') e⟩
theorem Items.snoc {H:Hp} {ps:List Addr} {os:List (List V)} {p:Addr} {o:List V} (h:Items H ps os) (hp:H p=some (.tup o)):Items H (ps ++ [p]) (os ++ [o]):=by
  refine ⟨by simp [h.1],fun i q u a b => ?_⟩
  by_cases hi:i < ps.length
  · rw [List.getElem?_append_left hi] at a
    rw [List.getElem?_append_left (by rw [← h.1]; exact hi)] at b
    exact h.2 i q u a b
  · have hl:=h.1
    rw [List.getElem?_append_right (by omega)] at a
    rw [List.getElem?_append_right (by omega)] at b
    have e1:i - ps.length=0:=by
      cases z:i - ps.length with
      | zero => rfl
      | succ n => rw [z] at a; simp at a
    have e2:i - os.length=0:=by omega
    rw [e1] at a
    rw [e2] at b
    simp at a b
    subst a b
    exact hp
abbrev Room1:=Int×Str
abbrev Arrow:=Int×Int×Int×Int×Int
def rV (r:Room1):List V:=[.int r.1,.str r.2]
def aV (a:Arrow):List V:=[.int a.1,.int a.2.1,.int a.2.2.1,.int a.2.2.2.1,.int a.2.2.2.2]
def hsOf (R:List Room1):List Int:=R.map (·.1)
theorem hsOf_len (R:List Room1):(hsOf R).length=R.length:=by simp [hsOf]
theorem hsOf_get {R:List Room1} {i:Nat} {r:Room1} (h:R[i]? = some r):Rm.hold (hsOf R) i=r.1:=by
  unfold Rm.hold hsOf
  rw [List.getD_eq_getElem?_getD,List.getElem?_map,h]; rfl
theorem kr:¬ (("rooms" : Str) = "arrows"):=by decide +kernel
def flds (l m:Addr):List (Str×V):=putF "arrows" (.ref m) (putF "rooms" (.ref l) [])
theorem flds_rooms (l m:Addr):(flds l m).lookup ("rooms" : Str)=some (.ref l):=by
  unfold flds
  rw [lookup_putF,if_neg kr,lookup_putF,if_pos rfl]
theorem flds_arrows (l m:Addr):(flds l m).lookup ("arrows" : Str)=some (.ref m):=by
  unfold flds
  rw [lookup_putF,if_pos rfl]
structure ChartAt (C:Addr) (H:Hp) (c:Addr) (R:List Room1) (A:List Arrow):Prop where
  ob:∃ dx l m ps qs,H c=some (.ins C dx (flds l m))∧H l=some (.lst (ps.map V.ref))∧Items H ps (R.map rV)∧H m=some (.lst (qs.map V.ref))∧Items H qs (A.map aV)
  rl:R.length≤100
  al:A.length≤100
theorem ChartAt.same {C:Addr} {H H':Hp} {c:Addr} {R:List Room1} {A:List Arrow} (s:Same H H') (h:ChartAt C H c R A):ChartAt C H' c R A:=by
  obtain ⟨dx,l,m,ps,qs,h1,h2,h3,h4,h5⟩:=h.ob
  exact ⟨⟨dx,l,m,ps,qs,s _ _ h1,s _ _ h2,h3.same s,s _ _ h4,h5.same s⟩,h.rl,h.al⟩
structure Good (R:List Room1):Prop where
  tree:Rm.Tree (hsOf R)
  most:R.length≤16
  kind:∀ (i:Nat) r,R[i]? = some r→(r.2 = "plain"∨r.2 = "one"∨r.2 = "all"∨r.2 = "keep")∧(r.2 = "plain" ↔ Rm.kids (hsOf R) i=[])
structure DefAt (K:PySem.W.Frag) (mg:Str→Option Value) (x:Str) (st:Stmt) (ps:List Str) (f:Addr) (fd:FuncData):Prop where
  fn:Fun K x x st f fd
  bd:Binds K fd ps []
  mg:mg x=some (.ref f)
structure Txt (K:PySem.W.Frag) (mg:Str→Option Value) (C:Addr):Prop where
  cl:Cls K C
  nR:NoAttr K C "rooms"
  nA:NoAttr K C "arrows"
  mgC:mg "Chart" = some (.ref C)
  len:mg "len" = none
  range:mg "range" = none
  list:mg "list" = none
  inst:mg "isinstance" = none
  tbool:mg "bool" = none
  tint:mg "int" = none
  tup:mg "tuple" = none
  srt:mg "sorted" = none
  enum:mg "enumerate" = none
  hold:∃ t,mg "HOLDER" = some (.int 0 t)
  kind:∃ t,mg "KIND" = some (.int 1 t)
  nil:∃ t,mg "NONE" = some (.int (-1) t)
  src:∃ t,mg "SOURCE" = some (.int 0 t)
  evt:∃ t,mg "EVENT" = some (.int 1 t)
  grd:∃ t,mg "GUARD" = some (.int 2 t)
  tgt:∃ t,mg "TARGET" = some (.int 3 t)
  ded:∃ t,mg "DEED" = some (.int 4 t)
  lastE:∃ t,mg "LAST_EVENT" = some (.int 3 t)
  lastD:∃ t,mg "LAST_DEED" = some (.int 99 t)
  mostR:∃ t,mg "MOST_ROOMS" = some (.int 16 t)
  mostA:∃ t,mg "MOST_ARROWS" = some (.int 20 t)
  choosing:∃ a,mg "CHOOSING" = some (.ref a)∧∀ H,SqT K H a [.str "one",.str "keep"]
  kinds:∃ a,mg "KINDS" = some (.ref a)∧∀ H,SqT K H a [.str "plain",.str "one",.str "all",.str "keep"]
  ll:PySem.W.kitOne K (.type "list") (.type "list")=some true
  bb:PySem.W.kitOne K (.type "bool") (.type "bool")=some true
  ii:PySem.W.kitOne K (.type "int") (.type "int")=some true
  ib:PySem.W.kitOne K (.type "int") (.type "bool")=some false
  pp:PySem.W.kitOne K (.type "tuple") (.type "tuple")=some true
theorem pe_gint {X:Cx} {x:Str} {i:Int} {pos:Pos} (h:∃ t,X.mg x=some (.int i t)) (hg:Gl X x) (hd:(x == ("__debug__" : Str))=false:=by decide):PE X (.Name x pos) (tC (.int i)):=by
  obtain ⟨t,h⟩:=h
  exact pe_glob hg h ⟨t,rfl⟩ hd
section
variable {P:Program} {w:World} {K:PySem.W.Frag} {mg:Str→Option Value} {base:Heap}
def spChildren (C:Addr):Sp:=fun vs H Q _ => ∃ (c:Addr) (R:List Room1) (A:List Arrow) (k:Int),vs=[.ref c,.int k]∧ChartAt C H c R A ∧
  ∀ (l:Addr) (H':Hp),H l=Option.none→Same H H'→H' l=some (.lst ((Rm.kids (hsOf R) k).map V.int))→Q (.ref l) H'
theorem scChildren:FnScope ["chart", "room"] ["chart", "room"] (defScope sChildren):=⟨rfl,rfl,rfl,by decide +kernel,rfl,by decide +kernel,by decide +kernel⟩
theorem ok_children {f C:Addr} {fd:FuncData} (D:DefAt K mg "children" sChildren ["chart", "room"] f fd) (T:Txt K mg C):FnOk P w K mg base CX0 1 f fd ["chart", "room"] (spChildren C):=by
  refine D.fn.ok scChildren (fun vs H Q E h => ?_) (fun cdv A outer s H vs Q E hr h => ?_)
  · obtain ⟨c,R,As,k,rfl,_⟩:=h
    rfl
  obtain ⟨c,R,As,k,rfl,hC,q⟩:=h
  refine ⟨_,pss_one (ps_ret (pe_comp ["inner", "chart", "room"] [Option.none,some 0,some 1] rfl
    (pi_range1 rfl T.range (pa_cons (pe_callB call_len_seq (by rfl) T.len PySem.boot_len (pa_cons (pe_fld (pv 0) rfl) pa_nil)) pa_nil))
    (fun _ => pg_name (i := 0) (show (["inner", "chart", "room"]:List Str).Nodup by decide +kernel) rfl (Or.inl rfl))
    (fun _ => pts_one (pt_cmpR op_eq (pe_ix ix_tup (pe_ix ix_list (pe_fld (pv 1) rfl) (pv 0) (fun _ _ => rfl)) (pe_gint T.hold rfl) (fun _ _ => rfl)) (pv 2) (nomark _)))
    (fun _ => pv 0) (N:=["chart", "room"]) (ks:=(defScope sChildren).names) rfl rfl (by decide +kernel) (by decide +kernel) (by decide +kernel) (by decide +kernel))),?_⟩
  obtain ⟨dx,l,m,ps,qs,h1,h2,h3,h4,h5⟩:=hC.ob
  have hl:(ps.map V.ref).length=R.length:=by rw [List.length_map,h3.1,List.length_map]
  have hrl:=hC.rl
  refine ⟨_,rfl,c,C,dx,_,_,rfl,h1,T.cl,T.nR,flds_rooms l m,l,_,rfl,.inl (SqL.of h2),_,rfl,by rw [hl]; omega,by rw [hl]; omega,fun bk D hD => ?_⟩
  rw [hl]
  refine comp_range (Pv:=fun i ys σ H' => ∃ v,σ = [v,some (.ref c),some (.int k)]∧ys=(((List.range i).filter fun j => decide (Rm.hold (hsOf R) j=k)).map fun (j:Nat) => V.int (j:Int))∧Same H H') ⟨_,rfl,rfl,same_new hD _⟩ ?_ ?_
  · rintro i ys σ H1 hi hDi ⟨v,rfl,hys,(s1:Same _ _)⟩
    have hi':i < R.length:=by simpa using hi
    have er:(R.map rV)[i]? = some (rV R[i]):=by rw [List.getElem?_map,List.getElem?_eq_getElem hi']; rfl
    obtain ⟨p,hp,hp2⟩:=h3.at er
    have ei:(0:Int) + (i:Int)=(i:Int):=by omega
    refine ⟨_,rfl,c,C,dx,_,_,rfl,s1 _ _ h1,T.cl,T.nR,flds_rooms l m,_,rfl,l,_,_,_,rfl,rfl,SqL.of (s1 _ _ h2),by rw [ei]; exact atI_nat hp,p,_,_,_,rfl,rfl,SqT.of (s1 _ _ hp2),rfl,_,rfl,rfl,_,rfl,?_⟩
    have eh:Rm.hold (hsOf R) i=R[i].1:=hsOf_get (List.getElem?_eq_getElem hi')
    refine ite2 (fun z => ?_) (fun z => ?_)
    · have z':R[i].1=k:=by simpa using z
      refine ⟨_,rfl,hDi,?_,⟨_,rfl,?_,sameUpd s1 hD _⟩⟩
      · rw [hys,List.length_map]
        have:=List.length_filter_le (fun j => decide (Rm.hold (hsOf R) j=k)) (List.range i)
        rw [List.length_range] at this
        exact small1000 (by omega)
      · rw [Rm.range_filter_succ,if_pos (by rw [eh]; exact decide_eq_true z'),List.map_append,← hys,ei]; rfl
    · have z':¬ R[i].1=k:=by simpa using z
      refine ⟨hDi,⟨_,rfl,?_,s1⟩⟩
      rw [Rm.range_filter_succ,if_neg (by rw [eh]; simpa using z'),List.append_nil]; exact hys
  · rintro ys σ H1 hDn ⟨v,rfl,hys,(s1:Same _ _)⟩
    refine q D H1 hD s1 ?_
    rw [hDn,hys]
    unfold Rm.kids
    rw [List.map_map,hsOf_len]
    have e:((R.length:Int)).toNat=R.length:=by omega
    rw [e]; rfl
def spWithin (C:Addr):Sp:=fun vs H Q _ => ∃ (c:Addr) (R:List Room1) (A:List Arrow) (i j:Nat),vs=[.ref c,.int i,.int j]∧ChartAt C H c R A∧Rm.Tree (hsOf R)∧i < R.length ∧
  Q (.bl (Rm.wi (hsOf R) i j)) H
theorem scWithin:FnScope ["chart", "room", "other", "place"] ["chart", "room", "other"] (defScope sWithin):=⟨rfl,rfl,rfl,by decide +kernel,rfl,by decide +kernel,by decide +kernel⟩
theorem ok_within {f C:Addr} {fd:FuncData} (D:DefAt K mg "within" sWithin ["chart", "room", "other"] f fd) (T:Txt K mg C):FnOk P w K mg base CX0 1 f fd ["chart", "room", "other"] (spWithin C):=by
  refine D.fn.ok scWithin (fun vs H Q E h => ?_) (fun cdv A outer s H vs Q E hr h => ?_)
  · obtain ⟨c,R,As,i,j,rfl,_⟩:=h
    rfl
  obtain ⟨c,R,As,i,j,rfl,hC,hT,hi,q⟩:=h
  refine ⟨_,pss_cons (ps_set (i := 3) scWithin.nd rfl (Or.inl rfl) (pv 1))
    (pss_cons (ps_while PassesOwn.never (pt_cmpR op_gt (pv 3) (pv 2) (nomark _))
      (pss_one (ps_set (i := 3) scWithin.nd rfl (Or.inl rfl) (pe_ix ix_tup (pe_ix ix_list (pe_fld (pv 0) rfl) (pv 3) (fun _ _ => rfl)) (pe_gint T.hold rfl) (fun _ _ => rfl)))))
    (pss_one (ps_ret (pe_cmpR op_eq (pv 3) (pv 2) (nomark _))))),?_⟩
  obtain ⟨dx,l,m,ps,qs,h1,h2,h3,h4,h5⟩:=hC.ob
  refine ⟨_,rfl,fun n σ H1 => ∃ p:Nat,σ = [some (.ref c),some (.int i),some (.int j),some (.int p)]∧H1=H∧p < R.length∧n=p∧Rm.wi (hsOf R) i j=Rm.wi (hsOf R) p j,⟨i,i,rfl,rfl,hi,rfl,rfl⟩,?_⟩
  rintro n σ H1 ⟨p,rfl,rfl,hp,rfl,ew⟩
  refine ⟨_,rfl,_,rfl,_,_,rfl,rfl,_,rfl,?_⟩
  refine ite2 (fun z => ?_) (fun z => ?_)
  · have z':(j:Int) < (n:Int):=by simpa using z
    have er:(R.map rV)[n]? = some (rV R[n]):=by rw [List.getElem?_map,List.getElem?_eq_getElem hp]; rfl
    obtain ⟨a,ha,ha2⟩:=h3.at er
    have eh:Rm.hold (hsOf R) n=R[n].1:=hsOf_get (List.getElem?_eq_getElem hp)
    have hu:=hT.up n (by omega) (by rw [hsOf_len]; exact hp)
    rw [eh] at hu
    refine ⟨fun σ' H' => ∃ p':Nat,p' < n∧σ'=[some (.ref c),some (.int i),some (.int j),some (.int p')]∧H'=H1∧Rm.wi (hsOf R) i j=Rm.wi (hsOf R) p' j,?_,?_⟩
    · rintro σ' H' ⟨p',hlt,rfl,rfl,e'⟩
      exact ⟨p',hlt,p',rfl,rfl,by omega,rfl,e'⟩
    · refine ⟨_,rfl,c,C,dx,_,_,rfl,h1,T.cl,T.nR,flds_rooms l m,_,rfl,l,_,_,_,rfl,rfl,SqL.of h2,atI_nat ha,a,_,_,_,rfl,rfl,SqT.of ha2,rfl,?_⟩
      refine ⟨R[n].1.toNat,by omega,?_,rfl,?_⟩
      · show [some (V.ref c),some (V.int i),some (V.int j),some (V.int R[n].1)] = _
        have e3:((R[n].1.toNat:Nat):Int)=R[n].1:=by omega
        rw [e3]
      · rw [ew,Rm.wi_step (by rw [eh]; exact hu) (by omega),eh]
  · have z':¬ (j:Int) < (n:Int):=by simpa using z
    refine ⟨_,rfl,_,rfl,rfl,?_⟩
    rw [ew,Rm.wi_end (by omega)] at q
    have e:(decide (V.int (n:Int)=V.int (j:Int)))=decide (n=j):=decide_eq_decide.mpr ⟨fun y => by injection y with y; omega,fun y => by rw [y]⟩
    rw [e]
    exact q
end
end Toy
namespace Toy
open PySem L2
seal PySem.wpAny
section
variable {P:Program} {w:World} {K:PySem.W.Frag} {mg:Str→Option Value} {base:Heap}
theorem room_at {H:Hp} {ps:List Addr} {R:List Room1} (h3:Items H ps (R.map rV)) {i:Nat} (hi:i < R.length):∃ p,atI (ps.map V.ref) (i:Int)=some (.ref p)∧H p=some (.tup (rV R[i])):=by
  have er:(R.map rV)[i]? = some (rV R[i]):=by rw [List.getElem?_map,List.getElem?_eq_getElem hi]; rfl
  obtain ⟨p,hp,hp2⟩:=h3.at er
  exact ⟨p,atI_nat hp,hp2⟩
def spCheck1 (C:Addr):Sp:=fun vs H Q _ => ∃ (c:Addr) (R:List Room1) (A:List Arrow) (i:Nat),vs=[.ref c,.int i]∧ChartAt C H c R A∧Good R∧i < R.length∧∀ H',Same H H'→Q .non H'
theorem scCheckHolder:FnScope ["chart", "room", "holder"] ["chart", "room"] (defScope sCheckHolder):=⟨rfl,rfl,rfl,by decide +kernel,rfl,by decide +kernel,by decide +kernel⟩
theorem ok_check_holder {f C:Addr} {fd:FuncData} (D:DefAt K mg "check_holder" sCheckHolder ["chart", "room"] f fd) (T:Txt K mg C):FnOk P w K mg base CX0 1 f fd ["chart", "room"] (spCheck1 C):=by
  refine D.fn.ok scCheckHolder (fun vs H Q E h => ?_) (fun cdv A outer s H vs Q E hr h => ?_)
  · obtain ⟨c,R,As,i,rfl,_⟩:=h
    rfl
  obtain ⟨c,R,As,i,rfl,hC,hG,hi,q⟩:=h
  refine ⟨_,pss_cons (ps_set (i := 2) scCheckHolder.nd rfl (Or.inl rfl) (pe_ix ix_tup (pe_ix ix_list (pe_fld (pv 0) rfl) (pv 1) (fun _ _ => rfl)) (pe_gint T.hold rfl) (fun _ _ => rfl)))
    (pss_cons (ps_if (pt_cmpR op_eq (pv 1) pe_int (nomark _))
      (pss_cons (ps_if (pt_cmpR op_ne (pv 2) (pe_gint T.nil rfl) (nomark _)) pss_never pss_nil) (pss_one ps_retN)) pss_nil)
    (pss_one (ps_if (pt_not (pt_chain op_le op_lt pe_int (pv 2) (pv 1))) pss_never pss_nil))),?_⟩
  obtain ⟨dx,l,m,ps,qs,h1,h2,h3,h4,h5⟩:=hC.ob
  obtain ⟨p,hp,hp2⟩:=room_at h3 hi
  have eh:Rm.hold (hsOf R) i=R[i].1:=hsOf_get (List.getElem?_eq_getElem hi)
  refine ⟨_,rfl,c,C,dx,_,_,rfl,h1,T.cl,T.nR,flds_rooms l m,_,rfl,l,_,_,_,rfl,rfl,SqL.of h2,hp,p,_,_,_,rfl,rfl,SqT.of hp2,rfl,?_⟩
  refine ⟨_,rfl,rfl,_,rfl,?_⟩
  refine ite2 (fun z => ?_) (fun z => ?_)
  · have z':i=0:=by
      have:(i:Int)=0:=by simpa using z
      omega
    have e0:R[i].1 = -1:=by rw [← eh,z']; exact hG.tree.root
    refine ⟨_,rfl,rfl,_,rfl,?_⟩
    refine iteNS (show V.int R[i].1=V.int (-1) by rw [e0]) ?_
    exact q H (Same.refl H)
  · have z':¬ i=0:=fun y => z (by rw [y]; rfl)
    have hu:=hG.tree.up i (by omega) (by rw [hsOf_len]; exact hi)
    rw [eh] at hu
    refine ⟨_,rfl,_,_,rfl,rfl,_,rfl,?_⟩
    rw [decide_eq_true hu.1]
    refine iteT ?_
    refine ⟨_,rfl,_,_,rfl,rfl,_,rfl,?_⟩
    rw [decide_eq_true hu.2]
    refine iteF ?_
    exact q H (Same.refl H)
theorem scCheckKind:FnScope ["chart", "room", "kind", "inner"] ["chart", "room"] (defScope sCheckKind):=⟨rfl,rfl,rfl,by decide +kernel,rfl,by decide +kernel,by decide +kernel⟩
theorem in_kinds {x:Str} (h:x = "plain"∨x = "one"∨x = "all"∨x = "keep"):inV (.str x) [.str "plain",.str "one",.str "all",.str "keep"] = true:=by
  rcases h with h | h | h | h <;> (subst h; decide +kernel)
theorem ok_check_kind {f C fc:Addr} {fd fdc:FuncData} (D:DefAt K mg "check_kind" sCheckKind ["chart", "room"] f fd) (T:Txt K mg C) (Dc:DefAt K mg "children" sChildren ["chart", "room"] fc fdc):FnOk P w K mg base CX0 2 f fd ["chart", "room"] (spCheck1 C):=by
  have Gc:FnOk P w K mg base CX0 1 fc fdc ["chart", "room"] (spChildren C):=ok_children Dc T
  refine D.fn.ok scCheckKind (fun vs H Q E h => ?_) (fun cdv A outer s H vs Q E hr h => ?_)
  · obtain ⟨c,R,As,i,rfl,_⟩:=h
    rfl
  obtain ⟨c,R,As,i,rfl,hC,hG,hi,q⟩:=h
  obtain ⟨aK,hK,sK⟩:=T.kinds
  refine ⟨_,pss_cons (ps_set (i := 2) scCheckKind.nd rfl (Or.inl rfl) (pe_ix ix_tup (pe_ix ix_list (pe_fld (pv 0) rfl) (pv 1) (fun _ _ => rfl)) (pe_gint T.kind rfl) (fun _ _ => rfl)))
    (pss_cons (ps_if (pt_cmpR op_notIn_seq (pv 2) (pe_glob rfl hK (v:=.ref aK) rfl) (by with_unfolding_all rfl)) pss_never pss_nil)
    (pss_cons (ps_set (i := 3) scCheckKind.nd rfl (Or.inl rfl) (pe_call Gc hr rfl Dc.mg Dc.fn.kp Dc.bd .nil pass0 (pa_cons (pv 0) (pa_cons (pv 1) pa_nil))))
    (pss_cons (ps_if (PW.pt (pw_and (pt_cmpR op_eq (pv 2) pe_str (nomark _)) (pw_and1 (pt_cmpR op_gt (pe_callB call_len_seq (by rfl) T.len PySem.boot_len (pa_cons (pv 3) pa_nil)) pe_int (nomark _))))) pss_never pss_nil)
    (pss_one (ps_if (PW.pt (pw_and (pt_cmpR op_ne (pv 2) pe_str (nomark _)) (pw_and1 (pt_cmpR op_eq (pe_callB call_len_seq (by rfl) T.len PySem.boot_len (pa_cons (pv 3) pa_nil)) pe_int (nomark _))))) pss_never pss_nil))))),?_⟩
  obtain ⟨dx,l,m,ps,qs,h1,h2,h3,h4,h5⟩:=hC.ob
  obtain ⟨p,hp,hp2⟩:=room_at h3 hi
  obtain ⟨hk1,hk2⟩:=hG.kind i R[i] (List.getElem?_eq_getElem hi)
  refine ⟨_,rfl,c,C,dx,_,_,rfl,h1,T.cl,T.nR,flds_rooms l m,_,rfl,l,_,_,_,rfl,rfl,SqL.of h2,hp,p,_,_,_,rfl,rfl,SqT.of hp2,rfl,?_⟩
  refine ⟨_,rfl,aK,_,rfl,.inr (sK _),rfl,by decide +kernel,_,rfl,?_⟩
  rw [if_pos rfl,in_kinds hk1]
  refine iteF ?_
  refine ⟨_,rfl,_,rfl,c,R,As,i,rfl,hC,fun d H1 hd s1 e1 => ?_⟩
  have el:∀ b:Bool,(if b=true then False else True)→b=false:=fun b h => by cases b <;> simp_all
  refine ⟨_,rfl,rfl,_,rfl,?_⟩
  by_cases hpl:R[i].2 = "plain"
  · have e0:Rm.kids (hsOf R) i=[]:=hk2.mp hpl
    rw [decide_eq_true (show V.str R[i].2=V.str "plain" by rw [hpl])]
    refine iteT ?_
    refine ⟨_,rfl,d,_,rfl,.inl (SqL.of e1),_,_,rfl,rfl,_,rfl,?_⟩
    rw [e0]
    refine iteF ?_
    refine ⟨_,rfl,rfl,_,rfl,?_⟩
    rw [decide_eq_true (show V.str R[i].2=V.str "plain" by rw [hpl])]
    refine iteF ?_
    refine iteF ?_
    exact q H1 s1
  · have e0:Rm.kids (hsOf R) i≠[]:=fun z => hpl (hk2.mpr z)
    have ne:¬ V.str R[i].2=V.str "plain" := fun z => hpl (by injection z)
    rw [decide_eq_false ne]
    refine iteF ?_
    refine iteF ?_
    refine ⟨_,rfl,rfl,_,rfl,?_⟩
    rw [decide_eq_false ne]
    refine iteT ?_
    refine ⟨_,rfl,d,_,rfl,.inl (SqL.of e1),rfl,_,rfl,?_⟩
    have nz:¬ V.int (((Rm.kids (hsOf R) i).map V.int).length:Int)=V.int 0:=fun z => by
      injection z with z
      rw [List.length_map] at z
      exact e0 (List.length_eq_zero_iff.mp (by omega))
    rw [decide_eq_false nz]
    refine iteF ?_
    exact q H1 s1
def spCheckRooms (C:Addr):Sp:=fun vs H Q _ => ∃ (c:Addr) (R:List Room1) (A:List Arrow),vs=[.ref c]∧ChartAt C H c R A∧Good R∧∀ H',Same H H'→Q .non H'
theorem scCheckRooms:FnScope ["chart", "room"] ["chart"] (defScope sCheckRooms):=⟨rfl,rfl,rfl,by decide +kernel,rfl,by decide +kernel,by decide +kernel⟩
theorem ok_check_rooms {f C fc fh fk:Addr} {fd fdc fdh fdk:FuncData} (D:DefAt K mg "check_rooms" sCheckRooms ["chart"] f fd) (T:Txt K mg C) (Dc:DefAt K mg "children" sChildren ["chart", "room"] fc fdc)
    (Dh:DefAt K mg "check_holder" sCheckHolder ["chart", "room"] fh fdh) (Dk:DefAt K mg "check_kind" sCheckKind ["chart", "room"] fk fdk):FnOk P w K mg base CX0 3 f fd ["chart"] (spCheckRooms C):=by
  have Gh:FnOk P w K mg base CX0 1 fh fdh ["chart", "room"] (spCheck1 C):=ok_check_holder Dh T
  have Gk:FnOk P w K mg base CX0 2 fk fdk ["chart", "room"] (spCheck1 C):=ok_check_kind Dk T Dc
  refine D.fn.ok scCheckRooms (fun vs H Q E h => ?_) (fun cdv A outer s H vs Q E hr h => ?_)
  · obtain ⟨c,R,As,rfl,_⟩:=h
    rfl
  obtain ⟨c,R,As,rfl,hC,hG,q⟩:=h
  refine ⟨_,pss_cons (ps_if (pt_not (pt_chain op_le op_le pe_int (pe_callB call_len_seq (by rfl) T.len PySem.boot_len (pa_cons (pe_fld (pv 0) rfl) pa_nil)) (pe_gint T.mostR rfl))) pss_never pss_nil)
    (pss_one (ps_for PassesOwn.never rfl (pi_range1 rfl T.range (pa_cons (pe_callB call_len_seq (by rfl) T.len PySem.boot_len (pa_cons (pe_fld (pv 0) rfl) pa_nil)) pa_nil)) (pg_name (i := 1) scCheckRooms.nd rfl (Or.inl rfl))
      (pss_cons (ps_expr (pe_call Gh (hr.mono (by decide)) rfl Dh.mg Dh.fn.kp Dh.bd .nil pass0 (pa_cons (pv 0) (pa_cons (pv 1) pa_nil))))
      (pss_one (ps_expr (pe_call Gk hr rfl Dk.mg Dk.fn.kp Dk.bd .nil pass0 (pa_cons (pv 0) (pa_cons (pv 1) pa_nil)))))))),?_⟩
  obtain ⟨dx,l,m,ps,qs,h1,h2,h3,h4,h5⟩:=hC.ob
  have hl:(ps.map V.ref).length=R.length:=by rw [List.length_map,h3.1,List.length_map]
  have hm:=hG.most
  have h0:=hG.tree.pos
  rw [hsOf_len] at h0
  refine ⟨_,rfl,c,C,dx,_,_,rfl,h1,T.cl,T.nR,flds_rooms l m,l,_,rfl,.inl (SqL.of h2),_,_,rfl,rfl,_,rfl,?_⟩
  rw [hl,decide_eq_true (show (1:Int)≤(R.length:Int) by omega)]
  refine iteT ?_
  refine ⟨_,_,rfl,rfl,_,rfl,?_⟩
  rw [decide_eq_true (show (R.length:Int)≤(16:Int) by omega)]
  refine iteF ?_
  refine ⟨_,rfl,c,C,dx,_,_,rfl,h1,T.cl,T.nR,flds_rooms l m,l,_,rfl,.inl (SqL.of h2),_,rfl,by rw [hl]; omega,by rw [hl]; omega,?_⟩
  rw [hl]
  refine for_range (fun i σ H1 => ∃ v,σ = [some (.ref c),v]∧Same H H1) ⟨_,rfl,Same.refl H⟩ ?_ ?_
  · rintro i σ H1 hi ⟨v,rfl,(s1:Same _ _)⟩
    have hi':i < R.length:=by omega
    have ei:(0:Int) + (i:Int)=(i:Int):=by omega
    rw [ei]
    refine ⟨_,rfl,_,rfl,c,R,As,i,rfl,hC.same s1,hG,hi',fun H2 s2 => ?_⟩
    refine ⟨_,rfl,_,rfl,c,R,As,i,rfl,hC.same (s1.trans s2),hG,hi',fun H3 s3 => ?_⟩
    exact ⟨_,rfl,s1.trans (s2.trans s3)⟩
  · rintro σ H1 ⟨v,rfl,(s1:Same _ _)⟩
    exact q H1 s1
end
end Toy
namespace Toy
open PySem L2
seal PySem.wpAny
section
variable {P:Program} {w:World} {K:PySem.W.Frag} {mg:Str→Option Value} {base:Heap}
def pickS (i:Int):Str:=(["one", "all", "keep", "one"]:List Str).getD i.toNat "one"
def lk (ns:List Int) (m k:Nat):Str:=if (k:Int)∈Rm.holders ns m then pickS (Rm.cell ns k / 16 % 4) else "plain"
def lawRooms (ns:List Int) (m:Nat):List Room1:=(List.range m).map fun k => (Rm.lh ns k,lk ns m k)
theorem lawRooms_len (ns:List Int) (m:Nat):(lawRooms ns m).length=m:=by simp [lawRooms]
theorem lawRooms_hs (ns:List Int) (m:Nat):hsOf (lawRooms ns m)=Rm.holders ns m:=by
  unfold hsOf lawRooms Rm.holders
  rw [List.map_map]; rfl
theorem lawRooms_get {ns:List Int} {m i:Nat} {r:Room1} (h:(lawRooms ns m)[i]? = some r):i < m∧r=(Rm.lh ns i,lk ns m i):=by
  have hi:i < m:=by
    have:=(List.getElem?_eq_some_iff.mp h).1
    rw [lawRooms_len] at this; exact this
  refine ⟨hi,?_⟩
  unfold lawRooms at h
  rw [List.getElem?_map,List.getElem?_range hi] at h
  exact (Option.some.inj h).symm
theorem pickS_in (i:Int):pickS i = "one"∨pickS i = "all"∨pickS i = "keep" := by
  unfold pickS
  rcases Nat.lt_or_ge i.toNat 4 with h | h
  · have:i.toNat=0∨i.toNat=1∨i.toNat=2∨i.toNat=3:=by omega
    rcases this with e | e | e | e <;> rw [e]
    · exact .inl rfl
    · exact .inr (.inl rfl)
    · exact .inr (.inr rfl)
    · exact .inl rfl
  · rw [List.getD_eq_getElem?_getD,List.getElem?_eq_none (by simpa using h)]
    exact .inl rfl
theorem lawRooms_good (ns:List Int) {m:Nat} (h0 : 0 < m) (h1:m≤16):Good (lawRooms ns m):=by
  refine ⟨by rw [lawRooms_hs]; exact Rm.holders_tree ns h0,by rw [lawRooms_len]; exact h1,fun i r hr => ?_⟩
  obtain ⟨hi,rfl⟩:=lawRooms_get hr
  rw [lawRooms_hs]
  show (lk ns m i = "plain"∨lk ns m i = "one"∨lk ns m i = "all"∨lk ns m i = "keep")∧(lk ns m i = "plain" ↔ _)
  unfold lk
  by_cases hm:(i:Int)∈Rm.holders ns m
  · rw [if_pos hm]
    have hp:=pickS_in (Rm.cell ns i / 16 % 4)
    refine ⟨.inr hp,fun z => ?_,fun z => absurd z (Rm.mem_holders.mp hm)⟩
    rw [z] at hp
    rcases hp with e | e | e
    · exact absurd e (by decide +kernel)
    · exact absurd e (by decide +kernel)
    · exact absurd e (by decide +kernel)
  · rw [if_neg hm]
    refine ⟨.inl rfl,fun _ => ?_,fun _ => rfl⟩
    exact Classical.byContradiction fun z => hm (Rm.mem_holders.mpr z)
theorem inV_int (k:Int) (xs:List Int):inV (.int k) (xs.map V.int)=decide (k∈xs):=by
  unfold inV
  induction xs with
  | nil => rfl
  | cons x r ih =>
    rw [List.map_cons,List.any_cons,ih]
    have e:eqV (V.int x) (V.int k)=decide (x=k):=by
      show (x == k)=decide (x=k)
      by_cases h:x=k <;> simp [h]
    rw [e]
    by_cases h:x=k
    · subst h; simp
    · have h':¬ k=x:=fun z => h z.symm
      simp [h,h']
theorem flat_ints (xs:List Int):(xs.map V.int).all flatV=true:=by
  induction xs with
  | nil => rfl
  | cons x r ih => rw [List.map_cons,List.all_cons,ih]; rfl
theorem ints_get {ns:List Int} {k:Nat} (h:k < ns.length):atI (ns.map V.int) (k:Int)=some (.int ns[k]):=atI_nat (by rw [List.getElem?_map,List.getElem?_eq_getElem h]; rfl)
def spCell (K:PySem.W.Frag):Sp:=fun vs H Q _ => ∃ (a:Addr) (ns:List Int) (k:Nat),vs=[.ref a,.int k]∧SqL K H a (ns.map V.int)∧Q (.int (Rm.cell ns k)) H
theorem scCell:FnScope ["script", "k"] ["script", "k"] (defScope sCell):=⟨rfl,rfl,rfl,by decide +kernel,rfl,by decide +kernel,by decide +kernel⟩
theorem ok_cell {f C:Addr} {fd:FuncData} (D:DefAt K mg "_law_cell_at" sCell ["script", "k"] f fd) (T:Txt K mg C):FnOk P w K mg base CX0 1 f fd ["script", "k"] (spCell K):=by
  refine D.fn.ok scCell (fun vs H Q E h => ?_) (fun cdv A outer s H vs Q E hr h => ?_)
  · obtain ⟨a,ns,k,rfl,_⟩:=h
    rfl
  obtain ⟨a,ns,k,rfl,hS,q⟩:=h
  refine ⟨_,pss_cons (ps_if (pt_cmpR op_lt (pv 1) (pe_callB call_len_seq (by rfl) T.len PySem.boot_len (pa_cons (pv 0) pa_nil)) (nomark _)) (pss_one (ps_ret (pe_ix ix_list (pv 0) (pv 1) (fun _ _ => rfl)))) pss_nil)
    (pss_one (ps_ret pe_int)),?_⟩
  refine ⟨_,rfl,_,rfl,a,_,rfl,.inl hS,_,_,rfl,rfl,_,rfl,?_⟩
  rw [List.length_map]
  refine ite2 (fun z => ?_) (fun z => ?_)
  · have z':k < ns.length:=by
      have:(k:Int) < (ns.length:Int):=by simpa using z
      omega
    refine ⟨_,rfl,_,rfl,a,_,_,_,rfl,rfl,hS,ints_get z',?_⟩
    have e:Rm.cell ns k=ns[k]:=by
      unfold Rm.cell
      rw [List.getD_eq_getElem?_getD,List.getElem?_eq_getElem z']; rfl
    rw [e] at q
    exact q
  · have z':¬ k < ns.length:=fun y => z (by simpa using y)
    have e:Rm.cell ns k=0:=by
      unfold Rm.cell
      rw [List.getD_eq_getElem?_getD,List.getElem?_eq_none (by omega)]; rfl
    rw [e] at q
    exact q
def spRooms (K:PySem.W.Frag):Sp:=fun vs H Q _ => ∃ (a:Addr) (ns:List Int) (m:Nat),vs=[.ref a,.int m]∧SqL K H a (ns.map V.int)∧0 < m∧m≤16 ∧
  ∀ (r:Addr) (ps:List Addr) (H':Hp),H r=Option.none→Same H H'→H' r=some (.lst (ps.map V.ref))→Items H' ps ((lawRooms ns m).map rV)→Q (.ref r) H'
theorem scRooms:FnScope ["script", "many", "holders", "k", "rooms", "kind"] ["script", "many"] (defScope sRooms):=⟨rfl,rfl,rfl,by decide +kernel,rfl,by decide +kernel,by decide +kernel⟩
theorem ok_rooms {f C fc:Addr} {fd fdc:FuncData} (D:DefAt K mg "_law_rooms" sRooms ["script", "many"] f fd) (T:Txt K mg C) (Dc:DefAt K mg "_law_cell_at" sCell ["script", "k"] fc fdc):FnOk P w K mg base CX0 2 f fd ["script", "many"] (spRooms K):=by
  have Gc:FnOk P w K mg base CX0 1 fc fdc ["script", "k"] (spCell K):=ok_cell Dc T
  refine D.fn.ok scRooms (fun vs H Q E h => ?_) (fun cdv A outer s H vs Q E hr h => ?_)
  · obtain ⟨a,ns,m,rfl,_⟩:=h
    rfl
  obtain ⟨a,ns,m,rfl,hS,h0,h16,q⟩:=h
  refine ⟨_,pss_cons (ps_set (i := 2) scRooms.nd rfl (Or.inl rfl) (pe_lst (pa_cons (pe_un un_neg pe_int) pa_nil)))
    (pss_cons (ps_for PassesOwn.never rfl (pi_range2 rfl T.range (pa_cons pe_int (pa_cons (pv 1) pa_nil))) (pg_name (i := 3) scRooms.nd rfl (Or.inl rfl))
      (pss_one (ps_expr (pe_bm PySem.F.plainAttrs_list PySem.F.slot_list_append PySem.F.type_list_append mt_append (pv 2) (pa_cons (pe_op op_mod (pe_call Gc hr rfl Dc.mg Dc.fn.kp Dc.bd .nil pass0 (pa_cons (pv 0) (pa_cons (pv 3) pa_nil))) (pv 3)) pa_nil)))))
    (pss_cons (ps_set (i := 4) scRooms.nd rfl (Or.inl rfl) (pe_lst pa_nil))
    (pss_cons (ps_for PassesOwn.never rfl (pi_range1 rfl T.range (pa_cons (pv 1) pa_nil)) (pg_name (i := 3) scRooms.nd rfl (Or.inl rfl))
      (pss_cons (ps_set (i := 5) scRooms.nd rfl (Or.inl rfl) pe_str)
      (pss_cons (ps_if (pt_cmpR op_in_seq (pv 3) (pv 2) (by with_unfolding_all rfl))
        (pss_one (ps_set (i := 5) scRooms.nd rfl (Or.inl rfl) (pe_ix ix_list (pe_lst (pa_cons pe_str (pa_cons pe_str (pa_cons pe_str (pa_cons pe_str pa_nil)))))
          (pe_op op_mod (pe_op op_fdiv (pe_call Gc hr rfl Dc.mg Dc.fn.kp Dc.bd .nil pass0 (pa_cons (pv 0) (pa_cons (pv 3) pa_nil))) pe_int) pe_int) (fun _ _ => rfl)))) pss_nil)
      (pss_one (ps_expr (pe_bm PySem.F.plainAttrs_list PySem.F.slot_list_append PySem.F.type_list_append mt_append (pv 4) (pa_cons (pe_tup (pa_cons (pe_ix ix_list (pv 2) (pv 3) (fun _ _ => rfl)) (pa_cons (pv 5) pa_nil))) pa_nil)))))))
    (pss_one (ps_ret (pv 4)))))),?_⟩
  refine ⟨1,rfl,(by show 1≤sizeLine; decide),fun hd hhd => ?_⟩
  refine ⟨_,rfl,1,m,rfl,⟨by decide,by decide,by omega,by omega⟩,?_⟩
  have em:((m:Int) - 1).toNat=m - 1:=by omega
  rw [em]
  refine for_range (fun i σ H1 => ∃ v,σ = [some (.ref a),some (.int m),some (.ref hd),v,Option.none,Option.none]∧Same H H1∧H1 hd=some (.lst ((Rm.holders ns (i + 1)).map V.int))) ⟨_,rfl,same_new hhd _,?_⟩ ?_ ?_
  · rw [upd_same]; rfl
  · rintro i σ H1 hi ⟨v,rfl,s1,e1⟩
    have ek:(1:Int) + (i:Int)=((i + 1:Nat):Int):=by omega
    rw [ek]
    refine ⟨_,rfl,.inl ⟨rfl,_,SqL.of e1⟩,_,rfl,_,rfl,a,ns,i + 1,rfl,s1.seq hS,_,rfl,_,_,rfl,rfl,by omega,hd,_,_,rfl,rfl,e1,?_,?_⟩
    · rw [List.length_map,Rm.holders_len]; exact small1000 (by omega)
    · refine ⟨_,rfl,sameUpd s1 hhd _,?_⟩
      rw [upd_same,Rm.holders_succ ns (i + 1),List.map_append]
      have:Rm.lh ns (i + 1)=Rm.cell ns (i + 1) % ((i + 1:Nat):Int):=by
        unfold Rm.lh; rw [if_neg (by omega)]
      rw [this]; rfl
  rintro σ H1 ⟨v,rfl,s1,e1⟩
  have em1:m - 1 + 1=m:=by omega
  rw [em1] at e1
  refine ⟨(by show 0≤sizeLine; decide),fun rd hrd => ?_⟩
  refine ⟨_,rfl,m,rfl,by omega,by omega,?_⟩
  have hrd0:H rd=Option.none:=s1.free hrd
  have nhr:hd≠rd:=ne_of_none e1 hrd
  have em2:((m:Int)).toNat=m:=by omega
  rw [em2]
  refine for_range (fun i σ H2 => ∃ v v' ps,σ = [some (.ref a),some (.int m),some (.ref hd),v,some (.ref rd),v']∧Same H H2∧H2 hd=some (.lst ((Rm.holders ns m).map V.int))∧H2 rd=some (.lst (ps.map V.ref))∧Items H2 ps (((List.range i).map fun k => ((Rm.lh ns k,lk ns m k):Room1)).map rV))
    ⟨_,_,[],rfl,s1.trans (same_new hrd _),by rw [upd_ne nhr]; exact e1,upd_same,⟨rfl,fun i p o e => by simp at e⟩⟩ ?_ ?_
  · rintro i σ H2 hi ⟨v,v',ps,rfl,s2,e2,e3,hI⟩
    have ek:(0:Int) + (i:Int)=(i:Int):=by omega
    rw [ek]
    have hil:i < (Rm.holders ns m).length:=by rw [Rm.holders_len]; exact hi
    have hg:atI ((Rm.holders ns m).map V.int) (i:Int)=some (.int (Rm.lh ns i)):=by
      rw [ints_get hil]
      have:=Rm.hold_get hil
      rw [Rm.holders_hold hi,List.getElem?_eq_getElem hil] at this
      rw [Option.some.inj this]
    have last:∀ (x:Str) (H3:Hp),x=lk ns m i→Same H2 H3→(tDrop (tBM K "list" rAppend (tVar 4) (tCons (tTup (tCons (tOp (rIxL K) (tVar 2) (tVar 3)) (tCons (tVar 5) tNil))) tNil)))
        { nx:=fun σ H2 => ∃ v v' ps,σ = [some (.ref a),some (.int m),some (.ref hd),v,some (.ref rd),v']∧Same H H2∧H2 hd=some (.lst ((Rm.holders ns m).map V.int))∧H2 rd=some (.lst (ps.map V.ref))∧Items H2 ps (((List.range (i + 1)).map fun k => ((Rm.lh ns k,lk ns m k):Room1)).map rV),rt:=Q }
        [some (.ref a),some (.int m),some (.ref hd),some (.int i),some (.ref rd),some (.str x)] H3:=by
      rintro x H3 rfl s3
      refine ⟨_,rfl,.inl ⟨rfl,_,SqL.of (s3 _ _ e3)⟩,_,rfl,_,rfl,hd,_,_,_,rfl,rfl,SqL.of (s3 _ _ e2),hg,_,rfl,(by show 2≤sizeLine; decide),fun t ht => ?_⟩
      have nrt:rd≠t:=ne_of_none (s3 _ _ e3) ht
      have ndt:hd≠t:=ne_of_none (s3 _ _ e2) ht
      refine ⟨rd,_,_,rfl,rfl,(by rw [upd_ne nrt]; exact s3 _ _ e3),?_,?_⟩
      · rw [List.length_map,hI.1,List.length_map,List.length_map,List.length_range]; exact small1000 (by omega)
      · have st:Same H2 (upd H3 t (.tup [.int (Rm.lh ns i),.str (lk ns m i)])):=s3.trans (same_new ht _)
        have ne:∀ b u,H2 b=some u→b≠rd→(upd (upd H3 t (.tup [.int (Rm.lh ns i),.str (lk ns m i)])) rd (.lst (ps.map V.ref ++ [V.ref t]))) b=some u:=fun b u e n => by
          rw [upd_ne n]; exact st _ _ e
        refine ⟨_,_,ps ++ [t],rfl,fun b u e => ne b u (s2 _ _ e) (ne_of_none e hrd0),ne _ _ e2 nhr,?_,?_⟩
        · rw [upd_same,List.map_append]; rfl
        · rw [List.range_succ,List.map_append,List.map_append]
          refine Items.snoc ⟨hI.1,fun j p o a1 a2 => ne _ _ (hI.2 j p o a1 a2) (ne_of (hI.2 j p o a1 a2) e3 (by intro z; cases z))⟩ ?_
          rw [upd_ne nrt.symm,upd_same]; rfl
    refine ⟨_,rfl,_,rfl,hd,_,rfl,.inl (SqL.of e2),rfl,flat_ints _,_,rfl,?_⟩
    show if inV (V.int i) ((Rm.holders ns m).map V.int)=true then _ else _
    rw [inV_int]
    refine ite2 (fun z => ?_) (fun z => ?_)
    · have z':(i:Int)∈Rm.holders ns m:=by simpa using z
      refine ⟨(by show 4≤sizeLine; decide),fun t ht => ?_⟩
      have c1:=Int.emod_nonneg (Rm.cell ns i / 16) (show (4:Int)≠0 by decide)
      have c2:=Int.emod_lt_of_pos (Rm.cell ns i / 16) (show (0:Int) < 4 by decide)
      refine ⟨_,rfl,_,rfl,a,ns,i,rfl,(s2.trans (same_new ht _)).seq hS,_,_,rfl,rfl,⟨by decide,by decide⟩,_,_,rfl,rfl,(by show (0:Int) < _; decide),t,_,_,.str (pickS (Rm.cell ns i / 16 % 4)),rfl,rfl,SqL.of upd_same,?_,?_⟩
      · have e:Rm.cell ns i / 16 % 4=(((Rm.cell ns i / 16 % 4).toNat:Nat):Int):=by omega
        have hlt:(Rm.cell ns i / 16 % 4).toNat < 4:=by omega
        rw [show pickS (Rm.cell ns i / 16 % 4)=pickS (((Rm.cell ns i / 16 % 4).toNat:Nat):Int) from by rw [← e],e]
        refine atI_nat ?_
        generalize (Rm.cell ns i / 16 % 4).toNat=n at hlt
        match n,hlt with
        | 0,_ => rfl
        | 1,_ => rfl
        | 2,_ => rfl
        | 3,_ => rfl
      · exact last _ _ (by unfold lk; rw [if_pos z']) (same_new ht _)
    · have z':¬ (i:Int)∈Rm.holders ns m:=by simpa using z
      exact last _ _ (by unfold lk; rw [if_neg z']) (Same.refl _)
  · rintro σ H2 ⟨v,v',ps,rfl,s2,e2,e3,hI⟩
    refine ⟨_,rfl,?_⟩
    exact q rd ps H2 hrd0 s2 e3 hI
end
end Toy
namespace Toy
open PySem L2
seal PySem.wpAny
section
variable {P:Program} {w:World} {K:PySem.W.Frag} {mg:Str→Option Value} {base:Heap}
theorem chain_head (hs:List Int) (i:Nat):Rm.chain hs i=i :: (Rm.chain hs i).tail:=by
  rw [Rm.chain]; split <;> rfl
theorem chain_len {hs:List Int}:∀ i:Nat,(Rm.chain hs i).length≤i + 1:=by
  intro i
  induction i using Nat.strongRecOn with
  | ind i ih =>
    by_cases z : 0≤Rm.hold hs i∧Rm.hold hs i < (i:Int)
    · rw [Rm.chain_up z,List.length_cons]
      have:=ih (Rm.hold hs i).toNat (by omega)
      omega
    · rw [Rm.chain,dif_neg z,List.length_singleton]; omega
def cV (l:List Nat):List V:=(l.map fun (j:Nat) => (j:Int)).map V.int
end
end Toy
namespace Toy
open PySem L2
seal PySem.wpAny
section
variable {P:Program} {w:World} {K:PySem.W.Frag} {mg:Str→Option Value} {base:Heap}
def spChain:Sp:=fun vs H Q _ => ∃ (r:Addr) (ps:List Addr) (R:List Room1) (k:Nat),vs=[.ref r,.int k]∧H r=some (.lst (ps.map V.ref))∧Items H ps (R.map rV)∧Rm.Tree (hsOf R)∧R.length≤100∧k < R.length ∧
  ∀ (l:Addr) (H':Hp),H l=Option.none→Same H H'→H' l=some (.lst (cV (Rm.chain (hsOf R) k)))→Q (.ref l) H'
theorem scChain:FnScope ["rooms", "k", "chain"] ["rooms", "k"] (defScope sChain):=⟨rfl,rfl,rfl,by decide +kernel,rfl,by decide +kernel,by decide +kernel⟩
theorem ok_chain {f C:Addr} {fd:FuncData} (D:DefAt K mg "_law_chain" sChain ["rooms", "k"] f fd) (T:Txt K mg C):FnOk P w K mg base CX0 1 f fd ["rooms", "k"] spChain:=by
  refine D.fn.ok scChain (fun vs H Q E h => ?_) (fun cdv A outer s H vs Q E hr h => ?_)
  · obtain ⟨r,ps,R,k,rfl,_⟩:=h
    rfl
  obtain ⟨r,ps,R,k,rfl,h2,h3,hT,hl,hk,q⟩:=h
  refine ⟨_,pss_cons (ps_set (i := 2) scChain.nd rfl (Or.inl rfl) (pe_lst (pa_cons (pv 1) pa_nil)))
    (pss_cons (ps_while PassesOwn.never (pt_cmpR op_ge (pe_ix ix_tup (pe_ix ix_list (pv 0) (pv 1) (fun _ _ => rfl)) pe_int (fun _ _ => rfl)) pe_int (nomark _))
      (pss_cons (ps_set (i := 1) scChain.nd rfl (Or.inl rfl) (pe_ix ix_tup (pe_ix ix_list (pv 0) (pv 1) (fun _ _ => rfl)) pe_int (fun _ _ => rfl)))
      (pss_one (ps_expr (pe_bm PySem.F.plainAttrs_list PySem.F.slot_list_append PySem.F.type_list_append mt_append (pv 2) (pa_cons (pv 1) pa_nil))))))
    (pss_one (ps_ret (pv 2)))),?_⟩
  refine ⟨_,rfl,(by show 1≤sizeLine; decide),fun l hl0 => ?_⟩
  refine ⟨fun n σ H1 => ∃ (p:Nat) (pre:List Nat),σ = [some (.ref r),some (.int p),some (.ref l)]∧p < R.length∧n=p∧Same H H1∧H1 l=some (.lst (cV pre))∧Rm.chain (hsOf R) k=pre ++ (Rm.chain (hsOf R) p).tail,
    ⟨k,k,[k],rfl,hk,rfl,same_new hl0 _,upd_same,chain_head _ _⟩,?_⟩
  rintro n σ H1 ⟨p,pre,rfl,hp,rfl,s1,e1,ec⟩
  obtain ⟨a,ha,ha2⟩:=room_at h3 hp
  have eh:Rm.hold (hsOf R) n=R[n].1:=hsOf_get (List.getElem?_eq_getElem hp)
  have hlt:=Rm.hold_lt hT (i:=n) (by rw [hsOf_len]; exact hp)
  rw [eh] at hlt
  refine ⟨_,rfl,_,rfl,r,_,_,_,rfl,rfl,SqL.of (s1 _ _ h2),ha,a,_,_,_,rfl,rfl,SqT.of (s1 _ _ ha2),rfl,_,_,rfl,rfl,_,rfl,?_⟩
  refine ite2 (fun z => ?_) (fun z => ?_)
  · have z' : 0≤R[n].1:=by simpa using z
    have e3:((R[n].1.toNat:Nat):Int)=R[n].1:=by omega
    have ech:(Rm.chain (hsOf R) n).tail=Rm.chain (hsOf R) R[n].1.toNat:=by
      rw [Rm.chain_up (by rw [eh]; exact ⟨z',hlt⟩),eh]; rfl
    have hpl:pre.length≤R.length:=by
      have c1:=chain_len (hs:=hsOf R) k
      rw [ec,List.length_append] at c1
      omega
    refine ⟨fun σ' H' => ∃ (p':Nat) (pre':List Nat),p' < n∧σ'=[some (.ref r),some (.int p'),some (.ref l)]∧Same H H'∧H' l=some (.lst (cV pre'))∧Rm.chain (hsOf R) k=pre' ++ (Rm.chain (hsOf R) p').tail,?_,?_⟩
    · rintro σ' H' ⟨p',pre',hlt',rfl,s',e',c'⟩
      exact ⟨p',hlt',p',pre',rfl,by omega,rfl,s',e',c'⟩
    · refine ⟨_,rfl,_,rfl,r,_,_,_,rfl,rfl,SqL.of (s1 _ _ h2),ha,a,_,_,_,rfl,rfl,SqT.of (s1 _ _ ha2),rfl,?_⟩
      refine ⟨_,rfl,.inl ⟨rfl,_,SqL.of e1⟩,_,rfl,l,_,_,rfl,rfl,e1,?_,?_⟩
      · unfold cV; rw [List.length_map,List.length_map]; exact small1000 (by omega)
      · refine ⟨R[n].1.toNat,pre ++ [R[n].1.toNat],by omega,?_,sameUpd s1 hl0 _,?_,?_⟩
        · show [some (V.ref r),some (V.int R[n].1),some (V.ref l)] = _
          rw [e3]
        · rw [upd_same]
          unfold cV
          rw [List.map_append,List.map_append]
          show some (HO.lst (_ ++ [V.int R[n].1]))=some (HO.lst (_ ++ [V.int ((R[n].1.toNat:Nat):Int)]))
          rw [e3]
        · rw [ec,ech,List.append_assoc]
          exact congrArg (pre ++ ·) (chain_head _ _)
  · have z':¬ 0≤R[n].1:=by simpa using z
    refine ⟨_,rfl,?_⟩
    refine q l H1 hl0 s1 ?_
    rw [e1,ec,Rm.chain_top (by rw [eh]; exact z')]
    simp
end
end Toy
namespace Toy
open PySem L2
seal PySem.wpAny
section
variable {P:Program} {w:World} {K:PySem.W.Frag} {mg:Str→Option Value} {base:Heap}
def choosing (R:List Room1) (p:Nat):Bool:=match R[p]? with
  | some r => decide (r.2 = "one"∨r.2 = "keep")
  | Option.none => false
def scopeOf (R:List Room1) (s t:Nat):Option Nat:=(Rm.chain (hsOf R) s).tail.find? fun p => choosing R p && Rm.li (hsOf R) t p
def optV:Option Nat→V
  | some p => .int p
  | Option.none => .non
theorem in_two (x:Str):inV (.str x) [.str "one",.str "keep"] = decide (x = "one"∨x = "keep"):=by
  show ((("one" : Str) == x) || ((("keep" : Str) == x) || false))=_
  by_cases h1:x = "one"
  · subst h1; decide +kernel
  · by_cases h2:x = "keep"
    · subst h2; decide +kernel
    · have e1:(("one" : Str) == x)=false:=beq_eq_false_iff_ne.mpr fun z => h1 z.symm
      have e2:(("keep" : Str) == x)=false:=beq_eq_false_iff_ne.mpr fun z => h2 z.symm
      rw [e1,e2,decide_eq_false fun z => z.elim h1 h2]; rfl
end
end Toy
namespace Toy
open PySem L2
seal PySem.wpAny
section
variable {P:Program} {w:World} {K:PySem.W.Frag} {mg:Str→Option Value} {base:Heap}
def spLies (C:Addr):Sp:=fun vs H Q _ => ∃ (c:Addr) (R:List Room1) (A:List Arrow) (i j:Nat),vs=[.ref c,.int i,.int j]∧ChartAt C H c R A∧Rm.Tree (hsOf R)∧i < R.length∧Q (.bl (Rm.li (hsOf R) i j)) H
theorem scLies:FnScope ["chart", "room", "other"] ["chart", "room", "other"] (defScope sLies):=⟨rfl,rfl,rfl,by decide +kernel,rfl,by decide +kernel,by decide +kernel⟩
theorem ok_lies {f C fw:Addr} {fd fdw:FuncData} (D:DefAt K mg "lies_in" sLies ["chart", "room", "other"] f fd) (T:Txt K mg C) (Dw:DefAt K mg "within" sWithin ["chart", "room", "other"] fw fdw):FnOk P w K mg base CX0 2 f fd ["chart", "room", "other"] (spLies C):=by
  have Gw:FnOk P w K mg base CX0 1 fw fdw ["chart", "room", "other"] (spWithin C):=ok_within Dw T
  refine D.fn.ok scLies (fun vs H Q E h => ?_) (fun cdv A outer s H vs Q E hr h => ?_)
  · obtain ⟨c,R,As,i,j,rfl,_⟩:=h
    rfl
  obtain ⟨c,R,As,i,j,rfl,hC,hT,hi,q⟩:=h
  refine ⟨_,pss_one (ps_ret (pe_and (pe_cmpR op_ne (pv 1) (pv 2) (nomark _)) (pe_one (pe_call Gw hr rfl Dw.mg Dw.fn.kp Dw.bd .nil pass0 (pa_cons (pv 0) (pa_cons (pv 1) (pa_cons (pv 2) pa_nil))))))),?_⟩
  refine ⟨_,rfl,_,rfl,rfl,_,rfl,?_⟩
  rw [Rm.li_eq] at q
  have e:(decide (V.int (i:Int)=V.int (j:Int)))=decide (i=j):=decide_eq_decide.mpr ⟨fun y => by injection y with y; omega,fun y => by rw [y]⟩
  rw [e]
  by_cases z:i=j
  · rw [decide_eq_true z] at q ⊢
    exact iteF q
  · rw [decide_eq_false z] at q ⊢
    refine iteT ?_
    exact ⟨_,rfl,_,rfl,_,rfl,c,R,As,i,j,rfl,hC,hT,hi,q⟩
def spScope (C:Addr):Sp:=fun vs H Q _ => ∃ (c:Addr) (R:List Room1) (A:List Arrow) (i j:Nat),vs=[.ref c,.int i,.int j]∧ChartAt C H c R A∧Rm.Tree (hsOf R)∧i < R.length∧j < R.length∧Q (optV (scopeOf R i j)) H
theorem scScope:FnScope ["chart", "source", "target", "place"] ["chart", "source", "target"] (defScope sScope):=⟨rfl,rfl,rfl,by decide +kernel,rfl,by decide +kernel,by decide +kernel⟩
theorem ok_scope {f C fl fw:Addr} {fd fdl fdw:FuncData} (D:DefAt K mg "scope" sScope ["chart", "source", "target"] f fd) (T:Txt K mg C) (Dl:DefAt K mg "lies_in" sLies ["chart", "room", "other"] fl fdl) (Dw:DefAt K mg "within" sWithin ["chart", "room", "other"] fw fdw) :
    FnOk P w K mg base CX0 3 f fd ["chart", "source", "target"] (spScope C):=by
  have Gl:FnOk P w K mg base CX0 2 fl fdl ["chart", "room", "other"] (spLies C):=ok_lies Dl T Dw
  refine D.fn.ok scScope (fun vs H Q E h => ?_) (fun cdv A outer s H vs Q E hr h => ?_)
  · obtain ⟨c,R,As,i,j,rfl,_⟩:=h
    rfl
  obtain ⟨c,R,As,i,j,rfl,hC,hT,hi,hj,q⟩:=h
  obtain ⟨aK,hK,sK⟩:=T.choosing
  refine ⟨_,pss_cons (ps_set (i := 3) scScope.nd rfl (Or.inl rfl) (pe_ix ix_tup (pe_ix ix_list (pe_fld (pv 0) rfl) (pv 1) (fun _ _ => rfl)) (pe_gint T.hold rfl) (fun _ _ => rfl)))
    (pss_cons (ps_while PassesOwn.never (pt_cmpR op_ne (pv 3) (pe_gint T.nil rfl) (nomark _))
      (pss_cons (ps_if (PW.pt (pw_and (pt_cmpR op_in_seq (pe_ix ix_tup (pe_ix ix_list (pe_fld (pv 0) rfl) (pv 3) (fun _ _ => rfl)) (pe_gint T.kind rfl) (fun _ _ => rfl)) (pe_glob rfl hK (v:=.ref aK) rfl) (by with_unfolding_all rfl))
          (pw_and1 (pt_val (pe_call Gl hr rfl Dl.mg Dl.fn.kp Dl.bd .nil pass0 (pa_cons (pv 0) (pa_cons (pv 2) (pa_cons (pv 3) pa_nil)))))))) (pss_one (ps_ret (pv 3))) pss_nil)
      (pss_one (ps_set (i := 3) scScope.nd rfl (Or.inl rfl) (pe_ix ix_tup (pe_ix ix_list (pe_fld (pv 0) rfl) (pv 3) (fun _ _ => rfl)) (pe_gint T.hold rfl) (fun _ _ => rfl))))))
    (pss_one (ps_ret pe_non))),?_⟩
  obtain ⟨dx,l,m,ps,qs,h1,h2,h3,h4,h5⟩:=hC.ob
  have hok:∀ {n:Nat},n < R.length→Rm.hold (hsOf R) n = -1∨(0≤Rm.hold (hsOf R) n∧Rm.hold (hsOf R) n < (n:Int)):=fun {n} hn => by
    by_cases z:n=0
    · subst z; exact .inl hT.root
    · exact .inr (hT.up n (by omega) (by rw [hsOf_len]; exact hn))
  obtain ⟨p,hp,hp2⟩:=room_at h3 hi
  have eh:Rm.hold (hsOf R) i=R[i].1:=hsOf_get (List.getElem?_eq_getElem hi)
  refine ⟨_,rfl,c,C,dx,_,_,rfl,h1,T.cl,T.nR,flds_rooms l m,_,rfl,l,_,_,_,rfl,rfl,SqL.of h2,hp,p,_,_,_,rfl,rfl,SqT.of hp2,rfl,?_⟩
  refine ⟨fun n σ H1 => ∃ pl:Int,σ = [some (.ref c),some (.int i),some (.int j),some (.int pl)]∧H1=H∧(pl = -1∨(0≤pl∧pl < (R.length:Int)))∧n=(pl + 1).toNat∧scopeOf R i j=(Rm.upper (hsOf R) pl).find? fun p => choosing R p && Rm.li (hsOf R) j p,
    ⟨_,R[i].1,rfl,rfl,by rw [← eh]; rcases hok hi with z | z <;> omega,rfl,by unfold scopeOf; rw [Rm.tail_upper hT (by rw [hsOf_len]; exact hi),eh]⟩,?_⟩
  rintro n σ H1 ⟨pl,rfl,rfl,hpl,rfl,es⟩
  refine ⟨_,rfl,rfl,_,rfl,?_⟩
  by_cases z:pl = -1
  · subst z
    refine iteNS rfl ?_
    rw [es,Rm.upper_neg] at q
    exact q
  · have z0 : 0≤pl∧pl < (R.length:Int):=hpl.resolve_left z
    obtain ⟨k,rfl⟩ : ∃ k:Nat,pl=(k:Int):=⟨pl.toNat,by omega⟩
    have hk:k < R.length:=by omega
    have ne:¬ V.int (k:Int)=V.int (-1):=fun y => by injection y with y; omega
    rw [decide_eq_false ne]
    refine iteT ?_
    obtain ⟨a,ha,ha2⟩:=room_at h3 hk
    have ehk:Rm.hold (hsOf R) k=R[k].1:=hsOf_get (List.getElem?_eq_getElem hk)
    have ech:choosing R k=decide (R[k].2 = "one"∨R[k].2 = "keep"):=by
      unfold choosing; rw [List.getElem?_eq_getElem hk]
    rw [Rm.upper_step hT (by rw [hsOf_len]; exact hk),List.find?_cons,ehk] at es
    refine ⟨fun σ' H' => ∃ pl':Int,σ'=[some (.ref c),some (.int i),some (.int j),some (.int pl')]∧H'=H1∧(pl' = -1∨(0≤pl'∧pl' < (k:Int)))∧scopeOf R i j=(Rm.upper (hsOf R) pl').find? fun p => choosing R p && Rm.li (hsOf R) j p,?_,?_⟩
    · rintro σ' H' ⟨pl',rfl,rfl,h',e'⟩
      exact ⟨(pl' + 1).toNat,by omega,pl',rfl,rfl,by omega,rfl,e'⟩
    · refine ⟨_,rfl,c,C,dx,_,_,rfl,h1,T.cl,T.nR,flds_rooms l m,_,rfl,l,_,_,_,rfl,rfl,SqL.of h2,ha,a,_,_,_,rfl,rfl,SqT.of ha2,rfl,aK,_,rfl,.inr (sK _),rfl,by decide +kernel,_,rfl,?_⟩
      have stepOn:scopeOf R i j=(Rm.upper (hsOf R) R[k].1).find? (fun p => choosing R p && Rm.li (hsOf R) j p) →
          (tAsg (tOp (rIxT K) (tOp (rIxL K) (tFld K (tVar 0) "rooms") (tVar 3)) (tC (.int 0))) (gName 3)) { nx:=fun σ' H' => ∃ pl':Int,σ'=[some (.ref c),some (.int i),some (.int j),some (.int pl')]∧H'=H1∧(pl' = -1∨(0≤pl'∧pl' < (k:Int)))∧scopeOf R i j=(Rm.upper (hsOf R) pl').find? fun p => choosing R p && Rm.li (hsOf R) j p,rt:=Q }
            [some (.ref c),some (.int i),some (.int j),some (.int k)] H1:=fun e' => by
        refine ⟨_,rfl,c,C,dx,_,_,rfl,h1,T.cl,T.nR,flds_rooms l m,_,rfl,l,_,_,_,rfl,rfl,SqL.of h2,ha,a,_,_,_,rfl,rfl,SqT.of ha2,rfl,?_⟩
        exact ⟨R[k].1,rfl,rfl,by rw [← ehk]; exact hok hk,e'⟩
      show if inV (V.str R[k].2) [V.str "one",V.str "keep"] = true then _ else _
      rw [in_two,← ech]
      cases hc:choosing R k with
      | false =>
        rw [hc] at es
        refine iteF ?_
        refine iteF ?_
        exact stepOn es
      | true =>
        rw [hc] at es
        refine iteT ?_
        refine ⟨_,rfl,_,rfl,_,rfl,c,R,As,j,k,rfl,hC,hT,hj,_,rfl,?_⟩
        cases hb:Rm.li (hsOf R) j k with
        | false =>
          rw [hb] at es
          refine iteF ?_
          exact stepOn es
        | true =>
          rw [hb] at es
          refine iteT ?_
          have es':scopeOf R i j=some k:=es
          rw [es'] at q
          exact ⟨_,rfl,q⟩
end
end Toy
namespace Toy
open PySem L2
seal PySem.wpAny
section
variable {P:Program} {w:World} {K:PySem.W.Frag} {mg:Str→Option Value} {base:Heap}
theorem cut1 (xs:List V):cutV xs (some 1) Option.none=xs.tail:=by
  unfold cutV
  have e1:HT.sIx xs.length 0 (some 1)=min 1 xs.length:=HT.sIx_nat xs.length 0 1
  rw [e1,HT.sIx_none]
  cases xs with
  | nil => rfl
  | cons x r =>
    have e:min 1 (x :: r).length=1:=by simp [List.length_cons]
    rw [e]
    show r.take (r.length + 1 - 1)=r
    simp
theorem cV_tail (l:List Nat):(cV l).tail=cV l.tail:=by cases l <;> rfl
def spLScope:Sp:=fun vs H Q _ => ∃ (r:Addr) (ps:List Addr) (R:List Room1) (i j:Nat),vs=[.ref r,.int i,.int j]∧H r=some (.lst (ps.map V.ref))∧Items H ps (R.map rV)∧Rm.Tree (hsOf R)∧R.length≤100∧i < R.length∧j < R.length ∧
  ∀ (H':Hp),Same H H'→Q (optV (scopeOf R i j)) H'
theorem scLScope:FnScope ["rooms", "source", "target", "around", "k"] ["rooms", "source", "target"] (defScope sLScope):=⟨rfl,rfl,rfl,by decide +kernel,rfl,by decide +kernel,by decide +kernel⟩
theorem ok_lscope {f C fh:Addr} {fd fdh:FuncData} (D:DefAt K mg "_law_scope" sLScope ["rooms", "source", "target"] f fd) (T:Txt K mg C) (Dh:DefAt K mg "_law_chain" sChain ["rooms", "k"] fh fdh):FnOk P w K mg base CX0 2 f fd ["rooms", "source", "target"] spLScope:=by
  have Gh:FnOk P w K mg base CX0 1 fh fdh ["rooms", "k"] spChain:=ok_chain Dh T
  refine D.fn.ok scLScope (fun vs H Q E h => ?_) (fun cdv A outer s H vs Q E hr h => ?_)
  · obtain ⟨r,ps,R,i,j,rfl,_⟩:=h
    rfl
  obtain ⟨r,ps,R,i,j,rfl,h2,h3,hT,hl,hi,hj,q⟩:=h
  refine ⟨_,pss_cons (ps_set (i := 3) scLScope.nd rfl (Or.inl rfl) (pe_slice sl_list (pe_call Gh hr rfl Dh.mg Dh.fn.kp Dh.bd .nil pass0 (pa_cons (pv 0) (pa_cons (pv 2) pa_nil))) (po_some pe_int) po_none))
    (pss_cons (ps_for PassesOwn.never rfl (pi_list (pe_slice sl_list (pe_call Gh hr rfl Dh.mg Dh.fn.kp Dh.bd .nil pass0 (pa_cons (pv 0) (pa_cons (pv 1) pa_nil))) (po_some pe_int) po_none)) (pg_name (i := 4) scLScope.nd rfl (Or.inl rfl))
      (pss_one (ps_if (PW.pt (pw_and (pt_cmpR op_in_seq (pv 4) (pv 3) (by with_unfolding_all rfl))
        (pw_and1 (pt_cmpR op_in_seq (pe_ix ix_tup (pe_ix ix_list (pv 0) (pv 4) (fun _ _ => rfl)) pe_int (fun _ _ => rfl)) (pe_tup (pa_cons pe_str (pa_cons pe_str pa_nil))) (by with_unfolding_all rfl))))) (pss_one (ps_ret (pv 4))) pss_nil)))
    (pss_one (ps_ret pe_non))),?_⟩
  refine ⟨_,rfl,_,rfl,r,ps,R,j,rfl,h2,h3,hT,hl,hj,fun l1 H1 hl1 s1 e1 => ?_⟩
  refine ⟨1,rfl,l1,_,rfl,SqL.of e1,fun l2 hl2 => ?_⟩
  have s2:=s1.trans (same_new hl2 (.lst (cutV (cV (Rm.chain (hsOf R) j)) (some 1) Option.none)))
  have e2:(upd H1 l2 (.lst (cutV (cV (Rm.chain (hsOf R) j)) (some 1) Option.none))) l2=some (.lst (cV (Rm.chain (hsOf R) j).tail)):=by rw [upd_same,cut1,cV_tail]
  generalize upd H1 l2 (.lst (cutV (cV (Rm.chain (hsOf R) j)) (some 1) Option.none))=H2 at s2 e2 ⊢
  refine ⟨_,rfl,_,rfl,r,ps,R,i,rfl,s2 _ _ h2,h3.same s2,hT,hl,hi,fun l3 H3 hl3 s3 e3 => ?_⟩
  refine ⟨1,rfl,l3,_,rfl,SqL.of e3,fun l4 hl4 => ?_⟩
  have s4:=s3.trans (same_new hl4 (.lst (cutV (cV (Rm.chain (hsOf R) i)) (some 1) Option.none)))
  have e4:(upd H3 l4 (.lst (cutV (cV (Rm.chain (hsOf R) i)) (some 1) Option.none))) l4=some (.lst (cV (Rm.chain (hsOf R) i).tail)):=by rw [upd_same,cut1,cV_tail]
  generalize upd H3 l4 (.lst (cutV (cV (Rm.chain (hsOf R) i)) (some 1) Option.none))=H4 at s4 e4 ⊢
  refine ⟨l4,rfl,⟨_,SqL.of e4⟩,?_⟩
  refine for_list (xs:=cV (Rm.chain (hsOf R) i).tail) (fun n σ H5 => ∃ v,σ = [some (.ref r),some (.int i),some (.int j),some (.ref l2),v]∧Same H4 H5∧scopeOf R i j=((Rm.chain (hsOf R) i).tail.drop n).find? fun p => choosing R p && Rm.li (hsOf R) j p)
    ⟨_,rfl,Same.refl _,rfl⟩ (fun n σ H5 _ ⟨v,_,s5,_⟩ => SqL.of (s5 _ _ e4)) ?_ ?_
  · rintro n x σ H5 hx ⟨v,rfl,s5,es⟩
    obtain ⟨k,hk,rfl⟩ : ∃ k:Nat,(Rm.chain (hsOf R) i).tail[n]? = some k∧x = .int k:=by
      unfold cV at hx
      rw [List.getElem?_map,List.getElem?_map] at hx
      cases e:(Rm.chain (hsOf R) i).tail[n]? with
      | none => rw [e] at hx; cases hx
      | some k => rw [e] at hx; exact ⟨k,rfl,(Option.some.inj hx).symm⟩
    have hkm:k∈(Rm.chain (hsOf R) i).tail:=List.mem_of_getElem? hk
    have hkl:k < R.length:=Nat.lt_trans (Rm.tail_lt hkm) hi
    have hd:(Rm.chain (hsOf R) i).tail.drop n=k :: (Rm.chain (hsOf R) i).tail.drop (n + 1):=by
      obtain ⟨hn,e⟩:=List.getElem?_eq_some_iff.mp hk
      rw [List.drop_eq_getElem_cons hn,e]
    rw [hd,List.find?_cons] at es
    have s45:Same H H5:=s2.trans (s4.trans s5)
    obtain ⟨a,ha,ha2⟩:=room_at h3 hkl
    have ech:choosing R k=decide (R[k].2 = "one"∨R[k].2 = "keep"):=by
      unfold choosing; rw [List.getElem?_eq_getElem hkl]
    have ein:inV (V.int k) (cV (Rm.chain (hsOf R) j).tail)=Rm.li (hsOf R) j k:=by
      unfold cV Rm.li
      rw [inV_int]
      refine decide_eq_decide.mpr ⟨fun z => ?_,fun z => List.mem_map.mpr ⟨k,z,rfl⟩⟩
      obtain ⟨y,hy,e⟩:=List.mem_map.mp z
      have:y=k:=by omega
      rw [← this]; exact hy
    refine ⟨_,rfl,_,rfl,l2,_,rfl,.inl (SqL.of (s5 _ _ (s4 _ _ e2))),rfl,flat_ints _,_,rfl,?_⟩
    show if inV (V.int k) (cV (Rm.chain (hsOf R) j).tail)=true then _ else _
    rw [ein]
    cases hb:Rm.li (hsOf R) j k with
    | false =>
      rw [hb,Bool.and_false] at es
      refine iteF ?_
      refine iteF ?_
      exact ⟨_,rfl,s5,es⟩
    | true =>
      rw [hb,Bool.and_true] at es
      refine iteT ?_
      refine ⟨_,rfl,_,rfl,r,_,_,_,rfl,rfl,SqL.of (s45 _ _ h2),ha,a,_,_,_,rfl,rfl,SqT.of (s45 _ _ ha2),rfl,(by show 2≤sizeLine; decide),fun t ht => ?_⟩
      refine ⟨t,_,rfl,.inr (SqT.of upd_same),rfl,by decide +kernel,_,rfl,?_⟩
      show if inV (V.str R[k].2) [V.str "one",V.str "keep"] = true then _ else _
      rw [in_two,← ech]
      cases hc:choosing R k with
      | false =>
        rw [hc] at es
        refine iteF ?_
        exact ⟨_,rfl,s5.trans (same_new ht _),es⟩
      | true =>
        rw [hc] at es
        refine iteT ?_
        have es':scopeOf R i j=some k:=es
        refine ⟨_,rfl,?_⟩
        have:=q _ (s45.trans (same_new ht (.tup [.str "one",.str "keep"])))
        rw [es'] at this
        exact this
  · rintro σ H5 ⟨v,rfl,s5,es⟩
    have hlen:(cV (Rm.chain (hsOf R) i).tail).length=(Rm.chain (hsOf R) i).tail.length:=by unfold cV; rw [List.length_map,List.length_map]
    rw [hlen,List.drop_length] at es
    have es':scopeOf R i j=Option.none:=es
    have:=q H5 (s2.trans (s4.trans s5))
    rw [es'] at this
    exact this
end
end Toy
namespace Toy
open PySem L2
seal PySem.wpAny
section
variable {P:Program} {w:World} {K:PySem.W.Frag} {mg:Str→Option Value} {base:Heap}
structure GoodA (R:List Room1) (a:Arrow):Prop where
  src:∃ s:Nat,a.1=(s:Int)∧s < R.length
  evt : 0≤a.2.1∧a.2.1≤3
  grd : -1≤a.2.2.1∧a.2.2.1 < (R.length:Int)
  tgt:∃ t:Nat,a.2.2.2.1=(t:Int)∧t < R.length
  ded : 0≤a.2.2.2.2∧a.2.2.2.2≤99
  sc:∃ p:Nat,scopeOf R a.1.toNat a.2.2.2.1.toNat=some p
theorem arrow_at {H:Hp} {qs:List Addr} {A:List Arrow} (h5:Items H qs (A.map aV)) {i:Nat} (hi:i < A.length):∃ p,atI (qs.map V.ref) (i:Int)=some (.ref p)∧H p=some (.tup (aV A[i])):=by
  have er:(A.map aV)[i]? = some (aV A[i]):=by rw [List.getElem?_map,List.getElem?_eq_getElem hi]; rfl
  obtain ⟨p,hp,hp2⟩:=h5.at er
  exact ⟨p,atI_nat hp,hp2⟩
def spPart:Sp:=fun vs H Q _ => ∃ (n:Int) (nm:Str) (p l m:Int),vs=[.int n,.str nm,.int p,.int l,.int m]∧l≤p∧p≤m∧Q .non H
theorem scPart:FnScope ["number", "name", "part", "least", "most"] ["number", "name", "part", "least", "most"] (defScope sPart):=⟨rfl,rfl,rfl,by decide +kernel,rfl,by decide +kernel,by decide +kernel⟩
theorem ok_part {f:Addr} {fd:FuncData} (D:DefAt K mg "check_part" sPart ["number", "name", "part", "least", "most"] f fd):FnOk P w K mg base CX0 1 f fd ["number", "name", "part", "least", "most"] spPart:=by
  refine D.fn.ok scPart (fun vs H Q E h => ?_) (fun cdv A outer s H vs Q E hr h => ?_)
  · obtain ⟨n,nm,p,l,m,rfl,_⟩:=h
    rfl
  obtain ⟨n,nm,p,l,m,rfl,h1,h2,q⟩:=h
  refine ⟨_,pss_one (ps_if (pt_not (pt_chain op_le op_le (pv 3) (pv 2) (pv 4))) pss_never pss_nil),?_⟩
  refine ⟨_,rfl,_,rfl,_,_,rfl,rfl,_,rfl,?_⟩
  rw [decide_eq_true h1]
  refine iteT ?_
  refine ⟨_,rfl,_,_,rfl,rfl,_,rfl,?_⟩
  rw [decide_eq_true h2]
  refine iteF ?_
  exact q
def spCheckArrow (C:Addr):Sp:=fun vs H Q _ => ∃ (c:Addr) (R:List Room1) (A:List Arrow) (i:Nat) (a:Arrow),vs=[.ref c,.int i]∧ChartAt C H c R A∧Good R∧A[i]? = some a∧GoodA R a∧Q .non H
theorem scCheckArrow:FnScope ["chart", "number", "arrow", "last_room"] ["chart", "number"] (defScope sCheckArrow):=⟨rfl,rfl,rfl,by decide +kernel,rfl,by decide +kernel,by decide +kernel⟩
theorem ok_check_arrow {f C fp fs fl fw:Addr} {fd fdp fds fdl fdw:FuncData} (D:DefAt K mg "check_arrow" sCheckArrow ["chart", "number"] f fd) (T:Txt K mg C) (Dp:DefAt K mg "check_part" sPart ["number", "name", "part", "least", "most"] fp fdp)
    (Ds:DefAt K mg "scope" sScope ["chart", "source", "target"] fs fds) (Dl:DefAt K mg "lies_in" sLies ["chart", "room", "other"] fl fdl) (Dw:DefAt K mg "within" sWithin ["chart", "room", "other"] fw fdw):FnOk P w K mg base CX0 4 f fd ["chart", "number"] (spCheckArrow C):=by
  have Gp:FnOk P w K mg base CX0 1 fp fdp ["number", "name", "part", "least", "most"] spPart:=ok_part Dp
  have Gs:FnOk P w K mg base CX0 3 fs fds ["chart", "source", "target"] (spScope C):=ok_scope Ds T Dl Dw
  refine D.fn.ok scCheckArrow (fun vs H Q E h => ?_) (fun cdv A outer s H vs Q E hr h => ?_)
  · obtain ⟨c,R,As,i,a,rfl,_⟩:=h
    rfl
  obtain ⟨c,R,As,i,a,rfl,hC,hG,hia,hA,q⟩:=h
  have hr1:Room 1 _:=hr.mono (by decide)
  refine ⟨_,pss_cons (ps_set (i := 2) scCheckArrow.nd rfl (Or.inl rfl) (pe_ix ix_list (pe_fld (pv 0) rfl) (pv 1) (fun _ _ => rfl)))
    (pss_cons (ps_set (i := 3) scCheckArrow.nd rfl (Or.inl rfl) (pe_op op_sub (pe_callB call_len_seq (by rfl) T.len PySem.boot_len (pa_cons (pe_fld (pv 0) rfl) pa_nil)) pe_int))
    (pss_cons (ps_expr (pe_call Gp hr1 rfl Dp.mg Dp.fn.kp Dp.bd .nil pass0 (pa_cons (pv 1) (pa_cons pe_str (pa_cons (pe_ix ix_tup (pv 2) (pe_gint T.src rfl) (fun _ _ => rfl)) (pa_cons pe_int (pa_cons (pv 3) pa_nil)))))))
    (pss_cons (ps_expr (pe_call Gp hr1 rfl Dp.mg Dp.fn.kp Dp.bd .nil pass0 (pa_cons (pv 1) (pa_cons pe_str (pa_cons (pe_ix ix_tup (pv 2) (pe_gint T.evt rfl) (fun _ _ => rfl)) (pa_cons pe_int (pa_cons (pe_gint T.lastE rfl) pa_nil)))))))
    (pss_cons (ps_expr (pe_call Gp hr1 rfl Dp.mg Dp.fn.kp Dp.bd .nil pass0 (pa_cons (pv 1) (pa_cons pe_str (pa_cons (pe_ix ix_tup (pv 2) (pe_gint T.grd rfl) (fun _ _ => rfl)) (pa_cons (pe_gint T.nil rfl) (pa_cons (pv 3) pa_nil)))))))
    (pss_cons (ps_expr (pe_call Gp hr1 rfl Dp.mg Dp.fn.kp Dp.bd .nil pass0 (pa_cons (pv 1) (pa_cons pe_str (pa_cons (pe_ix ix_tup (pv 2) (pe_gint T.tgt rfl) (fun _ _ => rfl)) (pa_cons pe_int (pa_cons (pv 3) pa_nil)))))))
    (pss_cons (ps_expr (pe_call Gp hr1 rfl Dp.mg Dp.fn.kp Dp.bd .nil pass0 (pa_cons (pv 1) (pa_cons pe_str (pa_cons (pe_ix ix_tup (pv 2) (pe_gint T.ded rfl) (fun _ _ => rfl)) (pa_cons pe_int (pa_cons (pe_gint T.lastD rfl) pa_nil)))))))
    (pss_one (ps_if (pt_cmp (pc_isN (pe_call Gs hr rfl Ds.mg Ds.fn.kp Ds.bd .nil pass0 (pa_cons (pv 0) (pa_cons (pe_ix ix_tup (pv 2) (pe_gint T.src rfl) (fun _ _ => rfl)) (pa_cons (pe_ix ix_tup (pv 2) (pe_gint T.tgt rfl) (fun _ _ => rfl)) pa_nil)))))) pss_never pss_nil)))))))),?_⟩
  obtain ⟨hi,rfl⟩:=List.getElem?_eq_some_iff.mp hia
  obtain ⟨dx,l,m,ps,qs,h1,h2,h3,h4,h5⟩:=hC.ob
  obtain ⟨p,hp,hp2⟩:=arrow_at h5 hi
  have hl:(ps.map V.ref).length=R.length:=by rw [List.length_map,h3.1,List.length_map]
  obtain ⟨sn,es,hs⟩:=hA.src
  obtain ⟨tn,et,ht⟩:=hA.tgt
  obtain ⟨g1,g2⟩:=hA.grd
  refine ⟨_,rfl,c,C,dx,_,_,rfl,h1,T.cl,T.nA,flds_arrows l m,_,rfl,m,_,_,_,rfl,rfl,SqL.of h4,hp,?_⟩
  refine ⟨_,rfl,c,C,dx,_,_,rfl,h1,T.cl,T.nR,flds_rooms l m,l,_,rfl,.inl (SqL.of h2),_,_,rfl,rfl,?_⟩
  rw [hl]
  refine ⟨_,rfl,_,rfl,p,_,_,_,rfl,rfl,SqT.of hp2,rfl,_,rfl,_,_,_,_,_,rfl,by rw [es]; omega,by rw [es]; omega,?_⟩
  refine ⟨_,rfl,_,rfl,p,_,_,_,rfl,rfl,SqT.of hp2,rfl,_,_,_,_,_,rfl,hA.evt.1,hA.evt.2,?_⟩
  refine ⟨_,rfl,_,rfl,p,_,_,_,rfl,rfl,SqT.of hp2,rfl,_,rfl,_,_,_,_,_,rfl,g1,by omega,?_⟩
  refine ⟨_,rfl,_,rfl,p,_,_,_,rfl,rfl,SqT.of hp2,rfl,_,rfl,_,_,_,_,_,rfl,by rw [et]; omega,by rw [et]; omega,?_⟩
  refine ⟨_,rfl,_,rfl,p,_,_,_,rfl,rfl,SqT.of hp2,rfl,_,_,_,_,_,rfl,hA.ded.1,hA.ded.2,?_⟩
  refine ⟨_,rfl,_,rfl,p,_,_,_,rfl,rfl,SqT.of hp2,rfl,_,rfl,p,_,_,_,rfl,rfl,SqT.of hp2,rfl,c,R,As,sn,tn,(by rw [es,et]; rfl),hC,hG.tree,hs,ht,_,rfl,?_⟩
  obtain ⟨pp,hsc⟩:=hA.sc
  rw [es,et,Int.toNat_natCast,Int.toNat_natCast] at hsc
  rw [hsc]
  refine iteF ?_
  exact q
def spCheckArrows (C:Addr):Sp:=fun vs H Q _ => ∃ (c:Addr) (R:List Room1) (A:List Arrow),vs=[.ref c]∧ChartAt C H c R A∧Good R∧A.length≤20∧(∀ a∈A,GoodA R a)∧Q .non H
theorem scCheckArrowsG:FnScope ["chart", "number"] ["chart"] (defScope sCheckArrows):=⟨rfl,rfl,rfl,by decide +kernel,rfl,by decide +kernel,by decide +kernel⟩
theorem ok_check_arrows {f C fa:Addr} {fd fda:FuncData} (D:DefAt K mg "check_arrows" sCheckArrows ["chart"] f fd) (T:Txt K mg C) (Da:DefAt K mg "check_arrow" sCheckArrow ["chart", "number"] fa fda) (Ga:FnOk P w K mg base CX0 4 fa fda ["chart", "number"] (spCheckArrow C)) :
    FnOk P w K mg base CX0 5 f fd ["chart"] (spCheckArrows C):=by
  refine D.fn.ok scCheckArrowsG (fun vs H Q E h => ?_) (fun cdv A outer s H vs Q E hr h => ?_)
  · obtain ⟨c,R,As,rfl,_⟩:=h
    rfl
  obtain ⟨c,R,As,rfl,hC,hG,h20,hA,q⟩:=h
  refine ⟨_,pss_cons (ps_if (pt_cmpR op_gt (pe_callB call_len_seq (by rfl) T.len PySem.boot_len (pa_cons (pe_fld (pv 0) rfl) pa_nil)) (pe_gint T.mostA rfl) (nomark _)) pss_never pss_nil)
    (pss_one (ps_for PassesOwn.never rfl (pi_range1 rfl T.range (pa_cons (pe_callB call_len_seq (by rfl) T.len PySem.boot_len (pa_cons (pe_fld (pv 0) rfl) pa_nil)) pa_nil)) (pg_name (i := 1) scCheckArrowsG.nd rfl (Or.inl rfl))
      (pss_one (ps_expr (pe_call Ga hr rfl Da.mg Da.fn.kp Da.bd .nil pass0 (pa_cons (pv 0) (pa_cons (pv 1) pa_nil))))))),?_⟩
  obtain ⟨dx,l,m,ps,qs,h1,h2,h3,h4,h5⟩:=hC.ob
  have hl:(qs.map V.ref).length=As.length:=by rw [List.length_map,h5.1,List.length_map]
  refine ⟨_,rfl,c,C,dx,_,_,rfl,h1,T.cl,T.nA,flds_arrows l m,m,_,rfl,.inl (SqL.of h4),_,_,rfl,rfl,_,rfl,?_⟩
  rw [hl,decide_eq_false (show ¬ (20:Int) < (As.length:Int) by omega)]
  refine iteF ?_
  refine ⟨_,rfl,c,C,dx,_,_,rfl,h1,T.cl,T.nA,flds_arrows l m,m,_,rfl,.inl (SqL.of h4),_,rfl,by rw [hl]; omega,by rw [hl]; omega,?_⟩
  rw [hl]
  refine for_range (fun i σ H1 => ∃ v,σ = [some (.ref c),v]∧H1=H) ⟨_,rfl,rfl⟩ ?_ ?_
  · rintro i σ H1 hi ⟨v,rfl,rfl⟩
    have hi':i < As.length:=by omega
    have ei:(0:Int) + (i:Int)=(i:Int):=by omega
    rw [ei]
    refine ⟨_,rfl,_,rfl,c,R,As,i,As[i],rfl,hC,hG,List.getElem?_eq_getElem hi',hA _ (List.getElem_mem hi'),?_⟩
    exact ⟨_,rfl,rfl⟩
  · rintro σ H1 ⟨v,rfl,rfl⟩
    exact q
def spInit (C:Addr):Sp:=fun vs H Q _ => ∃ (c dx a b:Addr) (ps qs:List Addr) (R:List Room1) (As:List Arrow),vs=[.ref c,.ref a,.ref b]∧H c=some (.ins C dx [])∧H a=some (.lst (ps.map V.ref))∧Items H ps (R.map rV)∧H b=some (.lst (qs.map V.ref))∧Items H qs (As.map aV)∧Good R∧As.length≤20∧(∀ x∈As,GoodA R x) ∧
  ∀ H',(∀ x o,H x=some o→x≠c→H' x=some o)→(∀ H'',(∀ x o,H' x=some o→x≠a→x≠b→H'' x=some o)→ChartAt C H'' c R As)→Q .non H'
theorem scInitG:FnScope ["self", "rooms", "arrows"] ["self", "rooms", "arrows"] (defScope sInit):=⟨rfl,rfl,rfl,by decide +kernel,rfl,by decide +kernel,by decide +kernel⟩
theorem ok_init {f C fr fa:Addr} {fd fdr fda:FuncData} (F:Fun K "__init__" "Chart.__init__" sInit f fd) (T:Txt K mg C) (Dr:DefAt K mg "check_rooms" sCheckRooms ["chart"] fr fdr) (Da:DefAt K mg "check_arrows" sCheckArrows ["chart"] fa fda)
    (Gr:FnOk P w K mg base CX0 3 fr fdr ["chart"] (spCheckRooms C)) (Ga:FnOk P w K mg base CX0 5 fa fda ["chart"] (spCheckArrows C)):FnOk P w K mg base CX0 6 f fd ["self", "rooms", "arrows"] (spInit C):=by
  refine F.ok scInitG (fun vs H Q E h => ?_) (fun cdv A outer s H vs Q E hr h => ?_)
  · obtain ⟨c,dx,a,b,ps,qs,R,As,rfl,_⟩:=h
    rfl
  obtain ⟨c,dx,a,b,ps,qs,R,As,rfl,hc,ha,hI,hb,hJ,hG,h20,hA,q⟩:=h
  refine ⟨_,pss_cons (ps_fld (pv 0) (pe_callTy call_list_of (by rfl) T.list (by decide +kernel) (pa_cons (pv 1) pa_nil)) rfl)
    (pss_cons (ps_fld (pv 0) (pe_callTy call_list_of (by rfl) T.list (by decide +kernel) (pa_cons (pv 2) pa_nil)) rfl)
    (pss_cons (ps_expr (pe_call Gr (hr.mono (by decide)) rfl Dr.mg Dr.fn.kp Dr.bd .nil pass0 (pa_cons (pv 0) pa_nil)))
    (pss_one (ps_expr (pe_call Ga hr rfl Da.mg Da.fn.kp Da.bd .nil pass0 (pa_cons (pv 0) pa_nil)))))),?_⟩
  refine ⟨_,rfl,a,_,rfl,.inl (SqL.of ha),fun l hl => ?_⟩
  have ncl:c≠l:=ne_of_none hc hl
  refine ⟨_,rfl,c,C,dx,_,rfl,(by rw [upd_ne ncl]; exact hc),T.cl,T.nR,(by show 0 < 1000; decide),?_⟩
  have nbl:b≠l:=ne_of_none hb hl
  have nbc:b≠c:=ne_of hb hc (by intro z; cases z)
  have nac:a≠c:=ne_of ha hc (by intro z; cases z)
  have nal:a≠l:=ne_of_none ha hl
  refine ⟨_,rfl,b,_,rfl,.inl (SqL.of (by rw [upd_ne nbc,upd_ne nbl]; exact hb)),fun m hm => ?_⟩
  have ncm:c≠m:=ne_of_none upd_same hm
  have hm':H m=Option.none:=by
    have z:=hm
    rw [upd_ne ncm.symm] at z
    by_cases e:m=l
    · rw [e,upd_same] at z; cases z
    · rw [upd_ne e] at z; exact z
  have nml:m≠l:=fun e => by
    rw [e,upd_ne ncl.symm,upd_same] at hm
    cases hm
  refine ⟨_,rfl,c,C,dx,_,rfl,(by rw [upd_ne ncm]; exact upd_same),T.cl,T.nA,(by show 1 < 1000; decide),?_⟩
  have keep:∀ x o,H x=some o→x≠c→(upd (upd (upd (upd H l (.lst (ps.map V.ref))) c (.ins C dx (putF "rooms" (.ref l) []))) m (.lst (qs.map V.ref))) c (.ins C dx (putF "arrows" (.ref m) (putF "rooms" (.ref l) [])))) x=some o:=fun x o e n => by
    rw [upd_ne n,upd_ne (ne_of_none e hm'),upd_ne n,upd_ne (ne_of_none e hl)]; exact e
  have hcl:(upd (upd (upd (upd H l (.lst (ps.map V.ref))) c (.ins C dx (putF "rooms" (.ref l) []))) m (.lst (qs.map V.ref))) c (.ins C dx (putF "arrows" (.ref m) (putF "rooms" (.ref l) [])))) l=some (.lst (ps.map V.ref)):=by
    rw [upd_ne ncl.symm,upd_ne nml.symm,upd_ne ncl.symm,upd_same]
  have hcm:(upd (upd (upd (upd H l (.lst (ps.map V.ref))) c (.ins C dx (putF "rooms" (.ref l) []))) m (.lst (qs.map V.ref))) c (.ins C dx (putF "arrows" (.ref m) (putF "rooms" (.ref l) [])))) m=some (.lst (qs.map V.ref)):=by
    rw [upd_ne ncm.symm,upd_same]
  have ntc:∀ p o,H p=some (.tup o)→p≠c:=fun p o e => ne_of e hc (by intro z; cases z)
  generalize hH2:(upd (upd (upd (upd H l (.lst (ps.map V.ref))) c (.ins C dx (putF "rooms" (.ref l) []))) m (.lst (qs.map V.ref))) c (.ins C dx (putF "arrows" (.ref m) (putF "rooms" (.ref l) []))))=H2 at keep hcl hcm ⊢
  have hcc:H2 c=some (.ins C dx (flds l m)):=by rw [← hH2]; exact upd_same
  have hI2:Items H2 ps (R.map rV):=⟨hI.1,fun i p o e1 e2 => keep _ _ (hI.2 i p o e1 e2) (ntc _ _ (hI.2 i p o e1 e2))⟩
  have hJ2:Items H2 qs (As.map aV):=⟨hJ.1,fun i p o e1 e2 => keep _ _ (hJ.2 i p o e1 e2) (ntc _ _ (hJ.2 i p o e1 e2))⟩
  have hC2:ChartAt C H2 c R As:=⟨⟨dx,l,m,ps,qs,hcc,hcl,hI2,hcm,hJ2⟩,Nat.le_trans hG.most (by decide),by omega⟩
  refine ⟨_,rfl,c,R,As,rfl,hC2,hG,fun H3 s3 => ?_⟩
  refine ⟨_,rfl,c,R,As,rfl,hC2.same s3,hG,h20,hA,?_⟩
  refine q H3 (fun x o e n => s3 _ _ (keep x o e n)) (fun H4 k4 => ?_)
  have nma:m≠a:=fun e => by rw [e,ha] at hm'; cases hm'
  have nmb:m≠b:=fun e => by rw [e,hb] at hm'; cases hm'
  have nta:∀ p o,H p=some (.tup o)→p≠a:=fun p o e => ne_of e ha (by intro z; cases z)
  have ntb:∀ p o,H p=some (.tup o)→p≠b:=fun p o e => ne_of e hb (by intro z; cases z)
  refine ⟨⟨dx,l,m,ps,qs,k4 _ _ (s3 _ _ hcc) nac.symm nbc.symm,k4 _ _ (s3 _ _ hcl) nal.symm nbl.symm,⟨hI.1,fun i p o e1 e2 => k4 _ _ (s3 _ _ (hI2.2 i p o e1 e2)) (nta _ _ (hI.2 i p o e1 e2)) (ntb _ _ (hI.2 i p o e1 e2))⟩,
    k4 _ _ (s3 _ _ hcm) nma nmb,⟨hJ.1,fun i p o e1 e2 => k4 _ _ (s3 _ _ (hJ2.2 i p o e1 e2)) (nta _ _ (hJ.2 i p o e1 e2)) (ntb _ _ (hJ.2 i p o e1 e2))⟩⟩,Nat.le_trans hG.most (by decide),by omega⟩
end
end Toy
namespace Toy
open PySem L2
seal PySem.wpAny
section
variable {P:Program} {w:World} {K:PySem.W.Frag} {mg:Str→Option Value} {base:Heap}
structure RoomsAt (H:Hp) (r:Addr) (R:List Room1):Prop where
  ob:∃ ps,H r=some (.lst (ps.map V.ref))∧Items H ps (R.map rV)
theorem RoomsAt.same {H H':Hp} {r:Addr} {R:List Room1} (s:Same H H') (h:RoomsAt H r R):RoomsAt H' r R:=by
  obtain ⟨ps,a,b⟩:=h.ob
  exact ⟨ps,s _ _ a,b.same s⟩
theorem RoomsAt.len {H:Hp} {R:List Room1} {ps:List Addr} (h:Items H ps (R.map rV)):(ps.map V.ref).length=R.length:=by rw [List.length_map,h.1,List.length_map]
end
end Toy
namespace Toy
open PySem L2
seal PySem.wpAny
section
variable {P:Program} {w:World} {K:PySem.W.Frag} {mg:Str→Option Value} {base:Heap}
def cellsL (ns:List Int) (st m:Nat):List Int:=(List.range m).map fun k => Rm.cell ns (st + k)
theorem cellsL_len (ns:List Int) (st m:Nat):(cellsL ns st m).length=m:=by simp [cellsL]
def spCells (K:PySem.W.Frag):Sp:=fun vs H Q _ => ∃ (a:Addr) (ns:List Int) (st m:Nat),vs=[.ref a,.int st,.int m]∧SqL K H a (ns.map V.int)∧m≤100 ∧
  ∀ (l:Addr) (H':Hp),H l=Option.none→Same H H'→H' l=some (.lst ((cellsL ns st m).map V.int))→Q (.ref l) H'
theorem scCells:FnScope ["script", "start", "many"] ["script", "start", "many"] (defScope sCells):=⟨rfl,rfl,rfl,by decide +kernel,rfl,by decide +kernel,by decide +kernel⟩
theorem ok_cells {f C fc:Addr} {fd fdc:FuncData} (D:DefAt K mg "_law_cells" sCells ["script", "start", "many"] f fd) (T:Txt K mg C) (Dc:DefAt K mg "_law_cell_at" sCell ["script", "k"] fc fdc):FnOk P w K mg base CX0 2 f fd ["script", "start", "many"] (spCells K):=by
  have Gc:FnOk P w K mg base CX0 1 fc fdc ["script", "k"] (spCell K):=ok_cell Dc T
  refine D.fn.ok scCells (fun vs H Q E h => ?_) (fun cdv A outer s H vs Q E hr h => ?_)
  · obtain ⟨a,ns,st,m,rfl,_⟩:=h
    rfl
  obtain ⟨a,ns,st,m,rfl,hS,hm,q⟩:=h
  refine ⟨_,pss_one (ps_ret (pe_comp ["k", "script", "start"] [Option.none,some 0,some 1] rfl (pi_range1 rfl T.range (pa_cons (pv 2) pa_nil)) (fun _ => pg_name (i := 0) (show (["k", "script", "start"]:List Str).Nodup by decide +kernel) rfl (Or.inl rfl)) (fun _ => pts_nil)
    (fun _ => pe_call Gc hr rfl Dc.mg Dc.fn.kp Dc.bd .nil pass0 (pa_cons (pv 1) (pa_cons (pe_op op_add (pv 2) (pv 0)) pa_nil))) (N:=["script", "start", "many"]) (ks:=(defScope sCells).names) rfl rfl (by decide +kernel) (by decide +kernel) (by decide +kernel) (by decide +kernel))),?_⟩
  refine ⟨_,rfl,(m:Int),rfl,by omega,by omega,fun bk d hd => ?_⟩
  have em:((m:Int)).toNat=m:=by omega
  rw [em]
  refine comp_rangeA (Pv:=fun i ys σ H' => (∃ v,σ = [v,some (.ref a),some (.int st)])∧ys=((List.range i).map fun k => Rm.cell ns (st + k)).map V.int∧Same H H') ⟨⟨_,rfl⟩,rfl,same_new hd _⟩ ?_ ?_
  · rintro i ys σ H1 hi hDi ⟨⟨v,rfl⟩,hys,(s1:Same _ _)⟩
    have ei:(st:Int) + ((0:Int) + (i:Int))=((st + i:Nat):Int):=by omega
    refine ⟨_,rfl,_,rfl,_,rfl,_,_,rfl,rfl,a,ns,st + i,(by show [V.ref a,V.int ((st:Int) + ((0:Int) + (i:Int)))] = _; rw [ei]),s1.seq hS,hDi,?_,⟨_,rfl⟩,?_,sameUpd s1 hd _⟩
    · rw [hys,List.length_map,List.length_map,List.length_range]; exact small1000 (by omega)
    · rw [hys,List.range_succ,List.map_append,List.map_append]; rfl
  · rintro ys σ H1 hDn ⟨⟨v,rfl⟩,hys,(s1:Same _ _)⟩
    exact q d H1 hd s1 (by rw [hDn,hys]; rfl)
def hasSc (R:List Room1) (a:Arrow):Bool:=(scopeOf R a.1.toNat a.2.2.2.1.toNat).isSome
theorem mod_nat {x:Int} {n:Nat} (hn : 0 < n):∃ s:Nat,x % (n:Int)=(s:Int)∧s < n:=by
  have h1:=Int.emod_nonneg x (show (n:Int)≠0 by omega)
  have h2:=Int.emod_lt_of_pos x (show (0:Int) < (n:Int) by omega)
  exact ⟨(x % (n:Int)).toNat,by omega,by omega⟩
theorem cells_get {cells:List Int} {k:Nat} (h:k < cells.length):atI (cells.map V.int) (k:Int)=some (.int (cells.getD k 0)):=by
  rw [ints_get h,List.getD_eq_getElem?_getD,List.getElem?_eq_getElem h]; rfl
end
end Toy
namespace Toy
open PySem L2
seal PySem.wpAny
section
variable {P:Program} {w:World} {K:PySem.W.Frag} {mg:Str→Option Value} {base:Heap}
structure ArrowsAt (H:Hp) (a:Addr) (A:List Arrow):Prop where
  ob:∃ qs,H a=some (.lst (qs.map V.ref))∧Items H qs (A.map aV)
end
end Toy
namespace Toy
open PySem L2
seal PySem.wpAny
section
variable {P:Program} {w:World} {K:PySem.W.Frag} {mg:Str→Option Value} {base:Heap}
def aryL (n:Nat) (cells:List Int) (k:Nat):Arrow :=
  (cells.getD (3 * k) 0 % (n:Int),cells.getD (3 * k) 0 / (n:Int) % 4,cells.getD (3 * k + 1) 0 / (n:Int) % ((n:Int) + 1) - 1,cells.getD (3 * k + 1) 0 % (n:Int),cells.getD (3 * k + 2) 0 % 100)
def anyL (R:List Room1) (cells:List Int) (m:Nat):List Arrow:=((List.range m).map (aryL R.length cells)).filter (hasSc R)
theorem anyL_succ (R:List Room1) (cells:List Int) (m:Nat):anyL R cells (m + 1)=anyL R cells m ++ (if hasSc R (aryL R.length cells m)=true then [aryL R.length cells m] else []):=by
  unfold anyL
  rw [List.range_succ,List.map_append,List.filter_append]
  congr 1
  show [aryL R.length cells m].filter (hasSc R)=_
  cases h:hasSc R (aryL R.length cells m) <;> simp [h]
theorem anyL_len (R:List Room1) (cells:List Int) (m:Nat):(anyL R cells m).length≤m:=by
  unfold anyL
  have:=List.length_filter_le (hasSc R) ((List.range m).map (aryL R.length cells))
  rw [List.length_map,List.length_range] at this
  exact this
theorem anyL_good {R:List Room1} (hG:Good R) (cells:List Int) (m:Nat):∀ a∈anyL R cells m,GoodA R a:=by
  intro a ha
  unfold anyL at ha
  obtain ⟨h1,h2⟩:=List.mem_filter.mp ha
  obtain ⟨k,_,rfl⟩:=List.mem_map.mp h1
  have hpos:=hG.tree.pos
  rw [hsOf_len] at hpos
  have d1:=Int.emod_nonneg (cells.getD (3 * k + 2) 0) (show (100:Int)≠0 by decide)
  have d2:=Int.emod_lt_of_pos (cells.getD (3 * k + 2) 0) (show (0:Int) < 100 by decide)
  have e1:=Int.emod_nonneg (cells.getD (3 * k) 0 / (R.length:Int)) (show (4:Int)≠0 by decide)
  have e2:=Int.emod_lt_of_pos (cells.getD (3 * k) 0 / (R.length:Int)) (show (0:Int) < 4 by decide)
  have g1:=Int.emod_nonneg (cells.getD (3 * k + 1) 0 / (R.length:Int)) (show ((R.length:Int) + 1)≠0 by omega)
  have g2:=Int.emod_lt_of_pos (cells.getD (3 * k + 1) 0 / (R.length:Int)) (show (0:Int) < (R.length:Int) + 1 by omega)
  refine ⟨mod_nat hpos,⟨e1,?_⟩,⟨?_,?_⟩,mod_nat hpos,⟨d1,by show _≤(99:Int); simp only [aryL]; omega⟩,Option.isSome_iff_exists.mp h2⟩
  · show cells.getD (3 * k) 0 / (R.length:Int) % 4≤3
    omega
  · show -1≤cells.getD (3 * k + 1) 0 / (R.length:Int) % ((R.length:Int) + 1) - 1
    omega
  · show cells.getD (3 * k + 1) 0 / (R.length:Int) % ((R.length:Int) + 1) - 1 < (R.length:Int)
    omega
def spAnyA:Sp:=fun vs H Q _ => ∃ (r c:Addr) (R:List Room1) (cells:List Int),vs=[.ref r,.ref c]∧RoomsAt H r R∧Good R∧H c=some (.lst (cells.map V.int))∧cells.length≤60 ∧
  ∀ (l:Addr) (qs:List Addr) (H':Hp),H l=Option.none→Same H H'→H' l=some (.lst (qs.map V.ref))→Items H' qs ((anyL R cells (cells.length / 3)).map aV)→Q (.ref l) H'
theorem scAnyA:FnScope ["rooms", "cells", "arrows", "many", "k", "one", "two", "guard"] ["rooms", "cells"] (defScope sAnyA):=⟨rfl,rfl,rfl,by decide +kernel,rfl,by decide +kernel,by decide +kernel⟩
theorem ok_anyA {f C fs fh:Addr} {fd fds fdh:FuncData} (D:DefAt K mg "_law_any_arrows" sAnyA ["rooms", "cells"] f fd) (T:Txt K mg C) (Ds:DefAt K mg "_law_scope" sLScope ["rooms", "source", "target"] fs fds) (Dh:DefAt K mg "_law_chain" sChain ["rooms", "k"] fh fdh):FnOk P w K mg base CX0 3 f fd ["rooms", "cells"] spAnyA:=by
  have Gs:FnOk P w K mg base CX0 2 fs fds ["rooms", "source", "target"] spLScope:=ok_lscope Ds T Dh
  refine D.fn.ok scAnyA (fun vs H Q E h => ?_) (fun cdv A outer s H vs Q E hr h => ?_)
  · obtain ⟨r,c,R,cells,rfl,_⟩:=h
    rfl
  obtain ⟨r,c,R,cells,rfl,hR,hG,hc,hcl,q⟩:=h
  obtain ⟨ps,hrr,hI⟩:=hR.ob
  have hl:(ps.map V.ref).length=R.length:=RoomsAt.len hI
  have hpos:=hG.tree.pos
  rw [hsOf_len] at hpos
  have hmost:=hG.most
  refine ⟨_,pss_cons (ps_set (i := 2) scAnyA.nd rfl (Or.inl rfl) (pe_lst pa_nil))
    (pss_cons (ps_set (i := 3) scAnyA.nd rfl (Or.inl rfl) (pe_callB call_len_seq (by rfl) T.len PySem.boot_len (pa_cons (pv 0) pa_nil)))
    (pss_cons (ps_for PassesOwn.never rfl (pi_range1 rfl T.range (pa_cons (pe_op op_fdiv (pe_callB call_len_seq (by rfl) T.len PySem.boot_len (pa_cons (pv 1) pa_nil)) pe_int) pa_nil)) (pg_name (i := 4) scAnyA.nd rfl (Or.inl rfl))
      (pss_cons (ps_set (i := 5) scAnyA.nd rfl (Or.inl rfl) (pe_ix ix_list (pv 1) (pe_op op_mul pe_int (pv 4)) (fun _ _ => rfl)))
      (pss_cons (ps_set (i := 6) scAnyA.nd rfl (Or.inl rfl) (pe_ix ix_list (pv 1) (pe_op op_add (pe_op op_mul pe_int (pv 4)) pe_int) (fun _ _ => rfl)))
      (pss_one (ps_if (pt_cmp (pc_notN (pe_call Gs hr rfl Ds.mg Ds.fn.kp Ds.bd .nil pass0 (pa_cons (pv 0) (pa_cons (pe_op op_mod (pv 5) (pv 3)) (pa_cons (pe_op op_mod (pv 6) (pv 3)) pa_nil))))))
        (pss_cons (ps_set (i := 7) scAnyA.nd rfl (Or.inl rfl) (pe_op op_sub (pe_op op_mod (pe_op op_fdiv (pv 6) (pv 3)) (pe_op op_add (pv 3) pe_int)) pe_int))
        (pss_one (ps_expr (pe_bm PySem.F.plainAttrs_list PySem.F.slot_list_append PySem.F.type_list_append mt_append (pv 2) (pa_cons (pe_tup (pa_cons (pe_op op_mod (pv 5) (pv 3)) (pa_cons (pe_op op_mod (pe_op op_fdiv (pv 5) (pv 3)) pe_int) (pa_cons (pv 7) (pa_cons (pe_op op_mod (pv 6) (pv 3)) (pa_cons (pe_op op_mod (pe_ix ix_list (pv 1) (pe_op op_add (pe_op op_mul pe_int (pv 4)) pe_int) (fun _ _ => rfl)) pe_int) pa_nil)))))) pa_nil))))) pss_nil)))))
    (pss_one (ps_ret (pv 2))))),?_⟩
  refine ⟨(by show 0≤sizeLine; decide),fun ad had => ?_⟩
  have s0:=same_new had (.lst [])
  refine ⟨_,rfl,r,_,rfl,.inl (SqL.of (s0 _ _ hrr)),?_⟩
  rw [hl]
  have elc:(cells.map V.int).length=cells.length:=List.length_map _
  refine ⟨_,rfl,c,_,rfl,.inl (SqL.of (s0 _ _ hc)),_,_,rfl,rfl,⟨by decide,by decide⟩,_,rfl,by rw [elc]; omega,by rw [elc]; omega,?_⟩
  have em:((((cells.map V.int).length:Nat):Int) / 3).toNat=cells.length / 3:=by rw [elc]; omega
  rw [em]
  refine for_range (fun i σ H1 => ∃ v4 v5 v6 v7 qs,σ = [some (.ref r),some (.ref c),some (.ref ad),some (.int (R.length:Int)),v4,v5,v6,v7]∧Same H H1∧H1 ad=some (.lst (qs.map V.ref))∧Items H1 qs ((anyL R cells i).map aV)) ⟨_,_,_,_,[],rfl,s0,upd_same,⟨rfl,fun j p o a1 => by simp at a1⟩⟩ ?_ ?_
  · rintro i σ H1 hi ⟨v4,v5,v6,v7,qs,rfl,(s1:Same _ _),e1,hJ⟩
    have ei:(0:Int) + (i:Int)=(i:Int):=by omega
    rw [ei]
    have c1:atI (cells.map V.int) (3 * (i:Int))=some (.int (cells.getD (3 * i) 0)):=by
      rw [show (3 * (i:Int))=((3 * i:Nat):Int) by omega]; exact cells_get (by omega)
    have c2:atI (cells.map V.int) (3 * (i:Int) + 1)=some (.int (cells.getD (3 * i + 1) 0)):=by
      rw [show (3 * (i:Int) + 1)=((3 * i + 1:Nat):Int) by omega]; exact cells_get (by omega)
    have c3:atI (cells.map V.int) (3 * (i:Int) + 2)=some (.int (cells.getD (3 * i + 2) 0)):=by
      rw [show (3 * (i:Int) + 2)=((3 * i + 2:Nat):Int) by omega]; exact cells_get (by omega)
    refine ⟨_,rfl,_,rfl,_,_,rfl,rfl,.inl ⟨by decide,by decide⟩,c,_,_,_,rfl,rfl,SqL.of (s1 _ _ hc),c1,?_⟩
    refine ⟨_,rfl,_,rfl,_,_,rfl,rfl,.inl ⟨by decide,by decide⟩,_,_,rfl,rfl,c,_,_,_,rfl,rfl,SqL.of (s1 _ _ hc),c2,?_⟩
    obtain ⟨sn,es,hs⟩:=mod_nat (x:=cells.getD (3 * i) 0) hpos
    obtain ⟨tn,et,ht⟩:=mod_nat (x:=cells.getD (3 * i + 1) 0) hpos
    refine ⟨_,rfl,_,rfl,_,rfl,_,_,rfl,rfl,(by omega),_,rfl,_,rfl,_,_,rfl,rfl,(by omega),r,ps,R,sn,tn,(by show [V.ref r,V.int (cells.getD (3 * i) 0 % (R.length:Int)),V.int (cells.getD (3 * i + 1) 0 % (R.length:Int))] = _; rw [es,et]),s1 _ _ hrr,hI.same s1,hG.tree,by omega,hs,ht,fun H3 s3 => ?_⟩
    have s13:=s1.trans s3
    have ehas:hasSc R (aryL R.length cells i)=(scopeOf R sn tn).isSome:=by
      unfold hasSc aryL
      simp only
      rw [es,et,Int.toNat_natCast,Int.toNat_natCast]
    refine ⟨_,rfl,?_⟩
    cases hsc:scopeOf R sn tn with
    | none =>
      refine iteF ?_
      refine ⟨_,_,_,_,qs,rfl,s13,s3 _ _ e1,?_⟩
      rw [anyL_succ,ehas,hsc,if_neg (by decide),List.append_nil]
      exact hJ.same s3
    | some pp =>
      refine iteT ?_
      refine ⟨_,rfl,_,rfl,_,_,rfl,rfl,⟨by omega,by omega⟩,_,rfl,_,_,rfl,rfl,_,_,rfl,rfl,(by show (0:Int) < (R.length:Int) + 1; omega),_,_,rfl,rfl,?_⟩
      refine ⟨_,rfl,.inl ⟨rfl,_,SqL.of (s3 _ _ e1)⟩,_,rfl,_,rfl,_,_,rfl,rfl,(by omega),_,rfl,_,rfl,_,_,rfl,rfl,⟨by omega,by omega⟩,_,_,rfl,rfl,(by show (0:Int) < _; decide),_,rfl,_,rfl,_,rfl,_,_,rfl,rfl,(by omega),_,rfl,_,rfl,_,_,rfl,rfl,.inl ⟨by decide,by decide⟩,_,_,rfl,rfl,c,_,_,_,rfl,rfl,SqL.of (s13 _ _ hc),c3,_,_,rfl,rfl,(by show (0:Int) < _; decide),(by show 5≤sizeLine; decide),fun t ht' => ?_⟩
      have nat:ad≠t:=ne_of_none (s3 _ _ e1) ht'
      refine ⟨ad,_,_,rfl,rfl,(by rw [upd_ne nat]; exact s3 _ _ e1),?_,?_⟩
      · rw [List.length_map,hJ.1,List.length_map]
        have:=anyL_len R cells i
        exact small1000 (by omega)
      · have st:Same H1 (upd H3 t (.tup (aV (aryL R.length cells i)))):=s3.trans (same_new ht' _)
        have ne:∀ b u,H1 b=some u→b≠ad→(upd (upd H3 t (.tup (aV (aryL R.length cells i)))) ad (.lst (qs.map V.ref ++ [V.ref t]))) b=some u:=fun b u e n => by
          rw [upd_ne n]; exact st _ _ e
        refine ⟨_,_,_,_,qs ++ [t],rfl,fun b u e => ne b u (s1 _ _ e) (ne_of_none e had),?_,?_⟩
        · rw [upd_same,List.map_append]; rfl
        · rw [anyL_succ,ehas,hsc,if_pos (by rfl),List.map_append]
          refine Items.snoc ⟨hJ.1,fun j p o a1 a2 => ne _ _ (hJ.2 j p o a1 a2) (ne_of (hJ.2 j p o a1 a2) e1 (by intro z; cases z))⟩ ?_
          show (upd (upd H3 t (.tup (aV (aryL R.length cells i)))) ad (.lst (qs.map V.ref ++ [V.ref t]))) t=_
          rw [upd_ne nat.symm,upd_same]
  · rintro σ H1 ⟨v4,v5,v6,v7,qs,rfl,(s1:Same _ _),e1,hJ⟩
    exact ⟨_,rfl,q ad qs H1 had s1 e1 hJ⟩
end
end Toy
namespace Toy
open PySem L2
seal PySem.wpAny
section
variable {P:Program} {w:World} {K:PySem.W.Frag} {mg:Str→Option Value} {base:Heap}
theorem comp_tup {K:PySem.W.Frag} {a:Addr} {xs:List V} {g:TG} {tt:TT} {te:TE} {D:Addr} {Q:VK} {σ : St} {H:Hp} (Pv:Nat→List V→St→Hp→Prop) (h0:Pv 0 [] σ (upd H D (.lst [])))
    (hl:∀ i ys σ H,i≤xs.length→H D=some (.lst ys)→Pv i ys σ H→SqT K H a xs)
    (hs:∀ i x ys σ H,xs[i]? = some x→H D=some (.lst ys)→Pv i ys σ H→g x σ H fun σ2 H2 => tt σ2 H2 fun b H3 =>
      if b=true then te σ2 H3 fun y H4 => H4 D=some (.lst ys)∧ys.length < sizeLine∧Pv (i + 1) (ys ++ [y]) σ2 (upd H4 D (.lst (ys ++ [y]))) else H3 D=some (.lst ys)∧Pv (i + 1) ys σ2 H3)
    (hd:∀ ys σ H,H D=some (.lst ys)→Pv xs.length ys σ H→Q (.ref D) H) :
    tLoop (Itt K a) g tt te D Q σ (upd H D (.lst [])):=by
  refine ⟨fun i m σ H => m=xs.length - i∧i≤xs.length∧∃ ys,H D=some (.lst ys)∧Pv i ys σ H,⟨xs.length,by simp,Nat.zero_le _,[],upd_same,h0⟩,?_⟩
  rintro i m σ H ⟨rfl,hi,ys,hD,p⟩
  have hq:=hl i ys σ H hi hD p
  by_cases hlt:i < xs.length
  · refine .inr ⟨⟨xs,xs[i],hq,by simp [hlt]⟩,fun y σ' H' => H' D=some (.lst ys)∧ys.length < sizeLine∧Pv (i + 1) (ys ++ [y]) σ' (upd H' D (.lst (ys ++ [y]))),fun σ' H' => H' D=some (.lst ys)∧Pv (i + 1) ys σ' H',
      fun y σ' H' q => ⟨ys,q.1,q.2.1,xs.length - (i + 1),by omega,rfl,hlt,_,upd_same,q.2.2⟩,fun σ' H' q => ⟨xs.length - (i + 1),by omega,rfl,hlt,ys,q⟩,fun x H' y => ?_⟩
    obtain ⟨e,y⟩:=y
    subst e
    exact hs i x ys σ _ (y xs hq) hD p
  · have e:i=xs.length:=by omega
    subst e
    exact .inl ⟨⟨xs,hq,Nat.le_refl _⟩,hd ys σ H hD p⟩
theorem small_log {i:Nat} (h:i≤100):(i:Int).natAbs.log2 < 1920:=by
  have e:(i:Int).natAbs=i:=Int.natAbs_natCast i
  rw [e]
  by_cases z:i=0
  · subst z; decide
  · exact (Nat.log2_lt z).mpr (Nat.lt_of_le_of_lt h (by decide +kernel))
structure NTxt (K:PySem.W.Frag) (mg:Str→Option Value):Prop where
  dash:∃ t,mg "DASH" = some (.str "-" t)
  fig:∃ t,mg "FIGURES" = some (.str "0123456789" t)
  rw3:∃ t,mg "ROOM_WORDS" = some (.int 3 t)
  aw6:∃ t,mg "ARROW_WORDS" = some (.int 6 t)
  tstr:mg "str" = none
  all:mg "all" = none
  ss:PySem.W.kitOne K (.type "str") (.type "str")=some true
theorem pe_gstr {X:Cx} {x i:Str} {pos:Pos} (h:∃ t,X.mg x=some (.str i t)) (hg:Gl X x) (hd:(x == ("__debug__" : Str))=false:=by decide):PE X (.Name x pos) (tC (.str i)):=by
  obtain ⟨t,h⟩:=h
  exact pe_glob hg h ⟨t,rfl⟩ hd
def mk1 (n:Int):Str:=if n = -1 then "-" else Str.ofString (toString n)
theorem mk1_none:mk1 (-1) = "-" := if_pos rfl
theorem mk1_nat (n:Nat):mk1 (n:Int)=wd n:=if_neg (by omega)
def Num (n:Int):Prop:=n = -1∨∃ k:Nat,n=(k:Int)∧k < 100
def okW (x:Str):Bool := !x.cps.toList.contains 32 && !x.cps.toList.contains 10 && decide (x.length≤10)
theorem okW_wd:∀ n,n < 100→okW (wd n)=true:=by decide +kernel
theorem okW_mk {n:Int} (h:Num n):okW (mk1 n)=true:=by
  rcases h with rfl | ⟨k,rfl,hk⟩
  · rw [mk1_none]; decide +kernel
  · rw [mk1_nat]; exact okW_wd k hk
theorem okW_un {x:Str} (h:okW x=true) : 32 ∉ x.cps.toList∧10 ∉ x.cps.toList∧x.length≤10:=by
  unfold okW at h
  rw [Bool.and_eq_true,Bool.and_eq_true,Bool.not_eq_true',Bool.not_eq_true',decide_eq_true_iff] at h
  obtain ⟨⟨h1,h2⟩,h3⟩:=h
  refine ⟨fun z => ?_,fun z => ?_,h3⟩
  · rw [List.contains_iff_mem.mpr z] at h1; cases h1
  · rw [List.contains_iff_mem.mpr z] at h2; cases h2
def sp1:Str := " "
def nl1:Str := "\n"
theorem sp1_is:sp1=⟨#[32]⟩:=by decide +kernel
theorem nl1_is:nl1=⟨#[10]⟩:=by decide +kernel
def rWords (r:Room1):List Str:=["room",mk1 r.1,r.2]
def aWords (a:Arrow):List Str:=["arrow",mk1 a.1,mk1 a.2.1,mk1 a.2.2.1,mk1 a.2.2.2.1,mk1 a.2.2.2.2]
def rLine (r:Room1):Str:=Txt.join sp1 (rWords r)
def aLine (a:Arrow):Str:=Txt.join sp1 (aWords a)
def linesOf (R:List Room1) (A:List Arrow):List Str:=R.map rLine ++ A.map aLine
def textOf (R:List Room1) (A:List Arrow):Str:=Txt.join nl1 (linesOf R A)
structure WordsOk (ws:List Str):Prop where
  ne:ws≠[]
  ok:∀ x∈ws,okW x=true
  few:ws.length≤6
theorem line_split {ws:List Str} (h:WordsOk ws):Txt.split (Txt.join sp1 ws) sp1=ws:=by
  rw [sp1_is]
  exact split_join h.ne fun x hx => (okW_un (h.ok x hx)).1
theorem jn_mem {c d:Nat}:∀ {ls:List (List Nat)},d∈jn c ls→d=c∨∃ x∈ls,d∈x
  | [],h => by cases h
  | [x],h => .inr ⟨x,List.mem_cons_self,h⟩
  | x :: y :: r,h => by
    have h':d∈x ++ c :: jn c (y :: r):=h
    rcases List.mem_append.mp h' with z | z
    · exact .inr ⟨x,List.mem_cons_self,z⟩
    · rcases List.mem_cons.mp z with z | z
      · exact .inl z
      · rcases jn_mem z with z | ⟨u,hu,z⟩
        · exact .inl z
        · exact .inr ⟨u,List.mem_cons_of_mem _ hu,z⟩
theorem line_free {ws:List Str} (h:WordsOk ws) : 10 ∉ (Txt.join sp1 ws).cps.toList:=by
  rw [sp1_is,join_is,join_cps]
  intro z
  rcases jn_mem z with z | ⟨x,hx,z⟩
  · cases z
  · obtain ⟨p,hp,rfl⟩:=List.mem_map.mp hx
    exact (okW_un (h.ok p hp)).2.1 z
theorem join_len {ws:List Str} {n:Nat} (h:∀ x∈ws,x.length≤n):(Txt.join sp1 ws).length≤(n + 1) * ws.length:=by
  rw [join_is]
  refine Nat.le_trans (StrLaws.join_length_le sp1 ws) ?_
  have hs:(ws.map (·.length)).sum≤n * ws.length:=by
    induction ws with
    | nil => exact Nat.zero_le _
    | cons t ts ih =>
      have a:=h t List.mem_cons_self
      have b:=ih fun x hx => h x (List.mem_cons_of_mem _ hx)
      rw [List.map_cons,List.sum_cons,List.length_cons,Nat.mul_add]
      omega
  have e:sp1.length=1:=by decide +kernel
  rw [e,Nat.add_mul]
  omega
theorem line_len {ws:List Str} (h:WordsOk ws):(Txt.join sp1 ws).length≤66:=by
  have:=join_len fun x hx => (okW_un (h.ok x hx)).2.2
  have h6:=h.few
  have:(10 + 1) * ws.length≤11 * 6:=Nat.mul_le_mul_left _ h6
  omega
theorem line_joinOk {ws:List Str} (h:WordsOk ws):JoinOk sp1 ws=true:=by
  refine joinOk_of (fun t ht => ?_) ?_ (by decide +kernel)
  · have:=(okW_un (h.ok t ht)).2.2
    omega
  · have:=h.few
    omega
theorem rWords_ok {r:Room1} (h:Num r.1) (hk:r.2 = "plain"∨r.2 = "one"∨r.2 = "all"∨r.2 = "keep"):WordsOk (rWords r):=by
  refine ⟨by simp [rWords],fun x hx => ?_,by show 3≤6; decide⟩
  simp only [rWords,List.mem_cons,List.not_mem_nil,or_false] at hx
  rcases hx with rfl | rfl | rfl
  · decide +kernel
  · exact okW_mk h
  · rcases hk with e | e | e | e <;> rw [e] <;> decide +kernel
def ANum (a:Arrow):Prop:=Num a.1∧Num a.2.1∧Num a.2.2.1∧Num a.2.2.2.1∧Num a.2.2.2.2
theorem aWords_ok {a:Arrow} (h:ANum a):WordsOk (aWords a):=by
  refine ⟨by simp [aWords],fun x hx => ?_,by show 6≤6; decide⟩
  simp only [aWords,List.mem_cons,List.not_mem_nil,or_false] at hx
  obtain ⟨h1,h2,h3,h4,h5⟩:=h
  rcases hx with rfl | rfl | rfl | rfl | rfl | rfl
  · decide +kernel
  · exact okW_mk h1
  · exact okW_mk h2
  · exact okW_mk h3
  · exact okW_mk h4
  · exact okW_mk h5
theorem num_good {R:List Room1} (hG:Good R) {a:Arrow} (h:GoodA R a):ANum a:=by
  have hm:=hG.most
  obtain ⟨s,hs,hs2⟩:=h.src
  obtain ⟨t,ht,ht2⟩:=h.tgt
  have he:=h.evt
  have hg:=h.grd
  have hd:=h.ded
  refine ⟨.inr ⟨s,hs,by omega⟩,.inr ⟨a.2.1.toNat,by omega,by omega⟩,?_,.inr ⟨t,ht,by omega⟩,.inr ⟨a.2.2.2.2.toNat,by omega,by omega⟩⟩
  by_cases z:a.2.2.1 = -1
  · exact .inl z
  · exact .inr ⟨a.2.2.1.toNat,by omega,by omega⟩
def spMark:Sp:=fun vs H Q _ => ∃ n:Int,vs=[.int n]∧Num n∧Q (.str (mk1 n)) H
theorem scNumWord:FnScope ["number"] ["number"] (defScope sNumWord):=⟨rfl,rfl,rfl,by decide +kernel,rfl,by decide +kernel,by decide +kernel⟩
theorem ok_numWord {f C:Addr} {fd:FuncData} (D:DefAt K mg "number_word" sNumWord ["number"] f fd) (T:Txt K mg C) (N:NTxt K mg):FnOk P w K mg base CX0 1 f fd ["number"] spMark:=by
  refine D.fn.ok scNumWord (fun vs H Q E h => ?_) (fun cdv A outer s H vs Q E hr h => ?_)
  · obtain ⟨n,rfl,_⟩:=h
    rfl
  obtain ⟨n,rfl,hn,q⟩:=h
  refine ⟨_,pss_cons (ps_if (pt_cmpR op_eq (pv 0) (pe_gint T.nil rfl) (nomark _)) (pss_one (ps_ret (pe_gstr N.dash rfl))) pss_nil)
    (pss_one (ps_ret (pe_callTy call_str_int (by rfl) N.tstr (by decide +kernel) (pa_cons (pv 0) pa_nil)))),?_⟩
  refine ⟨_,rfl,rfl,_,rfl,?_⟩
  refine ite2 (fun z => ?_) (fun z => ?_)
  · have e:n = -1:=by
      have:=of_decide_eq_true z
      injection this
    rw [e,mk1_none] at q
    exact q
  · have e:¬ n = -1:=fun e => z (by rw [e]; exact decide_eq_true rfl)
    rcases hn with e' | ⟨k,rfl,hk⟩
    · exact absurd e' e
    · refine ⟨_,rfl,_,rfl,small_log (by omega),?_⟩
      rw [mk1_nat] at q
      exact q
theorem scMark:FnScope ["number"] ["number"] (defScope sMark):=⟨rfl,rfl,rfl,by decide +kernel,rfl,by decide +kernel,by decide +kernel⟩
theorem ok_mark {f:Addr} {fd:FuncData} (D:DefAt K mg "_law_mark" sMark ["number"] f fd) (N:NTxt K mg):FnOk P w K mg base CX0 1 f fd ["number"] spMark:=by
  refine D.fn.ok scMark (fun vs H Q E h => ?_) (fun cdv A outer s H vs Q E hr h => ?_)
  · obtain ⟨n,rfl,_⟩:=h
    rfl
  obtain ⟨n,rfl,hn,q⟩:=h
  refine ⟨_,pss_cons (ps_if (pt_cmpR op_eq (pv 0) (pe_un un_neg pe_int) (nomark _)) (pss_one (ps_ret pe_str)) pss_nil)
    (pss_one (ps_ret (pe_callTy call_str_int (by rfl) N.tstr (by decide +kernel) (pa_cons (pv 0) pa_nil)))),?_⟩
  refine ⟨_,rfl,_,rfl,rfl,_,rfl,?_⟩
  refine ite2 (fun z => ?_) (fun z => ?_)
  · have e:n = -1:=by
      have:=of_decide_eq_true z
      injection this
    rw [e,mk1_none] at q
    exact q
  · have e:¬ n = -1:=fun e => z (by rw [e]; exact decide_eq_true rfl)
    rcases hn with e' | ⟨k,rfl,hk⟩
    · exact absurd e' e
    · refine ⟨_,rfl,_,rfl,small_log (by omega),?_⟩
      rw [mk1_nat] at q
      exact q
def spRoomLine:Sp:=fun vs H Q _ => ∃ (p:Addr) (r:Room1),vs=[.ref p]∧H p=some (.tup (rV r))∧Num r.1∧WordsOk (rWords r)∧∀ H',Same H H'→Q (.str (rLine r)) H'
theorem scRoomLine:FnScope ["room"] ["room"] (defScope sRoomLine):=⟨rfl,rfl,rfl,by decide +kernel,rfl,by decide +kernel,by decide +kernel⟩
theorem ok_roomLine {f C fn:Addr} {fd fdn:FuncData} (D:DefAt K mg "room_line" sRoomLine ["room"] f fd) (T:Txt K mg C) (N:NTxt K mg) (Dn:DefAt K mg "number_word" sNumWord ["number"] fn fdn):FnOk P w K mg base CX0 2 f fd ["room"] spRoomLine:=by
  have Gn:FnOk P w K mg base CX0 1 fn fdn ["number"] spMark:=ok_numWord Dn T N
  refine D.fn.ok scRoomLine (fun vs H Q E h => ?_) (fun cdv A outer s H vs Q E hr h => ?_)
  · obtain ⟨p,r,rfl,_⟩:=h
    rfl
  obtain ⟨p,r,rfl,hp,hn,hw,q⟩:=h
  refine ⟨_,pss_one (ps_ret (pe_bm PySem.F.plainAttrs_str PySem.F.slot_str_join PySem.F.type_str_join mt_join pe_str (pa_cons (pe_lst (pa_cons pe_str (pa_cons (pe_call Gn hr rfl Dn.mg Dn.fn.kp Dn.bd .nil pass0 (pa_cons (pe_ix ix_tup (pv 0) (pe_gint T.hold rfl) (fun _ _ => rfl)) pa_nil)) (pa_cons (pe_ix ix_tup (pv 0) (pe_gint T.kind rfl) (fun _ _ => rfl)) pa_nil)))) pa_nil))),?_⟩
  refine ⟨rfl,_,rfl,p,_,_,_,rfl,rfl,SqT.of hp,rfl,r.1,rfl,hn,_,rfl,p,_,_,_,rfl,rfl,SqT.of hp,rfl,(by show 3≤sizeLine; decide),fun l hl => ?_⟩
  refine ⟨sp1,l,rWords r,rfl,rfl,SqL.of upd_same,line_joinOk hw,?_⟩
  exact q _ (same_new hl _)
end
end Toy
namespace Toy
open PySem L2
seal PySem.wpAny
section
variable {P:Program} {w:World} {K:PySem.W.Frag} {mg:Str→Option Value} {base:Heap}
theorem comp_tupA {K:PySem.W.Frag} {a:Addr} {xs:List V} {g:TG} {te:TE} {D:Addr} {Q:VK} {σ : St} {H:Hp} (Pv:Nat→List V→St→Hp→Prop) (h0:Pv 0 [] σ (upd H D (.lst [])))
    (hl:∀ i ys σ H,i≤xs.length→H D=some (.lst ys)→Pv i ys σ H→SqT K H a xs)
    (hs:∀ i x ys σ H,xs[i]? = some x→H D=some (.lst ys)→Pv i ys σ H→g x σ H fun σ2 H3 => te σ2 H3 fun y H4 => H4 D=some (.lst ys)∧ys.length < sizeLine∧Pv (i + 1) (ys ++ [y]) σ2 (upd H4 D (.lst (ys ++ [y]))))
    (hd:∀ ys σ H,H D=some (.lst ys)→Pv xs.length ys σ H→Q (.ref D) H):tLoop (Itt K a) g tYes te D Q σ (upd H D (.lst [])) :=
  comp_tup Pv h0 hl (fun i x ys σ H hi hD p => hs i x ys σ H hi hD p) hd
theorem len_app (a b:Str):(a ++ b).length=a.length + b.length:=by
  show (a.cps ++ b.cps).size=a.cps.size + b.cps.size
  rw [Array.size_append]
def aNums (a:Arrow):List Int:=[a.1,a.2.1,a.2.2.1,a.2.2.2.1,a.2.2.2.2]
theorem aNums_num {a:Arrow} (h:ANum a) {i:Nat} {n:Int} (e:(aNums a)[i]? = some n):Num n:=by
  obtain ⟨h1,h2,h3,h4,h5⟩:=h
  have hm:=List.mem_of_getElem? e
  simp only [aNums,List.mem_cons,List.not_mem_nil,or_false] at hm
  rcases hm with rfl | rfl | rfl | rfl | rfl
  · exact h1
  · exact h2
  · exact h3
  · exact h4
  · exact h5
theorem aV_nums (a:Arrow):aV a=(aNums a).map V.int:=rfl
def spArrowLine:Sp:=fun vs H Q _ => ∃ (p:Addr) (a:Arrow),vs=[.ref p]∧H p=some (.tup (aV a))∧ANum a∧∀ H',Same H H'→Q (.str (aLine a)) H'
theorem scArrowLine:FnScope ["arrow"] ["arrow"] (defScope sArrowLine):=⟨rfl,rfl,rfl,by decide +kernel,rfl,by decide +kernel,by decide +kernel⟩
theorem ok_arrowLine {f C fn:Addr} {fd fdn:FuncData} (D:DefAt K mg "arrow_line" sArrowLine ["arrow"] f fd) (T:Txt K mg C) (N:NTxt K mg) (Dn:DefAt K mg "number_word" sNumWord ["number"] fn fdn):FnOk P w K mg base CX0 2 f fd ["arrow"] spArrowLine:=by
  have Gn:FnOk P w K mg base CX0 1 fn fdn ["number"] spMark:=ok_numWord Dn T N
  refine D.fn.ok scArrowLine (fun vs H Q E h => ?_) (fun cdv A outer s H vs Q E hr h => ?_)
  · obtain ⟨p,a,rfl,_⟩:=h
    rfl
  obtain ⟨p,a,rfl,hp,hn,q⟩:=h
  refine ⟨_,pss_one (ps_ret (pe_bm PySem.F.plainAttrs_str PySem.F.slot_str_join PySem.F.type_str_join mt_join pe_str (pa_cons (pe_op op_cat (pe_lst (pa_cons pe_str pa_nil)) (pe_comp ["part"] [Option.none] rfl (pi_tup (pv 0)) (fun _ => pg_name (i := 0) (show (["part"]:List Str).Nodup by decide +kernel) rfl (Or.inl rfl)) (fun _ => pts_nil)
      (fun _ => pe_call Gn hr rfl Dn.mg Dn.fn.kp Dn.bd .nil pass0 (pa_cons (pv 0) pa_nil)) (N:=["arrow"]) (ks:=(defScope sArrowLine).names) rfl rfl (by decide +kernel) (by decide +kernel) (by decide +kernel) (by decide +kernel))) pa_nil))),?_⟩
  refine ⟨rfl,(by show 1≤sizeLine; decide),fun l0 hl0 => ?_⟩
  have s0:=same_new hl0 (.lst [.str "arrow"])
  refine ⟨_,rfl,p,rfl,⟨_,SqT.of (s0 _ _ hp)⟩,fun bk D1 hD1 => ?_⟩
  refine comp_tupA (K:=K) (xs:=aV a) (Pv:=fun i ys σ H' => ∃ v,σ = [v]∧ys=((aNums a).take i).map (fun n => V.str (mk1 n))∧Same (upd H l0 (.lst [.str "arrow"])) H') ⟨_,rfl,rfl,same_new hD1 _⟩ ?_ ?_ ?_
  · rintro i ys σ H' hi hDi ⟨v,rfl,_,(s:Same _ _)⟩
    exact SqT.of (s _ _ (s0 _ _ hp))
  · rintro i x ys σ H' hx hDi ⟨v,rfl,hys,(s:Same _ _)⟩
    rw [aV_nums,List.getElem?_map] at hx
    cases z:(aNums a)[i]? with
    | none => rw [z] at hx; cases hx
    | some n =>
      rw [z] at hx
      cases hx
      have hi:i < 5:=(List.getElem?_eq_some_iff.mp z).1
      refine ⟨_,rfl,n,rfl,aNums_num hn z,hDi,?_,⟨_,rfl,?_,sameUpd s hD1 _⟩⟩
      · rw [hys,List.length_map,List.length_take]
        exact small1000 (by show min i 5≤1000; omega)
      · rw [hys,List.take_succ,z,List.map_append]; rfl
  · rintro ys σ H' hDn ⟨v,rfl,hys,(s:Same _ _)⟩
    have hys':ys=[V.str (mk1 a.1),V.str (mk1 a.2.1),V.str (mk1 a.2.2.1),V.str (mk1 a.2.2.2.1),V.str (mk1 a.2.2.2.2)]:=hys
    subst hys'
    refine ⟨l0,D1,_,_,rfl,rfl,s _ _ upd_same,hDn,(by show 6≤sizeLine; decide),fun l hl => ?_⟩
    refine ⟨sp1,l,aWords a,rfl,rfl,SqL.of upd_same,line_joinOk (aWords_ok hn),?_⟩
    exact q _ (s0.trans (s.trans (same_new hl _)))
structure ChartNum (R:List Room1) (A:List Arrow):Prop where
  rn:∀ r∈R,Num r.1∧WordsOk (rWords r)
  an:∀ a∈A,ANum a
  rl:R.length≤100
  al:A.length≤100
theorem lines_len {R:List Room1} {A:List Arrow} (h:ChartNum R A):∀ x∈linesOf R A,x.length≤66∧10 ∉ x.cps.toList:=by
  intro x hx
  rcases List.mem_append.mp hx with z | z
  · obtain ⟨r,hr,rfl⟩:=List.mem_map.mp z
    exact ⟨line_len (h.rn r hr).2,line_free (h.rn r hr).2⟩
  · obtain ⟨a,ha,rfl⟩:=List.mem_map.mp z
    exact ⟨line_len (aWords_ok (h.an a ha)),line_free (aWords_ok (h.an a ha))⟩
theorem lines_count {R:List Room1} {A:List Arrow} (h:ChartNum R A):(linesOf R A).length≤200:=by
  unfold linesOf
  rw [List.length_append,List.length_map,List.length_map]
  have:=h.rl
  have:=h.al
  omega
theorem lines_joinOk {R:List Room1} {A:List Arrow} (h:ChartNum R A):JoinOk nl1 (linesOf R A)=true:=by
  refine joinOk_of (fun t ht => ?_) ?_ (by decide +kernel)
  · have:=(lines_len h t ht).1
    omega
  · have:=lines_count h
    omega
def spShown (C:Addr):Sp:=fun vs H Q _ => ∃ (c:Addr) (R:List Room1) (A:List Arrow),vs=[.ref c]∧ChartAt C H c R A∧ChartNum R A∧∀ H',Same H H'→Q (.str (textOf R A)) H'
theorem scShown:FnScope ["chart", "lines"] ["chart"] (defScope sShown):=⟨rfl,rfl,rfl,by decide +kernel,rfl,by decide +kernel,by decide +kernel⟩
theorem ok_shown {f C fr fa fn:Addr} {fd fdr fda fdn:FuncData} (D:DefAt K mg "shown" sShown ["chart"] f fd) (T:Txt K mg C) (N:NTxt K mg) (Dr:DefAt K mg "room_line" sRoomLine ["room"] fr fdr) (Da:DefAt K mg "arrow_line" sArrowLine ["arrow"] fa fda) (Dn:DefAt K mg "number_word" sNumWord ["number"] fn fdn):FnOk P w K mg base CX0 3 f fd ["chart"] (spShown C):=by
  have Gr:FnOk P w K mg base CX0 2 fr fdr ["room"] spRoomLine:=ok_roomLine Dr T N Dn
  have Ga:FnOk P w K mg base CX0 2 fa fda ["arrow"] spArrowLine:=ok_arrowLine Da T N Dn
  refine D.fn.ok scShown (fun vs H Q E h => ?_) (fun cdv A outer s H vs Q E hr h => ?_)
  · obtain ⟨c,R,A,rfl,_⟩:=h
    rfl
  obtain ⟨c,R,As,rfl,hC,hN,q⟩:=h
  refine ⟨_,pss_cons (ps_set (i := 1) scShown.nd rfl (Or.inl rfl) (pe_op op_cat (pe_comp ["room"] [Option.none] rfl (pi_list (pe_fld (pv 0) rfl)) (fun _ => pg_name (i := 0) (show (["room"]:List Str).Nodup by decide +kernel) rfl (Or.inl rfl)) (fun _ => pts_nil)
        (fun _ => pe_call Gr hr rfl Dr.mg Dr.fn.kp Dr.bd .nil pass0 (pa_cons (pv 0) pa_nil)) (N:=["chart", "lines"]) (ks:=(defScope sShown).names) rfl rfl (by decide +kernel) (by decide +kernel) (by decide +kernel) (by decide +kernel))
      (pe_comp ["arrow"] [Option.none] rfl (pi_list (pe_fld (pv 0) rfl)) (fun _ => pg_name (i := 0) (show (["arrow"]:List Str).Nodup by decide +kernel) rfl (Or.inl rfl)) (fun _ => pts_nil)
        (fun _ => pe_call Ga hr rfl Da.mg Da.fn.kp Da.bd .nil pass0 (pa_cons (pv 0) pa_nil)) (N:=["chart", "lines"]) (ks:=(defScope sShown).names) rfl rfl (by decide +kernel) (by decide +kernel) (by decide +kernel) (by decide +kernel))))
    (pss_one (ps_ret (pe_bm PySem.F.plainAttrs_str PySem.F.slot_str_join PySem.F.type_str_join mt_join pe_str (pa_cons (pv 1) pa_nil)))),?_⟩
  obtain ⟨dx,l,m,ps,qs,h1,h2,h3,h4,h5⟩:=hC.ob
  have hrl:=hN.rl
  have hal:=hN.al
  refine ⟨_,rfl,c,C,dx,_,_,rfl,h1,T.cl,T.nR,flds_rooms l m,l,rfl,⟨_,SqL.of h2⟩,fun bk D1 hD1 => ?_⟩
  refine comp_listA (K:=K) (xs:=ps.map V.ref) (Pv:=fun i ys σ H' => ∃ v,σ = [v]∧ys=(R.take i).map (fun r => V.str (rLine r))∧Same H H') ⟨_,rfl,rfl,same_new hD1 _⟩ ?_ ?_ ?_
  · rintro i ys σ H' hi hDi ⟨v,rfl,_,(s:Same _ _)⟩
    exact SqL.of (s _ _ h2)
  · rintro i x ys σ H' hx hDi ⟨v,rfl,hys,(s:Same _ _)⟩
    have hi:i < R.length:=by
      have z:=(List.getElem?_eq_some_iff.mp hx).1
      rw [List.length_map,h3.1,List.length_map] at z; exact z
    obtain ⟨p,hp,rfl⟩ : ∃ p,ps[i]? = some p∧V.ref p=x:=by
      rw [List.getElem?_map] at hx
      cases z:ps[i]? with
      | none => rw [z] at hx; simp at hx
      | some p => rw [z] at hx; exact ⟨p,rfl,by simpa using hx⟩
    have hRi:=List.getElem?_eq_getElem hi
    have hpi:H p=some (.tup (rV R[i])):=h3.2 i p _ hp (by rw [List.getElem?_map,hRi]; rfl)
    obtain ⟨n1,n2⟩:=hN.rn _ (List.getElem_mem hi)
    refine ⟨_,rfl,p,R[i],rfl,s _ _ hpi,n1,n2,fun H2 s2 => ⟨s2 _ _ hDi,?_,⟨_,rfl,?_,sameUpd (s.trans s2) hD1 _⟩⟩⟩
    · rw [hys,List.length_map,List.length_take]; exact small1000 (by omega)
    · rw [hys,List.take_succ,hRi,List.map_append]; rfl
  rintro ys σ H1 hDn ⟨v,rfl,hys,(s1:Same _ _)⟩
  rw [List.length_map,h3.1,List.length_map,List.take_length] at hys
  refine ⟨_,rfl,c,C,dx,_,_,rfl,s1 _ _ h1,T.cl,T.nA,flds_arrows l m,m,rfl,⟨_,SqL.of (s1 _ _ h4)⟩,fun bk D2 hD2 => ?_⟩
  refine comp_listA (K:=K) (xs:=qs.map V.ref) (Pv:=fun i zs σ H' => ∃ v,σ = [v]∧zs=(As.take i).map (fun a => V.str (aLine a))∧Same H1 H') ⟨_,rfl,rfl,same_new hD2 _⟩ ?_ ?_ ?_
  · rintro i zs σ H' hi hDi ⟨v,rfl,_,(s:Same _ _)⟩
    exact SqL.of (s _ _ (s1 _ _ h4))
  · rintro i x zs σ H' hx hDi ⟨v,rfl,hzs,(s:Same _ _)⟩
    have hi:i < As.length:=by
      have z:=(List.getElem?_eq_some_iff.mp hx).1
      rw [List.length_map,h5.1,List.length_map] at z; exact z
    obtain ⟨p,hp,rfl⟩ : ∃ p,qs[i]? = some p∧V.ref p=x:=by
      rw [List.getElem?_map] at hx
      cases z:qs[i]? with
      | none => rw [z] at hx; simp at hx
      | some p => rw [z] at hx; exact ⟨p,rfl,by simpa using hx⟩
    have hAi:=List.getElem?_eq_getElem hi
    have hpi:H p=some (.tup (aV As[i])):=h5.2 i p _ hp (by rw [List.getElem?_map,hAi]; rfl)
    refine ⟨_,rfl,p,As[i],rfl,s _ _ (s1 _ _ hpi),hN.an _ (List.getElem_mem hi),fun H2 s2 => ⟨s2 _ _ hDi,?_,⟨_,rfl,?_,sameUpd (s.trans s2) hD2 _⟩⟩⟩
    · rw [hzs,List.length_map,List.length_take]; exact small1000 (by omega)
    · rw [hzs,List.take_succ,hAi,List.map_append]; rfl
  rintro zs σ H2 hDm ⟨v,rfl,hzs,(s2:Same _ _)⟩
  rw [List.length_map,h5.1,List.length_map,List.take_length] at hzs
  refine ⟨D1,D2,_,_,rfl,rfl,s2 _ _ hDn,hDm,?_,fun ln hln => ?_⟩
  · rw [hys,hzs,List.length_map,List.length_map]; exact Nat.le_of_lt (small1000 (by omega))
  have eL:ys ++ zs=(linesOf R As).map V.str:=by
    rw [hys,hzs]
    unfold linesOf
    rw [List.map_append,List.map_map,List.map_map]; rfl
  refine ⟨rfl,_,rfl,nl1,ln,linesOf R As,rfl,rfl,SqL.of (by rw [upd_same,eL]),lines_joinOk hN,?_⟩
  exact q _ (s1.trans (s2.trans (same_new hln _)))
end
end Toy
namespace Toy
open PySem L2
seal PySem.wpAny
section
variable {P:Program} {w:World} {K:PySem.W.Frag} {mg:Str→Option Value} {base:Heap}
theorem rLine_is (r:Room1):("room " : Str) ++ mk1 r.1 ++ (" " : Str) ++ r.2=rLine r:=by
  refine cps_inj ?_
  unfold rLine rWords
  rw [sp1_is,join_is,join_cps,cps_app,cps_app,cps_app]
  have e1:("room " : Str).cps.toList=("room" : Str).cps.toList ++ [32]:=by decide +kernel
  have e2:(" " : Str).cps.toList=[32]:=by decide +kernel
  rw [e1,e2]
  show _=("room" : Str).cps.toList ++ 32 :: ((mk1 r.1).cps.toList ++ 32 :: r.2.cps.toList)
  simp [List.append_assoc]
def aMarks (a:Arrow):List Str:=[mk1 a.1,mk1 a.2.1,mk1 a.2.2.1,mk1 a.2.2.2.1,mk1 a.2.2.2.2]
theorem aLine_is (a:Arrow):("arrow " : Str) ++ Txt.join sp1 (aMarks a)=aLine a:=by
  refine cps_inj ?_
  unfold aLine aWords aMarks
  rw [sp1_is,join_is,join_is,cps_app,join_cps,join_cps]
  have e1:("arrow " : Str).cps.toList=("arrow" : Str).cps.toList ++ [32]:=by decide +kernel
  rw [e1,List.append_assoc]
  rfl
theorem aMarks_ok {a:Arrow} (h:ANum a):WordsOk (aMarks a):=by
  have g:=aWords_ok h
  refine ⟨by simp [aMarks],fun x hx => g.ok x (List.mem_cons_of_mem _ hx),by show 5≤6; decide⟩
def spLText:Sp:=fun vs H Q _ => ∃ (r a:Addr) (R:List Room1) (A:List Arrow),vs=[.ref r,.ref a]∧RoomsAt H r R∧ArrowsAt H a A∧ChartNum R A∧∀ H',Same H H'→Q (.str (textOf R A)) H'
theorem scLText:FnScope ["rooms", "arrows", "lines", "arrow"] ["rooms", "arrows"] (defScope sLText):=⟨rfl,rfl,rfl,by decide +kernel,rfl,by decide +kernel,by decide +kernel⟩
theorem ok_ltext {f C fm:Addr} {fd fdm:FuncData} (D:DefAt K mg "_law_text" sLText ["rooms", "arrows"] f fd) (T:Txt K mg C) (N:NTxt K mg) (Dm:DefAt K mg "_law_mark" sMark ["number"] fm fdm):FnOk P w K mg base CX0 2 f fd ["rooms", "arrows"] spLText:=by
  have Gm:FnOk P w K mg base CX0 1 fm fdm ["number"] spMark:=ok_mark Dm N
  refine D.fn.ok scLText (fun vs H Q E h => ?_) (fun cdv A outer s H vs Q E hr h => ?_)
  · obtain ⟨r,a,R,A,rfl,_⟩:=h
    rfl
  obtain ⟨r,a,R,As,rfl,hR,hA,hN,q⟩:=h
  refine ⟨_,pss_cons (ps_comp (i := 2) ["room"] [Option.none] rfl scLText.nd rfl rfl (pi_list (pv 0)) (fun _ => pg_name (i := 0) (show (["room"]:List Str).Nodup by decide +kernel) rfl (Or.inl rfl)) (fun _ => pts_nil)
      (fun _ => pe_op op_add_str (pe_op op_add_str (pe_op op_add_str pe_str (pe_call Gm hr rfl Dm.mg Dm.fn.kp Dm.bd .nil pass0 (pa_cons (pe_ix ix_tup (pv 0) pe_int (fun _ _ => rfl)) pa_nil))) pe_str) (pe_ix ix_tup (pv 0) pe_int (fun _ _ => rfl)))
      (N:=["rooms", "arrows", "lines", "arrow"]) (ks:=(defScope sLText).names) rfl rfl (by decide +kernel) (by decide +kernel) (by decide +kernel) (by decide +kernel))
    (pss_cons (ps_for PassesOwn.never rfl (pi_list (pv 1)) (pg_name (i := 3) scLText.nd rfl (Or.inl rfl))
      (pss_one (ps_expr (pe_bm PySem.F.plainAttrs_list PySem.F.slot_list_append PySem.F.type_list_append mt_append (pv 2) (pa_cons (pe_op op_add_str pe_str (pe_bm PySem.F.plainAttrs_str PySem.F.slot_str_join PySem.F.type_str_join mt_join pe_str
        (pa_cons (pe_comp ["number"] [Option.none] rfl (pi_tup (pv 3)) (fun _ => pg_name (i := 0) (show (["number"]:List Str).Nodup by decide +kernel) rfl (Or.inl rfl)) (fun _ => pts_nil)
          (fun _ => pe_call Gm hr rfl Dm.mg Dm.fn.kp Dm.bd .nil pass0 (pa_cons (pv 0) pa_nil)) (N:=["rooms", "arrows", "lines", "arrow"]) (ks:=(defScope sLText).names) rfl rfl (by decide +kernel) (by decide +kernel) (by decide +kernel) (by decide +kernel)) pa_nil))) pa_nil)))))
    (pss_one (ps_ret (pe_bm PySem.F.plainAttrs_str PySem.F.slot_str_join PySem.F.type_str_join mt_join pe_str (pa_cons (pv 2) pa_nil))))),?_⟩
  obtain ⟨ps,h2,h3⟩:=hR.ob
  obtain ⟨qs,h4,h5⟩:=hA.ob
  have hrl:=hN.rl
  have hal:=hN.al
  refine ⟨_,rfl,r,rfl,⟨_,SqL.of h2⟩,fun bk D1 hD1 => ?_⟩
  refine comp_listA (K:=K) (xs:=ps.map V.ref) (Pv:=fun i ys σ H' => ∃ v,σ = [v]∧ys=(R.take i).map (fun r => V.str (rLine r))∧Same H H') ⟨_,rfl,rfl,same_new hD1 _⟩ ?_ ?_ ?_
  · rintro i ys σ H' hi hDi ⟨v,rfl,_,(s:Same _ _)⟩
    exact SqL.of (s _ _ h2)
  · rintro i x ys σ H' hx hDi ⟨v,rfl,hys,(s:Same _ _)⟩
    have hi:i < R.length:=by
      have z:=(List.getElem?_eq_some_iff.mp hx).1
      rw [List.length_map,h3.1,List.length_map] at z; exact z
    obtain ⟨p,hp,rfl⟩ : ∃ p,ps[i]? = some p∧V.ref p=x:=by
      rw [List.getElem?_map] at hx
      cases z:ps[i]? with
      | none => rw [z] at hx; simp at hx
      | some p => rw [z] at hx; exact ⟨p,rfl,by simpa using hx⟩
    have hRi:=List.getElem?_eq_getElem hi
    have hpi:H p=some (.tup (rV R[i])):=h3.2 i p _ hp (by rw [List.getElem?_map,hRi]; rfl)
    obtain ⟨n1,n2⟩:=hN.rn _ (List.getElem_mem hi)
    have w1:=(okW_un (n2.ok _ (show mk1 R[i].1∈rWords R[i] by simp [rWords]))).2.2
    have w2:=(okW_un (n2.ok _ (show R[i].2∈rWords R[i] by simp [rWords]))).2.2
    have l1:("room " : Str).length=5:=by decide +kernel
    have l2:(" " : Str).length=1:=by decide +kernel
    refine ⟨_,rfl,p,_,_,_,rfl,rfl,SqT.of (s _ _ hpi),rfl,R[i].1,rfl,n1,_,_,rfl,rfl,Nat.le_of_lt (small1000 (by rw [l1]; omega)),_,_,rfl,rfl,Nat.le_of_lt (small1000 (by rw [len_app,l1,l2]; omega)),_,rfl,p,_,_,_,rfl,rfl,SqT.of (s _ _ hpi),rfl,_,_,rfl,rfl,Nat.le_of_lt (small1000 (by rw [len_app,len_app,l1,l2]; omega)),hDi,?_,⟨_,rfl,?_,sameUpd s hD1 _⟩⟩
    · rw [hys,List.length_map,List.length_take]; exact small1000 (by omega)
    · rw [rLine_is,hys,List.take_succ,hRi,List.map_append]; rfl
  rintro ys σ H1 hDn ⟨v,rfl,hys,(s1:Same _ _)⟩
  rw [List.length_map,h3.1,List.length_map,List.take_length] at hys
  subst hys
  refine ⟨_,rfl,a,rfl,⟨_,SqL.of (s1 _ _ h4)⟩,?_⟩
  refine for_list (K:=K) (xs:=qs.map V.ref) (fun i σ H' => ∃ v,σ = [some (.ref r),some (.ref a),some (.ref D1),v]∧Same H H'∧H' D1=some (.lst (R.map (fun r => V.str (rLine r)) ++ (As.take i).map (fun a => V.str (aLine a))))) ⟨_,rfl,s1,by rw [List.take_zero,List.map_nil,List.append_nil]; exact hDn⟩ ?_ ?_ ?_
  · rintro i σ H' hi ⟨v,rfl,(s:Same _ _),_⟩
    exact SqL.of (s _ _ h4)
  · rintro i x σ H' hx ⟨v,rfl,(s:Same _ _),eD⟩
    have hi:i < As.length:=by
      have z:=(List.getElem?_eq_some_iff.mp hx).1
      rw [List.length_map,h5.1,List.length_map] at z; exact z
    obtain ⟨p,hp,rfl⟩ : ∃ p,qs[i]? = some p∧V.ref p=x:=by
      rw [List.getElem?_map] at hx
      cases z:qs[i]? with
      | none => rw [z] at hx; simp at hx
      | some p => rw [z] at hx; exact ⟨p,rfl,by simpa using hx⟩
    have hAi:=List.getElem?_eq_getElem hi
    have hpi:H p=some (.tup (aV As[i])):=h5.2 i p _ hp (by rw [List.getElem?_map,hAi]; rfl)
    have hn:=hN.an _ (List.getElem_mem hi)
    refine ⟨_,rfl,.inl ⟨rfl,_,SqL.of eD⟩,rfl,_,rfl,p,rfl,⟨_,SqT.of (s _ _ hpi)⟩,fun bk D2 hD2 => ?_⟩
    refine comp_tupA (K:=K) (xs:=aV As[i]) (Pv:=fun j ys σ H2 => ∃ v,σ = [v]∧ys=((aNums As[i]).take j).map (fun n => V.str (mk1 n))∧Same H' H2) ⟨_,rfl,rfl,same_new hD2 _⟩ ?_ ?_ ?_
    · rintro j ys σ H2 hj hDj ⟨v,rfl,_,(s2:Same _ _)⟩
      exact SqT.of (s2 _ _ (s _ _ hpi))
    · rintro j x ys σ H2 hx hDj ⟨v,rfl,hys,(s2:Same _ _)⟩
      rw [aV_nums,List.getElem?_map] at hx
      cases z:(aNums As[i])[j]? with
      | none => rw [z] at hx; cases hx
      | some n =>
        rw [z] at hx
        cases hx
        have hj5:j < 5:=(List.getElem?_eq_some_iff.mp z).1
        refine ⟨_,rfl,n,rfl,aNums_num hn z,hDj,?_,⟨_,rfl,?_,sameUpd s2 hD2 _⟩⟩
        · rw [hys,List.length_map,List.length_take]
          exact small1000 (by show min j 5≤1000; omega)
        · rw [hys,List.take_succ,z,List.map_append]; rfl
    · rintro ys σ H2 hDn2 ⟨v,rfl,hys,(s2:Same _ _)⟩
      have hys':ys=(aMarks As[i]).map V.str:=hys
      subst hys'
      have wl:=line_len (aMarks_ok hn)
      have l1:("arrow " : Str).length=6:=by decide +kernel
      refine ⟨sp1,D2,aMarks As[i],rfl,rfl,SqL.of hDn2,line_joinOk (aMarks_ok hn),_,_,rfl,rfl,Nat.le_of_lt (small1000 (by rw [l1]; omega)),D1,_,_,rfl,rfl,s2 _ _ eD,?_,?_⟩
      · rw [List.length_append,List.length_map,List.length_map,List.length_take]; exact small1000 (by omega)
      · refine ⟨_,rfl,sameUpd (s.trans s2) hD1 _,?_⟩
        rw [upd_same,aLine_is,List.take_succ,hAi,List.map_append,List.append_assoc]; rfl
  · rintro σ H' ⟨v,rfl,(s:Same _ _),eD⟩
    rw [List.length_map,h5.1,List.length_map,List.take_length] at eD
    have eL:R.map (fun r => V.str (rLine r)) ++ As.map (fun a => V.str (aLine a))=(linesOf R As).map V.str:=by
      unfold linesOf
      rw [List.map_append,List.map_map,List.map_map]; rfl
    rw [eL] at eD
    refine ⟨rfl,_,rfl,nl1,D1,linesOf R As,rfl,rfl,SqL.of eD,lines_joinOk hN,?_⟩
    exact q _ s
end
end Toy
namespace Toy
open PySem L2
seal PySem.wpAny
section
variable {P:Program} {w:World} {K:PySem.W.Frag} {mg:Str→Option Value} {base:Heap}
theorem wd_facts:∀ n,n < 100→(wd n).cps.all (fun c => decide (48≤c) && decide (c≤57))=true∧(wd n).cps.all (fun c => decide (c < 128))=true∧1≤(wd n).length∧(wd n).length≤2∧¬ wd n=("-" : Str):=by decide +kernel
def figS:Str := "0123456789"
theorem fig_in:∀ c,c < 58→48≤c→(!(Builtin.Str.occurrences figS ⟨#[c]⟩ 0 figS.length 1).isEmpty)=true:=by decide +kernel
theorem len99:(Str.ofString (toString (99:Int))).length=2:=by decide +kernel
theorem all_true (k:Nat):(List.replicate k true).all id=true:=by
  rw [List.all_eq_true]
  intro x hx
  rw [List.eq_of_mem_replicate hx]; rfl
def spReadNum:Sp:=fun vs H Q _ => ∃ n:Int,vs=[.str (mk1 n)]∧Num n∧∀ H',Same H H'→Q (.int n) H'
theorem scReadNum:FnScope ["word"] ["word"] (defScope sReadNum):=⟨rfl,rfl,rfl,by decide +kernel,rfl,by decide +kernel,by decide +kernel⟩
theorem ok_readNum {f C:Addr} {fd:FuncData} (D:DefAt K mg "read_number" sReadNum ["word"] f fd) (T:Txt K mg C) (N:NTxt K mg):FnOk P w K mg base CX0 1 f fd ["word"] spReadNum:=by
  refine D.fn.ok scReadNum (fun vs H Q E h => ?_) (fun cdv A outer s H vs Q E hr h => ?_)
  · obtain ⟨n,rfl,_⟩:=h
    rfl
  obtain ⟨n,rfl,hn,q⟩:=h
  refine ⟨_,pss_cons (ps_if (pt_cmpR op_eq (pv 0) (pe_gstr N.dash rfl) (nomark _)) (pss_one (ps_ret (pe_gint T.nil rfl))) pss_nil)
    (pss_cons (ps_if (pt_not (pt_chain op_le op_le pe_int (pe_callB call_len_str (by rfl) T.len PySem.boot_len (pa_cons (pv 0) pa_nil)) (pe_callB call_len_str (by rfl) T.len PySem.boot_len (pa_cons (pe_callTy call_str_int (by rfl) N.tstr (by decide +kernel) (pa_cons (pe_gint T.lastD rfl) pa_nil)) pa_nil)))) pss_never pss_nil)
    (pss_cons (ps_if (pt_not (pt_val (pe_callB call_all_bools (by rfl) N.all (by decide +kernel) (pa_cons (pe_comp ["sign"] [Option.none] rfl (pi_str (pv 0)) (fun _ => pg_name (i := 0) (show (["sign"]:List Str).Nodup by decide +kernel) rfl (Or.inl rfl)) (fun _ => pts_nil)
        (fun _ => pe_cmpR op_in_str (pv 0) (pe_gstr N.fig rfl) (by rfl)) (N:=["word"]) (ks:=(defScope sReadNum).names) rfl rfl (by decide +kernel) (by decide +kernel) (by decide +kernel) (by decide +kernel)) pa_nil)))) pss_never pss_nil)
    (pss_one (ps_ret (pe_callTy call_int_word (by rfl) T.tint (by decide +kernel) (pa_cons (pv 0) pa_nil)))))),?_⟩
  refine ⟨_,rfl,rfl,_,rfl,?_⟩
  rcases hn with rfl | ⟨k,rfl,hk⟩
  · refine ite2 (fun z => ?_) (fun z => absurd (decide_eq_true (by rw [mk1_none])) z)
    exact q H fun _ _ e => e
  · obtain ⟨f1,f2,f3,f4,f5⟩:=wd_facts k hk
    rw [mk1_nat]
    refine ite2 (fun z => absurd (of_decide_eq_true z) fun e => f5 (by injection e)) (fun _ => ?_)
    refine ⟨_,rfl,_,rfl,Nat.le_of_lt (small1000 (by omega)),_,_,rfl,rfl,_,rfl,?_⟩
    refine ite2 (fun _ => ?_) (fun z => absurd (decide_eq_true (by omega)) z)
    refine ⟨_,rfl,small_log (i := 99) (by omega),_,rfl,Nat.le_of_lt (small1000 (by rw [len99]; decide)),_,_,rfl,rfl,_,rfl,?_⟩
    refine ite2 (fun z => absurd z (by rw [decide_eq_true (show ((wd k).length:Int)≤((Str.ofString (toString (99:Int))).length:Int) by rw [len99]; omega)]; decide)) (fun _ => ?_)
    refine ⟨_,rfl,wd k,rfl,f2,fun bk D1 hD1 => ?_⟩
    refine comp_strA (x:=wd k) (Pv:=fun i ys σ H' => ∃ v,σ = [v]∧ys=(List.replicate i true).map V.bl∧Same H H') ⟨_,rfl,rfl,same_new hD1 _⟩ ?_ ?_
    · rintro i c ys σ H' hc hDi ⟨v,rfl,hys,(s:Same _ _)⟩
      have hi:i < (wd k).cps.size:=(Array.getElem?_eq_some_iff.mp hc).1
      have hi':(wd k).length=(wd k).cps.size:=rfl
      have hc2:(decide (48≤c) && decide (c≤57))=true:=by
        have:=Array.all_eq_true.mp f1 i hi
        have e:(wd k).cps[i] = c:=(Array.getElem?_eq_some_iff.mp hc).2
        rw [e] at this
        simpa using this
      rw [Bool.and_eq_true,decide_eq_true_iff,decide_eq_true_iff] at hc2
      refine ⟨_,rfl,_,_,rfl,rfl,hDi,by rw [hys,List.length_map,List.length_replicate]; exact small1000 (by omega),⟨_,rfl,?_,sameUpd s hD1 _⟩⟩
      rw [hys,List.replicate_succ',List.map_append]
      have:=fig_in c (by omega) hc2.1
      show _ ++ [V.bl (!(Builtin.Str.occurrences figS ⟨#[c]⟩ 0 figS.length 1).isEmpty)] = _
      rw [this]; rfl
    · rintro ys σ H' hDn ⟨v,rfl,hys,(s:Same _ _)⟩
      subst hys
      refine ⟨rfl,D1,_,rfl,SqL.of hDn,_,rfl,?_⟩
      rw [all_true]
      refine iteF ?_
      exact ⟨_,rfl,k,hk,rfl,q H' s⟩
end
end Toy
namespace Toy
open PySem L2
seal PySem.wpAny
section
variable {P:Program} {w:World} {K:PySem.W.Frag} {mg:Str→Option Value} {base:Heap}
theorem join_lenG {sep:Str} (hs1:sep.length=1) {ws:List Str} {n:Nat} (h:∀ x∈ws,x.length≤n):(Txt.join sep ws).length≤(n + 1) * ws.length:=by
  rw [join_is]
  refine Nat.le_trans (StrLaws.join_length_le sep ws) ?_
  have hs:(ws.map (·.length)).sum≤n * ws.length:=by
    induction ws with
    | nil => exact Nat.zero_le _
    | cons t ts ih =>
      have a:=h t List.mem_cons_self
      have b:=ih fun x hx => h x (List.mem_cons_of_mem _ hx)
      rw [List.map_cons,List.sum_cons,List.length_cons,Nat.mul_add]
      omega
  rw [hs1,Nat.add_mul]
  omega
theorem big_ok {n:Nat} (h:n≤1000000):n≤sizeLine:=by
  rw [sizeLine_eq]; omega
theorem text_len {R:List Room1} {A:List Arrow} (h:ChartNum R A):(textOf R A).length≤13400:=by
  have h1:=join_lenG (sep:=nl1) (by decide +kernel) (ws:=linesOf R A) (n := 66) fun x hx => (lines_len h x hx).1
  have h2:=lines_count h
  have h3:(66 + 1) * (linesOf R A).length≤67 * 200:=Nat.mul_le_mul_left _ h2
  unfold textOf
  omega
theorem parts_le (x y:Str):(Builtin.Str.partsBetween x (Builtin.Str.occurrences x y 0 x.length (x.length + 1)) y.length).length≤x.length + 2:=by
  rw [PyProof.Rows.len_partsBetween]
  have:=StrLaws.occ_length_le x y 0 x.length (x.length + 1)
  omega
theorem text_split {R:List Room1} {A:List Arrow} (h:ChartNum R A) (h0:R≠[]):Txt.split (textOf R A) nl1=linesOf R A:=by
  unfold textOf
  rw [nl1_is]
  refine split_join ?_ fun x hx => (lines_len h x hx).2
  unfold linesOf
  cases R with
  | nil => exact absurd rfl h0
  | cons r R => simp
def spRead (C:Addr):Sp:=fun vs H Q _ => ∃ (R:List Room1) (A:List Arrow),vs=[.str (textOf R A)]∧ChartNum R A∧R≠[]∧Good R∧A.length≤20∧(∀ a∈A,GoodA R a)∧∀ (c:Addr) (H':Hp),Same H H'→ChartAt C H' c R A→Q (.ref c) H'
theorem scRead:FnScope ["text", "rooms", "arrows", "line", "words", "chart"] ["text"] (defScope sRead):=⟨rfl,rfl,rfl,by decide +kernel,rfl,by decide +kernel,by decide +kernel⟩
theorem ok_read {f C fi fs fn:Addr} {fd fdi fds fdn:FuncData} (D:DefAt K mg "read" sRead ["text"] f fd) (T:Txt K mg C) (N:NTxt K mg) (M:Mk K C fi) (bi:Binds K fdi ["self", "rooms", "arrows"] [])
    (Gi:FnOk P w K mg base CX0 6 fi fdi ["self", "rooms", "arrows"] (spInit C)) (Ds:DefAt K mg "shown" sShown ["chart"] fs fds) (Gs:FnOk P w K mg base CX0 3 fs fds ["chart"] (spShown C)) (Dn:DefAt K mg "read_number" sReadNum ["word"] fn fdn):FnOk P w K mg base CX0 8 f fd ["text"] (spRead C):=by
  have Gn:FnOk P w K mg base CX0 1 fn fdn ["word"] spReadNum:=ok_readNum Dn T N
  refine D.fn.ok scRead (fun vs H Q E h => ?_) (fun cdv A outer s H vs Q E hr h => ?_)
  · obtain ⟨R,A,rfl,_⟩:=h
    rfl
  obtain ⟨R,As,rfl,hN,h0,hG,h20,hA,q⟩:=h
  have hr1:Room 1 _:=hr.mono (by decide)
  have hr3:Room 3 _:=hr.mono (by decide)
  refine ⟨_,pss_cons (ps_set (i := 1) scRead.nd rfl (Or.inl rfl) (pe_lst pa_nil))
    (pss_cons (ps_set (i := 2) scRead.nd rfl (Or.inl rfl) (pe_lst pa_nil))
    (pss_cons (ps_for PassesOwn.never rfl (pi_list (pe_bm PySem.F.plainAttrs_str PySem.F.slot_str_split PySem.F.type_str_split mt_split (pv 0) (pa_cons pe_str pa_nil))) (pg_name (i := 3) scRead.nd rfl (Or.inl rfl))
      (pss_cons (ps_set (i := 4) scRead.nd rfl (Or.inl rfl) (pe_bm PySem.F.plainAttrs_str PySem.F.slot_str_split PySem.F.type_str_split mt_split (pv 3) (pa_cons pe_str pa_nil)))
      (pss_one (ps_if (PW.pt (pw_and (pt_cmpR op_eq (pe_ix ix_list (pv 4) pe_int (fun _ _ => rfl)) pe_str (nomark _)) (pw_and1 (pt_cmpR op_eq (pe_callB call_len_seq (by rfl) T.len PySem.boot_len (pa_cons (pv 4) pa_nil)) (pe_gint N.rw3 rfl) (nomark _)))))
        (pss_one (ps_expr (pe_bm PySem.F.plainAttrs_list PySem.F.slot_list_append PySem.F.type_list_append mt_append (pv 1) (pa_cons (pe_tup (pa_cons (pe_call Gn hr1 rfl Dn.mg Dn.fn.kp Dn.bd .nil pass0 (pa_cons (pe_ix ix_list (pv 4) pe_int (fun _ _ => rfl)) pa_nil)) (pa_cons (pe_ix ix_list (pv 4) pe_int (fun _ _ => rfl)) pa_nil))) pa_nil))))
        (pss_one (ps_if (PW.pt (pw_and (pt_cmpR op_eq (pe_ix ix_list (pv 4) pe_int (fun _ _ => rfl)) pe_str (nomark _)) (pw_and1 (pt_cmpR op_eq (pe_callB call_len_seq (by rfl) T.len PySem.boot_len (pa_cons (pv 4) pa_nil)) (pe_gint N.aw6 rfl) (nomark _)))))
          (pss_one (ps_expr (pe_bm PySem.F.plainAttrs_list PySem.F.slot_list_append PySem.F.type_list_append mt_append (pv 2) (pa_cons (pe_callTy call_tuple_of (by rfl) T.tup (by decide +kernel) (pa_cons (pe_comp ["word"] [Option.none] rfl (pi_list (pe_slice sl_list (pv 4) (po_some pe_int) po_none)) (fun _ => pg_name (i := 0) (show (["word"]:List Str).Nodup by decide +kernel) rfl (Or.inl rfl)) (fun _ => pts_nil)
            (fun _ => pe_call Gn hr1 rfl Dn.mg Dn.fn.kp Dn.bd .nil pass0 (pa_cons (pv 0) pa_nil)) (N:=["text", "rooms", "arrows", "line", "words", "chart"]) (ks:=(defScope sRead).names) rfl rfl (by decide +kernel) (by decide +kernel) (by decide +kernel) (by decide +kernel)) pa_nil)) pa_nil))))
          pss_never))))))
    (pss_cons (ps_set (i := 5) scRead.nd rfl (Or.inl rfl) (pe_make M Gi hr rfl T.mgC bi .nil pass0 (pa_cons (pv 1) (pa_cons (pv 2) pa_nil))))
    (pss_cons (ps_if (pt_cmpR op_ne (pe_call Gs hr3 rfl Ds.mg Ds.fn.kp Ds.bd .nil pass0 (pa_cons (pv 5) pa_nil)) (pv 0) (nomark _)) pss_never pss_nil)
    (pss_one (ps_ret (pv 5))))))),?_⟩
  have hrl:=hN.rl
  have hal:=hN.al
  refine ⟨(by show 0≤sizeLine; decide),fun ro hro => ⟨(by show 0≤sizeLine; decide),fun ar har => ?_⟩⟩
  have sa:=same_new hro (.lst [])
  have sb:=same_new har (.lst [])
  have har0:H ar=Option.none:=sa.free har
  have nra:ro≠ar:=ne_of_none upd_same har
  have s0:=sa.trans sb
  have tl:=text_len hN
  refine ⟨_,rfl,rfl,textOf R As,nl1,rfl,rfl,by decide +kernel,big_ok (by omega),big_ok (Nat.le_trans (parts_le _ _) (by omega)),(by rw [text_split hN h0]; exact big_ok (Nat.le_trans (lines_count hN) (by omega))),fun sl hsl => ⟨sl,rfl,⟨_,SqL.of upd_same⟩,?_⟩⟩
  have ssl:=same_new hsl (.lst ((Txt.split (textOf R As) nl1).map V.str))
  have esl:(upd (upd (upd H ro (.lst [])) ar (.lst [])) sl (.lst ((Txt.split (textOf R As) nl1).map V.str))) sl=some (.lst ((linesOf R As).map V.str)):=by rw [upd_same,text_split hN h0]
  have ero:=ssl _ _ (sb _ _ (show (upd H ro (.lst [])) ro=some (.lst []) from upd_same))
  have ear:=ssl _ _ (show (upd (upd H ro (.lst [])) ar (.lst [])) ar=some (.lst []) from upd_same)
  have nsr:sl≠ro:=(ne_of_none (sb _ _ (show (upd H ro (.lst [])) ro=some (.lst []) from upd_same)) hsl).symm
  have nsa:sl≠ar:=(ne_of_none (show (upd (upd H ro (.lst [])) ar (.lst [])) ar=some (.lst []) from upd_same) hsl).symm
  have s1:=s0.trans ssl
  rw [text_split hN h0] at ero ear s1 ⊢
  rw [text_split hN h0] at esl
  generalize upd (upd (upd H ro (.lst [])) ar (.lst [])) sl (.lst ((linesOf R As).map V.str))=H1 at esl ero ear s1 ⊢
  refine for_list (K:=K) (xs:=(linesOf R As).map V.str) (fun i σ H' => ∃ v3 v4 ps qs,σ = [some (.str (textOf R As)),some (.ref ro),some (.ref ar),v3,v4,Option.none]∧Same H H'∧H' sl=some (.lst ((linesOf R As).map V.str))∧H' ro=some (.lst (ps.map V.ref))∧Items H' ps ((R.take i).map rV)∧H' ar=some (.lst (qs.map V.ref))∧Items H' qs ((As.take (i - R.length)).map aV))
    ⟨_,_,[],[],rfl,s1,esl,ero,⟨by simp,fun j p o a1 => by simp at a1⟩,ear,⟨by simp,fun j p o a1 => by simp at a1⟩⟩ ?_ ?_ ?_
  · rintro i σ H' hi ⟨v3,v4,ps,qs,rfl,_,e,_⟩
    exact SqL.of e
  · rintro i x σ H' hx ⟨v3,v4,ps,qs,rfl,(s:Same _ _),es',er',hI,ea',hJ⟩
    rw [List.getElem?_map] at hx
    by_cases hi:i < R.length
    · have hRi:=List.getElem?_eq_getElem hi
      have hLi:(linesOf R As)[i]? = some (rLine R[i]):=by
        unfold linesOf
        rw [List.getElem?_append_left (by rw [List.length_map]; exact hi),List.getElem?_map,hRi]; rfl
      rw [hLi] at hx
      have hx':x=V.str (rLine R[i]):=(Option.some.inj hx).symm
      subst hx'
      obtain ⟨n1,n2⟩:=hN.rn _ (List.getElem_mem hi)
      have ll:=line_len n2
      refine ⟨_,rfl,rfl,rLine R[i],sp1,rfl,rfl,by decide +kernel,big_ok (by unfold rLine; omega),big_ok (Nat.le_trans (parts_le _ _) (by unfold rLine; omega)),?_,fun wl hwl => ?_⟩
      · show (Txt.split (Txt.join sp1 (rWords R[i])) sp1).length≤sizeLine
        rw [line_split n2]; exact big_ok (by show 3≤1000000; decide)
      have esp:Txt.split (rLine R[i]) sp1=rWords R[i]:=line_split n2
      rw [esp]
      have sw:=same_new hwl (.lst ((rWords R[i]).map V.str))
      have ew:(upd H' wl (.lst ((rWords R[i]).map V.str))) wl=some (.lst [.str "room",.str (mk1 R[i].1),.str R[i].2]):=upd_same
      have s2:=s.trans sw
      have es2:=sw _ _ es'
      have er2:=sw _ _ er'
      have ea2:=sw _ _ ea'
      have hI2:=hI.same sw
      have hJ2:=hJ.same sw
      generalize upd H' wl (.lst ((rWords R[i]).map V.str))=H2 at s2 es2 er2 ea2 hI2 hJ2 ew ⊢
      refine ⟨_,rfl,wl,_,_,_,rfl,rfl,SqL.of ew,rfl,rfl,_,rfl,?_⟩
      refine ite2 (fun _ => ?_) (fun z => absurd (decide_eq_true rfl) z)
      refine ⟨_,rfl,wl,_,rfl,.inl (SqL.of ew),rfl,_,rfl,?_⟩
      refine ite2 (fun _ => ?_) (fun z => absurd (decide_eq_true rfl) z)
      refine ⟨_,rfl,.inl ⟨rfl,_,SqL.of er2⟩,_,rfl,wl,_,_,_,rfl,rfl,SqL.of ew,rfl,R[i].1,rfl,n1,fun H3 s3 => ?_⟩
      refine ⟨_,rfl,wl,_,_,_,rfl,rfl,SqL.of (s3 _ _ ew),rfl,(by show 2≤sizeLine; decide),fun t ht => ?_⟩
      have st:=same_new ht (.tup (rV R[i]))
      have nrt:ro≠t:=ne_of_none (s3 _ _ er2) ht
      refine ⟨ro,_,_,rfl,rfl,(by rw [upd_ne nrt]; exact s3 _ _ er2),?_,?_⟩
      · rw [List.length_map,hI2.1,List.length_map,List.length_take]; exact small1000 (by omega)
      · have ne:∀ b u,H2 b=some u→b≠ro→(upd (upd H3 t (.tup (rV R[i]))) ro (.lst (ps.map V.ref ++ [V.ref t]))) b=some u:=fun b u e n => by
          rw [upd_ne n]; exact st _ _ (s3 _ _ e)
        refine ⟨_,_,ps ++ [t],qs,rfl,fun b u e => ne b u (s2 _ _ e) (ne_of_none e hro),ne _ _ es2 nsr,?_,?_,ne _ _ ea2 nra.symm,?_⟩
        · rw [upd_same,List.map_append]; rfl
        · rw [List.take_succ,hRi,List.map_append]
          refine Items.snoc ⟨hI2.1,fun j p o a1 a2 => ne _ _ (hI2.2 j p o a1 a2) (ne_of (hI2.2 j p o a1 a2) er2 (by intro z; cases z))⟩ ?_
          show (upd (upd H3 t (.tup (rV R[i]))) ro (.lst (ps.map V.ref ++ [V.ref t]))) t=_
          rw [upd_ne nrt.symm,upd_same]
        · rw [show i + 1 - R.length=i - R.length by omega]
          exact ⟨hJ2.1,fun j p o a1 a2 => ne _ _ (hJ2.2 j p o a1 a2) (ne_of (hJ2.2 j p o a1 a2) er2 (by intro z; cases z))⟩
    · have hLl:i < (linesOf R As).length:=by
        cases z:(linesOf R As)[i]? with
        | none => rw [z] at hx; cases hx
        | some _ => exact (List.getElem?_eq_some_iff.mp z).1
      have hi2:i - R.length < As.length:=by
        unfold linesOf at hLl
        rw [List.length_append,List.length_map,List.length_map] at hLl
        omega
      have hAi:=List.getElem?_eq_getElem hi2
      have hLi:(linesOf R As)[i]? = some (aLine As[i - R.length]):=by
        unfold linesOf
        rw [List.getElem?_append_right (by rw [List.length_map]; omega),List.length_map,List.getElem?_map,hAi]; rfl
      rw [hLi] at hx
      have hx':x=V.str (aLine As[i - R.length]):=(Option.some.inj hx).symm
      subst hx'
      have hn:=hN.an _ (List.getElem_mem hi2)
      generalize As[i - R.length] = ao at hn hAi hLi ⊢
      have n2:=aWords_ok hn
      have ll:=line_len n2
      refine ⟨_,rfl,rfl,aLine ao,sp1,rfl,rfl,by decide +kernel,big_ok (by unfold aLine; omega),big_ok (Nat.le_trans (parts_le _ _) (by unfold aLine; omega)),?_,fun wl hwl => ?_⟩
      · show (Txt.split (Txt.join sp1 (aWords ao)) sp1).length≤sizeLine
        rw [line_split n2]; exact big_ok (by show 6≤1000000; decide)
      have esp:Txt.split (aLine ao) sp1=aWords ao:=line_split n2
      rw [esp]
      have sw:=same_new hwl (.lst ((aWords ao).map V.str))
      have ew:(upd H' wl (.lst ((aWords ao).map V.str))) wl=some (.lst (.str "arrow" :: (aMarks ao).map V.str)):=upd_same
      have s2:=s.trans sw
      have es2:=sw _ _ es'
      have er2:=sw _ _ er'
      have ea2:=sw _ _ ea'
      have hI2:=hI.same sw
      have hJ2:=hJ.same sw
      generalize upd H' wl (.lst ((aWords ao).map V.str))=H2 at s2 es2 er2 ea2 hI2 hJ2 ew ⊢
      refine ⟨_,rfl,wl,_,_,_,rfl,rfl,SqL.of ew,rfl,rfl,_,rfl,?_⟩
      refine ite2 (fun z => absurd (of_decide_eq_true z) (by decide +kernel)) (fun _ => ?_)
      refine iteF ?_
      refine ⟨_,rfl,wl,_,_,_,rfl,rfl,SqL.of ew,rfl,rfl,_,rfl,?_⟩
      refine ite2 (fun _ => ?_) (fun z => absurd (decide_eq_true rfl) z)
      refine ⟨_,rfl,wl,_,rfl,.inl (SqL.of ew),rfl,_,rfl,?_⟩
      refine ite2 (fun _ => ?_) (fun z => absurd (decide_eq_true rfl) z)
      refine ⟨_,rfl,.inl ⟨rfl,_,SqL.of ea2⟩,_,rfl,1,rfl,wl,_,rfl,SqL.of ew,fun l4 hl4 => ?_⟩
      have s4:=same_new hl4 (.lst (cutV (.str "arrow" :: (aMarks ao).map V.str) (some 1) Option.none))
      have e4:(upd H2 l4 (.lst (cutV (.str "arrow" :: (aMarks ao).map V.str) (some 1) Option.none))) l4=some (.lst ((aMarks ao).map V.str)):=by rw [upd_same,cut1]; rfl
      have ea4:=s4 _ _ ea2
      generalize upd H2 l4 (.lst (cutV (.str "arrow" :: (aMarks ao).map V.str) (some 1) Option.none))=H4 at s4 e4 ea4 ⊢
      refine ⟨l4,rfl,⟨_,SqL.of e4⟩,fun bk D1 hD1 => ?_⟩
      refine comp_listA (K:=K) (xs:=(aMarks ao).map V.str) (Pv:=fun j ys σ H5 => ∃ v,σ = [v]∧ys=((aNums ao).take j).map V.int∧Same H4 H5) ⟨_,rfl,rfl,same_new hD1 _⟩ ?_ ?_ ?_
      · rintro j ys σ H5 hj hDj ⟨v,rfl,_,(s5:Same _ _)⟩
        exact SqL.of (s5 _ _ e4)
      · rintro j x ys σ H5 hx hDj ⟨v,rfl,hys,(s5:Same _ _)⟩
        have em:(aMarks ao).map V.str=(aNums ao).map fun n => V.str (mk1 n):=rfl
        rw [em,List.getElem?_map] at hx
        cases z:(aNums ao)[j]? with
        | none => rw [z] at hx; cases hx
        | some n =>
          rw [z] at hx
          cases hx
          have hj5:j < 5:=(List.getElem?_eq_some_iff.mp z).1
          refine ⟨_,rfl,n,rfl,aNums_num hn z,fun H6 s6 => ⟨s6 _ _ hDj,?_,⟨_,rfl,?_,sameUpd (s5.trans s6) hD1 _⟩⟩⟩
          · rw [hys,List.length_map,List.length_take]
            exact small1000 (by show min j 5≤1000; omega)
          · rw [hys,List.take_succ,z,List.map_append]; rfl
      · rintro ys σ H5 hDn ⟨v,rfl,hys,(s5:Same _ _)⟩
        have hys':ys=aV ao:=hys
        subst hys'
        refine ⟨D1,_,rfl,.inl ⟨SqL.of hDn,fun t ht => ?_⟩⟩
        have s25:=s4.trans s5
        have st:=same_new ht (.tup (aV ao))
        have nat:ar≠t:=ne_of_none (s5 _ _ ea4) ht
        refine ⟨ar,_,_,rfl,rfl,(by rw [upd_ne nat]; exact s5 _ _ ea4),?_,?_⟩
        · rw [List.length_map,hJ2.1,List.length_map,List.length_take]; exact small1000 (by omega)
        · have ne:∀ b u,H2 b=some u→b≠ar→(upd (upd H5 t (.tup (aV ao))) ar (.lst (qs.map V.ref ++ [V.ref t]))) b=some u:=fun b u e n => by
            rw [upd_ne n]; exact st _ _ (s25 _ _ e)
          refine ⟨_,_,ps,qs ++ [t],rfl,fun b u e => ne b u (s2 _ _ e) (ne_of_none e har0),ne _ _ es2 nsa,ne _ _ er2 nra,?_,?_,?_⟩
          · rw [List.take_of_length_le (by omega)]
            rw [List.take_of_length_le (by omega)] at hI2
            exact ⟨hI2.1,fun j p o a1 a2 => ne _ _ (hI2.2 j p o a1 a2) (ne_of (hI2.2 j p o a1 a2) ea2 (by intro z; cases z))⟩
          · rw [upd_same,List.map_append]; rfl
          · rw [show i + 1 - R.length=(i - R.length) + 1 by omega,List.take_succ,hAi,List.map_append]
            refine Items.snoc ⟨hJ2.1,fun j p o a1 a2 => ne _ _ (hJ2.2 j p o a1 a2) (ne_of (hJ2.2 j p o a1 a2) ea2 (by intro z; cases z))⟩ ?_
            show (upd (upd H5 t (.tup (aV ao))) ar (.lst (qs.map V.ref ++ [V.ref t]))) t=_
            rw [upd_ne nat.symm,upd_same]
  · rintro σ H' ⟨v3,v4,ps,qs,rfl,(s:Same _ _),es',er',hI,ea',hJ⟩
    have hlen:((linesOf R As).map V.str).length=R.length + As.length:=by
      unfold linesOf
      rw [List.length_map,List.length_append,List.length_map,List.length_map]
    rw [hlen,List.take_of_length_le (by omega)] at hI
    rw [hlen,List.take_of_length_le (by omega)] at hJ
    refine ⟨_,rfl,_,rfl,fun c dx hc hdx ncd => ?_⟩
    have kc:∀ x o,H' x=some o→(upd (upd H' dx (.own c)) c (.ins C dx [])) x=some o:=fun x o e => by
      rw [upd_ne (ne_of_none e hc),upd_ne (ne_of_none e hdx)]; exact e
    refine ⟨c,dx,ro,ar,ps,qs,R,As,rfl,upd_same,kc _ _ er',hI.same fun x o e => kc _ _ e,kc _ _ ea',hJ.same fun x o e => kc _ _ e,hG,h20,hA,fun H11 k11 hCh => ⟨rfl,?_⟩⟩
    have s11:Same H' H11:=fun x o e => k11 _ _ (kc _ _ e) (ne_of_none e hc)
    have hC11:=hCh H11 fun x o e _ _ => e
    refine ⟨_,rfl,c,R,As,rfl,hC11,hN,fun H12 s12 => ⟨_,rfl,rfl,_,rfl,?_⟩⟩
    refine ite2 (fun z => absurd z (by simp)) (fun _ => ?_)
    exact ⟨_,rfl,q c H12 (s.trans (s11.trans s12)) (hC11.same s12)⟩
end
end Toy
namespace Toy
open PySem L2
seal PySem.wpAny
section
variable {P:Program} {w:World} {K:PySem.W.Frag} {mg:Str→Option Value} {base:Heap}
def shapes (n:Nat) (ds:List PyData):Prop:=PyData.canLayAll0 ds=true∧PyData.depthAll ds≤n∧PyData.eqvAll ds ds=true
def shape (n:Nat) (d:PyData):Prop:=PyData.canLay0 d=true∧PyData.depth d≤n∧PyData.eqv d d=true
theorem shapes_map {β : Type} {g : β→PyData} {n:Nat}:∀ bs:List β,(∀ b∈bs,shape n (g b))→shapes n (bs.map g)
  | [],_ => ⟨rfl,by simp [PyData.depthAll],rfl⟩
  | b :: bs,h => by
    obtain ⟨i1,i2,i3⟩:=shapes_map bs fun x hx => h x (List.mem_cons_of_mem _ hx)
    obtain ⟨j1,j2,j3⟩:=h b List.mem_cons_self
    refine ⟨?_,?_,?_⟩
    · simp only [List.map_cons,PyData.canLayAll0,i1,j1,Bool.and_true]
    · simp only [List.map_cons,PyData.depthAll]; omega
    · simp only [List.map_cons,PyData.eqvAll,i3,j3,Bool.and_true]
theorem shape_list {n:Nat} {ds:List PyData} (h:shapes n ds):shape (n + 1) (.list ds):=by
  obtain ⟨a,b,c⟩:=h
  exact ⟨by simpa only [PyData.canLay0] using a,by simp only [PyData.depth]; omega,by simpa only [PyData.eqv] using c⟩
theorem shape_tuple {n:Nat} {ds:List PyData} (h:shapes n ds):shape (n + 1) (.tuple ds):=by
  obtain ⟨a,b,c⟩:=h
  exact ⟨by simpa only [PyData.canLay0] using a,by simp only [PyData.depth]; omega,by simpa only [PyData.eqv] using c⟩
theorem shape_int (i:Int):shape 0 (.int i):=⟨rfl,by simp [PyData.depth],by simp only [PyData.eqv,beq_self_eq_true]⟩
theorem shape_ints (xs:List Int):shapes 0 (xs.map PyData.int):=shapes_map xs fun i _ => shape_int i
theorem shaped_of {n:Nat} {d:PyData} (h:shape n d) (hn:n≤8):SeqAt.shaped d=true:=by
  obtain ⟨a,b,_⟩:=h
  unfold SeqAt.shaped
  rw [Bool.and_eq_true]
  exact ⟨a,decide_eq_true (by omega)⟩
end
end Toy
namespace Toy
open PySem L2
seal PySem.wpAny
section
variable {P:Program} {w:World} {K:PySem.W.Frag} {mg:Str→Option Value} {base:Heap}
structure InsTxt (K:PySem.W.Frag) (C:Addr):Prop where
  ha:PySem.W.findIn K (.ref C) "__class__" = some (some (.builtin "object.__class__"))
  hn:PySem.W.specialIn K (.builtin "object.__class__") "__get__" = some (some (.builtin "getset_descriptor.__get__"))
  htk:PySem.W.takesIn K (.builtin "object.__class__")=some true
  hm:PySem.W.mroIn K C (.type "object")=some true
theorem kit_self {K:PySem.W.Frag} {t:Value}:PySem.W.kitOne K t t=some true:=by
  unfold PySem.W.kitOne
  rw [if_pos (by rw [beq_self_eq_true])]
def roomD (r:Room1):PyData:=.tuple [.int r.1,.str r.2]
def arrD (a:Arrow):PyData:=.tuple ([a.1,a.2.1,a.2.2.1,a.2.2.2.1,a.2.2.2.2].map PyData.int)
theorem items_rd {K:PySem.W.Frag} {H:Hp} {β : Type} {g : β→List V} {d : β→PyData} (hb:∀ b p,H p=some (.tup (g b))→RdV K H (.ref p) (d b)):∀ {ps:List Addr} {bs:List β},Items H ps (bs.map g)→RdVs K H (ps.map V.ref) (bs.map d)
  | [],[],_ => .nil
  | [],_ :: _,h => by have:=h.1; simp at this
  | _ :: _,[],h => by have:=h.1; simp at this
  | p :: ps,b :: bs,h => .cons (hb b p (h.2 0 p (g b) rfl rfl)) (items_rd hb ⟨by have:=h.1; simpa using this,fun i q o a1 a2 => h.2 (i + 1) q o (by simpa using a1) (by simpa using a2)⟩)
theorem rooms_rd {K:PySem.W.Frag} {H:Hp} {ps:List Addr} {R:List Room1} (h:Items H ps (R.map rV)):RdVs K H (ps.map V.ref) (R.map roomD) :=
  items_rd (fun b p e => .tup (SqT.of e) (.cons (.int _) (.cons (.str _) .nil))) h
theorem arrs_rd {K:PySem.W.Frag} {H:Hp} {ps:List Addr} {A:List Arrow} (h:Items H ps (A.map aV)):RdVs K H (ps.map V.ref) (A.map arrD) :=
  items_rd (fun b p e => .tup (SqT.of e) (.cons (.int _) (.cons (.int _) (.cons (.int _) (.cons (.int _) (.cons (.int _) .nil)))))) h
theorem shape_room {r:Room1} (h:PyData.strOk r.2=true):shape 1 (roomD r):=by
  refine ⟨?_,?_,?_⟩
  · simp only [roomD,PyData.canLay0,PyData.canLayAll0,h,Bool.and_true]
  · simp only [roomD,PyData.depth,PyData.depthAll]; omega
  · simp only [roomD,PyData.eqv,PyData.eqvAll,beq_self_eq_true,Bool.and_true]
theorem kind_ok {k:Str} (h:k = "plain"∨k = "one"∨k = "all"∨k = "keep"):PyData.strOk k=true:=by
  rcases h with rfl | rfl | rfl | rfl <;> decide +kernel
theorem good_kind {R:List Room1} (hG:Good R):∀ r∈R,r.2 = "plain"∨r.2 = "one"∨r.2 = "all"∨r.2 = "keep" := fun r hr => by
  obtain ⟨i,hi,rfl⟩:=List.mem_iff_getElem.mp hr
  exact (hG.kind i _ (List.getElem?_eq_getElem hi)).1
theorem shape_R {R:List Room1} (hG:Good R):shape 2 (.list (R.map roomD)):=shape_list (shapes_map R fun r hr => shape_room (kind_ok (good_kind hG r hr)))
theorem shape_A (A:List Arrow):shape 2 (.list (A.map arrD)):=shape_list (shapes_map A fun a _ => shape_tuple (shape_ints _))
def m18 (ns:List Int):Nat:=if Rm.cell ns 0 / 7 % 4=1 then 16 else (1 + Rm.cell ns 0 % 7).toNat
theorem m18_le (ns:List Int) : 0 < m18 ns∧m18 ns≤16:=by
  unfold m18
  split <;> omega
theorem chart_num {R:List Room1} (hG:Good R) {A:List Arrow} (h20:A.length≤20) (hA:∀ a∈A,GoodA R a):ChartNum R A:=by
  have hm:=hG.most
  refine ⟨fun r hr => ?_,fun a ha => num_good hG (hA a ha),by omega,by omega⟩
  obtain ⟨i,hi,rfl⟩:=List.mem_iff_getElem.mp hr
  have e:=hsOf_get (List.getElem?_eq_getElem hi)
  have hn:Num R[i].1:=by
    rw [← e]
    by_cases h0:i=0
    · subst h0
      exact .inl hG.tree.root
    · have:=hG.tree.up i (by omega) (by rw [hsOf_len]; exact hi)
      exact .inr ⟨(Rm.hold (hsOf R) i).toNat,by omega,by omega⟩
  exact ⟨hn,rWords_ok hn (good_kind hG _ (List.getElem_mem hi))⟩
def spLaw (K:PySem.W.Frag):Sp:=fun vs H Q _ => ∃ (a:Addr) (ns:List Int),vs=[.ref a]∧SqL K H a (ns.map V.int)∧ns.length≤63∧∀ H',Q (.bl true) H'
theorem scLaw:FnScope ["script", "many", "rooms", "arrows", "due", "found", "back"] ["script"] (defScope sLaw):=⟨rfl,rfl,rfl,by decide +kernel,rfl,by decide +kernel,by decide +kernel⟩
theorem ok_law {f C fi fcell frooms fcells far ftx fsh frd:Addr} {fd fdi fdcell fdrooms fdcells fdar fdtx fdsh fdrd:FuncData} (D:DefAt K mg "law" sLaw ["script"] f fd) (T:Txt K mg C) (N:NTxt K mg) (IT:InsTxt K C) (M:Mk K C fi) (bi:Binds K fdi ["self", "rooms", "arrows"] [])
    (Gi:FnOk P w K mg base CX0 6 fi fdi ["self", "rooms", "arrows"] (spInit C)) (Dc:DefAt K mg "_law_cell_at" sCell ["script", "k"] fcell fdcell) (Dr:DefAt K mg "_law_rooms" sRooms ["script", "many"] frooms fdrooms) (Dcs:DefAt K mg "_law_cells" sCells ["script", "start", "many"] fcells fdcells)
    (Da:DefAt K mg "_law_any_arrows" sAnyA ["rooms", "cells"] far fdar) (Ga:FnOk P w K mg base CX0 3 far fdar ["rooms", "cells"] spAnyA)
    (Dt:DefAt K mg "_law_text" sLText ["rooms", "arrows"] ftx fdtx) (Gt:FnOk P w K mg base CX0 2 ftx fdtx ["rooms", "arrows"] spLText)
    (Ds:DefAt K mg "shown" sShown ["chart"] fsh fdsh) (Gs:FnOk P w K mg base CX0 3 fsh fdsh ["chart"] (spShown C)) (Dd:DefAt K mg "read" sRead ["text"] frd fdrd) (Gd:FnOk P w K mg base CX0 8 frd fdrd ["text"] (spRead C)):FnOk P w K mg base CX0 9 f fd ["script"] (spLaw K):=by
  have Gc:FnOk P w K mg base CX0 1 fcell fdcell ["script", "k"] (spCell K):=ok_cell Dc T
  have Gr:FnOk P w K mg base CX0 2 frooms fdrooms ["script", "many"] (spRooms K):=ok_rooms Dr T Dc
  have Gcs:FnOk P w K mg base CX0 2 fcells fdcells ["script", "start", "many"] (spCells K):=ok_cells Dcs T Dc
  refine D.fn.ok scLaw (fun vs H Q E h => ?_) (fun cdv A outer s H vs Q E hr h => ?_)
  · obtain ⟨a,ns,rfl,_⟩:=h
    rfl
  obtain ⟨a,ns,rfl,hS,hn,q⟩:=h
  obtain ⟨m0,m16⟩:=m18_le ns
  have hG:=lawRooms_good ns m0 m16
  obtain ⟨t2,p2,r2⟩ : ∃ t,PSs (cxOf CX0 P w K mg base ["script", "many", "rooms", "arrows", "due", "found", "back"] "law" (defScope sLaw) f cdv A outer s H E).nox ((defBody sLaw).drop 2) t ∧
      t { nx:=fun _ H' => Q .non H',rt:=Q } [some (.ref a),some (.int (m18 ns)),Option.none,Option.none,Option.none,Option.none,Option.none] H:=by
    refine ⟨_,pss_cons (ps_set (i := 2) scLaw.nd rfl (Or.inl rfl) (pe_call Gr (hr.mono (by decide)) rfl Dr.mg Dr.fn.kp Dr.bd .nil pass0 (pa_cons (pv 0) (pa_cons (pv 1) pa_nil))))
      (pss_cons (ps_set (i := 3) scLaw.nd rfl (Or.inl rfl) (pe_call Ga (hr.mono (by decide)) rfl Da.mg Da.fn.kp Da.bd .nil pass0 (pa_cons (pv 2) (pa_cons (pe_call Gcs (hr.mono (by decide)) rfl Dcs.mg Dcs.fn.kp Dcs.bd .nil pass0 (pa_cons (pv 0) (pa_cons pe_int (pa_cons pe_int pa_nil)))) pa_nil))))
      (pss_cons (ps_set (i := 4) scLaw.nd rfl (Or.inl rfl) (pe_call Gt (hr.mono (by decide)) rfl Dt.mg Dt.fn.kp Dt.bd .nil pass0 (pa_cons (pv 2) (pa_cons (pv 3) pa_nil))))
      (pss_cons (ps_set (i := 5) scLaw.nd rfl (Or.inl rfl) (pe_call Gs (hr.mono (by decide)) rfl Ds.mg Ds.fn.kp Ds.bd .nil pass0 (pa_cons (pe_make M Gi (hr.mono (by decide)) rfl T.mgC bi .nil pass0 (pa_cons (pe_callTy call_list_of (by rfl) T.list (by decide +kernel) (pa_cons (pv 2) pa_nil)) (pa_cons (pe_callTy call_list_of (by rfl) T.list (by decide +kernel) (pa_cons (pv 3) pa_nil)) pa_nil))) pa_nil)))
      (pss_cons (ps_if (PW.pt (pw_or (pt_not (pt_val (pe_callB call_isinst (by rfl) T.inst (by decide +kernel) (pa_cons (pv 5) (pa_cons (pe_bltn (by rfl) N.tstr (by decide +kernel) (v:=.ty "str") rfl) pa_nil))))) (pw_or1 (pt_cmpR op_ne (pv 5) (pv 4) (nomark _))))) pss_never pss_nil)
      (pss_cons (ps_set (i := 6) scLaw.nd rfl (Or.inl rfl) (pe_call Gd hr rfl Dd.mg Dd.fn.kp Dd.bd .nil pass0 (pa_cons (pv 4) pa_nil)))
      (pss_one (ps_ret (pe_and (pe_callB (id := "isinstance") call_isinstC (by rfl) T.inst (by decide +kernel) (pa_cons (pv 6) (pa_cons (pe_glob rfl T.mgC (v:=.ref C) rfl) pa_nil))) (pe_and (pe_cmpR (op_eqD hr.units) (pe_fld (pv 6) rfl) (pv 2) (nomark _)) (pe_one (pe_cmpR (op_eqD hr.units) (pe_fld (pv 6) rfl) (pv 3) (nomark _)))))))))))),?_⟩
    refine ⟨_,rfl,_,rfl,a,ns,m18 ns,rfl,hS,m0,m16,fun r ps H2 hr0 s2 e2 hI2 => ?_⟩
    generalize hRR:lawRooms ns (m18 ns)=R at hG hI2
    have hR2:RoomsAt H2 r R:=⟨ps,e2,hI2⟩
    refine ⟨_,rfl,_,rfl,a,ns,3,60,rfl,s2.seq hS,(by decide),fun cl H5 hcl s5 e5 => ?_⟩
    refine ⟨r,cl,R,cellsL ns 3 60,rfl,hR2.same s5,hG,e5,(by rw [cellsL_len]; decide),fun ar qs H6 har s6 e6 hJ6 => ?_⟩
    have hA6:=anyL_good hG (cellsL ns 3 60) ((cellsL ns 3 60).length / 3)
    have h20:(anyL R (cellsL ns 3 60) ((cellsL ns 3 60).length / 3)).length≤20:=by
      have:=anyL_len R (cellsL ns 3 60) ((cellsL ns 3 60).length / 3)
      have h60:(cellsL ns 3 60).length=60:=cellsL_len _ _ _
      omega
    generalize anyL R (cellsL ns 3 60) ((cellsL ns 3 60).length / 3)=As at hA6 h20 hJ6
    have hAt6:ArrowsAt H6 ar As:=⟨qs,e6,hJ6⟩
    have s26:=s5.trans s6
    have hN:=chart_num hG h20 hA6
    have h0:R≠[]:=fun e => by
      have:=hG.tree.pos
      rw [e] at this
      cases this
    refine ⟨_,rfl,_,rfl,r,ar,R,As,rfl,hR2.same s26,hAt6,hN,fun H8 s8 => ?_⟩
    have s28:=s26.trans s8
    refine ⟨_,rfl,r,_,rfl,.inl (SqL.of (s28 _ _ e2)),fun la hla => ?_⟩
    have s9:Same H8 (upd H8 la (.lst (ps.map V.ref))):=same_new hla _
    refine ⟨_,rfl,ar,_,rfl,.inl (SqL.of (s9 _ _ (s8 _ _ e6))),fun lb hlb => ?_⟩
    have s10:=same_new hlb (.lst (qs.map V.ref))
    have ea:(upd (upd H8 la (.lst (ps.map V.ref))) lb (.lst (qs.map V.ref))) la=some (.lst (ps.map V.ref)):=s10 _ _ upd_same
    have eb:(upd (upd H8 la (.lst (ps.map V.ref))) lb (.lst (qs.map V.ref))) lb=some (.lst (qs.map V.ref)):=upd_same
    have s810:=s9.trans s10
    generalize upd (upd H8 la (.lst (ps.map V.ref))) lb (.lst (qs.map V.ref))=H10 at s810 ea eb ⊢
    intro c dx hc hdx ncd
    have kc:∀ x o,H10 x=some o→(upd (upd H10 dx (.own c)) c (.ins C dx [])) x=some o:=fun x o e => by
      rw [upd_ne (ne_of_none e hc),upd_ne (ne_of_none e hdx)]; exact e
    refine ⟨c,dx,la,lb,ps,qs,R,As,rfl,upd_same,kc _ _ ea,hI2.same fun x o e => kc _ _ (s810 _ _ (s28 _ _ e)),kc _ _ eb,hJ6.same fun x o e => kc _ _ (s810 _ _ (s8 _ _ e)),hG,h20,hA6,fun H11 k11 hCh => ⟨rfl,?_⟩⟩
    have s811:Same H8 H11:=fun x o e => k11 _ _ (kc _ _ (s810 _ _ e)) (ne_of_none (s810 _ _ e) hc)
    have hC11:=hCh H11 fun x o e _ _ => e
    refine ⟨c,R,As,rfl,hC11,hN,fun H12 s12 => ?_⟩
    have s212:=s28.trans (s811.trans s12)
    have s612:=s8.trans (s811.trans s12)
    refine ⟨_,rfl,_,_,_,_,rfl,.str _,N.ss,_,rfl,?_⟩
    refine iteF ?_
    refine ⟨_,rfl,_,rfl,rfl,_,rfl,?_⟩
    refine ite2 (fun z => absurd z (by simp)) (fun _ => ?_)
    refine ⟨_,rfl,R,As,rfl,hN,h0,hG,h20,hA6,fun b H13 s13 hCb => ?_⟩
    have s213:=s212.trans s13
    have s613:=s612.trans s13
    obtain ⟨dx',l,m,ps',qs',g1,g2,g3,g4,g5⟩:=hCb.ob
    have shR:=shape_R hG
    have shA:=shape_A As
    refine ⟨_,rfl,_,_,_,_,rfl,.ins g1 T.cl IT.ha IT.hn IT.htk IT.hm,kit_self,_,rfl,?_⟩
    refine iteT ?_
    refine ⟨_,rfl,b,C,dx',_,_,rfl,g1,T.cl,T.nR,flds_rooms l m,_,rfl,_,_,.lst (SqL.of g2) (rooms_rd g3),.lst (SqL.of (s213 _ _ e2)) (rooms_rd (hI2.same s213)),shaped_of shR (by decide),shaped_of shR (by decide),_,rfl,?_⟩
    rw [show (if (false:Bool)=true then !PyData.eqv (.list (R.map roomD)) (.list (R.map roomD)) else PyData.eqv (.list (R.map roomD)) (.list (R.map roomD)))=true from shR.2.2]
    refine iteT ?_
    refine ⟨_,rfl,b,C,dx',_,_,rfl,g1,T.cl,T.nA,flds_arrows l m,_,rfl,_,_,.lst (SqL.of g4) (arrs_rd g5),.lst (SqL.of (s613 _ _ e6)) (arrs_rd (hJ6.same s613)),shaped_of shA (by decide),shaped_of shA (by decide),?_⟩
    rw [show (if (false:Bool)=true then !PyData.eqv (.list (As.map arrD)) (.list (As.map arrD)) else PyData.eqv (.list (As.map arrD)) (.list (As.map arrD)))=true from shA.2.2]
    exact q H13
  refine ⟨_,pss_cons (ps_set (i := 1) scLaw.nd rfl (Or.inl rfl) (pe_op op_add pe_int (pe_op op_mod (pe_call Gc (hr.mono (by decide)) rfl Dc.mg Dc.fn.kp Dc.bd .nil pass0 (pa_cons (pv 0) (pa_cons pe_int pa_nil))) pe_int)))
    (pss_cons (ps_if (pt_cmpR op_eq (pe_op op_mod (pe_op op_fdiv (pe_call Gc (hr.mono (by decide)) rfl Dc.mg Dc.fn.kp Dc.bd .nil pass0 (pa_cons (pv 0) (pa_cons pe_int pa_nil))) pe_int) pe_int) pe_int (nomark _)) (pss_one (ps_set (i := 1) scLaw.nd rfl (Or.inl rfl) pe_int)) pss_nil) p2),?_⟩
  refine ⟨_,rfl,a,ns,0,rfl,hS,_,_,rfl,rfl,(by show (0:Int) < _; decide),_,_,rfl,rfl,?_⟩
  refine ⟨_,rfl,a,ns,0,rfl,hS,_,_,rfl,rfl,⟨by decide,by decide⟩,_,_,rfl,rfl,(by show (0:Int) < _; decide),rfl,_,rfl,?_⟩
  refine ite2 (fun z => ?_) (fun z => ?_)
  · have z':Rm.cell ns 0 / 7 % 4=1:=by simpa using z
    have e:((m18 ns:Nat):Int)=16:=by unfold m18; rw [if_pos z']; rfl
    rw [e] at r2
    exact r2
  · have z':¬ Rm.cell ns 0 / 7 % 4=1:=by simpa using z
    have e:((m18 ns:Nat):Int)=1 + Rm.cell ns 0 % 7:=by unfold m18; rw [if_neg z']; omega
    rw [e] at r2
    exact r2
end
end Toy
namespace Toy
open PySem L2
seal PySem.wpAny
theorem all_mk {l:PySem.W.OpenLaw} {w:World} {K:PySem.W.Frag} {h:Heap} {mg:Str→Option Value} {fa C:Addr} (X:K.In h) (G:h.Ns mainGlobals mg) (hfa:mg "law" = some (.ref fa))
    {t_DASH t_FIGURES:Tok}
    {f1:Addr} {od1 an1:Option Addr} {sl1:Array (Option Value)} {oc1 kV1 dc1 pm1 cd1 ct1:Value}
    {f2:Addr} {od2 an2:Option Addr} {sl2:Array (Option Value)} {oc2 kV2 dc2 pm2 cd2 ct2:Value}
    {f3:Addr} {od3 an3:Option Addr} {sl3:Array (Option Value)} {oc3 kV3 dc3 pm3 cd3 ct3:Value}
    {f4:Addr} {od4 an4:Option Addr} {sl4:Array (Option Value)} {oc4 kV4 dc4 pm4 cd4 ct4:Value}
    {f5:Addr} {od5 an5:Option Addr} {sl5:Array (Option Value)} {oc5 kV5 dc5 pm5 cd5 ct5:Value}
    {f6:Addr} {od6 an6:Option Addr} {sl6:Array (Option Value)} {oc6 kV6 dc6 pm6 cd6 ct6:Value}
    {f7:Addr} {od7 an7:Option Addr} {sl7:Array (Option Value)} {oc7 kV7 dc7 pm7 cd7 ct7:Value}
    {f8:Addr} {od8 an8:Option Addr} {sl8:Array (Option Value)} {oc8 kV8 dc8 pm8 cd8 ct8:Value}
    {f9:Addr} {od9 an9:Option Addr} {sl9:Array (Option Value)} {oc9 kV9 dc9 pm9 cd9 ct9:Value}
    {f10:Addr} {od10 an10:Option Addr} {sl10:Array (Option Value)} {oc10 kV10 dc10 pm10 cd10 ct10:Value}
    {f11:Addr} {od11 an11:Option Addr} {sl11:Array (Option Value)} {oc11 kV11 dc11 pm11 cd11 ct11:Value}
    {f12:Addr} {od12 an12:Option Addr} {sl12:Array (Option Value)} {oc12 kV12 dc12 pm12 cd12 ct12:Value}
    {f13:Addr} {od13 an13:Option Addr} {sl13:Array (Option Value)} {oc13 kV13 dc13 pm13 cd13 ct13:Value}
    {f14:Addr} {od14 an14:Option Addr} {sl14:Array (Option Value)} {oc14 kV14 dc14 pm14 cd14 ct14:Value}
    {f15:Addr} {od15 an15:Option Addr} {sl15:Array (Option Value)} {oc15 kV15 dc15 pm15 cd15 ct15:Value}
    {f16:Addr} {od16 an16:Option Addr} {sl16:Array (Option Value)} {oc16 kV16 dc16 pm16 cd16 ct16:Value}
    {f17:Addr} {od17 an17:Option Addr} {sl17:Array (Option Value)} {oc17 kV17 dc17 pm17 cd17 ct17:Value}
    {f18:Addr} {od18 an18:Option Addr} {sl18:Array (Option Value)} {oc18 kV18 dc18 pm18 cd18 ct18:Value}
    {f19:Addr} {od19 an19:Option Addr} {sl19:Array (Option Value)} {oc19 kV19 dc19 pm19 cd19 ct19:Value}
    {f20:Addr} {od20 an20:Option Addr} {sl20:Array (Option Value)} {oc20 kV20 dc20 pm20 cd20 ct20:Value}
    {f21:Addr} {od21 an21:Option Addr} {sl21:Array (Option Value)} {oc21 kV21 dc21 pm21 cd21 ct21:Value}
    {f22:Addr} {od22 an22:Option Addr} {sl22:Array (Option Value)} {oc22 kV22 dc22 pm22 cd22 ct22:Value}
    {f23:Addr} {od23 an23:Option Addr} {sl23:Array (Option Value)} {oc23 kV23 dc23 pm23 cd23 ct23:Value}
    {f24:Addr} {od24 an24:Option Addr} {sl24:Array (Option Value)} {oc24 kV24 dc24 pm24 cd24 ct24:Value}
    {f25:Addr} {od25 an25:Option Addr} {sl25:Array (Option Value)} {oc25 kV25 dc25 pm25 cd25 ct25:Value}
    {f26:Addr} {od26 an26:Option Addr} {sl26:Array (Option Value)} {oc26 kV26 dc26 pm26 cd26 ct26:Value}
    {t_HOLDER:Tok}
    {t_KIND:Tok}
    {t_NONE:Tok}
    {t_SOURCE:Tok}
    {t_EVENT:Tok}
    {t_GUARD:Tok}
    {t_TARGET:Tok}
    {t_DEED:Tok}
    {t_LAST_EVENT:Tok}
    {t_LAST_DEED:Tok}
    {t_MOST_ROOMS:Tok}
    {t_MOST_ARROWS:Tok}
    {t_ROOM_WORDS:Tok}
    {t_ARROW_WORDS:Tok}
    {a_CHOOSING:Addr} {d_CHOOSING:Option Addr} {n_CHOOSING:Nat} {s_CHOOSING:Array (Option Value)} {t_CHOOSING_0:Tok} {t_CHOOSING_1:Tok}
    {a_KINDS:Addr} {d_KINDS:Option Addr} {n_KINDS:Nat} {s_KINDS:Array (Option Value)} {t_KINDS_0:Tok} {t_KINDS_1:Tok} {t_KINDS_2:Tok} {t_KINDS_3:Tok}
    (aC:PySem.W.nsIn K mainGlobals "Chart" = some (some (.ref C))) (pg:PySem.W.plainGet K C Str.empty=true) (hd:PySem.W.hasDictIn K C=true) (po:PySem.W.plainOver K C=true) (sa:PySem.W.findIn K (.ref C) "__setattr__" = some (some (.builtin "object.__setattr__"))) (mk:PySem.W.makesIn K C=true) (kc:PySem.W.keepIn K (.ref C)=true)
    (nR:PySem.W.findIn K (.ref C) "rooms" = some none)
    (nA:PySem.W.findIn K (.ref C) "arrows" = some none)
    (gDash:PySem.W.nsIn K mainGlobals "DASH" = some (some (.str "-" t_DASH)))
    (gFig:PySem.W.nsIn K mainGlobals "FIGURES" = some (some (.str "0123456789" t_FIGURES)))
    (ia:PySem.W.findIn K (.ref C) "__class__" = some (some (.builtin "object.__class__")))
    (ib:PySem.W.specialIn K (.builtin "object.__class__") "__get__" = some (some (.builtin "getset_descriptor.__get__")))
    (ic:PySem.W.takesIn K (.builtin "object.__class__")=some true)
    (id_:PySem.W.mroIn K C (.type "object")=some true)
    (a1:PySem.W.findIn K (.ref C) "__init__" = some (some (.ref f1))) (i1:PySem.W.isFn K (.ref f1)=true)
    (l1:K.lookup f1=some ⟨oc1,od1,.func (PySem.W.fnOf "__init__" "Chart.__init__" (defArgs sInit) (defBody sInit) (defScope sInit) .none kV1 dc1 pm1 an1 cd1 ct1),sl1⟩) (c1:PySem.W.codeIn K cd1 "Chart.__init__" = true) (k1:PySem.W.keepIn K (.ref f1)=true)
    (a2:PySem.W.nsIn K mainGlobals "check_rooms" = some (some (.ref f2)))
    (l2:K.lookup f2=some ⟨oc2,od2,.func (PySem.W.fnOf "check_rooms" "check_rooms" (defArgs sCheckRooms) (defBody sCheckRooms) (defScope sCheckRooms) .none kV2 dc2 pm2 an2 cd2 ct2),sl2⟩) (c2:PySem.W.codeIn K cd2 "check_rooms" = true) (k2:PySem.W.keepIn K (.ref f2)=true)
    (a3:PySem.W.nsIn K mainGlobals "check_holder" = some (some (.ref f3)))
    (l3:K.lookup f3=some ⟨oc3,od3,.func (PySem.W.fnOf "check_holder" "check_holder" (defArgs sCheckHolder) (defBody sCheckHolder) (defScope sCheckHolder) .none kV3 dc3 pm3 an3 cd3 ct3),sl3⟩) (c3:PySem.W.codeIn K cd3 "check_holder" = true) (k3:PySem.W.keepIn K (.ref f3)=true)
    (a4:PySem.W.nsIn K mainGlobals "check_kind" = some (some (.ref f4)))
    (l4:K.lookup f4=some ⟨oc4,od4,.func (PySem.W.fnOf "check_kind" "check_kind" (defArgs sCheckKind) (defBody sCheckKind) (defScope sCheckKind) .none kV4 dc4 pm4 an4 cd4 ct4),sl4⟩) (c4:PySem.W.codeIn K cd4 "check_kind" = true) (k4:PySem.W.keepIn K (.ref f4)=true)
    (a5:PySem.W.nsIn K mainGlobals "check_arrows" = some (some (.ref f5)))
    (l5:K.lookup f5=some ⟨oc5,od5,.func (PySem.W.fnOf "check_arrows" "check_arrows" (defArgs sCheckArrows) (defBody sCheckArrows) (defScope sCheckArrows) .none kV5 dc5 pm5 an5 cd5 ct5),sl5⟩) (c5:PySem.W.codeIn K cd5 "check_arrows" = true) (k5:PySem.W.keepIn K (.ref f5)=true)
    (a6:PySem.W.nsIn K mainGlobals "check_arrow" = some (some (.ref f6)))
    (l6:K.lookup f6=some ⟨oc6,od6,.func (PySem.W.fnOf "check_arrow" "check_arrow" (defArgs sCheckArrow) (defBody sCheckArrow) (defScope sCheckArrow) .none kV6 dc6 pm6 an6 cd6 ct6),sl6⟩) (c6:PySem.W.codeIn K cd6 "check_arrow" = true) (k6:PySem.W.keepIn K (.ref f6)=true)
    (a7:PySem.W.nsIn K mainGlobals "check_part" = some (some (.ref f7)))
    (l7:K.lookup f7=some ⟨oc7,od7,.func (PySem.W.fnOf "check_part" "check_part" (defArgs sPart) (defBody sPart) (defScope sPart) .none kV7 dc7 pm7 an7 cd7 ct7),sl7⟩) (c7:PySem.W.codeIn K cd7 "check_part" = true) (k7:PySem.W.keepIn K (.ref f7)=true)
    (a8:PySem.W.nsIn K mainGlobals "children" = some (some (.ref f8)))
    (l8:K.lookup f8=some ⟨oc8,od8,.func (PySem.W.fnOf "children" "children" (defArgs sChildren) (defBody sChildren) (defScope sChildren) .none kV8 dc8 pm8 an8 cd8 ct8),sl8⟩) (c8:PySem.W.codeIn K cd8 "children" = true) (k8:PySem.W.keepIn K (.ref f8)=true)
    (a9:PySem.W.nsIn K mainGlobals "within" = some (some (.ref f9)))
    (l9:K.lookup f9=some ⟨oc9,od9,.func (PySem.W.fnOf "within" "within" (defArgs sWithin) (defBody sWithin) (defScope sWithin) .none kV9 dc9 pm9 an9 cd9 ct9),sl9⟩) (c9:PySem.W.codeIn K cd9 "within" = true) (k9:PySem.W.keepIn K (.ref f9)=true)
    (a10:PySem.W.nsIn K mainGlobals "lies_in" = some (some (.ref f10)))
    (l10:K.lookup f10=some ⟨oc10,od10,.func (PySem.W.fnOf "lies_in" "lies_in" (defArgs sLies) (defBody sLies) (defScope sLies) .none kV10 dc10 pm10 an10 cd10 ct10),sl10⟩) (c10:PySem.W.codeIn K cd10 "lies_in" = true) (k10:PySem.W.keepIn K (.ref f10)=true)
    (a11:PySem.W.nsIn K mainGlobals "scope" = some (some (.ref f11)))
    (l11:K.lookup f11=some ⟨oc11,od11,.func (PySem.W.fnOf "scope" "scope" (defArgs sScope) (defBody sScope) (defScope sScope) .none kV11 dc11 pm11 an11 cd11 ct11),sl11⟩) (c11:PySem.W.codeIn K cd11 "scope" = true) (k11:PySem.W.keepIn K (.ref f11)=true)
    (a12:PySem.W.nsIn K mainGlobals "shown" = some (some (.ref f12)))
    (l12:K.lookup f12=some ⟨oc12,od12,.func (PySem.W.fnOf "shown" "shown" (defArgs sShown) (defBody sShown) (defScope sShown) .none kV12 dc12 pm12 an12 cd12 ct12),sl12⟩) (c12:PySem.W.codeIn K cd12 "shown" = true) (k12:PySem.W.keepIn K (.ref f12)=true)
    (a13:PySem.W.nsIn K mainGlobals "room_line" = some (some (.ref f13)))
    (l13:K.lookup f13=some ⟨oc13,od13,.func (PySem.W.fnOf "room_line" "room_line" (defArgs sRoomLine) (defBody sRoomLine) (defScope sRoomLine) .none kV13 dc13 pm13 an13 cd13 ct13),sl13⟩) (c13:PySem.W.codeIn K cd13 "room_line" = true) (k13:PySem.W.keepIn K (.ref f13)=true)
    (a14:PySem.W.nsIn K mainGlobals "arrow_line" = some (some (.ref f14)))
    (l14:K.lookup f14=some ⟨oc14,od14,.func (PySem.W.fnOf "arrow_line" "arrow_line" (defArgs sArrowLine) (defBody sArrowLine) (defScope sArrowLine) .none kV14 dc14 pm14 an14 cd14 ct14),sl14⟩) (c14:PySem.W.codeIn K cd14 "arrow_line" = true) (k14:PySem.W.keepIn K (.ref f14)=true)
    (a15:PySem.W.nsIn K mainGlobals "number_word" = some (some (.ref f15)))
    (l15:K.lookup f15=some ⟨oc15,od15,.func (PySem.W.fnOf "number_word" "number_word" (defArgs sNumWord) (defBody sNumWord) (defScope sNumWord) .none kV15 dc15 pm15 an15 cd15 ct15),sl15⟩) (c15:PySem.W.codeIn K cd15 "number_word" = true) (k15:PySem.W.keepIn K (.ref f15)=true)
    (a16:PySem.W.nsIn K mainGlobals "read" = some (some (.ref f16)))
    (l16:K.lookup f16=some ⟨oc16,od16,.func (PySem.W.fnOf "read" "read" (defArgs sRead) (defBody sRead) (defScope sRead) .none kV16 dc16 pm16 an16 cd16 ct16),sl16⟩) (c16:PySem.W.codeIn K cd16 "read" = true) (k16:PySem.W.keepIn K (.ref f16)=true)
    (a17:PySem.W.nsIn K mainGlobals "read_number" = some (some (.ref f17)))
    (l17:K.lookup f17=some ⟨oc17,od17,.func (PySem.W.fnOf "read_number" "read_number" (defArgs sReadNum) (defBody sReadNum) (defScope sReadNum) .none kV17 dc17 pm17 an17 cd17 ct17),sl17⟩) (c17:PySem.W.codeIn K cd17 "read_number" = true) (k17:PySem.W.keepIn K (.ref f17)=true)
    (a18:PySem.W.nsIn K mainGlobals "_law_cell_at" = some (some (.ref f18)))
    (l18:K.lookup f18=some ⟨oc18,od18,.func (PySem.W.fnOf "_law_cell_at" "_law_cell_at" (defArgs sCell) (defBody sCell) (defScope sCell) .none kV18 dc18 pm18 an18 cd18 ct18),sl18⟩) (c18:PySem.W.codeIn K cd18 "_law_cell_at" = true) (k18:PySem.W.keepIn K (.ref f18)=true)
    (a19:PySem.W.nsIn K mainGlobals "_law_rooms" = some (some (.ref f19)))
    (l19:K.lookup f19=some ⟨oc19,od19,.func (PySem.W.fnOf "_law_rooms" "_law_rooms" (defArgs sRooms) (defBody sRooms) (defScope sRooms) .none kV19 dc19 pm19 an19 cd19 ct19),sl19⟩) (c19:PySem.W.codeIn K cd19 "_law_rooms" = true) (k19:PySem.W.keepIn K (.ref f19)=true)
    (a20:PySem.W.nsIn K mainGlobals "_law_chain" = some (some (.ref f20)))
    (l20:K.lookup f20=some ⟨oc20,od20,.func (PySem.W.fnOf "_law_chain" "_law_chain" (defArgs sChain) (defBody sChain) (defScope sChain) .none kV20 dc20 pm20 an20 cd20 ct20),sl20⟩) (c20:PySem.W.codeIn K cd20 "_law_chain" = true) (k20:PySem.W.keepIn K (.ref f20)=true)
    (a21:PySem.W.nsIn K mainGlobals "_law_scope" = some (some (.ref f21)))
    (l21:K.lookup f21=some ⟨oc21,od21,.func (PySem.W.fnOf "_law_scope" "_law_scope" (defArgs sLScope) (defBody sLScope) (defScope sLScope) .none kV21 dc21 pm21 an21 cd21 ct21),sl21⟩) (c21:PySem.W.codeIn K cd21 "_law_scope" = true) (k21:PySem.W.keepIn K (.ref f21)=true)
    (a22:PySem.W.nsIn K mainGlobals "_law_cells" = some (some (.ref f22)))
    (l22:K.lookup f22=some ⟨oc22,od22,.func (PySem.W.fnOf "_law_cells" "_law_cells" (defArgs sCells) (defBody sCells) (defScope sCells) .none kV22 dc22 pm22 an22 cd22 ct22),sl22⟩) (c22:PySem.W.codeIn K cd22 "_law_cells" = true) (k22:PySem.W.keepIn K (.ref f22)=true)
    (a23:PySem.W.nsIn K mainGlobals "_law_any_arrows" = some (some (.ref f23)))
    (l23:K.lookup f23=some ⟨oc23,od23,.func (PySem.W.fnOf "_law_any_arrows" "_law_any_arrows" (defArgs sAnyA) (defBody sAnyA) (defScope sAnyA) .none kV23 dc23 pm23 an23 cd23 ct23),sl23⟩) (c23:PySem.W.codeIn K cd23 "_law_any_arrows" = true) (k23:PySem.W.keepIn K (.ref f23)=true)
    (a24:PySem.W.nsIn K mainGlobals "_law_mark" = some (some (.ref f24)))
    (l24:K.lookup f24=some ⟨oc24,od24,.func (PySem.W.fnOf "_law_mark" "_law_mark" (defArgs sMark) (defBody sMark) (defScope sMark) .none kV24 dc24 pm24 an24 cd24 ct24),sl24⟩) (c24:PySem.W.codeIn K cd24 "_law_mark" = true) (k24:PySem.W.keepIn K (.ref f24)=true)
    (a25:PySem.W.nsIn K mainGlobals "_law_text" = some (some (.ref f25)))
    (l25:K.lookup f25=some ⟨oc25,od25,.func (PySem.W.fnOf "_law_text" "_law_text" (defArgs sLText) (defBody sLText) (defScope sLText) .none kV25 dc25 pm25 an25 cd25 ct25),sl25⟩) (c25:PySem.W.codeIn K cd25 "_law_text" = true) (k25:PySem.W.keepIn K (.ref f25)=true)
    (a26:PySem.W.nsIn K mainGlobals "law" = some (some (.ref f26)))
    (l26:K.lookup f26=some ⟨oc26,od26,.func (PySem.W.fnOf "law" "law" (defArgs sLaw) (defBody sLaw) (defScope sLaw) .none kV26 dc26 pm26 an26 cd26 ct26),sl26⟩) (c26:PySem.W.codeIn K cd26 "law" = true) (k26:PySem.W.keepIn K (.ref f26)=true)
    (z_len:PySem.W.nsIn K mainGlobals "len" = some none)
    (z_range:PySem.W.nsIn K mainGlobals "range" = some none)
    (z_list:PySem.W.nsIn K mainGlobals "list" = some none)
    (z_isinstance:PySem.W.nsIn K mainGlobals "isinstance" = some none)
    (z_bool:PySem.W.nsIn K mainGlobals "bool" = some none)
    (z_int:PySem.W.nsIn K mainGlobals "int" = some none)
    (z_tuple:PySem.W.nsIn K mainGlobals "tuple" = some none)
    (z_sorted:PySem.W.nsIn K mainGlobals "sorted" = some none)
    (z_enumerate:PySem.W.nsIn K mainGlobals "enumerate" = some none)
    (z_str:PySem.W.nsIn K mainGlobals "str" = some none)
    (z_all:PySem.W.nsIn K mainGlobals "all" = some none)
    (g_HOLDER:PySem.W.nsIn K mainGlobals "HOLDER" = some (some (.int (0) t_HOLDER)))
    (g_KIND:PySem.W.nsIn K mainGlobals "KIND" = some (some (.int (1) t_KIND)))
    (g_NONE:PySem.W.nsIn K mainGlobals "NONE" = some (some (.int (-1) t_NONE)))
    (g_SOURCE:PySem.W.nsIn K mainGlobals "SOURCE" = some (some (.int (0) t_SOURCE)))
    (g_EVENT:PySem.W.nsIn K mainGlobals "EVENT" = some (some (.int (1) t_EVENT)))
    (g_GUARD:PySem.W.nsIn K mainGlobals "GUARD" = some (some (.int (2) t_GUARD)))
    (g_TARGET:PySem.W.nsIn K mainGlobals "TARGET" = some (some (.int (3) t_TARGET)))
    (g_DEED:PySem.W.nsIn K mainGlobals "DEED" = some (some (.int (4) t_DEED)))
    (g_LAST_EVENT:PySem.W.nsIn K mainGlobals "LAST_EVENT" = some (some (.int (3) t_LAST_EVENT)))
    (g_LAST_DEED:PySem.W.nsIn K mainGlobals "LAST_DEED" = some (some (.int (99) t_LAST_DEED)))
    (g_MOST_ROOMS:PySem.W.nsIn K mainGlobals "MOST_ROOMS" = some (some (.int (16) t_MOST_ROOMS)))
    (g_MOST_ARROWS:PySem.W.nsIn K mainGlobals "MOST_ARROWS" = some (some (.int (20) t_MOST_ARROWS)))
    (g_ROOM_WORDS:PySem.W.nsIn K mainGlobals "ROOM_WORDS" = some (some (.int (3) t_ROOM_WORDS)))
    (g_ARROW_WORDS:PySem.W.nsIn K mainGlobals "ARROW_WORDS" = some (some (.int (6) t_ARROW_WORDS)))
    (g_CHOOSING:PySem.W.nsIn K mainGlobals "CHOOSING" = some (some (.ref a_CHOOSING))) (o_CHOOSING:K.lookup a_CHOOSING=some ⟨.type "tuple",d_CHOOSING,.seq #[.str "one" t_CHOOSING_0,.str "keep" t_CHOOSING_1] n_CHOOSING,s_CHOOSING⟩)
    (g_KINDS:PySem.W.nsIn K mainGlobals "KINDS" = some (some (.ref a_KINDS))) (o_KINDS:K.lookup a_KINDS=some ⟨.type "tuple",d_KINDS,.seq #[.str "plain" t_KINDS_0,.str "one" t_KINDS_1,.str "all" t_KINDS_2,.str "keep" t_KINDS_3] n_KINDS,s_KINDS⟩)
    (kt_list_list:PySem.W.kitOne K (.type "list") (.type "list")=some true)
    (kt_bool_bool:PySem.W.kitOne K (.type "bool") (.type "bool")=some true)
    (kt_int_int:PySem.W.kitOne K (.type "int") (.type "int")=some true)
    (kt_int_bool:PySem.W.kitOne K (.type "int") (.type "bool")=some false)
    (kt_tuple_tuple:PySem.W.kitOne K (.type "tuple") (.type "tuple")=some true)
    (kt_str_str:PySem.W.kitOne K (.type "str") (.type "str")=some true)
    : ∃ fd:FuncData,(∀ (s:Shared) (v:Value),BindsTo s fd ⟨[v],[]⟩ [("script",v)])∧∀ base:Heap,K.In base→base.Ns mainGlobals mg→FnOk l.prog w K mg base CX0 9 fa fd ["script"] (spLaw K):=by
  have e:=hfa.symm.trans (PySem.W.mg_of X G a26)
  cases e
  have F1:=fun_mk (st:=sInit) l1 c1 k1
  have b1:=F1.binds (ps:=["self", "rooms", "arrows"]) fun _ _ _ _ _ _ us hl => match us,hl with | [_,_,_],_ => rfl
  have F2:=fun_mk (st:=sCheckRooms) l2 c2 k2
  have b2:=F2.binds (ps:=["chart"]) fun _ _ _ _ _ _ us hl => match us,hl with | [_],_ => rfl
  have D2:DefAt K mg "check_rooms" sCheckRooms ["chart"] _ _:=⟨F2,b2,PySem.W.mg_of X G a2⟩
  have F3:=fun_mk (st:=sCheckHolder) l3 c3 k3
  have b3:=F3.binds (ps:=["chart", "room"]) fun _ _ _ _ _ _ us hl => match us,hl with | [_,_],_ => rfl
  have D3:DefAt K mg "check_holder" sCheckHolder ["chart", "room"] _ _:=⟨F3,b3,PySem.W.mg_of X G a3⟩
  have F4:=fun_mk (st:=sCheckKind) l4 c4 k4
  have b4:=F4.binds (ps:=["chart", "room"]) fun _ _ _ _ _ _ us hl => match us,hl with | [_,_],_ => rfl
  have D4:DefAt K mg "check_kind" sCheckKind ["chart", "room"] _ _:=⟨F4,b4,PySem.W.mg_of X G a4⟩
  have F5:=fun_mk (st:=sCheckArrows) l5 c5 k5
  have b5:=F5.binds (ps:=["chart"]) fun _ _ _ _ _ _ us hl => match us,hl with | [_],_ => rfl
  have D5:DefAt K mg "check_arrows" sCheckArrows ["chart"] _ _:=⟨F5,b5,PySem.W.mg_of X G a5⟩
  have F6:=fun_mk (st:=sCheckArrow) l6 c6 k6
  have b6:=F6.binds (ps:=["chart", "number"]) fun _ _ _ _ _ _ us hl => match us,hl with | [_,_],_ => rfl
  have D6:DefAt K mg "check_arrow" sCheckArrow ["chart", "number"] _ _:=⟨F6,b6,PySem.W.mg_of X G a6⟩
  have F7:=fun_mk (st:=sPart) l7 c7 k7
  have b7:=F7.binds (ps:=["number", "name", "part", "least", "most"]) fun _ _ _ _ _ _ us hl => match us,hl with | [_,_,_,_,_],_ => rfl
  have D7:DefAt K mg "check_part" sPart ["number", "name", "part", "least", "most"] _ _:=⟨F7,b7,PySem.W.mg_of X G a7⟩
  have F8:=fun_mk (st:=sChildren) l8 c8 k8
  have b8:=F8.binds (ps:=["chart", "room"]) fun _ _ _ _ _ _ us hl => match us,hl with | [_,_],_ => rfl
  have D8:DefAt K mg "children" sChildren ["chart", "room"] _ _:=⟨F8,b8,PySem.W.mg_of X G a8⟩
  have F9:=fun_mk (st:=sWithin) l9 c9 k9
  have b9:=F9.binds (ps:=["chart", "room", "other"]) fun _ _ _ _ _ _ us hl => match us,hl with | [_,_,_],_ => rfl
  have D9:DefAt K mg "within" sWithin ["chart", "room", "other"] _ _:=⟨F9,b9,PySem.W.mg_of X G a9⟩
  have F10:=fun_mk (st:=sLies) l10 c10 k10
  have b10:=F10.binds (ps:=["chart", "room", "other"]) fun _ _ _ _ _ _ us hl => match us,hl with | [_,_,_],_ => rfl
  have D10:DefAt K mg "lies_in" sLies ["chart", "room", "other"] _ _:=⟨F10,b10,PySem.W.mg_of X G a10⟩
  have F11:=fun_mk (st:=sScope) l11 c11 k11
  have b11:=F11.binds (ps:=["chart", "source", "target"]) fun _ _ _ _ _ _ us hl => match us,hl with | [_,_,_],_ => rfl
  have D11:DefAt K mg "scope" sScope ["chart", "source", "target"] _ _:=⟨F11,b11,PySem.W.mg_of X G a11⟩
  have F12:=fun_mk (st:=sShown) l12 c12 k12
  have b12:=F12.binds (ps:=["chart"]) fun _ _ _ _ _ _ us hl => match us,hl with | [_],_ => rfl
  have D12:DefAt K mg "shown" sShown ["chart"] _ _:=⟨F12,b12,PySem.W.mg_of X G a12⟩
  have F13:=fun_mk (st:=sRoomLine) l13 c13 k13
  have b13:=F13.binds (ps:=["room"]) fun _ _ _ _ _ _ us hl => match us,hl with | [_],_ => rfl
  have D13:DefAt K mg "room_line" sRoomLine ["room"] _ _:=⟨F13,b13,PySem.W.mg_of X G a13⟩
  have F14:=fun_mk (st:=sArrowLine) l14 c14 k14
  have b14:=F14.binds (ps:=["arrow"]) fun _ _ _ _ _ _ us hl => match us,hl with | [_],_ => rfl
  have D14:DefAt K mg "arrow_line" sArrowLine ["arrow"] _ _:=⟨F14,b14,PySem.W.mg_of X G a14⟩
  have F15:=fun_mk (st:=sNumWord) l15 c15 k15
  have b15:=F15.binds (ps:=["number"]) fun _ _ _ _ _ _ us hl => match us,hl with | [_],_ => rfl
  have D15:DefAt K mg "number_word" sNumWord ["number"] _ _:=⟨F15,b15,PySem.W.mg_of X G a15⟩
  have F16:=fun_mk (st:=sRead) l16 c16 k16
  have b16:=F16.binds (ps:=["text"]) fun _ _ _ _ _ _ us hl => match us,hl with | [_],_ => rfl
  have D16:DefAt K mg "read" sRead ["text"] _ _:=⟨F16,b16,PySem.W.mg_of X G a16⟩
  have F17:=fun_mk (st:=sReadNum) l17 c17 k17
  have b17:=F17.binds (ps:=["word"]) fun _ _ _ _ _ _ us hl => match us,hl with | [_],_ => rfl
  have D17:DefAt K mg "read_number" sReadNum ["word"] _ _:=⟨F17,b17,PySem.W.mg_of X G a17⟩
  have F18:=fun_mk (st:=sCell) l18 c18 k18
  have b18:=F18.binds (ps:=["script", "k"]) fun _ _ _ _ _ _ us hl => match us,hl with | [_,_],_ => rfl
  have D18:DefAt K mg "_law_cell_at" sCell ["script", "k"] _ _:=⟨F18,b18,PySem.W.mg_of X G a18⟩
  have F19:=fun_mk (st:=sRooms) l19 c19 k19
  have b19:=F19.binds (ps:=["script", "many"]) fun _ _ _ _ _ _ us hl => match us,hl with | [_,_],_ => rfl
  have D19:DefAt K mg "_law_rooms" sRooms ["script", "many"] _ _:=⟨F19,b19,PySem.W.mg_of X G a19⟩
  have F20:=fun_mk (st:=sChain) l20 c20 k20
  have b20:=F20.binds (ps:=["rooms", "k"]) fun _ _ _ _ _ _ us hl => match us,hl with | [_,_],_ => rfl
  have D20:DefAt K mg "_law_chain" sChain ["rooms", "k"] _ _:=⟨F20,b20,PySem.W.mg_of X G a20⟩
  have F21:=fun_mk (st:=sLScope) l21 c21 k21
  have b21:=F21.binds (ps:=["rooms", "source", "target"]) fun _ _ _ _ _ _ us hl => match us,hl with | [_,_,_],_ => rfl
  have D21:DefAt K mg "_law_scope" sLScope ["rooms", "source", "target"] _ _:=⟨F21,b21,PySem.W.mg_of X G a21⟩
  have F22:=fun_mk (st:=sCells) l22 c22 k22
  have b22:=F22.binds (ps:=["script", "start", "many"]) fun _ _ _ _ _ _ us hl => match us,hl with | [_,_,_],_ => rfl
  have D22:DefAt K mg "_law_cells" sCells ["script", "start", "many"] _ _:=⟨F22,b22,PySem.W.mg_of X G a22⟩
  have F23:=fun_mk (st:=sAnyA) l23 c23 k23
  have b23:=F23.binds (ps:=["rooms", "cells"]) fun _ _ _ _ _ _ us hl => match us,hl with | [_,_],_ => rfl
  have D23:DefAt K mg "_law_any_arrows" sAnyA ["rooms", "cells"] _ _:=⟨F23,b23,PySem.W.mg_of X G a23⟩
  have F24:=fun_mk (st:=sMark) l24 c24 k24
  have b24:=F24.binds (ps:=["number"]) fun _ _ _ _ _ _ us hl => match us,hl with | [_],_ => rfl
  have D24:DefAt K mg "_law_mark" sMark ["number"] _ _:=⟨F24,b24,PySem.W.mg_of X G a24⟩
  have F25:=fun_mk (st:=sLText) l25 c25 k25
  have b25:=F25.binds (ps:=["rooms", "arrows"]) fun _ _ _ _ _ _ us hl => match us,hl with | [_,_],_ => rfl
  have D25:DefAt K mg "_law_text" sLText ["rooms", "arrows"] _ _:=⟨F25,b25,PySem.W.mg_of X G a25⟩
  have F26:=fun_mk (st:=sLaw) l26 c26 k26
  have b26:=F26.binds (ps:=["script"]) fun _ _ _ _ _ _ us hl => match us,hl with | [_],_ => rfl
  have D26:DefAt K mg "law" sLaw ["script"] _ _:=⟨F26,b26,PySem.W.mg_of X G a26⟩
  have T:Txt K mg C:=⟨⟨pg,hd,po,sa⟩,nR,nA,PySem.W.mg_of X G aC,PySem.W.mg_none_of X G z_len,PySem.W.mg_none_of X G z_range,PySem.W.mg_none_of X G z_list,PySem.W.mg_none_of X G z_isinstance,PySem.W.mg_none_of X G z_bool,PySem.W.mg_none_of X G z_int,PySem.W.mg_none_of X G z_tuple,PySem.W.mg_none_of X G z_sorted,PySem.W.mg_none_of X G z_enumerate,⟨_,PySem.W.mg_of X G g_HOLDER⟩,⟨_,PySem.W.mg_of X G g_KIND⟩,⟨_,PySem.W.mg_of X G g_NONE⟩,⟨_,PySem.W.mg_of X G g_SOURCE⟩,⟨_,PySem.W.mg_of X G g_EVENT⟩,⟨_,PySem.W.mg_of X G g_GUARD⟩,⟨_,PySem.W.mg_of X G g_TARGET⟩,⟨_,PySem.W.mg_of X G g_DEED⟩,⟨_,PySem.W.mg_of X G g_LAST_EVENT⟩,⟨_,PySem.W.mg_of X G g_LAST_DEED⟩,⟨_,PySem.W.mg_of X G g_MOST_ROOMS⟩,⟨_,PySem.W.mg_of X G g_MOST_ARROWS⟩,⟨_,PySem.W.mg_of X G g_CHOOSING,fun H => .inr ⟨_,_,_,o_CHOOSING,rfl,rfl,(by show 2≤sizeLine; decide),.cons ⟨_,rfl⟩ (.cons ⟨_,rfl⟩ .nil)⟩⟩,⟨_,PySem.W.mg_of X G g_KINDS,fun H => .inr ⟨_,_,_,o_KINDS,rfl,rfl,(by show 4≤sizeLine; decide),.cons ⟨_,rfl⟩ (.cons ⟨_,rfl⟩ (.cons ⟨_,rfl⟩ (.cons ⟨_,rfl⟩ .nil)))⟩⟩,kt_list_list,kt_bool_bool,kt_int_int,kt_int_bool,kt_tuple_tuple⟩
  refine ⟨PySem.W.fnOf "law" "law" (defArgs sLaw) (defBody sLaw) (defScope sLaw) .none kV26 dc26 pm26 an26 cd26 ct26,fun s v => .of_eq rfl,fun base _ _ => ?_⟩
  have N:NTxt K mg:=⟨⟨_,PySem.W.mg_of X G gDash⟩,⟨_,PySem.W.mg_of X G gFig⟩,⟨_,PySem.W.mg_of X G g_ROOM_WORDS⟩,⟨_,PySem.W.mg_of X G g_ARROW_WORDS⟩,PySem.W.mg_none_of X G z_str,PySem.W.mg_none_of X G z_all,kt_str_str⟩
  have M:Mk K C _:=⟨mk,a1,i1,kc⟩
  have Gi:=ok_init (P:=l.prog) (w:=w) (base:=base) F1 T D2 D5 (ok_check_rooms D2 T D8 D3 D4) (ok_check_arrows D5 T D6 (ok_check_arrow D6 T D7 D11 D10 D9))
  have Gsh:=ok_shown (P:=l.prog) (w:=w) (base:=base) D12 T N D13 D14 D15
  exact ok_law D26 T N ⟨ia,ib,ic,id_⟩ M b1 Gi D18 D19 D22 D23 (ok_anyA D23 T D21 D20) D25 (ok_ltext D25 T N D24) D12 Gsh D16 (ok_read D16 T N M b1 Gi D12 Gsh D17)
theorem walk {l:PySem.W.OpenLaw} {q:Program} {loose:List Str} {XP:(Str→Option Value)→Heap→Prop} {YP:World→Heap→Prop} {d:DefRec} {K:Params→PySem.W.Frag} (hn:l.most=some 63) (hdf:d.params.defaults=[])
    (hY:∀ (w:World) (h:Heap),YP w h→(K w.params).In h)
    (F:∀ (w:World) (mg:Str→Option Value) (fa:Addr) (h:Heap),(K w.params).In h→h.Ns mainGlobals mg→mg d.name=some (.ref fa) →
      ∃ fd:FuncData,(∀ (s:Shared) (u:Value),BindsTo s fd ⟨[u],[]⟩ [("script",u)])∧∀ base:Heap,(K w.params).In base→base.Ns mainGlobals mg→FnOk l.prog w (K w.params) mg base CX0 9 fa fd ["script"] (spLaw (K w.params))) :
    PySem.W.WalkO q loose XP YP l.row.toRowW d [] (fun f vs => PySem.call f vs) :=
  L2.walk_of (n := 63) (k := 9) (x := "script") (CX:=fun _ => CX0) (sp:=fun w => spLaw (K w.params)) hn (by decide) hdf ⟨rfl,by decide,by decide⟩ hY F (fun _ _ a ns hl _ hS => ⟨a,ns,rfl,hS,hl,fun _ => rfl⟩) fun _ _ _ _ _ z => z
end Toy
open PySem PySem.W PyProof.Rows
set_option maxRecDepth 100000 in
set_option maxHeartbeats 0 in
theorem PySem.Challenge.cw_chartfold_k18_charts_written_holds : PySem.Challenge.rw_chartfold_k18_charts_written.Holds := by
  w_on; o_law; k_head; (case hw => w_witness2)
  k_fill
  refine Toy.walk (l := PySem.Challenge.rw_chartfold_k18_charts_written) rfl rfl (fun w h Y => PySem.W.kIn_of Y) ?F
  case F =>
    intro w mg fa h KX G hmg
    refine' Toy.all_mk KX G hmg ?aC ?pg ?hd ?po ?sa ?mk ?kc ?nR ?nA ?gDash ?gFig ?ia ?ib ?ic ?id_ ?a1 ?i1 ?l1 ?c1 ?k1 ?a2 ?l2 ?c2 ?k2 ?a3 ?l3 ?c3 ?k3 ?a4 ?l4 ?c4 ?k4 ?a5 ?l5 ?c5 ?k5 ?a6 ?l6 ?c6 ?k6 ?a7 ?l7 ?c7 ?k7 ?a8 ?l8 ?c8 ?k8 ?a9 ?l9 ?c9 ?k9 ?a10 ?l10 ?c10 ?k10 ?a11 ?l11 ?c11 ?k11 ?a12 ?l12 ?c12 ?k12 ?a13 ?l13 ?c13 ?k13 ?a14 ?l14 ?c14 ?k14 ?a15 ?l15 ?c15 ?k15 ?a16 ?l16 ?c16 ?k16 ?a17 ?l17 ?c17 ?k17 ?a18 ?l18 ?c18 ?k18 ?a19 ?l19 ?c19 ?k19 ?a20 ?l20 ?c20 ?k20 ?a21 ?l21 ?c21 ?k21 ?a22 ?l22 ?c22 ?k22 ?a23 ?l23 ?c23 ?k23 ?a24 ?l24 ?c24 ?k24 ?a25 ?l25 ?c25 ?k25 ?a26 ?l26 ?c26 ?k26 ?z_len ?z_range ?z_list ?z_isinstance ?z_bool ?z_int ?z_tuple ?z_sorted ?z_enumerate ?z_str ?z_all ?g_HOLDER ?g_KIND ?g_NONE ?g_SOURCE ?g_EVENT ?g_GUARD ?g_TARGET ?g_DEED ?g_LAST_EVENT ?g_LAST_DEED ?g_MOST_ROOMS ?g_MOST_ARROWS ?g_ROOM_WORDS ?g_ARROW_WORDS ?g_CHOOSING ?o_CHOOSING ?g_KINDS ?o_KINDS ?kt_list_list ?kt_bool_bool ?kt_int_int ?kt_int_bool ?kt_tuple_tuple ?kt_str_str
    (case aC => k_is)
    (case pg => k_is)
    (case hd => k_is)
    (case po => k_is)
    (case sa => k_is)
    (case mk => k_is)
    (case kc => k_is)
    (case nR => k_is)
    (case nA => k_is)
    (case gDash => k_is)
    (case gFig => k_is)
    (case ia => k_is)
    (case ib => k_is)
    (case ic => k_is)
    (case id_ => k_is)
    (case a1 => k_is)
    (case i1 => k_is)
    (case l1 => k_is)
    (case c1 => k_is)
    (case k1 => k_is)
    (case a2 => k_is)
    (case l2 => k_is)
    (case c2 => k_is)
    (case k2 => k_is)
    (case a3 => k_is)
    (case l3 => k_is)
    (case c3 => k_is)
    (case k3 => k_is)
    (case a4 => k_is)
    (case l4 => k_is)
    (case c4 => k_is)
    (case k4 => k_is)
    (case a5 => k_is)
    (case l5 => k_is)
    (case c5 => k_is)
    (case k5 => k_is)
    (case a6 => k_is)
    (case l6 => k_is)
    (case c6 => k_is)
    (case k6 => k_is)
    (case a7 => k_is)
    (case l7 => k_is)
    (case c7 => k_is)
    (case k7 => k_is)
    (case a8 => k_is)
    (case l8 => k_is)
    (case c8 => k_is)
    (case k8 => k_is)
    (case a9 => k_is)
    (case l9 => k_is)
    (case c9 => k_is)
    (case k9 => k_is)
    (case a10 => k_is)
    (case l10 => k_is)
    (case c10 => k_is)
    (case k10 => k_is)
    (case a11 => k_is)
    (case l11 => k_is)
    (case c11 => k_is)
    (case k11 => k_is)
    (case a12 => k_is)
    (case l12 => k_is)
    (case c12 => k_is)
    (case k12 => k_is)
    (case a13 => k_is)
    (case l13 => k_is)
    (case c13 => k_is)
    (case k13 => k_is)
    (case a14 => k_is)
    (case l14 => k_is)
    (case c14 => k_is)
    (case k14 => k_is)
    (case a15 => k_is)
    (case l15 => k_is)
    (case c15 => k_is)
    (case k15 => k_is)
    (case a16 => k_is)
    (case l16 => k_is)
    (case c16 => k_is)
    (case k16 => k_is)
    (case a17 => k_is)
    (case l17 => k_is)
    (case c17 => k_is)
    (case k17 => k_is)
    (case a18 => k_is)
    (case l18 => k_is)
    (case c18 => k_is)
    (case k18 => k_is)
    (case a19 => k_is)
    (case l19 => k_is)
    (case c19 => k_is)
    (case k19 => k_is)
    (case a20 => k_is)
    (case l20 => k_is)
    (case c20 => k_is)
    (case k20 => k_is)
    (case a21 => k_is)
    (case l21 => k_is)
    (case c21 => k_is)
    (case k21 => k_is)
    (case a22 => k_is)
    (case l22 => k_is)
    (case c22 => k_is)
    (case k22 => k_is)
    (case a23 => k_is)
    (case l23 => k_is)
    (case c23 => k_is)
    (case k23 => k_is)
    (case a24 => k_is)
    (case l24 => k_is)
    (case c24 => k_is)
    (case k24 => k_is)
    (case a25 => k_is)
    (case l25 => k_is)
    (case c25 => k_is)
    (case k25 => k_is)
    (case a26 => k_is)
    (case l26 => k_is)
    (case c26 => k_is)
    (case k26 => k_is)
    (case z_len => k_is)
    (case z_range => k_is)
    (case z_list => k_is)
    (case z_isinstance => k_is)
    (case z_bool => k_is)
    (case z_int => k_is)
    (case z_tuple => k_is)
    (case z_sorted => k_is)
    (case z_enumerate => k_is)
    (case z_str => k_is)
    (case z_all => k_is)
    (case g_HOLDER => k_is)
    (case g_KIND => k_is)
    (case g_NONE => k_is)
    (case g_SOURCE => k_is)
    (case g_EVENT => k_is)
    (case g_GUARD => k_is)
    (case g_TARGET => k_is)
    (case g_DEED => k_is)
    (case g_LAST_EVENT => k_is)
    (case g_LAST_DEED => k_is)
    (case g_MOST_ROOMS => k_is)
    (case g_MOST_ARROWS => k_is)
    (case g_ROOM_WORDS => k_is)
    (case g_ARROW_WORDS => k_is)
    (case g_CHOOSING => k_is)
    (case o_CHOOSING => k_is)
    (case g_KINDS => k_is)
    (case o_KINDS => k_is)
    (case kt_list_list => kit_is)
    (case kt_bool_bool => kit_is)
    (case kt_int_int => kit_is)
    (case kt_int_bool => kit_is)
    (case kt_tuple_tuple => kit_is)
    (case kt_str_str => kit_is)
#print axioms PySem.Challenge.cw_chartfold_k18_charts_written_holds
