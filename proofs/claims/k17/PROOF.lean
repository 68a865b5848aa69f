import PyProof.Rows.All
import Wide.All
import OpenK.AllK
import Wide.FinOn
import Lean
import PyProof.EqAt
import PyProof.EqKinds
import PyProof.TupleCall
import PySem.Challenge.RW_chartfold_k17_whole_leaned_machine
open List renaming getElem?_eq_getElem→aa,length_map→ac,getElem?_eq_some_iff→af,getD_eq_getElem?_getD→ag,length_append→ai,range→ak,map_append→am,mem_cons_of_mem→aq,mem_singleton→au,getElem?_map→av,mem_cons_self→aw,mem_of_getElem?→ay,mem_range→az,length_range→aF,mem_cons→aG,size_toArray→aH,getElem_mem→aI,mem_map→aJ,length_filter_le→aL,take_length→aN,getElem?_append_left→aO,mem_append→aP,mem_filter→aR,getElem?_append_right→aT,map_cons→aY,length_take→bc,length_cons→bf,mem_append_right→bg,range_succ→bh,take_add_one→bj,nodup_cons→bm,append_nil→bn,idxOf_lt_length_iff→bo,Pairwise→bp,filter_append→bq,getElem?_range→bv,map_map→bx,getElem?_eq_none→bA,nodup_append→bB,nodup_nil→bD,drop_eq_getElem_cons→bF,pairwise_iff_getElem→bG,foldl_append→bI,set_eq_of_length_le→bJ,find?_eq_none→bL,getElem_range→bM,mem_append_left→bN,pairwise_lt_range→bS,map_congr_left→bT,length_drop→bV,mem_flatMap→bW,find?_eq_some_iff_getElem→bX,take_succ→bY,append_assoc→bZ,find?_cons→ce,all_eq_true→cf,mem_of_find?_eq_some→cg,lookup_cons→cp,getElem_idxOf→cu,forIn_cons→cx,length_nil→cy,mem_of_mem_take→c8,drop_length→cC,any_cons→cF,lookup→cH,filter_cons_of_pos→cJ,length_eq_zero_iff→cK,getElem?_set_self→cN,filter_eq_nil_iff→cQ,length_pos_of_mem→cT,any_eq_true→cW,getElem_map→cX,getElem?_set_ne→cY,drop_append_of_le_length→cZ,take_append_of_le_length→de,find?_some→dg,filterMap_cons→dj,map_eq_nil_iff→dk,perm_ext_iff_of_nodup→dv,take_zero→dw,mem_take_iff_getElem→dz,rel_of_pairwise_cons→d0,length→d4,pairwise_map→d5,ext_getElem?→d6,getElem?_take_of_lt→d7,getElem?_replicate→d9,nodup_range→dB,filter_cons_of_neg→dC,map_nil→dG,take_of_length_le→dH,drop_eq_nil_of_le→dI,of_mem_zip→dM,foldl_cons→dP,length_replicate→dQ,length_singleton→dR,take_append_drop→dS,replicate→dW,forIn_nil→dY,mem_of_mem_drop→dZ,mem_of_mem_tail→eu,mem_iff_getElem→ez,idxOf_cons_self→eC,flatMap_append→eF,filter_sublist→eG,all_cons→eH,map_drop→eJ,map_take→eK,mem_filterMap→eL,forIn_toArray→eP,pairwise_cons→eQ,map_set→eV,idxOf_append→eW,find?_append→eY,filter_congr→eZ,filter_cons→fA,cons→fE
open Option renaming none→ae,some→br,isSome_iff_exists→cD,map_some→dh,getD_none→fq,getD_some→fB
open PySem.W renaming Frag→aj,mg_of→ao,mg_none_of→aQ,nsIn→aX,findIn→bt,kitOne→bu,kia_one→bE,emptyDict→bH,instObj→cc,fnOf→cj,keepIn→cm,hasDictIn→c6,plainGet→c9,plainOver→cO,makesIn→df,codeIn→dq,methodObj→d3,cellsFrom_some→dF,takerIn→dL,OpenLaw→dO,lookIn→dU,callWith_K→eM,kitx_list→eR,kitx_dict→eT,isFn→eU,handedIn→fj,WalkO→fD
open PySem.F renaming plainAttrs_list→ax,slot_list_append→aB,type_list_append→aD,plain_extend_loop→ci,args_tuple_add_2→cE,entry_tuple_add→cI,slot_list_index→cL,type_list_index→cM,slot_tuple_add→cP,slot_dict_setdefault→di,entry_extend_loop→dy
open Int renaming toNat_natCast→aA,toNat_of_nonneg→ck,emod_lt_of_pos→cq,emod_nonneg→cw
open Nat renaming le_refl→aE,le_trans→aU,lt_of_lt_of_le→aZ,ne_of_lt→ba,zero_le→bw,strongRecOn→bz,lt_of_le_of_lt→bK,lt_succ_self→bU,lt_irrefl→cz,le_succ→c7,le_of_eq→cA,lt_trans→cB,eq_zero_or_pos→cG,le_total→cR,lt_trichotomy→cS,mul_le_mul→cU,le_of_lt→dm,le_of_not_lt→dA,ne_of_gt→dD,add_assoc→eI,sub_self→eX,mod_lt→fC
open Bool renaming false_ne_true→aM,and_eq_true→be,false_eq_true→bC,and_true→bO,false_or→bP,true_and→bQ,false_and→bR,true_or→cr,eq_iff_iff→cv,and_false→du,not_true→d8,or_true→dJ,and_eq_true_iff→dX
open Array renaming toList→dn,length_toList→eE,forIn_toList→eO
open PySem renaming Value→fF,Addr→fG,wpAny_bind→fH,Shared→fJ,mainGlobals→fK,sizeLine→fL,wpAny_pure→fM,PyData→fN,FuncData→fO,Program→fP,Around→fQ,PassesOwn→fR,World→fS,wpAny_mono→fT,wpAny_holding→fU,wpAny_field→fV,wpAny_Call_Name_kw→fW,wpAny_truthy_bool→fX,compareOp→fY,NameKind→fZ,wpAny_standAt→gc,wpAny_passesOwn→gd,codeAny_mono→ge,bootBuiltins→gf,wpAny_execs_cons→gg,wpAny_execs_nil→gh,starEach→gj
set_option Elab.async false
set_option linter.all false
set_option maxRecDepth 100000
namespace L2
open PySem PySem.Spec PyProof.Rows
abbrev LT:=Sum Int Str
def keyIs:LT→fF→Bool
 | .inl k,v=>fF.isInt k v
 | .inr x,v=>fF.isStrOf x v
def keyH(w:fS):LT→Int
 | .inl k=>hashInt k
 | .inr x=>hashStr w x
theorem BK:∀{k:LT} {v:fF},keyIs k v=true→(∃i t,k=Sum.inl i∧v=fF.int i t)∨(∃x t,k=Sum.inr x∧v=fF.str x t)
 | .inl i,v,h=>by
  obtain⟨t,e⟩:=fF.isInt_shape (k:=i) (v:=v) h
  exact .inl ⟨i,t,rfl,e⟩
 | .inr x,v,h=>by
  obtain⟨t,e⟩:=fF.isStrOf_shape (x:=x) (v:=v) h
  exact .inr ⟨x,t,rfl,e⟩
theorem key_ll(a b:Int):decide ((Sum.inl a:LT)=Sum.inl b)=(a==b):=by
 by_cases e:a=b
 ·subst e;simp
 ·have h:¬(Sum.inl a:LT)=Sum.inl b:=fun q=>e (Sum.inl.inj q)
  rw[decide_eq_false h]
  exact(beq_eq_false_iff_ne.mpr e).symm
theorem key_rr(a b:Str):decide ((Sum.inr a:LT)=Sum.inr b)=decide (a=b):=by
 by_cases e:a=b
 ·subst e;simp
 ·have h:¬(Sum.inr a:LT)=Sum.inr b:=fun q=>e (Sum.inr.inj q)
  rw[decide_eq_false h,decide_eq_false e]
theorem key_lr(a:Int)(b:Str):decide ((Sum.inl a:LT)=Sum.inr b)=false:=decide_eq_false (fun q=>nomatch q)
theorem key_rl(a:Str)(b:Int):decide ((Sum.inr a:LT)=Sum.inl b)=false:=decide_eq_false (fun q=>nomatch q)
def Ou(prog:fP)(w:fS):PySem.KeyKind prog w LT where
 is:=keyIs
 hash:=keyH w
 inj:=fun v a b ha hb=>by
  rcases BK ha with⟨i,t,rfl,rfl⟩|⟨x,t,rfl,rfl⟩
  ·rcases BK hb with⟨j,u,rfl,e⟩|⟨y,u,rfl,e⟩
   ·injection e with e1 _;rw[e1]
   ·exact nomatch e
  ·rcases BK hb with⟨j,u,rfl,e⟩|⟨y,u,rfl,e⟩
   ·exact nomatch e
   ·injection e with e1 _;rw[e1]
 byValue:=fun k v h=>by
  rcases BK h with⟨i,t,rfl,rfl⟩|⟨x,t,rfl,rfl⟩<;>rfl
 pyHash:=fun hv h=>by
  rcases BK hv with⟨i,t,rfl,rfl⟩|⟨x,t,rfl,rfl⟩
  ·exact wpAny_pyHash_int h
  ·exact wpAny_pyHash_str h
 eqBool:=fun hu hv h=>by
  rcases BK hu with⟨i,t,rfl,rfl⟩|⟨x,t,rfl,rfl⟩
  ·rcases BK hv with⟨j,u,rfl,rfl⟩|⟨y,u,rfl,rfl⟩
   ·rw[key_ll]at h;exact wpAny_eqBool_int h
   ·rw[key_lr]at h;exact SeqAt.EqAt.int_str i t y u _ _ _ _ h
  ·rcases BK hv with⟨j,u,rfl,rfl⟩|⟨y,u,rfl,rfl⟩
   ·rw[key_rl]at h;exact SeqAt.EqAt.str_int x t j u _ _ _ _ h
   ·rw[key_rr]at h;exact wpAny_eqBool_str h
 «strs»:=fun k x t v h=>by
  rcases BK h with⟨i,u,rfl,e⟩|⟨y,u,rfl,e⟩
  ·exact nomatch e
  ·injection e with e1 _
   subst e1
   cases v<;>rfl
end L2
namespace L2
open PySem PySem.Spec PyProof.Rows
inductive V where
 | non|bl (b:Bool)|int (i:Int)|str (x:Str)|byt (b:Array UInt8)|flt (b:UInt64)|ref (a:fG)|ty (n:String)
 deriving DecidableEq
def Bm:V→fF→Prop
 | .non,u=>u=fF.none
 | .bl b,u=>u=fF.bool b
 | .int i,u=>∃t,u=fF.int i t
 | .str x,u=>∃t,u=fF.str x t
 | .byt b,u=>∃t,u=fF.bytes b t
 | .flt b,u=>∃t,u=fF.float b t
 | .ref a,u=>u=fF.ref a
 | .ty n,u=>u=fF.type n
abbrev A5:List V→List fF→Prop:=Paired Bm
theorem A5.length{xs:List V}{us:List fF}(r:A5 xs us):xs.length=us.length:=Paired.length r
theorem A5.get:∀{xs:List V} {us:List fF} {i:Nat} {x:V},A5 xs us→xs[i]?=some x→∃u,us[i]?=some u∧Bm x u
 | _,_,_,_,.nil,e=>by simp at e
 | _,_,0,_,.cons r _,e=>by simp at e;subst e;exact⟨_,rfl,r⟩
 | _,_,i+1,x,.cons _ t,e=>by
  obtain⟨u,h1,h2⟩:=A5.get (i:=i) (x:=x) t (by simpa using e)
  exact⟨u,by simpa using h1,h2⟩
theorem A5.set{x:V}{u:fF}(r:Bm x u):∀{xs:List V} {us:List fF} (i:Nat),A5 xs us→A5 (xs.set i x) (us.set i u)
 | _,_,_,.nil=>.nil
 | _,_,0,.cons _ t=>.cons r t
 | _,_,i+1,.cons q t=>.cons q (A5.set r i t)
theorem A5.append:∀{xs ys:List V} {us ws:List fF},A5 xs us→A5 ys ws→A5 (xs++ys) (us++ws)
 | _,_,_,_,.nil,s=>s
 | _,_,_,_,.cons r t,s=>.cons r (A5.append t s)
theorem A5.take:∀{xs:List V} {us:List fF} (n:Nat),A5 xs us→A5 (xs.take n) (us.take n)
 | _,_,0,_=>.nil
 | _,_,_+1,.nil=>.nil
 | _,_,n+1,.cons r t=>.cons r (A5.take n t)
theorem A5.drop:∀{xs:List V} {us:List fF} (n:Nat),A5 xs us→A5 (xs.drop n) (us.drop n)
 | _,_,0,r=>r
 | _,_,_+1,.nil=>.nil
 | _,_,n+1,.cons _ t=>A5.drop n t
def NP:Option V→Option fF→Prop
 | some v,some u=>Bm v u
 | none,none=>True
 | _,_=>False
def KV{κ:Type}:List (κ×V)→List (κ×fF)→Prop:=Paired fun(p:κ×V) (q:κ×fF)=>p.1=q.1∧Bm p.2 q.2
def kV:LT→V
 | .inl i=>.int i
 | .inr x=>.str x
inductive HO where
 | lst (xs:List V)
 | tup (xs:List V)
 | dK (kvs:List (LT×V))|dT (kvs:List (List LT×V))
 | set (S:Int→Bool) (n:Nat)
 | ins (C dx:fG) (fs:List (Str×V))
 | own (x:fG)
 | xd (fs:List (Str×V))
 | met (f x:fG)
 | rng (lo hi:Int)
 | frz (o:Obj) (u:HO)
 | tbl (ps:Array fF)
 | ext (φ:Heap→Prop)
abbrev Hp:=fG→Option HO
def upd(H:Hp)(a:fG)(o:HO):Hp:=fun b=>if b=a then some o else H b
theorem Ad{H:Hp}{a:fG}{o:HO}:upd H a o a=some o:=by unfold upd;rw[if_pos rfl]
theorem Aj{H:Hp}{a b:fG}{o:HO}(h:b≠a):upd H a o b=H b:=by unfold upd;rw[if_neg h]
theorem KY{H:Hp}{a:fG}{o u:HO}:upd (upd H a o) a u=upd H a u:=by
 funext b;unfold upd;split<;>rfl
theorem CP{H:Hp}{a b:fG}{o u:HO}(h:H a=some o)(h':H b=some u)(d:o≠u):a≠b:=by
 intro e;subst e;rw[h]at h';exact d (br.inj h')
theorem Af{H:Hp}{a b:fG}{o:HO}(h:H a=some o)(h':H b=none):a≠b:=by
 intro e;subst e;rw[h]at h';cases h'
section
variable(P:fP)(w:fS)
def Cs(H:Hp)(h:Heap)(a:fG):HO→Prop
 | .lst xs=>xs.length≤fL∧∃(its:List fF) (n:Nat),A5 xs its∧h.get? a=some { cls:=.type "list",data:=.seq its.toArray n }
 | .tup xs=>xs.length≤fL∧∃its:List fF,A5 xs its∧IsTup h a its.toArray
 | .dK kvs=>kvs.length≤fL∧(a==sysModules)=false∧∃vs,KV kvs vs∧h.DictOf (Ou P w) a vs
 | .dT kvs=>kvs.length≤fL∧(a==sysModules)=false∧∃xs:List (List LT×fG×fF),
   Paired (fun(p:List LT×V) (q:List LT×fG×fF)=>p.1=q.1∧H q.2.1=some (.tup (p.1.map kV))∧Bm p.2 q.2.2) kvs xs ∧
   ∃o es ep,h.get? a=some o∧o.ExactDict∧o.data=.dict es ep∧es.toList=xs.map (entryOfKey (tupleKind (Ou P w)))∧(xs.map (·.1)).Nodup
 | .set S n=>h.SetOf (intKind P w) a S n
 | .ins C dx fs=>H dx=some (.own a)∧fs.length≤1000∧dx≠a∧h.get? a=some (cc C dx) ∧
   ∃mA,h.Ns1 dx mA∧(∀f,NP (fs.lookup f) (mA f))∧PySem.Within mA (fs.map (·.1))
 | .own _=>∃o,h.get? a=some o
 | .xd fs=>∃mA,h.Ns1 a mA∧∀f,NP (fs.lookup f) (mA f)
 | .rng lo hi=>∃t u v,h.get? a=some { cls:=.type "range",data:=.fields #[.int lo t,.int hi u,.int 1 v] }
 | .frz o u=>h.get? a=some o∧Cs H h a u
 | .tbl ps=>h.get? a=some { cls:=.none,data:=.fields ps }
 | .met f x=>h.get? a=some (d3 (.ref f) (.ref x))
 | .ext φ=>φ h∧(∃o,h.get? a=some o)∧∀h1 h2:Heap,φ h1→(∀o,h1.get? a=some o→h2.get? a=some o)→φ h2
def Iw(H:Hp)(h:Heap):Prop:=∀a o,H a=some o→Cs P w H h a o
end
section
variable{P:fP}{w:fS}{H H':Hp}{h h':Heap}{a:fG}{o:HO}
theorem Cs.lt(x:Cs P w H h a o):a<h.objs.size:=by
 cases o with
 | lst xs=>obtain⟨_,_,_,_,e⟩:=x;exact Heap.lt_size e
 | tup xs=>obtain⟨_,_,_,p⟩:=x;exact p.lt
 | dK kvs=>obtain⟨_,_,_,_,o,_,_,e,_⟩:=x;exact Heap.lt_size e
 | dT kvs=>obtain⟨_,_,_,_,o,_,_,e,_⟩:=x;exact Heap.lt_size e
 | set S n=>obtain⟨o,_,_,_,e,_⟩:=x;exact Heap.lt_size e
 | ins C dx fs=>obtain⟨_,_,_,e,_⟩:=x;exact Heap.lt_size e
 | own y=>obtain⟨_,e⟩:=x;exact Heap.lt_size e
 | xd fs=>obtain⟨_,⟨_,_,_,e,_⟩,_⟩:=x;exact Heap.lt_size e
 | rng lo hi=>obtain⟨_,_,_,e⟩:=x;exact Heap.lt_size e
 | frz ob u=>obtain⟨e,_⟩:=x;exact Heap.lt_size e
 | tbl ps=>exact Heap.lt_size (show h.get? a=some _ from x)
 | met f y=>exact Heap.lt_size (show h.get? a=some _ from x)
 | ext φ=>obtain⟨_,⟨_,e⟩,_⟩:=x;exact Heap.lt_size e
theorem Paired.mapP{α β:Type}{F G:α→β→Prop}:∀{l₁:List α} {l₂:List β},Paired F l₁ l₂→(∀a b,F a b→G a b)→Paired G l₁ l₂
 | _,_,.nil,_=>.nil
 | _,_,.cons r t,f=>.cons (f _ _ r) (Paired.mapP t f)
theorem Cs.stay(x:Cs P w H h a o)(k:∀b u,(b=a∨H b=some (.own a))→h.get? b=some u→h'.get? b=some u)
  (ho:∀b,H b=some (.own a)→H' b=some (.own a)) (ht:∀b xs,H b=some (.tup xs)→H' b=some (.tup xs)):Cs P w H' h' a o:=by
 induction o with
 | lst xs=>obtain⟨z,its,n,r,e⟩:=x;exact⟨z,its,n,r,k _ _ (.inl rfl) e⟩
 | tup xs=>obtain⟨z,its,r,ob,e,c⟩:=x;exact⟨z,its,r,ob,k _ _ (.inl rfl) e,c⟩
 | dK kvs=>obtain⟨z,y,vs,r,ob,es,ep,e,c⟩:=x;exact⟨z,y,vs,r,ob,es,ep,k _ _ (.inl rfl) e,c⟩
 | dT kvs=>
  obtain⟨z,y,xs,r,ob,es,ep,e,c⟩:=x
  exact⟨z,y,xs,Paired.mapP r fun p q z=>⟨z.1,ht _ _ z.2.1,z.2.2⟩,ob,es,ep,k _ _ (.inl rfl) e,c⟩
 | set S n=>obtain⟨ob,es,ep,t,e,c⟩:=x;exact⟨ob,es,ep,t,k _ _ (.inl rfl) e,c⟩
 | ins C dx fs=>
  obtain⟨d,z,ne,e,mA,⟨od,es,ep,e2,c⟩,r⟩:=x
  exact⟨ho _ d,z,ne,k _ _ (.inl rfl) e,mA,⟨od,es,ep,k _ _ (.inr d) e2,c⟩,r⟩
 | own y=>obtain⟨ob,e⟩:=x;exact⟨ob,k _ _ (.inl rfl) e⟩
 | xd fs=>obtain⟨mA,⟨od,es,ep,e,c⟩,r⟩:=x;exact⟨mA,⟨od,es,ep,k _ _ (.inl rfl) e,c⟩,r⟩
 | rng lo hi=>obtain⟨t,u,v,e⟩:=x;exact⟨t,u,v,k _ _ (.inl rfl) e⟩
 | frz ob u ih=>obtain⟨e,q⟩:=x;exact⟨k _ _ (.inl rfl) e,ih q⟩
 | tbl ps=>
  have e:h.get? a=some { cls:=.none,data:=.fields ps }:=x
  show h'.get? a=some { cls:=.none,data:=.fields ps }
  exact k a _ (.inl rfl) e
 | met f y=>
  have e:h.get? a=some (d3 (.ref f) (.ref y)):=x
  show h'.get? a=some (d3 (.ref f) (.ref y))
  exact k a _ (.inl rfl) e
 | ext φ=>obtain⟨p,⟨o,e⟩,st⟩:=x;exact⟨st _ _ p fun o q=>k _ _ (.inl rfl) q,⟨o,k _ _ (.inl rfl) e⟩,st⟩
theorem Iw.lt(x:Iw P w H h)(e:H a=some o):a<h.objs.size:=(x a o e).lt
theorem Iw.fresh(x:Iw P w H h)(e:h.objs.size≤a):H a=none:=by
 cases q:H a with
 | none=>rfl
 | some u=>exact absurd (aZ (x.lt q) e) (cz _)
theorem Iw.kept(x:Iw P w H h)(k:∀b u,h.get? b=some u→h'.get? b=some u):Iw P w H h':=fun a o e=>
 (x a o e).stay (fun b u _ q=>k b u q) (fun _ q=>q) fun _ _ q=>q
theorem Iw.laid(x:Iw P w H h)(k:∀b u,h.get? b=some u→h'.get? b=some u)(hp:h.objs.size≤a)(new:Cs P w (upd H a o) h' a o):Iw P w (upd H a o) h':=fun b u e=>by
 have hn:=x.fresh hp
 by_cases hb:b=a
 ·subst hb;rw[Ad]at e;cases e;exact new
 ·rw[Aj hb]at e
  exact(x b u e).stay (fun c v _ q=>k c v q) (fun c q=>by rw[Aj (Af q hn)];exact q) fun c xs q=>by rw[Aj (Af q hn)];exact q
end
def Rd(H:Hp)(a:fG)(u:HO):Prop:=H a=some u∨∃o,H a=some (.frz o u)
theorem Rd.ok{P:fP}{w:fS}{H:Hp}{h:Heap}{a:fG}{u:HO}(r:Rd H a u)(x:Iw P w H h):Cs P w H h a u:=by
 rcases r with r|⟨o,r⟩
 ·exact x a u r
 ·obtain⟨_,q⟩:=x a _ r
  exact q
def Mut:Option HO→Prop
 | some (.lst _)=>True
 | some (.dK _)=>True
 | some (.dT _)=>True
 | some (.set _ _)=>True
 | some (.ins _ _ _)=>True
 | some (.ext _)=>True
 | _=>False
section
variable{P:fP}{w:fS}{H:Hp}{h h':Heap}{x e:fG}{o':HO}
theorem Iw.write(ok:Iw P w H h)(mu:Mut (H x))(he:e=x∨H e=some (.own x))(k:∀b u,b≠e→h.get? b=some u→h'.get? b=some u)(heo:∃u,h'.get? e=some u)
  (new:Cs P w (upd H x o') h' x o'):Iw P w (upd H x o') h':=fun b u q=>by
 have nown:∀c y,H c=some (.own y)→c≠x:=fun c y r z=>by subst z;rw[r]at mu;exact mu
 have ntup:∀c xs,H c=some (.tup xs)→c≠x:=fun c xs r z=>by subst z;rw[r]at mu;exact mu
 by_cases hb:b=x
 ·subst hb;rw[Ad]at q;cases q;exact new
 ·rw[Aj hb]at q
  by_cases hbe:b=e
  ·have q':H b=some (.own x):=by
    rcases he with z|z
    ·exact absurd (hbe.trans z) hb
    ·rw[hbe];exact z
   rw[q]at q';cases q'
   obtain⟨v,hv⟩:=heo
   exact⟨v,by rw[hbe];exact hv⟩
  ·refine(ok b u q).stay (fun c v hc r=>k c v ?_ r) (fun c r=>by rw[Aj (nown c b r)];exact r) fun c xs r=>by rw[Aj (ntup c xs r)];exact r
   rcases hc with rfl|hc
   ·exact hbe
   ·rintro rfl
    rcases he with z|z
    ·exact nown c b hc z
    ·rw[hc]at z;cases z;exact hb rfl
end
structure Un(fs ex:List fG)(H H':Hp)(h h':Heap):Prop where
 keep:∀b o,h.get? b=some o→H b=none→b∉fs→b∉ex→h'.get? b=some o
 slot:∀b o,h.get? b=some o→H b=none→b∈fs→b∉ex→∃sl,h'.get? b=some { o with slots:=sl }
 free:∀b o,h.get? b=some o→H b=none→b∉ex→H' b=none
 there:∀b o,h.get? b=some o→b∉ex→∃o',h'.get? b=some o'
 tups:∀b xs,H b=some (.tup xs)→H' b=some (.tup xs)
 frzs:∀b o u,H b=some (.frz o u)→H' b=some (.frz o u)
 tbls:∀b ps,H b=some (.tbl ps)→∃more,H' b=some (.tbl (ps++more))
section
variable{fs fs' ex ex':List fG}{H H1 H2:Hp}{h h1 h2 h':Heap}{a x e:fG}{o:HO}
theorem Un.any(u:Un fs ex H H1 h h1){b:fG}{ob:Obj}(q:h.get? b=some ob)(n:H b=none)(hx:b∉ex):∃sl,h1.get? b=some { ob with slots:=sl }:=by
 by_cases hb:b∈fs
 ·exact u.slot b ob q n hb hx
 ·exact⟨ob.slots,u.keep b ob q n hb hx⟩
theorem Un.kept(k:∀b u,h.get? b=some u→h'.get? b=some u):Un fs ex H H h h':=
 ⟨fun b ob q _ _ _=>k b ob q,fun b ob q _ _ _=>⟨ob.slots,k b ob q⟩,fun _ _ _ n _=>n,fun b ob q _=>⟨ob,k b ob q⟩,fun _ _ q=>q,fun _ _ _ q=>q,fun _ ps q=>⟨#[],by rw[q];simp⟩⟩
theorem Un.refl:Un fs ex H H h h:=Un.kept fun _ _ q=>q
theorem Un.laid(k:∀b u,h.get? b=some u→h'.get? b=some u)(hp:h.objs.size≤a)(hn:H a=none):Un fs ex H (upd H a o) h h' where
 keep:=fun b u q _ _ _=>k b u q
 slot:=fun b u q _ _ _=>⟨u.slots,k b u q⟩
 free:=fun b u q n _=>by rw[Aj (ba (aZ (Heap.lt_size q) hp))];exact n
 there:=fun b u q _=>⟨u,k b u q⟩
 tups:=fun b xs q=>by rw[Aj (Af q hn)];exact q
 frzs:=fun b u xs q=>by rw[Aj (Af q hn)];exact q
 tbls:=fun b ps q=>⟨#[],by rw[Aj (Af q hn),q];simp⟩
theorem Un.write(mu:Mut (H x))(he:e=x∨H e=some (.own x))(k:∀b u,b≠e→h.get? b=some u→h'.get? b=some u)(heo:∃u,h'.get? e=some u):Un fs ex H (upd H x o) h h':=by
 have hx:∀b,H b=none→b≠x:=fun b n z=>by subst z;rw[n]at mu;exact mu
 have hb:∀b,H b=none→b≠e:=fun b n z=>by
  subst z
  rcases he with r|r
  ·exact hx b n r
  ·rw[n]at r;cases r
 have hm:∀b u,H b=some u→¬Mut (some u)→b≠x:=fun b u q nm z=>by subst z;rw[q]at mu;exact nm mu
 refine⟨fun b u q n _ _=>k b u (hb b n) q,fun b u q n _ _=>⟨u.slots,k b u (hb b n) q⟩,fun b u q n _=>by rw[Aj (hx b n)];exact n,fun b u q _=>?_,
  fun b xs q=>by rw[Aj (hm b _ q fun z=>z)];exact q,fun b u xs q=>by rw[Aj (hm b _ q fun z=>z)];exact q,fun b ps q=>⟨#[],by rw[Aj (hm b _ q fun z=>z),q];simp⟩⟩
 by_cases hbe:b=e
 ·subst hbe;exact heo
 ·exact⟨u,k b u hbe q⟩
end
def trk(h:Heap)(H:Hp):List fG:=(ak h.objs.size).filter fun a=>(H a).isSome
def LA(h:Heap)(H:Hp):Heap:=PySem.W.hideAll h (trk h H)
theorem Py(h:Heap)(H:Hp):(LA h H).objs.size=h.objs.size:=PySem.W.hideAll_size _ _
theorem QT{h:Heap}{H:Hp}{b:fG}{o:Obj}(e:h.get? b=some o)(n:H b=none):(LA h H).get? b=some o:=
 PySem.W.hideAll_get _ e fun hm=>by
  have q:(H b).isSome=true:=(aR.mp hm).2
  rw[n]at q;simp at q
theorem R3{h:Heap}{H:Hp}{b:fG}{o:Obj}(e:(LA h H).get? b=some o):h.get? b=some o∧H b=none:=by
 have e':h.get? b=some o:=PySem.W.of_hideAll (trk h H) e
 refine⟨e',?_⟩
 cases q:H b with
 | none=>rfl
 | some x=>
  have hm:b∈trk h H:=aR.mpr ⟨az.mpr (Heap.lt_size e'),by simp[q]⟩
  have z:(LA h H).get? b=none:=PySem.W.hideAll_none (trk h H) hm
  rw[z]at e;cases e
def Sx(g h:Heap)(L:fG):List (fG×Obj):=(ak h.objs.size).filterMap fun a=>if a=L∨(g.get? a).isSome=true then none else(h.get? a).map fun o=>(a,o)
def EM(g h:Heap)(L d:fG):List (fG×Obj):=(Sx g h L).filter fun p=>decide (p.1≠d)
end L2
namespace L2
open PySem PySem.Spec PyProof.Rows
structure Mod(K:aj)(mg:Str→Option fF)(base:Heap):Prop where
 kin:K.In base
 glob:base.Ns fK mg
 blt:∃mb,base.Ns builtinsNs mb∧∀x:Str,x≠"__name__"→mb x=gf x
 nolimit:base.NoLimit
structure Cx where
 prog:fP
 w:fS
 K:aj
 mg:Str→Option fF
 base:Heap
 A:fQ
 N:List Str
 s₀:fJ
 H₀:Hp
 env:Env
 outer:List Env
 stack:List Env
 ex:List fG
 fn:Str→Bool
 calm:Bool
 pn:List (fG×Obj)
 xe:fF→fJ→Prop
def NF(l:List Env):List fG:=l.filterMap (·.frame)
abbrev Cx.fs(X:Cx):List fG:=NF X.outer
def Vis(sc:Scope)(x:Str):Prop:=sc.names.lookup x=some .local∨sc.names.lookup x=some .cell∨sc.names.lookup x=some .free
def Loc(sc:Scope)(x:Str):Prop:=sc.names.lookup x=some .local∨sc.names.lookup x=some .cell
def Look(env:Env)(h:Heap)(m:Str→Option fF)(x:Str)(u:fF):Prop:=
 (env.kindOf x=some .local∧m x=some u)∨((env.kindOf x=some .cell∨env.kindOf x=some .free)∧∃c,env.cells.lookup x=some c∧h.IsCell c (some u))
structure Cx.Ok(X:Cx):Prop where
 mod:Mod X.K X.mg X.base
 kind:X.env.scope.kind=.function
 glob:X.env.globals=fK
 blt:X.env.builtins=builtinsNs
 above:X.s₀.heap.objs.size≤X.env.locals
 inj:∀x y c,X.env.cells.lookup x=some c→X.env.cells.lookup y=some c→x=y
 has:∀x,(X.env.kindOf x=some .cell∨X.env.kindOf x=some .free)→∃c,X.env.cells.lookup x=some c
 cab:∀x c,X.fn x=true→X.env.cells.lookup x=some c→X.s₀.heap.objs.size≤c
 hd:X.calm=true→X.A.handled=none
 frames:X.A.frames=some X.stack
 stk:X.stack=X.outer∨(X.stack=X.env::X.outer∧X.env.frame=some X.env.locals)
 exf:∀b∈X.ex,b≠X.env.locals∧∀x c,X.env.cells.lookup x=some c→c≠b
 bs:∀b o,X.base.get? b=some o→X.s₀.heap.get? b=some o∧X.H₀ b=none
 bsz:X.base.objs.size≤X.s₀.heap.objs.size
 noex:∀b o,X.base.get? b=some o→b∉X.ex
 exfs:∀b∈X.ex,b∉X.fs
 funs:X.s₀.heap.FunFrames X.base X.outer
 frf:∀b∈X.fs,X.H₀ b=none
structure AR(X:Cx)(pins:List (fG×Obj))(σ:List (Option V))(H:Hp)(s:fJ):Prop where
 ok:X.Ok
 os:s.os=X.s₀.os
 bare:AllBare s.gens
 base:Un X.fs X.ex X.H₀ H X.s₀.heap s.heap
 loc:∃m,s.heap.Ns X.env.locals m∧∀(i:Nat) (x:Str) (v:V),X.N[i]?=some x→σ[i]?=some (some v)→Vis X.env.scope x→∃u,Bm v u∧Look X.env s.heap m x u
 cell:∀x c,X.env.cells.lookup x=some c→∃v,s.heap.IsCell c v
 free:H X.env.locals=none
 freeC:∀x c,X.env.cells.lookup x=some c→H c=none
 pin:∀p∈X.pn++pins,s.heap.get? p.1=some p.2∧H p.1=none∧p.1≠X.env.locals∧p.1∉X.fs∧∀v,p.2.data≠.cell v
 hok:Iw X.prog X.w H s.heap
 len:σ.length=X.N.length
section
variable{X:Cx}{pins:List (fG×Obj)}{σ:List (Option V)}{H H':Hp}{s:fJ}{h':Heap}
theorem Cx.Ok.nofr(ok:X.Ok){b:fG}{o:Obj}(e:X.base.get? b=some o):b∉X.fs:=fun hb=>by
 have:=(ok.funs.mem hb).1
 rw[e]at this;cases this
theorem AR.bs(I:AR X pins σ H s):∀b o,X.base.get? b=some o→s.heap.get? b=some o∧H b=none:=fun b o e=>
 ⟨I.base.keep b o (I.ok.bs b o e).1 (I.ok.bs b o e).2 (I.ok.nofr e) (I.ok.noex b o e),I.base.free b o (I.ok.bs b o e).1 (I.ok.bs b o e).2 (I.ok.noex b o e)⟩
theorem AR.bk(I:AR X pins σ H s):∀b o,X.base.get? b=some o→s.heap.get? b=some o:=fun b o e=>(I.bs b o e).1
theorem AR.mod(I:AR X pins σ H s):Mod X.K X.mg X.base:=I.ok.mod
theorem AR.kIn(I:AR X pins σ H s):X.K.In s.heap:=I.ok.mod.kin.keeps I.bk
theorem AR.lt(I:AR X pins σ H s):X.env.locals<s.heap.objs.size:=let⟨_,hn,_⟩:=I.loc;hn.lt
theorem AR.sz(I:AR X pins σ H s):X.s₀.heap.objs.size≤s.heap.objs.size:=aU I.ok.above (dm I.lt)
theorem AR.nofs(I:AR X pins σ H s){a:fG}(h:s.heap.objs.size≤a):a∉X.fs:=fun hb=>by
 obtain⟨_,o,ho,_⟩:=I.ok.funs.mem hb
 exact absurd (aZ (Heap.lt_size ho) (aU I.sz h)) (cz _)
theorem AR.cne(I:AR X pins σ H s):∀x c,X.env.cells.lookup x=some c→c≠X.env.locals:=fun x c e z=>by
 obtain⟨v,o,ho,hd⟩:=I.cell x c e
 obtain⟨m,⟨o',es,ep,ho',hd',_⟩,_⟩:=I.loc
 rw[z,ho']at ho;cases ho;rw[hd']at hd;cases hd
theorem AR.funs(I:AR X pins σ H s):s.heap.FunFrames X.base X.outer:=by
 have all:∀(l:List Env),(∀b∈NF l,b∈X.fs)→X.s₀.heap.FunFrames X.base l→s.heap.FunFrames X.base l:=by
  intro l
  induction l with
  | nil=>intro _ _;trivial
  | cons env r ih=>
   intro hs hl
   obtain⟨hk,⟨L,o,hf,hn,ho,hd⟩,hr⟩:=hl
   have hL:L∈X.fs:=hs L (by unfold NF;rw[dj,hf];exact aw)
   obtain⟨sl,e⟩:=I.base.slot L o ho (I.ok.frf L hL) hL fun z=>I.ok.exfs L z hL
   exact⟨hk,⟨L,_,hf,hn,e,hd⟩,ih (fun b hb=>hs b (by unfold NF;rw[dj,hf];exact aq _ hb)) hr⟩
 exact all X.outer (fun _ hb=>hb) I.ok.funs
theorem AR.stack(I:AR X pins σ H s):s.heap.FunFrames X.base X.stack:=by
 rcases I.ok.stk with e|⟨e,hf⟩
 ·rw[e];exact I.funs
 ·rw[e]
  obtain⟨m,hn,_⟩:=I.loc
  refine .cons (by rw[I.ok.kind];decide) hf hn ?_ I.funs
  exact Heap.get?_none_of_le (aU I.ok.bsz I.ok.above)
theorem AR.stkSub(I:AR X pins σ H s):∀b∈NF X.stack,b∈X.env.locals::X.fs:=fun b hb=>by
 rcases I.ok.stk with e|⟨e,hf⟩
 ·rw[e]at hb;exact aq _ hb
 ·rw[e]at hb
  unfold NF at hb
  rw[dj,hf]at hb
  exact hb
theorem AR.stkFree(I:AR X pins σ H s):∀b∈NF X.stack,H b=none:=fun b hb=>by
 rcases aG.mp (I.stkSub b hb) with e|hb
 ·rw[e];exact I.free
 ·obtain⟨_,o,ho,_⟩:=I.ok.funs.mem hb
  exact I.base.free b o ho (I.ok.frf b hb) fun z=>I.ok.exfs b z hb
theorem AR.step{g':Array GenState}{t':Nat}{d':Drawn}{ch:List fG}(I:AR X pins σ H s)
  (hch:∀b∈ch,(b∈X.ex∨X.s₀.heap.objs.size≤b)∧b≠X.env.locals∧(∀x c,X.env.cells.lookup x=some c→c≠b)∧∀p∈X.pn++pins,p.1≠b)
  (keep:∀b o,b≠X.env.locals→b∉X.fs→b∉ch→s.heap.get? b=some o→H b=none→h'.get? b=some o)
  (slot:∀b o,b≠X.env.locals→b∈X.fs→b∉ch→s.heap.get? b=some o→H b=none→∃sl,h'.get? b=some { o with slots:=sl }) (free:∀b o,b∉ch→s.heap.get? b=some o→H b=none→H' b=none)
  (there:∀b o,b∉ch→s.heap.get? b=some o→∃o',h'.get? b=some o')
  (tups:∀b xs,H b=some (.tup xs)→H' b=some (.tup xs)) (frzs:∀b o u,H b=some (.frz o u)→H' b=some (.frz o u)) (tbls:∀b ps,H b=some (.tbl ps)→∃more,H' b=some (.tbl (ps++more)))
  (ns:∀m,s.heap.Ns X.env.locals m→h'.Ns X.env.locals m) (hok:Iw X.prog X.w H' h') (hg:AllBare g') :
  AR X pins σ H' { s with heap:=h',gens:=g',drawn:=d',toks:=t' }:=by
 have neL:∀b o,X.s₀.heap.get? b=some o→b≠X.env.locals:=fun b o e=>ba (aZ (Heap.lt_size e) I.ok.above)
 have neC:∀b o,X.s₀.heap.get? b=some o→b∉X.ex→b∉ch:=fun b o e hx hb=>by
  rcases(hch b hb).1 with z|z
  ·exact hx z
  ·exact absurd (aZ (Heap.lt_size e) z) (cz _)
 have cellK:∀x c,X.env.cells.lookup x=some c→∀v,s.heap.IsCell c v→h'.IsCell c v:=fun x c e v ⟨o,ho,hd⟩=>by
  have nch:c∉ch:=fun z=>(hch c z).2.2.1 x c e rfl
  by_cases hc:c∈X.fs
  ·obtain⟨sl,q⟩:=slot c o (I.cne x c e) hc nch ho (I.freeC x c e)
   exact⟨_,q,hd⟩
  ·exact⟨o,keep c o (I.cne x c e) hc nch ho (I.freeC x c e),hd⟩
 refine⟨I.ok,I.os,hg,⟨fun b o e n hb hx=>?_,fun b o e n hb hx=>?_,fun b o e n hx=>?_,fun b o e hx=>?_,fun b xs e=>tups b xs (I.base.tups b xs e),fun b o xs e=>frzs b o xs (I.base.frzs b o xs e),fun b ps e=>?_⟩,?_,fun x c e=>?_,?_,fun x c e=>?_,fun p hp=>?_,hok,I.len⟩
 ·exact keep b o (neL b o e) hb (neC b o e hx) (I.base.keep b o e n hb hx) (I.base.free b o e n hx)
 ·obtain⟨sl,e1⟩:=I.base.slot b o e n hb hx
  obtain⟨sl',e2⟩:=slot b _ (neL b o e) hb (neC b o e hx) e1 (I.base.free b o e n hx)
  exact⟨sl',e2⟩
 ·obtain⟨o',e1⟩:=I.base.there b o e hx
  exact free b o' (neC b o e hx) e1 (I.base.free b o e n hx)
 ·obtain⟨o',e1⟩:=I.base.there b o e hx
  exact there b o' (neC b o e hx) e1
 ·obtain⟨m1,e1⟩:=I.base.tbls b ps e
  obtain⟨m2,e2⟩:=tbls b _ e1
  exact⟨m1++m2,by rw[e2,Array.append_assoc]⟩
 ·obtain⟨m,hn,hl⟩:=I.loc
  refine⟨m,ns m hn,fun i x v e1 e2 e3=>?_⟩
  obtain⟨u,r,l⟩:=hl i x v e1 e2 e3
  refine⟨u,r,?_⟩
  rcases l with l|⟨k,c,e,z⟩
  ·exact .inl l
  ·exact .inr ⟨k,c,e,cellK x c e _ z⟩
 ·obtain⟨v,z⟩:=I.cell x c e
  exact⟨v,cellK x c e v z⟩
 ·obtain⟨m,⟨o,_,_,ho,_⟩,_⟩:=I.loc
  exact free _ o (fun z=>(hch _ z).2.1 rfl) ho I.free
 ·obtain⟨v,o,ho,hd⟩:=I.cell x c e
  exact free c o (fun z=>(hch c z).2.2.1 x c e rfl) ho (I.freeC x c e)
 ·obtain⟨e,n,ne,nf,d⟩:=I.pin p hp
  have nch:p.1∉ch:=fun z=>(hch p.1 z).2.2.2 p hp rfl
  exact⟨keep p.1 p.2 ne nf nch e n,free p.1 p.2 nch e n,ne,nf,d⟩
theorem AR.un{t':Nat}(I:AR X pins σ H s)(u:Un X.fs [] H H' s.heap h')(hok:Iw X.prog X.w H' h'):AR X pins σ H' { s with heap:=h',toks:=t' }:=by
 obtain⟨m,⟨o,es,ep,ho,r⟩,_⟩:=id I.loc
 obtain⟨sl,hL⟩:=u.any ho I.free (by simp)
 exact I.step (g':=s.gens) (d':=s.drawn) (ch:=[]) (fun _ z=>nomatch z) (fun b o _ hb _ e n=>u.keep b o e n hb (by simp)) (fun b o _ hb _ e n=>u.slot b o e n hb (by simp)) (fun b o _ e n=>u.free b o e n (by simp)) (fun b o _ e=>u.there b o e (by simp)) u.tups u.frzs u.tbls (fun m' hm=>by
  obtain⟨o',es',ep',ho',r'⟩:=hm
  rw[ho]at ho';cases ho'
  exact⟨_,es',ep',hL,r'⟩) hok I.bare
theorem AR.call{g':Array GenState}{t':Nat}{d':Drawn}{ch:List fG}(I:AR X pins σ H s)(u:Un (NF X.stack) ch H H' s.heap h')(hok:Iw X.prog X.w H' h')(hg:AllBare g')
  (hch:∀b∈ch,(b∈X.ex∨X.s₀.heap.objs.size≤b)∧b≠X.env.locals∧(∀x c,X.env.cells.lookup x=some c→c≠b)∧∀p∈X.pn++pins,p.1≠b) :
  AR X pins σ H' { s with heap:=h',gens:=g',drawn:=d',toks:=t' }:=by
 obtain⟨m,⟨o,es,ep,ho,r⟩,_⟩:=id I.loc
 obtain⟨sl,hL⟩:=u.any ho I.free fun z=>(hch _ z).2.1 rfl
 exact I.step (ch:=ch) hch (fun b o hL hb hc e n=>u.keep b o e n (fun z=>(aG.mp (I.stkSub b z)).elim hL hb) hc) (fun b o _ _ hc e n=>u.any e n hc) (fun b o hc e n=>u.free b o e n hc) (fun b o hc e=>u.there b o e hc) u.tups u.frzs u.tbls (fun m' hm=>by
  obtain⟨o',es',ep',ho',r'⟩:=hm
  rw[ho]at ho';cases ho'
  exact⟨_,es',ep',hL,r'⟩) hok hg
theorem AR.turned{t':Nat}{it:fG}(I:AR X pins σ H s)(k:∀b o,b≠it→s.heap.get? b=some o→h'.get? b=some o)(hn:H it=none)(hL:it≠X.env.locals)
  (h1:it∈X.ex∨X.s₀.heap.objs.size≤it) (h2:∀x c,X.env.cells.lookup x=some c→c≠it) (h3:∀p∈X.pn++pins,p.1≠it):AR X pins σ H { s with heap:=h',toks:=t' }:=by
 have nit:∀b u,H b=some u→b≠it:=fun b u e z=>by rw[z,hn]at e;cases e
 refine I.step (g':=s.gens) (d':=s.drawn) (ch:=[it]) (fun b hb=>?_) (fun b o _ _ hc e _=>k b o (fun z=>hc (by simp[z])) e) (fun b o _ _ hc e _=>⟨o.slots,k b o (fun z=>hc (by simp[z])) e⟩) (fun _ _ _ _ n=>n)
  (fun b o hc e=>⟨o,k b o (fun z=>hc (by simp[z])) e⟩) (fun _ _ e=>e) (fun _ _ _ e=>e) (fun b ps e=>⟨#[],by rw[e];simp⟩) (fun m hm=>?_) (fun b u e=>?_) I.bare
 ·have e:b=it:=by simpa using hb
  subst e
  exact⟨h1,hL,h2,h3⟩
 ·obtain⟨o,es,ep,ho,r⟩:=hm
  exact⟨o,es,ep,k _ o (Ne.symm hL) ho,r⟩
 ·refine(I.hok b u e).stay (fun c v hc q=>k c v ?_ q) (fun _ q=>q) fun _ _ q=>q
  rcases hc with z|z
  ·rw[z];exact nit b u e
  ·exact nit c _ z
theorem AR.tok(I:AR X pins σ H s)(t:Nat):AR X pins σ H { s with toks:=t }:=I.un (h':=s.heap) (t':=t) Un.refl I.hok
theorem AR.kept{t':Nat}(I:AR X pins σ H s)(k:∀b u,s.heap.get? b=some u→h'.get? b=some u):AR X pins σ H { s with heap:=h',toks:=t' }:=I.un (Un.kept k) (I.hok.kept k)
theorem AR.laid{a:fG}{o:HO}{t':Nat}(I:AR X pins σ H s)(k:∀b u,s.heap.get? b=some u→h'.get? b=some u)(hp:s.heap.objs.size≤a)(new:Cs X.prog X.w (upd H a o) h' a o) :
  AR X pins σ (upd H a o) { s with heap:=h',toks:=t' }:=I.un (Un.laid k hp (I.hok.fresh hp)) (I.hok.laid k hp new)
theorem AR.write{x e:fG}{o:HO}{t':Nat}(I:AR X pins σ H s)(mu:Mut (H x))(he:e=x∨H e=some (.own x))(k:∀b u,b≠e→s.heap.get? b=some u→h'.get? b=some u)(heo:∃u,h'.get? e=some u)
  (new:Cs X.prog X.w (upd H x o) h' x o):AR X pins σ (upd H x o) { s with heap:=h',toks:=t' }:=I.un (Un.write mu he k heo) (I.hok.write mu he k heo new)
theorem AR.pins_of{pins':List (fG×Obj)}(I:AR X pins σ H s)(h:∀p∈pins',s.heap.get? p.1=some p.2∧H p.1=none∧p.1≠X.env.locals∧p.1∉X.fs∧∀v,p.2.data≠.cell v):AR X pins' σ H s:=
 ⟨I.ok,I.os,I.bare,I.base,I.loc,I.cell,I.free,I.freeC,fun p hp=>(aP.mp hp).elim (fun z=>I.pin p (bN _ z)) (h p),I.hok,I.len⟩
theorem Mu{N:List Str}(hN:N.Nodup){i j:Nat}{x:Str}(a:N[i]?=some x)(b:N[j]?=some x):i=j:=by
 obtain⟨h1,e1⟩:=af.mp a
 obtain⟨h2,e2⟩:=af.mp b
 exact(List.getElem_inj hN).mp (e1.trans e2.symm)
theorem Kf{M:Model}{A:fQ}{E:fF→fJ→Prop}{i:Nat}{x:Str}{v:V}{u:fF}{Q:Unit→fJ→Prop}(I:AR X pins σ H s)(hN:X.N.Nodup)(hi:X.N[i]?=some x)(hx:Loc X.env.scope x)(r:Bm v u)
  (h:∀s',AR X pins (σ.set i (some v)) H s'→(∃a,Heap.SameBut a s.heap s'.heap∧(a=X.env.locals∨X.env.cells.lookup x=some a))→Q () s') (hf:X.fn x=true∨X.env.scope.names.lookup x=some .local:=by first|exact .inl rfl|exact .inr rfl|assumption):wpAny M A (storeName X.env x u) Q E s:=by
 obtain⟨m,hn,hl⟩:=id I.loc
 have hcls:(X.env.scope.kind==.class||(X.env.scope.kind==.module&&X.env.locals != X.env.globals))=false:=by rw[I.ok.kind];rfl
 have hiσ:i<σ.length:=by rw[I.len];exact(af.mp hi).1
 have cne:=I.cne
 have tracked:∀{a:fG} {h':Heap},(∃o,s.heap.get? a=some o∧H a=none)→Heap.SameBut a s.heap h'→Iw X.prog X.w H h':=fun{a h'} ha hs b ob e=>by
  obtain⟨_,_,hfree⟩:=ha
  refine(I.hok b ob e).stay (fun c w' hc q=>(hs.2 c ?_).trans q) (fun _ q=>q) fun _ _ q=>q
  rintro rfl
  rcases hc with rfl|hc
  ·rw[hfree]at e;cases e
  ·rw[hfree]at hc;cases hc
 rcases hx with hk|hk
 ·refine wpAny_storeName_local hk hn (fun h' hn' hs=>?_) hcls
  obtain⟨oL,_,_,hoL,_⟩:=id hn
  refine h _ ⟨I.ok,I.os,I.bare,⟨fun b o e n hb hx=>?_,fun b o e n hb hx=>?_,I.base.free,fun b o e hx=>?_,I.base.tups,I.base.frzs,I.base.tbls⟩,⟨_,hn',fun j y v' e1 e2 e3=>?_⟩,fun y c e=>?_,I.free,I.freeC,fun p hp=>?_,tracked ⟨oL,hoL,I.free⟩ hs,by simpa using I.len⟩ ⟨_,hs,.inl rfl⟩
  ·exact(hs.2 b (ba (aZ (Heap.lt_size e) I.ok.above))).trans (I.base.keep b o e n hb hx)
  ·obtain⟨sl,e1⟩:=I.base.slot b o e n hb hx
   exact⟨sl,(hs.2 b (ba (aZ (Heap.lt_size e) I.ok.above))).trans e1⟩
  ·obtain⟨o',e1⟩:=I.base.there b o e hx
   exact⟨o',(hs.2 b (ba (aZ (Heap.lt_size e) I.ok.above))).trans e1⟩
  ·by_cases hj:j=i
   ·subst hj
    rw[hi]at e1;cases e1
    rw[cN hiσ]at e2
    cases e2
    exact⟨u,r,.inl ⟨hk,by simp⟩⟩
   ·rw[cY (Ne.symm hj)]at e2
    obtain⟨u',r',q⟩:=hl j y v' e1 e2 e3
    refine⟨u',r',?_⟩
    rcases q with⟨k,e⟩|⟨k,c,e,z⟩
    ·refine .inl ⟨k,?_⟩
     have:y≠x:=fun e=>hj (Mu hN e1 (e▸hi))
     simp[this,e]
    ·exact .inr ⟨k,c,e,z.sameBut hs (cne y c e)⟩
  ·obtain⟨w',z⟩:=I.cell y c e
   exact⟨w',z.sameBut hs (cne y c e)⟩
  ·obtain⟨e,n,ne,nf,d⟩:=I.pin p hp
   exact⟨(hs.2 p.1 ne).trans e,n,ne,nf,d⟩
 ·have hfn:X.fn x=true:=by
   rcases hf with z|z
   ·exact z
   ·rw[z]at hk;cases hk
  obtain⟨c,hc⟩:=I.ok.has x (.inl hk)
  obtain⟨w',z⟩:=I.cell x c hc
  refine wpAny_storeName_cell I.ok.kind hk hc z (fun h' hc' hs=>?_)
  obtain⟨oc,hoc,hocd⟩:=id z
  refine h { s with heap:=h' } ⟨I.ok,I.os,I.bare,⟨fun b o e n hb hx=>?_,fun b o e n hb hx=>?_,I.base.free,fun b o e hx=>?_,I.base.tups,I.base.frzs,I.base.tbls⟩,⟨m,hn.sameBut hs (Ne.symm (cne x c hc)),fun j y v' e1 e2 e3=>?_⟩,fun y c' e=>?_,I.free,I.freeC,fun p hp=>?_,tracked ⟨oc,hoc,I.freeC x c hc⟩ hs,by simpa using I.len⟩ ⟨c,hs,.inr hc⟩
  ·exact(hs.2 b (ba (aZ (Heap.lt_size e) (I.ok.cab x c hfn hc)))).trans (I.base.keep b o e n hb hx)
  ·obtain⟨sl,e1⟩:=I.base.slot b o e n hb hx
   exact⟨sl,(hs.2 b (ba (aZ (Heap.lt_size e) (I.ok.cab x c hfn hc)))).trans e1⟩
  ·obtain⟨o',e1⟩:=I.base.there b o e hx
   exact⟨o',(hs.2 b (ba (aZ (Heap.lt_size e) (I.ok.cab x c hfn hc)))).trans e1⟩
  ·by_cases hj:j=i
   ·subst hj
    rw[hi]at e1;cases e1
    rw[cN hiσ]at e2
    cases e2
    exact⟨u,r,.inr ⟨.inl hk,c,hc,hc'⟩⟩
   ·rw[cY (Ne.symm hj)]at e2
    obtain⟨u',r',q⟩:=hl j y v' e1 e2 e3
    refine⟨u',r',?_⟩
    rcases q with q|⟨k,c',e,z'⟩
    ·exact .inl q
    ·refine .inr ⟨k,c',e,z'.sameBut hs ?_⟩
     rintro rfl
     exact hj (Mu hN e1 (I.ok.inj _ _ _ e hc▸hi))
  ·by_cases hcc:c'=c
   ·subst hcc;exact⟨_,hc'⟩
   ·obtain⟨w2,z2⟩:=I.cell y c' e
    exact⟨w2,z2.sameBut hs hcc⟩
  ·obtain⟨e,n,ne,nf,d⟩:=I.pin p hp
   refine⟨(hs.2 p.1 ?_).trans e,n,ne,nf,d⟩
   intro q
   rw[q,hoc]at e
   have q':oc=p.2:=br.inj e
   exact d w' (by rw[← q'];exact hocd)
theorem L3{M:Model}{A:fQ}{E:fF→fJ→Prop}{i:Nat}{x:Str}{v:V}{u:fF}{Q:Unit→fJ→Prop}(I:AR X pins σ H s)(hN:X.N.Nodup)(hi:X.N[i]?=some x)(hx:Loc X.env.scope x)(r:Bm v u)
  (h:∀s',AR X pins (σ.set i (some v)) H s'→Q () s') (hf:X.fn x=true∨X.env.scope.names.lookup x=some .local:=by first|exact .inl rfl|exact .inr rfl|assumption):wpAny M A (storeName X.env x u) Q E s:=
 Kf I hN hi hx r (fun s' I' _=>h s' I') hf
theorem AR.call'{s':fJ}{ch:List fG}(I:AR X pins σ H s)(ho:s'.os=s.os)(u:Un (NF X.stack) ch H H' s.heap s'.heap)(hok:Iw X.prog X.w H' s'.heap)(hg:AllBare s'.gens)
  (hch:∀b∈ch,(b∈X.ex∨X.s₀.heap.objs.size≤b)∧b≠X.env.locals∧(∀x c,X.env.cells.lookup x=some c→c≠b)∧∀p∈X.pn++pins,p.1≠b):AR X pins σ H' s':=by
 obtain⟨h',g',d',t',o'⟩:=s'
 have e:o'=s.os:=ho
 subst e
 exact I.call (g':=g') (t':=t') (d':=d') u hok hg hch
end
abbrev XK:=fF→Option fG→Hp→Prop
abbrev St:=List (Option V)
abbrev VK:=V→Hp→Prop
abbrev TE:=St→Hp→VK→Prop
abbrev TT:=St→Hp→(Bool→Hp→Prop)→Prop
abbrev TA:=St→Hp→(List V→Hp→Prop)→Prop
structure Kc where
 nx:St→Hp→Prop
 rt:VK
 bk:St→Hp→Prop:=fun _ _=>False
 ct:St→Hp→Prop:=fun _ _=>False
abbrev TS:=Kc→St→Hp→Prop
def EP(X:Cx)(pins:List (fG×Obj))(σ:St)(Q:VK)(u:fF)(s':fJ):Prop:=∃v H',AR X pins σ H' s'∧Bm v u∧Q v H'
def TP(X:Cx)(pins:List (fG×Obj))(σ:St)(Q:Bool→Hp→Prop)(b:Bool)(s':fJ):Prop:=∃H',AR X pins σ H' s'∧Q b H'
def AP(X:Cx)(pins:List (fG×Obj))(σ:St)(Q:List V→Hp→Prop)(us:List fF)(s':fJ):Prop:=∃vs H',AR X pins σ H' s'∧A5 vs us∧Q vs H'
def SP(X:Cx)(pins:List (fG×Obj))(D:Kc)(f:Flow)(s':fJ):Prop:=
 match f with
 | .next=>∃σ' H',AR X pins σ' H' s'∧D.nx σ' H'
 | .brk=>∃σ' H',AR X pins σ' H' s'∧D.bk σ' H'
 | .cont=>∃σ' H',AR X pins σ' H' s'∧D.ct σ' H'
 | .ret u=>∃v σ' H',AR X pins σ' H' s'∧Bm v u∧D.rt v H'
def PE(X:Cx)(e:Expr)(t:TE):Prop:=
 ∀(pins:List (fG×Obj)) (s:fJ) (σ:St) (H:Hp) (Q:VK),AR X pins σ H s→t σ H Q→wpAny (model X.prog X.w) X.A (eval e X.env) (EP X pins σ Q) X.xe s
def PT(X:Cx)(e:Expr)(t:TT):Prop:=
 ∀(pins:List (fG×Obj)) (s:fJ) (σ:St) (H:Hp) (Q:Bool→Hp→Prop),AR X pins σ H s→t σ H Q→wpAny (model X.prog X.w) X.A (isTrue e X.env (eval e X.env)) (TP X pins σ Q) X.xe s
def PW(X:Cx)(e:Expr)(t:TT):Prop:=
 ∀(whole:Sem fF) (pins:List (fG×Obj)) (s:fJ) (σ:St) (H:Hp) (Q:Bool→Hp→Prop),AR X pins σ H s→t σ H Q→wpAny (model X.prog X.w) X.A (isTrue e X.env whole) (TP X pins σ Q) X.xe s
theorem PW.pt{X:Cx}{e:Expr}{t:TT}(h:PW X e t):PT X e t:=h _
def PA(X:Cx)(es:List Expr)(t:TA):Prop:=
 ∀(pos:Pos) (pins:List (fG×Obj)) (s:fJ) (σ:St) (H:Hp) (Q:List V→Hp→Prop),AR X pins σ H s→t σ H Q→wpAny (model X.prog X.w) X.A (spliced (backTo pos (gj es X.env))) (AP X pins σ Q) X.xe s
def PS(X:Cx)(st:Stmt)(t:TS):Prop:=
 ∀(pins:List (fG×Obj)) (s:fJ) (σ:St) (H:Hp) (D:Kc),AR X pins σ H s→t D σ H→wpAny (model X.prog X.w) X.A (exec st X.env) (SP X pins D) X.xe s
def M2(X:Cx)(st:List Stmt)(t:TS):Prop:=
 ∀(pins:List (fG×Obj)) (s:fJ) (σ:St) (H:Hp) (D:Kc),AR X pins σ H s→t D σ H→wpAny (model X.prog X.w) X.A (execs st X.env) (SP X pins D) X.xe s
theorem B0{α:Type}{t:Sem α}{Q Q':α→fJ→Prop}{M:Model}{A:fQ}{E:fF→fJ→Prop}{s:fJ}(h:wpAny M A t Q E s)(hQ:∀a s,Q a s→Q' a s):wpAny M A t Q' E s:=fT h hQ fun _ _ x=>x
end L2
namespace L2
open PySem PySem.Spec PyProof.Rows
section
variable{X:Cx}
def GC(i:Nat):TE:=fun σ H Q=>∃v,σ[i]?=some (some v)∧Q v H
def tC(v:V):TE:=fun _ H Q=>Q v H
theorem pe_var{i:Nat}{x:Str}{pos:Pos}(hN:X.N[i]?=some x)(hv:Vis X.env.scope x)(hd:(x==("__debug__" : Str))=false:=by decide)(hcd:(x==("__classdict__" : Str))=false:=by decide):PE X (.Name x pos) (GC i):=by
 intro pins s σ H Q I h
 obtain⟨v,e,h⟩:=h
 obtain⟨m,hn,hl⟩:=I.loc
 obtain⟨u,r,l⟩:=hl i x v hN e hv
 have fin:EP X pins σ Q u s:=⟨v,H,I,r,h⟩
 rcases l with⟨hk,hm⟩|⟨hk,c,hc,hcell⟩
 ·exact wpAny_Name (wpAny_loadName_local I.ok.kind hk hn hm fin) hd
 ·rcases hk with hk|hk
  ·exact wpAny_Name (wpAny_loadName_cell I.ok.kind hk hc hcell fin) hd
  ·exact wpAny_Name (wpAny_loadName_free I.ok.kind hk hc hcell fin hcd) hd
theorem Ah{i j pos}:PE X (.Constant (.int i) j pos) (tC (.int i)):=fun _ _ _ H _ I h=>wpAny_Constant_int ⟨.int i,H,I.tok _,⟨_,rfl⟩,h⟩
theorem HL{b j pos}:PE X (.Constant (.bool b) j pos) (tC (.bl b)):=fun _ _ _ H _ I h=>Constant_bool ⟨.bl b,H,I,rfl,h⟩
theorem Hs{j pos}:PE X (.Constant .none j pos) (tC .non):=fun _ _ _ H _ I h=>Constant_none ⟨.non,H,I,rfl,h⟩
theorem Be{x j pos}:PE X (.Constant (.str x) j pos) (tC (.str x)):=fun _ _ _ H _ I h=>Calls.Constant_str ⟨.str x,H,I.tok _,⟨_,rfl⟩,h⟩
def Gl(X:Cx)(x:Str):Prop:=X.env.kindOf x=some .globalImplicit
theorem Lu{E:fF→fJ→Prop}{pins:List (fG×Obj)}{s:fJ}{σ:St}{H:Hp}{x:Str}{u:fF}{pos:Pos}{Q:fF→fJ→Prop}(I:AR X pins σ H s)(hg:Gl X x)(hm:X.mg x=some u)(h:Q u s)
  (hd:(x==("__debug__" : Str))=false:=by decide):wpAny (model X.prog X.w) X.A (eval (.Name x pos) X.env) Q E s:=
 Calls.Name_function_global I.ok.kind hg (Calls.loadGlobal_global (by rw[I.ok.glob];exact I.mod.glob.keeps I.bk) hm h) hd
theorem E6{E:fF→fJ→Prop}{pins:List (fG×Obj)}{s:fJ}{σ:St}{H:Hp}{x:Str}{u:fF}{pos:Pos}{Q:fF→fJ→Prop}(I:AR X pins σ H s)(hg:Gl X x)(hm:X.mg x=none)(hv:gf x=some u)(h:Q u s)
  (hn:x≠"__name__":=by decide) (hd:(x==("__debug__" : Str))=false:=by decide):wpAny (model X.prog X.w) X.A (eval (.Name x pos) X.env) Q E s:=by
 obtain⟨mb,h1,h2⟩:=I.mod.blt
 exact Calls.Name_function_global I.ok.kind hg (Calls.loadGlobal_builtin (by rw[I.ok.glob];exact I.mod.glob.keeps I.bk) hm (by rw[I.ok.blt];exact h1.keeps I.bk) ((h2 x hn).trans hv) h) hd
theorem Im{x:Str}{v:V}{u:fF}{pos:Pos}(hg:Gl X x)(hm:X.mg x=some u)(r:Bm v u)(hd:(x==("__debug__" : Str))=false:=by decide):PE X (.Name x pos) (tC v):=
 fun _ _ _ H _ I h=>Lu I hg hm ⟨v,H,I,r,h⟩ hd
theorem GV{x:Str}{v:V}{u:fF}{pos:Pos}(hg:Gl X x)(hm:X.mg x=none)(hv:gf x=some u)(r:Bm v u)(hn:x≠"__name__":=by decide)(hd:(x==("__debug__" : Str))=false:=by decide):PE X (.Name x pos) (tC v):=
 fun _ _ _ H _ I h=>E6 I hg hm hv ⟨v,H,I,r,h⟩ hn hd
variable{a b:Expr}{ta tb:TE}{pos:Pos}
def PC(X:Cx)(op:CmpOp)(a b:Expr)(t:TE):Prop:=
 ∀(pins:List (fG×Obj)) (s:fJ) (σ:St) (H:Hp) (Q:VK),AR X pins σ H s→t σ H Q →
  wpAny (model X.prog X.w) X.A (eval a X.env) (fun v s₁=>wpAny (model X.prog X.w) X.A (eval b X.env) (fun u s₂=>wpAny (model X.prog X.w) X.A (fY op v u) (EP X pins σ Q) X.xe s₂) X.xe s₁) X.xe s
theorem QB(b:Expr){op:CmpOp}(h:op≠.In)(h2:op≠.NotIn):behindInMarks op b=false:=by
 have e1:(op==CmpOp.In)=false:=by cases op<;>first|rfl|exact absurd rfl h
 have e2:(op==CmpOp.NotIn)=false:=by cases op<;>first|rfl|exact absurd rfl h2
 cases b<;>simp[behindInMarks,e1,e2]
def tIsN(ta:TE):TE:=fun σ H Q=>ta σ H fun x H1=>Q (.bl (decide (x=.non))) H1
def tNotN(ta:TE):TE:=fun σ H Q=>ta σ H fun x H1=>Q (.bl (!decide (x=.non))) H1
theorem Bm.none_iff{x:V}{v:fF}(r:Bm x v):(v==fF.none)=decide (x=.non):=by
 cases x with
 | non=>cases r;rfl
 | bl _=>cases r;rfl
 | int _=>obtain⟨t,rfl⟩:=r;rfl
 | str _=>obtain⟨t,rfl⟩:=r;rfl
 | byt _=>obtain⟨t,rfl⟩:=r;rfl
 | flt _=>obtain⟨t,rfl⟩:=r;rfl
 | ref _=>cases r;rfl
 | ty _=>cases r;rfl
theorem pc_isN{j pos'}(ha:PE X a ta):PC X .Is a (.Constant .none j pos') (tIsN ta):=by
 intro pins s σ H Q I h
 refine B0 (ha pins s σ H _ I h) fun v s1 ⟨x,H1,I1,r1,q1⟩=>?_
 exact Constant_none (is_none_gen ⟨.bl _,H1,I1,by rw[r1.none_iff];rfl,q1⟩)
theorem Ol{j pos'}(ha:PE X a ta):PC X .IsNot a (.Constant .none j pos') (tNotN ta):=by
 intro pins s σ H Q I h
 refine B0 (ha pins s σ H _ I h) fun v s1 ⟨x,H1,I1,r1,q1⟩=>?_
 exact Constant_none (isnot_none_gen ⟨.bl _,H1,I1,by rw[r1.none_iff];rfl,q1⟩)
def tB(t:TE):TT:=fun σ H Q=>t σ H fun x H1=>∃c,x=.bl c∧Q c H1
theorem Ng{op:CmpOp}{t:TE}(h:PC X op a b t)(h1:behindInMarks op b=false:=by first|exact QB _ (by decide) (by decide)|rfl):PT X (.Compare a [op] [b] pos) (tB t):=by
 intro pins s σ H Q I hw
 refine wpAny_isTrue_Compare1 (B0 (h pins s σ H _ I hw) fun v s1 h1=>B0 h1 fun u s2 h2=>B0 h2 fun c s3 ⟨x,H1,I1,r1,q1⟩=>?_) h1
 obtain⟨d,rfl,q⟩:=q1
 cases r1
 exact fX ⟨H1,I1,q⟩
theorem Cf{e:Expr}{t:TE}(h:PE X e t)(he:∀whole,isTrue e X.env whole=(do let v ← whole;standAt e.pos;holding [v] (truthy v)):=by intro _;rfl):PT X e (tB t):=by
 intro pins s σ H Q I hw
 refine isTrue_plain (B0 (h pins s σ H _ I hw) fun v s1 ⟨x,H1,I1,r1,q1⟩=>?_) (he _)
 obtain⟨d,rfl,q⟩:=q1
 cases r1
 exact fX ⟨H1,I1,q⟩
variable{tA tB':TT}{EM:List Expr}
def tAnd(t u:TT):TT:=fun σ H Q=>t σ H fun c H1=>if c=true then u σ H1 Q else Q false H1
def tOr(t u:TT):TT:=fun σ H Q=>t σ H fun c H1=>if c=true then Q true H1 else u σ H1 Q
def tNot(t:TT):TT:=fun σ H Q=>t σ H fun c H1=>Q (!c) H1
theorem Dn(ha:PT X a tA):PW X (.BoolOp .And [a] pos) tA:=by
 intro wh pins s σ H Q I h
 refine isTrue_and (B0 (ha pins s σ H Q I h) fun c s1 e=>?_)
 cases c with
 | true=>exact isTrue_and_nil e
 | false=>exact e
theorem FY(ha:PT X a tA):PW X (.BoolOp .Or [a] pos) tA:=by
 intro wh pins s σ H Q I h
 refine isTrue_or (B0 (ha pins s σ H Q I h) fun c s1 e=>?_)
 cases c with
 | false=>exact isTrue_or_nil e
 | true=>exact e
theorem Eb(ha:PT X a tA)(hb:PW X (.BoolOp .And (b::EM) pos) tB'):PW X (.BoolOp .And (a::b::EM) pos) (tAnd tA tB'):=by
 intro wh pins s σ H Q I h
 refine isTrue_and (B0 (ha pins s σ H _ I h) fun c s1 ⟨H1,I1,q1⟩=>?_)
 cases c with
 | true=>exact hb wh pins s1 σ H1 Q I1 q1
 | false=>exact⟨H1,I1,q1⟩
theorem HJ(ha:PT X a tA)(hb:PW X (.BoolOp .Or (b::EM) pos) tB'):PW X (.BoolOp .Or (a::b::EM) pos) (tOr tA tB'):=by
 intro wh pins s σ H Q I h
 refine isTrue_or (B0 (ha pins s σ H _ I h) fun c s1 ⟨H1,I1,q1⟩=>?_)
 cases c with
 | true=>exact⟨H1,I1,q1⟩
 | false=>exact hb wh pins s1 σ H1 Q I1 q1
theorem C8(ha:PT X a tA):PT X (.UnaryOp .Not a pos) (tNot tA):=by
 intro pins s σ H Q I h
 exact isTrue_not (ha pins s σ H (fun c H1=>Q (!c) H1) I h)
def tAndV(ta tb:TE):TE:=fun σ H Q=>ta σ H fun x H1=>∃c,x=.bl c∧if c=true then tb σ H1 Q else Q (.bl false) H1
def tOrV(ta tb:TE):TE:=fun σ H Q=>ta σ H fun x H1=>∃c,x=.bl c∧if c=true then Q (.bl true) H1 else tb σ H1 Q
theorem Nj{op}{t:TE}(h:PE X a t):PE X (.BoolOp op [a] pos) t:=fun pins s σ H Q I hw=>BoolOp_one (h pins s σ H Q I hw)
theorem pe_and(ha:PE X a ta)(hb:PE X (.BoolOp .And (b::EM) pos) tb):PE X (.BoolOp .And (a::b::EM) pos) (tAndV ta tb):=by
 intro pins s σ H Q I h
 refine BoolOp_and (B0 (ha pins s σ H _ I h) fun v s1 ⟨x,H1,I1,r1,q1⟩=>?_)
 obtain⟨c,rfl,q1⟩:=q1
 cases r1
 refine fX ?_
 cases c with
 | true=>exact hb pins s1 σ H1 Q I1 q1
 | false=>exact⟨.bl false,H1,I1,rfl,q1⟩
theorem pe_or(ha:PE X a ta)(hb:PE X (.BoolOp .Or (b::EM) pos) tb):PE X (.BoolOp .Or (a::b::EM) pos) (tOrV ta tb):=by
 intro pins s σ H Q I h
 refine BoolOp_or (B0 (ha pins s σ H _ I h) fun v s1 ⟨x,H1,I1,r1,q1⟩=>?_)
 obtain⟨c,rfl,q1⟩:=q1
 cases r1
 refine fX ?_
 cases c with
 | false=>exact hb pins s1 σ H1 Q I1 q1
 | true=>exact⟨.bl true,H1,I1,rfl,q1⟩
end
end L2
namespace L2
open PySem PySem.Spec PyProof.Rows
def AD(K:aj)(H:Hp)(a:fG)(xs:List V):Prop:=
 Rd H a (.lst xs) ∨
  ∃(o:Obj) (its:Array fF) (n:Nat),K.lookup a=some o∧o.cls=.type "list"∧o.dict=none∧o.data=.seq its n∧its.size≤fL∧A5 xs its.toList
def A2(K:aj)(H:Hp)(a:fG)(xs:List V):Prop:=
 Rd H a (.tup xs) ∨
  ∃(o:Obj) (its:Array fF) (n:Nat),K.lookup a=some o∧o.cls=.type "tuple"∧o.data=.seq its n∧its.size≤fL∧A5 xs its.toList
def absV:fF→Option V
 | .none=>some .non
 | .bool b=>some (.bl b)
 | .int i _=>some (.int i)
 | .str x _=>some (.str x)
 | .bytes b _=>some (.byt b)
 | .float b _=>some (.flt b)
 | .ref a=>some (.ref a)
 | .type n=>some (.ty n)
 | _=>none
theorem Bm.abs{x:V}{u:fF}(r:Bm x u):absV u=some x:=by
 cases x with
 | non=>cases r;rfl
 | bl _=>cases r;rfl
 | int _=>obtain⟨t,rfl⟩:=r;rfl
 | str _=>obtain⟨t,rfl⟩:=r;rfl
 | byt _=>obtain⟨t,rfl⟩:=r;rfl
 | flt _=>obtain⟨t,rfl⟩:=r;rfl
 | ref _=>cases r;rfl
 | ty _=>cases r;rfl
theorem Bm.inj{x y:V}{u:fF}(r:Bm x u)(q:Bm y u):x=y:=br.inj (r.abs.symm.trans q.abs)
theorem A5.inj:∀{xs ys:List V} {us:List fF},A5 xs us→A5 ys us→xs=ys
 | _,_,_,.nil,.nil=>rfl
 | _,_,_,.cons r t,.cons r' t'=>by rw[r.inj r',A5.inj t t']
section
variable{X:Cx}{pins:List (fG×Obj)}{σ:St}{H:Hp}{s:fJ}{a:fG}{xs ys:List V}
theorem AD.of{K:aj}(h:H a=some (.lst xs)):AD K H a xs:=.inl (.inl h)
theorem A2.of{K:aj}(h:H a=some (.tup xs)):A2 K H a xs:=.inl (.inl h)
theorem AR.list(I:AR X pins σ H s)(h:AD X.K H a xs):∃its:List fF,A5 xs its∧PlainL s.heap a its.toArray∧xs.length≤fL:=by
 rcases h with h|⟨o,its,n,hk,hc,hd,hs,hz,r⟩
 ·obtain⟨z,its,n,r,e⟩:=h.ok I.hok
  exact⟨its,r,⟨_,n,e,rfl,rfl,rfl⟩,z⟩
 ·refine⟨its.toList,r,⟨o,n,I.kIn a o hk,hc,hd,by simpa using hs⟩,?_⟩
  have e:=r.length
  simp only[eE]at e
  omega
theorem AR.tuple(I:AR X pins σ H s)(h:A2 X.K H a xs):∃its:List fF,A5 xs its∧IsTup s.heap a its.toArray∧xs.length≤fL:=by
 rcases h with h|⟨o,its,n,hk,hc,hs,hz,r⟩
 ·obtain⟨z,its,r,p⟩:=h.ok I.hok
  exact⟨its,r,p,z⟩
 ·refine⟨its.toList,r,⟨o,I.kIn a o hk,hc,n,by simpa using hs⟩,?_⟩
  have e:=r.length
  simp only[eE]at e
  omega
theorem AR.list_inj(I:AR X pins σ H s)(h:AD X.K H a xs)(h':AD X.K H a ys):xs=ys:=by
 obtain⟨its,r,⟨o,n,e,_,_,d⟩,_⟩:=I.list h
 obtain⟨its',r',⟨o',n',e',_,_,d'⟩,_⟩:=I.list h'
 rw[e]at e';cases e'
 rw[d]at d'
 injection d' with d1 _
 have:its=its':=by simpa using congrArg dn d1
 subst this
 exact r.inj r'
theorem AR.tuple_inj(I:AR X pins σ H s)(h:A2 X.K H a xs)(h':A2 X.K H a ys):xs=ys:=by
 obtain⟨its,r,⟨o,e,_,n,d⟩,_⟩:=I.tuple h
 obtain⟨its',r',⟨o',e',_,n',d'⟩,_⟩:=I.tuple h'
 rw[e]at e';cases e'
 rw[d]at d'
 injection d' with d1 _
 have:its=its':=by simpa using congrArg dn d1
 subst this
 exact r.inj r'
end
abbrev Cx.wish(X:Cx)(E:fF→fJ→Prop):Cx:={ X with xe:=E }
abbrev Cx.nox(X:Cx):Cx:=X.wish fun _ _=>False
theorem Cx.Ok.wish{X:Cx}(ok:X.Ok)(E:fF→fJ→Prop):(X.wish E).Ok:=
 ⟨ok.mod,ok.kind,ok.glob,ok.blt,ok.above,ok.inj,ok.has,ok.cab,ok.hd,ok.frames,ok.stk,ok.exf,ok.bs,ok.bsz,ok.noex,ok.exfs,ok.funs,ok.frf⟩
theorem Cx.Ok.unwish{X:Cx}{E:fF→fJ→Prop}(ok:(X.wish E).Ok):X.Ok:=
 ⟨ok.mod,ok.kind,ok.glob,ok.blt,ok.above,ok.inj,ok.has,ok.cab,ok.hd,ok.frames,ok.stk,ok.exf,ok.bs,ok.bsz,ok.noex,ok.exfs,ok.funs,ok.frf⟩
section
variable{X:Cx}{pins:List (fG×Obj)}{σ:St}{H:Hp}{s:fJ}{E:fF→fJ→Prop}
theorem AR.wish(I:AR X pins σ H s)(E:fF→fJ→Prop):AR (X.wish E) pins σ H s:=⟨I.ok.wish E,I.os,I.bare,I.base,I.loc,I.cell,I.free,I.freeC,I.pin,I.hok,I.len⟩
theorem AR.unwish(I:AR (X.wish E) pins σ H s):AR X pins σ H s:=⟨I.ok.unwish,I.os,I.bare,I.base,I.loc,I.cell,I.free,I.freeC,I.pin,I.hok,I.len⟩
theorem SP.unwish{D:Kc}{f:Flow}{s':fJ}(h:SP (X.wish E) pins D f s'):SP X pins D f s':=by
 cases f with
 | next=>obtain⟨σ',H',I,q⟩:=h;exact⟨σ',H',I.unwish,q⟩
 | brk=>obtain⟨σ',H',I,q⟩:=h;exact⟨σ',H',I.unwish,q⟩
 | cont=>obtain⟨σ',H',I,q⟩:=h;exact⟨σ',H',I.unwish,q⟩
 | ret u=>obtain⟨v,σ',H',I,r,q⟩:=h;exact⟨v,σ',H',I.unwish,r,q⟩
theorem M2.nox{st:List Stmt}{t:TS}(h:M2 X.nox st t):M2 X st t:=fun pins s σ H D I hw=>
 fT (h pins s σ H D (I.wish _) hw) (fun _ _ q=>q.unwish) fun _ _ z=>False.elim z
end
section
variable{X:Cx}{st:Stmt}{EM:List Stmt}{t u:TS}{e:Expr}{te:TE}{pos:Pos}
def tNext:TS:=fun D σ H=>D.nx σ H
def tSeq(t u:TS):TS:=fun D σ H=>t { D with nx:=u D } σ H
theorem AJ:M2 X [] tNext:=fun _ _ σ H _ I h=>gh ⟨σ,H,I,h⟩
theorem Ac(h1:PS X st t)(h2:M2 X EM u):M2 X (st::EM) (tSeq t u):=by
 intro pins s σ H D I h
 refine gg (B0 (h1 pins s σ H { D with nx:=u D } I h) fun f s1 q=>?_)
 cases f with
 | next=>
  obtain⟨σ',H',I',q⟩:=q
  exact h2 pins s1 σ' H' D I' q
 | ret v=>exact q
 | brk=>exact q
 | cont=>exact q
theorem Ak(h1:PS X st t):M2 X [st] t:=by
 intro pins s σ H D I h
 refine gg (B0 (h1 pins s σ H D I h) fun f s1 q=>?_)
 cases f with
 | next=>exact gh q
 | ret v=>exact q
 | brk=>exact q
 | cont=>exact q
theorem AR.quiet{pins:List (fG×Obj)}{σ:St}{H:Hp}{s:fJ}(I:AR X pins σ H s):interactive X.env=false:=by simp[interactive,I.ok.kind]
def NV(te:TE):TS:=fun D σ H=>te σ H fun _ H1=>D.nx σ H1
theorem AT(he:PE X e te)(hs:swapsWith e none pos.line X.env=pure false:=by rfl):PS X (.Expr e pos) (NV te):=by
 intro pins s σ H D I h
 exact wpAny_Expr_any (B0 (he pins s σ H _ I h) fun v s1 ⟨x,H1,I1,r1,q1⟩=>⟨σ,H1,I1,q1⟩) I.quiet hs
def tRet(te:TE):TS:=fun D σ H=>te σ H D.rt
theorem AK(he:PE X e te):PS X (.Return (some e) pos) (tRet te):=by
 intro pins s σ H D I h
 exact wpAny_Return_some (B0 (he pins s σ H _ I h) fun v s1 ⟨x,H1,I1,r1,q1⟩=>⟨x,σ,H1,I1,r1,q1⟩)
def tRetN:TS:=fun D _ H=>D.rt .non H
theorem RO:PS X (.Return none pos) tRetN:=fun _ _ σ H _ I h=>wpAny_Return_none ⟨.non,σ,H,I,rfl,h⟩
def tIfS(c:TT)(t u:TS):TS:=fun D σ H=>c σ H fun b H1=>if b=true then t D σ H1 else u D σ H1
theorem A0{c:Expr}{a b:List Stmt}{tc:TT}(hc:PT X c tc)(ha:M2 X a t)(hb:M2 X b u):PS X (.If c a b pos) (tIfS tc t u):=by
 intro pins s σ H D I h
 refine wpAny_If (B0 (hc pins s σ H _ I h) fun d s1 ⟨H1,I1,q1⟩=>?_)
 cases d with
 | true=>exact ha pins s1 σ H1 D I1 q1
 | false=>exact hb pins s1 σ H1 D I1 q1
def tNever:TS:=fun _ _ _=>False
theorem AZ{sts:List Stmt}:M2 X sts tNever:=fun _ _ _ _ _ _ h=>h.elim
end
abbrev TG:=V→St→Hp→(St→Hp→Prop)→Prop
abbrev TGs:=List V→St→Hp→(St→Hp→Prop)→Prop
def PG(X:Cx)(target:Expr)(t:TG):Prop:=
 ∀(pins:List (fG×Obj)) (s:fJ) (σ:St) (H:Hp) (v:V) (u:fF) (Q:St→Hp→Prop),AR X pins σ H s→Bm v u→t v σ H Q →
  wpAny (model X.prog X.w) X.A (assign target X.env u) (fun _ s'=>∃σ' H',AR X pins σ' H' s'∧Q σ' H') X.xe s
def PGs(X:Cx)(ts:List Expr)(t:TGs):Prop:=
 ∀(pins:List (fG×Obj)) (s:fJ) (σ:St) (H:Hp) (vs:List V) (us:List fF) (Q:St→Hp→Prop),AR X pins σ H s→A5 vs us→t vs σ H Q →
  wpAny (model X.prog X.w) X.A (assignInOrder ((assignEach ts X.env).map (·.2)) us) (fun _ s'=>∃σ' H',AR X pins σ' H' s'∧Q σ' H') X.xe s
abbrev TSet:=V→V→V→Hp→(Hp→Prop)→Prop
def PSet(X:Cx)(t:TSet):Prop:=
 ∀(pins:List (fG×Obj)) (s:fJ) (σ:St) (H:Hp) (o i v:V) (ov iv u:fF) (Q:Hp→Prop),AR X pins σ H s→Bm o ov→Bm i iv→Bm v u→t o i v H Q →
  wpAny (model X.prog X.w) X.A (setItem ov iv u) (fun _ s'=>∃H',AR X pins σ H' s'∧Q H') X.xe s
section
variable{X:Cx}{pos:Pos}
def Jw(i:Nat):TG:=fun v σ H Q=>Q (σ.set i (some v)) H
theorem Az{i:Nat}{x:Str}(hN:X.N.Nodup)(hi:X.N[i]?=some x)(hx:Loc X.env.scope x)(hf:X.fn x=true∨X.env.scope.names.lookup x=some .local:=by first|exact .inl rfl|exact .inr rfl|assumption):PG X (.Name x pos) (Jw i):=by
 intro pins s σ H v u Q I r h
 exact wpAny_assign_Name (L3 I hN hi hx r (fun s' I'=>⟨_,H,I',h⟩) hf)
def gNil:TGs:=fun vs σ H Q=>vs=[]∧Q σ H
def gCons(t:TG)(u:TGs):TGs:=fun vs σ H Q=>∃v r,vs=v::r∧t v σ H fun σ' H'=>u r σ' H' Q
theorem Il:PGs X [] gNil:=by
 intro pins s σ H vs us Q I r h
 obtain⟨e,h⟩:=h
 subst e
 cases r
 exact assignInOrder_nil ⟨σ,H,I,h⟩
theorem C1{e:Expr}{es:List Expr}{t:TG}{u:TGs}(h1:PG X e t)(h2:PGs X es u)
  (hs:(assignEach (e::es) X.env).map (·.2)=assign e X.env::(assignEach es X.env).map (·.2):=by rfl):PGs X (e::es) (gCons t u):=by
 intro pins s σ H vs us Q I r h
 obtain⟨v,vr,e1,h⟩:=h
 subst e1
 cases r with
 | cons r rr=>
  rw[hs]
  refine assignInOrder_cons (B0 (h1 pins s σ H _ _ _ I r h) fun _ s1 ⟨σ1,H1,I1,q1⟩=>?_)
  exact h2 pins s1 σ1 H1 _ _ Q I1 rr q1
def gTup(K:aj)(n:Nat)(t:TGs):TG:=fun v σ H Q=>∃a xs,v=.ref a∧A2 K H a xs∧xs.length=n∧t xs σ H Q
theorem Lh{es:List Expr}{k:Nat}{t:TGs}{n:Nat}(hc:X.calm=true)(h:PGs X es t)
  (hn:(assignEach es X.env).length=n:=by rfl) (hst:(assignEach es X.env).findIdx? (·.1)=none:=by rfl):PG X (.Tuple es k pos) (gTup X.K n t):=by
 intro pins s σ H v u Q I r hw
 obtain⟨a,xs,e1,hq,hl,hw⟩:=hw
 subst e1
 cases r
 obtain⟨its,rv,ht,hz⟩:=I.tuple hq
 refine assign_Tuple_tuple (I.ok.hd hc) ht (by simp[hn,← hl,rv.length]) hst fun h' hx=>?_
 have I1:AR X pins σ H { s with heap:=h' }:=I.kept (t':=s.toks) fun b o e=>hx b o (ba (Heap.lt_size e)) e
 exact h pins _ σ H xs _ Q I1 (by simpa using rv) hw
def gSub(to ti:TE)(t:TSet):TG:=fun v σ H Q=>to σ H fun o H1=>ti σ H1 fun i H2=>t o i v H2 fun H3=>Q σ H3
theorem Li{o i:Expr}{to ti:TE}{t:TSet}(ho:PE X o to)(hi:PE X i ti)(hs:PSet X t)
  (ha:∀v,assign (.Subscript o i pos) X.env v=(do
   let ov ← holding [v] (eval o X.env)
   let iv ← holding [v,ov] (eval i X.env)
   standAt pos
   holding [v,ov,iv] (setItem ov iv v)
   release [v,ov,iv] []):=by intro _;rfl):PG X (.Subscript o i pos) (gSub to ti t):=by
 intro pins s σ H v u Q I r h
 rw[ha]
 refine fH (fU (B0 (ho pins s σ H _ I h) fun ov s1 ⟨x,H1,I1,r1,q1⟩=>?_))
 refine fH (fU (B0 (hi pins s1 σ H1 _ I1 q1) fun iv s2 ⟨y,H2,I2,r2,q2⟩=>?_))
 refine fH (gc (fH (fU (B0 (hs pins s2 σ H2 x y v ov iv u _ I2 r1 r2 r q2) fun _ s3 ⟨H3,I3,q3⟩=>?_))))
 exact wpAny_release ⟨σ,H3,I3,q3⟩
def Rz(te:TE)(g:TG):TS:=fun D σ H=>te σ H fun x H1=>g x σ H1 D.nx
theorem Lg{tg e:Expr}{te:TE}{g:TG}(he:PE X e te)(hg:PG X tg g)(hs:swapsWithSole [tg] e pos.line X.env=pure false:=by rfl)(hw:swappedStores [tg] e X.env=pure none:=by rfl)
  (h1:(assignEach [tg] X.env).map (·.2)=[assign tg X.env]:=by rfl):PS X (.Assign [tg] e pos) (Rz te g):=by
 intro pins s σ H D I h
 refine wpAny_Assign_stores (B0 (he pins s σ H _ I h) fun v s1 ⟨x,H1,I1,r1,q1⟩=>?_) hs hw
 rw[h1]
 exact B0 (hg pins s1 σ H1 x v _ I1 r1 q1) fun _ s2 q=>q
theorem Ar{i:Nat}{x:Str}{e:Expr}{te:TE}{pos':Pos}(hN:X.N.Nodup)(hi:X.N[i]?=some x)(hx:Loc X.env.scope x)(he:PE X e te)(hs:swapsWith e (some (.Name x pos')) pos.line X.env=pure false:=by rfl)(hf:X.fn x=true∨X.env.scope.names.lookup x=some .local:=by first|exact .inl rfl|exact .inr rfl|assumption) :
  PS X (.Assign [.Name x pos'] e pos) (Rz te (Jw i)):=by
 intro pins s σ H D I h
 refine wpAny_Assign_Name (B0 (he pins s σ H _ I h) fun v s1 ⟨y,H1,I1,r1,q1⟩=>?_) hs
 exact L3 I1 hN hi hx r1 (fun s2 I2=>⟨_,H1,I2,q1⟩) hf
end
section
variable{X:Cx}{pos:Pos}
def tWhile(c:TT)(tb:TS):TS:=fun D σ H=>∃W:Nat→St→Hp→Prop,(∃m,W m σ H)∧∀m σ H,W m σ H →
 c σ H fun b H1=>if b=true then ∃N:St→Hp→Prop,(∀σ' H',N σ' H'→∃m',m'<m∧W m' σ' H')∧tb { D with nx:=N,ct:=N,bk:=D.nx } σ H1 else D.nx σ H1
theorem Ej{c:Expr}{body:List Stmt}{tc:TT}{tb:TS}(hp:fR (model X.prog X.w) X.A X.env X.xe)(hc:PT X c tc)(hb:M2 X body tb):PS X (.While c body [] pos) (tWhile tc tb):=by
 intro pins s σ H D I h
 obtain⟨W,⟨m0,w0⟩,turn⟩:=h
 refine wpAny_While (codeAny_whileLoop (fun n s'=>∃σ' H',AR X pins σ' H' s'∧W n σ' H') ?_ m0 ⟨σ,H,I,w0⟩)
 rintro n s1 ⟨σ1,H1,I1,w1⟩
 refine gd hp (B0 (hc pins s1 σ1 H1 _ I1 (turn n σ1 H1 w1)) fun b s2 ⟨H2,I2,q2⟩=>?_)
 cases b with
 | true=>
  obtain⟨N,hN,q2⟩:=q2
  rw[if_pos rfl]
  refine gd hp (B0 (hb pins s2 σ1 H2 _ I2 q2) fun f s3 q3=>?_)
  cases f with
  | next=>
   obtain⟨σ3,H3,I3,n3⟩:=q3
   obtain⟨m',hm,w3⟩:=hN σ3 H3 n3
   exact⟨m',hm,σ3,H3,I3,w3⟩
  | cont=>
   obtain⟨σ3,H3,I3,n3⟩:=q3
   obtain⟨m',hm,w3⟩:=hN σ3 H3 n3
   exact⟨m',hm,σ3,H3,I3,w3⟩
  | brk=>exact q3
  | ret v=>exact q3
 | false=>
  rw[if_neg aM]
  exact gh ⟨σ1,H2,I2,q2⟩
end
structure It where
 go:Nat→Hp→Prop
 yld:Nat→Hp→V→Hp→Prop
 stop:Nat→Hp→Prop
def HE(X:Cx)(pins:List (fG×Obj))(H:Hp)(b:fG):Prop:=
 H b=none∧b≠X.env.locals∧b∉X.fs∧(b∈X.ex∨X.s₀.heap.objs.size≤b)∧(∀x c,X.env.cells.lookup x=some c→c≠b)∧∀p∈X.pn++pins,p.1≠b
theorem AR.fpOk{X:Cx}{pins:List (fG×Obj)}{σ:St}{H H':Hp}{s:fJ}{b:fG}(I:AR X pins σ H s)(hb:s.heap.objs.size≤b)(hn:H' b=none):HE X pins H' b:=by
 refine⟨hn,dD (aZ I.lt hb),I.nofs hb,.inr (aU I.sz hb),fun x c e z=>?_,fun p hp z=>?_⟩
 ·obtain⟨v,q⟩:=I.cell x c e
  exact absurd (aZ q.lt (by rw[z];exact hb)) (cz _)
 ·exact absurd (aZ (Heap.lt_size (I.pin p hp).1) (by rw[z];exact hb)) (cz _)
structure PR(P:fP)(w:fS)(K:aj)(tg:Expr)(J:It)(fp:List fG)(it:fG)(tn:Nat→Heap→Prop):Prop where
 mem:it∈fp
 obj:∀i h,tn i h→∀b∈fp,∃o,h.get? b=some o∧∀v,o.data≠.cell v
 keep:∀i h h',tn i h→(∀b∈fp,∀o,h.get? b=some o→h'.get? b=some o)→tn i h'
 item:∀(X:Cx),X.prog=P→X.w=w→X.K=K→X.calm=true→∀(i:Nat) (pins:List (fG×Obj)) (s:fJ) (σ:St) (H:Hp) (E:fF→fJ→Prop),AR X pins σ H s→(∀b∈fp,HE X pins H b)→tn i s.heap→J.go i H →
  wpAny (model P w) X.A (pyNext (.ref it)) (fun r s1=>∃u,r=some u ∧
   wpAny (model P w) X.A (letOwnedTupleGo tg (.ref it) u) (fun _ s2=>∃x H',AR X pins σ H' s2∧Bm x u∧J.yld i H x H'∧tn (i+1) s2.heap∧∀b∈fp,H' b=none) E s1) E s
 done:∀(X:Cx),X.prog=P→X.w=w→X.K=K→X.calm=true→∀(i:Nat) (pins:List (fG×Obj)) (s:fJ) (σ:St) (H:Hp) (E:fF→fJ→Prop),AR X pins σ H s→(∀b∈fp,HE X pins H b)→tn i s.heap→J.stop i H →
  wpAny (model P w) X.A (pyNext (.ref it)) (fun r s1=>r=none∧AR X pins σ H s1) E s
 self:∀(A:fQ) (i:Nat) (s:fJ) (Q:fF→fJ→Prop) (E:fF→fJ→Prop),tn i s.heap→Q (.ref it) s→wpAny (model P w) A (pyIter (.ref it)) Q E s
abbrev TI:=St→Hp→(It→Hp→Prop)→Prop
def PIE(X:Cx)(pins:List (fG×Obj))(σ:St)(tg:Expr)(R:It→Hp→Prop)(itv:fF)(s2:fJ):Prop:=
 ∃(it:fG) (fp:List fG) (tn:Nat→Heap→Prop) (J:It) (H':Hp),itv=.ref it∧AR X pins σ H' s2∧PR X.prog X.w X.K tg J fp it tn∧tn 0 s2.heap∧(∀b∈fp,HE X pins H' b)∧R J H'
def PI(X:Cx)(tg iter:Expr)(wi:TI):Prop:=
 ∀(pins:List (fG×Obj)) (s:fJ) (σ:St) (H:Hp) (R:It→Hp→Prop),AR X pins σ H s→wi σ H R →
  wpAny (model X.prog X.w) X.A (eval iter X.env) (fun v s1=>wpAny (model X.prog X.w) X.A (pyIter v) (PIE X pins σ tg R) X.xe s1) X.xe s
theorem QZ{M:Model}{A:fQ}{E:fF→fJ→Prop}{s:fJ}{tg:Expr}{it:fG}{u:fF}{o:Obj}{n:String}{vs:Array fF}{Q:Unit→fJ→Prop}(ho:s.heap.get? it=some o)(hc:o.cls=.type n)(hd:o.data=.fields vs)
  (hn:["enumerate", "zip", "dict_itemiterator", "dict_reverseitemiterator", "odict_iterator", "itertools.zip_longest", "itertools.pairwise"].contains n=false) (hQ:Q () s):wpAny M A (letOwnedTupleGo tg (.ref it) u) Q E s:=by
 unfold letOwnedTupleGo
 cases tg<;>first
  | exact fM hQ
  | (cases u<;>first
    | exact fM hQ
    | (
      refine fH (wpAny_load ho ?_)
      rw[hc,hd]
      show wpAny M A (if(["enumerate", "zip", "dict_itemiterator", "dict_reverseitemiterator", "odict_iterator", "itertools.zip_longest", "itertools.pairwise"].contains n&&vs[0]?==some (rawInt _))=true then _ else _) Q E s
      rw[if_neg (by intro h;rw[hn,bR]at h;cases h)]
      exact fM hQ))
def Itl(K:aj)(a:fG):It:=
 ⟨fun i H=>∃xs x,AD K H a xs∧xs[i]?=some x,fun i H x H'=>H'=H∧∀xs,AD K H a xs→xs[i]?=some x,fun i H=>∃xs,AD K H a xs∧xs.length≤i⟩
def Itt(K:aj)(a:fG):It:=
 ⟨fun i H=>∃xs x,A2 K H a xs∧xs[i]?=some x,fun i H x H'=>H'=H∧∀xs,A2 K H a xs→xs[i]?=some x,fun i H=>∃xs,A2 K H a xs∧xs.length≤i⟩
def Rv(lo:Int)(n:Nat):It:=⟨fun i _=>i<n,fun i H x H'=>H'=H∧x=.int (lo+i),fun i _=>n≤i⟩
theorem O0{P:fP}{w:fS}{K:aj}{tg:Expr}(a it:fG):PR P w K tg (Itl K a) [it] it (fun i h=>h.IsListIter it a i) where
 mem:=by simp
 obj:=fun i h st b hb=>by
  have e:b=it:=by simpa using hb
  subst e
  obtain⟨o,e,c,d⟩:=st
  exact⟨o,e,fun v z=>by rw[d]at z;cases z⟩
 keep:=fun i h h' st k=>st.at fun o e=>k it (by simp) o e
 item:=by
  intro X hP hw hK hc i pins s σ H E I hf st hg
  subst hP hw hK
  obtain⟨xs,x,hq,hx⟩:=hg
  obtain⟨its,rv,p,hz⟩:=I.list hq
  obtain⟨u,hu,ru⟩:=rv.get hx
  obtain⟨f0,f1,f2,f3,f4,f5⟩:=hf it (by simp)
  refine wpAny_pyNext_list_item st p.isList (x:=u) (by simpa using hu) fun h' st' sb=>?_
  have I1:AR X pins σ H { s with heap:=h' }:=I.turned (t':=s.toks) (fun b o hb e=>(sb.2 b hb).trans e) f0 f1 f3 f4 f5
  obtain⟨o,e,c,d⟩:=id st'
  exact⟨u,rfl,QZ (s:={ s with heap:=h' }) e c d (by decide) ⟨x,H,I1,ru,⟨rfl,fun ys hy=>by rw[I.list_inj hy hq];exact hx⟩,st',fun b hb=>(hf b hb).1⟩⟩
 done:=by
  intro X hP hw hK hc i pins s σ H E I hf st hg
  subst hP hw hK
  obtain⟨xs,hq,hx⟩:=hg
  obtain⟨its,rv,p,hz⟩:=I.list hq
  obtain⟨f0,f1,f2,f3,f4,f5⟩:=hf it (by simp)
  have hl:=rv.length
  exact wpAny_pyNext_list_end (I.ok.hd hc) st p.isList (by simp;omega) fun h' eb=>⟨rfl,I.turned (t':=s.toks) (fun b o hb e=>eb b o hb e) f0 f1 f3 f4 f5⟩
 self:=fun _ _ _ _ _ st h=>wpAny_pyIter_listiter st h
theorem M5{P:fP}{w:fS}{K:aj}{tg:Expr}(a it:fG):PR P w K tg (Itt K a) [it] it (fun i h=>h.IsTupleIter it a i) where
 mem:=by simp
 obj:=fun i h st b hb=>by
  have e:b=it:=by simpa using hb
  subst e
  obtain⟨o,e,c,d⟩:=st
  exact⟨o,e,fun v z=>by rw[d]at z;cases z⟩
 keep:=fun i h h' st k=>st.at fun o e=>k it (by simp) o e
 item:=by
  intro X hP hw hK hc i pins s σ H E I hf st hg
  subst hP hw hK
  obtain⟨xs,x,hq,hx⟩:=hg
  obtain⟨its,rv,p,hz⟩:=I.tuple hq
  obtain⟨u,hu,ru⟩:=rv.get hx
  obtain⟨f0,f1,f2,f3,f4,f5⟩:=hf it (by simp)
  refine wpAny_pyNext_tuple_item st (show s.heap.IsTuple a its.toArray from p) (x:=u) (by simpa using hu) fun h' st' sb=>?_
  have I1:AR X pins σ H { s with heap:=h' }:=I.turned (t':=s.toks) (fun b o hb e=>(sb.2 b hb).trans e) f0 f1 f3 f4 f5
  obtain⟨o,e,c,d⟩:=id st'
  exact⟨u,rfl,QZ (s:={ s with heap:=h' }) e c d (by decide) ⟨x,H,I1,ru,⟨rfl,fun ys hy=>by rw[I.tuple_inj hy hq];exact hx⟩,st',fun b hb=>(hf b hb).1⟩⟩
 done:=by
  intro X hP hw hK hc i pins s σ H E I hf st hg
  subst hP hw hK
  obtain⟨xs,hq,hx⟩:=hg
  obtain⟨its,rv,p,hz⟩:=I.tuple hq
  obtain⟨f0,f1,f2,f3,f4,f5⟩:=hf it (by simp)
  have hl:=rv.length
  exact wpAny_pyNext_tuple_end (I.ok.hd hc) st (show s.heap.IsTuple a its.toArray from p) (by simp;omega) fun h' eb=>⟨rfl,I.turned (t':=s.toks) (fun b o hb e=>eb b o hb e) f0 f1 f3 f4 f5⟩
 self:=fun _ _ _ _ _ st h=>wpAny_pyIter_tupleiter st h
theorem M6{P:fP}{w:fS}{K:aj}{tg:Expr}(it:fG)(lo:Int)(n:Nat):PR P w K tg (Rv lo n) [it] it (fun i h=>IsRangeIter h it (lo+(i:Nat)*1) ((n:Int) - (i:Nat)) 1) where
 mem:=by simp
 obj:=fun i h st b hb=>by
  have e:b=it:=by simpa using hb
  subst e
  exact⟨_,st,fun v z=>by
   have z':Data.fields _=Data.cell v:=z
   cases z'⟩
 keep:=fun i h h' st k=>k it (by simp) _ st
 item:=by
  intro X hP hw hK hc i pins s σ H E I hf st hg
  subst hP hw hK
  obtain⟨f0,f1,f2,f3,f4,f5⟩:=hf it (by simp)
  have W:=Walks.range (prog:=X.prog) (w:=X.w) (I.ok.hd hc) it lo 1 n
  refine W.item i s _ _ hg st fun v h' tk hv st' kk=>?_
  obtain⟨t,rfl⟩:=hv
  have I1:AR X pins σ H { s with heap:=h',toks:=tk }:=I.turned (fun b o hb e=>kk b o (by simpa using hb) e) f0 f1 f3 f4 f5
  refine⟨_,rfl,QZ (s:={ s with heap:=h',toks:=tk }) (n:="range_iterator") st' rfl rfl (by decide) ⟨.int (lo+i),H,I1,⟨t,?_⟩,⟨rfl,rfl⟩,st',fun b hb=>(hf b hb).1⟩⟩
  rw[Int.mul_one]
 done:=by
  intro X hP hw hK hc i pins s σ H E I hf st hg
  subst hP hw hK
  obtain⟨f0,f1,f2,f3,f4,f5⟩:=hf it (by simp)
  exact wpAny_pyNext_range_end (I.ok.hd hc) st (by have:n≤i:=hg;omega) fun h' eb=>⟨rfl,I.turned (t':=s.toks) (fun b o hb e=>eb b o hb e) f0 f1 f3 f4 f5⟩
 self:=fun _ _ _ _ _ st h=>wpAny_pyIter_rangeiter st h
end L2
namespace L2
open PySem PySem.Spec PyProof.Rows
section
variable{X:Cx}{tg:Expr}
def iList(K:aj)(tl:TE):TI:=fun σ H R=>tl σ H fun x H1=>∃a,x=.ref a∧(∃xs,AD K H1 a xs)∧R (Itl K a) H1
def iTup(K:aj)(tl:TE):TI:=fun σ H R=>tl σ H fun x H1=>∃a,x=.ref a∧(∃xs,A2 K H1 a xs)∧R (Itt K a) H1
theorem Bi{l:Expr}{tl:TE}(hl:PE X l tl):PI X tg l (iList X.K tl):=by
 intro pins s σ H R I h
 refine B0 (hl pins s σ H _ I h) fun v s1 ⟨x,H1,I1,r1,q1⟩=>?_
 obtain⟨a,e,⟨xs,hq⟩,q⟩:=q1
 subst e
 cases r1
 obtain⟨its,rv,p,hz⟩:=I1.list hq
 refine wpAny_pyIter_list p.isList ?_
 refine⟨s1.heap.objs.size,[s1.heap.objs.size],_,_,H1,rfl,I1.kept (t':=s1.toks) fun b o e=>Heap.get?_push_of_some _ e,O0 a _,⟨_,Heap.get?_push_size _ rfl,rfl,rfl⟩,fun b hb=>?_,q⟩
 have e:b=s1.heap.objs.size:=by simpa using hb
 subst e
 exact I1.fpOk (aE _) (I1.hok.fresh (aE _))
theorem Ql{l:Expr}{tl:TE}(hl:PE X l tl):PI X tg l (iTup X.K tl):=by
 intro pins s σ H R I h
 refine B0 (hl pins s σ H _ I h) fun v s1 ⟨x,H1,I1,r1,q1⟩=>?_
 obtain⟨a,e,⟨xs,hq⟩,q⟩:=q1
 subst e
 cases r1
 obtain⟨its,rv,p,hz⟩:=I1.tuple hq
 refine wpAny_pyIter_tuple (show s1.heap.IsTuple a its.toArray from p) ?_
 refine⟨s1.heap.objs.size,[s1.heap.objs.size],_,_,H1,rfl,I1.kept (t':=s1.toks) fun b o e=>Heap.get?_push_of_some _ e,M5 a _,⟨_,Heap.get?_push_size _ rfl,rfl,rfl⟩,fun b hb=>?_,q⟩
 have e:b=s1.heap.objs.size:=by simpa using hb
 subst e
 exact I1.fpOk (aE _) (I1.hok.fresh (aE _))
theorem Mh{pins:List (fG×Obj)}{σ:St}{H:Hp}{s:fJ}{R:It→Hp→Prop}{E:fF→fJ→Prop}{lo hi:Int}{t u v:Tok}{tk:Nat}(I:AR X pins σ H s)(h1:-(2 ^ 62)≤lo)(h2:lo<2 ^ 62)(h3:-(2 ^ 62)≤hi)(h4:hi<2 ^ 62)
  (q:R (Rv lo (hi - lo).toNat) H):wpAny (model X.prog X.w) X.A (pyIter (.ref s.heap.objs.size)) (PIE X pins σ tg R) E { s with heap:=s.heap.push { cls:=.type "range",data:=.fields #[.int lo t,.int hi u,.int 1 v] },toks:=tk }:=by
 refine wpAny_pyIter_range (IsRange.new ..) (small_one h1 h2 h3 h4) ?_
 have I1:AR X pins σ H { s with heap:=s.heap.push { cls:=.type "range",data:=.fields #[.int lo t,.int hi u,.int 1 v] },toks:=tk }:=I.kept fun b o e=>Heap.get?_push_of_some _ e
 refine⟨(s.heap.push { cls:=.type "range",data:=.fields #[.int lo t,.int hi u,.int 1 v] }).objs.size,[(s.heap.push { cls:=.type "range",data:=.fields #[.int lo t,.int hi u,.int 1 v] }).objs.size],_,_,H,rfl,
  I1.kept (t':=tk) fun b o e=>Heap.get?_push_of_some _ e,M6 _ lo (hi - lo).toNat,?_,fun b hb=>?_,q⟩
 ·have e1:lo+((0:Nat):Int)*1=lo:=by simp
  have e2:(((hi - lo).toNat:Nat):Int) - ((0:Nat):Int)=Builtin.Range.rangeSize lo hi 1:=by rw[rangeSize_one];split<;>omega
  show IsRangeIter _ _ (lo+((0:Nat):Int)*1) ((((hi - lo).toNat:Nat):Int) - ((0:Nat):Int)) 1
  rw[e1,e2]
  exact Heap.get?_push_size _ rfl
 ·have e:b=(s.heap.push { cls:=.type "range",data:=.fields #[.int lo t,.int hi u,.int 1 v] }).objs.size:=by simpa using hb
  subst e
  exact I1.fpOk (aE _) (I1.hok.fresh (aE _))
def iRng1(ta:TA):TI:=fun σ H R=>ta σ H fun vs H1=>∃j:Int,vs=[.int j]∧-(2 ^ 62)≤j∧j<2 ^ 62∧R (Rv 0 j.toNat) H1
def iRng2(ta:TA):TI:=fun σ H R=>ta σ H fun vs H1=>∃i j:Int,vs=[.int i,.int j]∧(-(2 ^ 62)≤i∧i<2 ^ 62∧-(2 ^ 62)≤j∧j<2 ^ 62)∧R (Rv i (j - i).toNat) H1
theorem AV{a:Expr}{ta:TA}{p pos:Pos}(hg:Gl X "range")(hm:X.mg "range" = none)(ha:PA X [a] ta)(hs:gj [a] X.env=[(false,eval a X.env)]:=by rfl):PI X tg (.Call (.Name "range" p) [a] [] pos) (iRng1 ta):=by
 intro pins s σ H R I h
 refine Call_ (E6 I hg hm boot_range (PyProof.Rows.callWith_type1 (B0 (ha pos pins s σ H _ I h) fun us s1 ⟨vs,H1,I1,r1,q1⟩=>?_) hs rfl))
 obtain⟨j,e,q1,q2,q⟩:=q1
 subst e
 cases r1 with
 | cons r rr=>
  cases rr
  obtain⟨t,rfl⟩:=r
  exact call_range_1 (Mh I1 (by omega) (by omega) q1 q2 (by simpa using q))
theorem Kx{a b:Expr}{ta:TA}{p pos:Pos}(hg:Gl X "range")(hm:X.mg "range" = none)(ha:PA X [a,b] ta)(hs:gj [a,b] X.env=[(false,eval a X.env),(false,eval b X.env)]:=by rfl)(hs2:gj [b] X.env=[(false,eval b X.env)]:=by rfl) :
  PI X tg (.Call (.Name "range" p) [a,b] [] pos) (iRng2 ta):=by
 intro pins s σ H R I h
 refine Call_ (E6 I hg hm boot_range (PyProof.Rows.callWith_type1 (B0 (ha pos pins s σ H _ I h) fun us s1 ⟨vs,H1,I1,r1,q1⟩=>?_) (by rw[hs,hs2]) (by rw[hs2];rfl)))
 obtain⟨i,j,e,⟨q1,q2,q3,q4⟩,q⟩:=q1
 subst e
 cases r1 with
 | cons r rr=>
  cases rr with
  | cons r' rr=>
   cases rr
   obtain⟨t,rfl⟩:=r
   obtain⟨t',rfl⟩:=r'
   exact call_range_2 (Mh I1 q1 q2 q3 q4 q)
def tFor(wi:TI)(g:TG)(tb:TS):TS:=fun D σ H=>wi σ H fun J H1=>∃W:Nat→Nat→St→Hp→Prop,(∃m,W 0 m σ H1)∧∀i m σ H,W i m σ H →
 (J.stop i H∧D.nx σ H)∨(J.go i H∧∃N:St→Hp→Prop,(∀σ' H',N σ' H'→∃m',m'<m∧W (i+1) m' σ' H')∧∀x H',J.yld i H x H'→g x σ H' fun σ2 H2=>tb { D with nx:=N,ct:=N,bk:=D.nx } σ2 H2)
def Jc(fp:List fG)(h:Heap):List (fG×Obj):=fp.filterMap fun b=>(h.get? b).map fun o=>(b,o)
theorem Gj{fp:List fG}{h:Heap}{b:fG}{o:Obj}(hb:b∈fp)(e:h.get? b=some o):(b,o)∈Jc fp h:=eL.mpr ⟨b,hb,by rw[e];rfl⟩
theorem Pk{fp:List fG}{h:Heap}{p:fG×Obj}(hp:p∈Jc fp h):p.1∈fp∧h.get? p.1=some p.2:=by
 obtain⟨b,hb,e⟩:=eL.mp hp
 cases q:h.get? b with
 | none=>rw[q]at e;cases e
 | some o=>
  rw[q]at e
  have e':(b,o)=p:=br.inj e
  subst e'
  exact⟨hb,q⟩
theorem AR.pinned{pins:List (fG×Obj)}{σ:St}{H:Hp}{s:fJ}{fp:List fG}(I:AR X pins σ H s)(hf:∀b∈fp,HE X pins H b)(ho:∀b∈fp,∃o,s.heap.get? b=some o∧∀v,o.data≠.cell v):AR X (pins++Jc fp s.heap) σ H s:=
 I.pins_of fun p hp=>(aP.mp hp).elim (fun z=>I.pin p (bg _ z)) fun z=>by
  obtain⟨hb,e⟩:=Pk z
  obtain⟨f0,f1,f2,_⟩:=hf p.1 hb
  obtain⟨o,e',d⟩:=ho p.1 hb
  rw[e]at e';cases e'
  exact⟨e,f0,f1,f2,d⟩
theorem AR.unpinned{pins pl:List (fG×Obj)}{σ:St}{H:Hp}{s:fJ}(I:AR X (pins++pl) σ H s):AR X pins σ H s:=I.pins_of fun p hp=>I.pin p (bg _ (bN _ hp))
theorem Bd{iter:Expr}{body:List Stmt}{wi:TI}{g:TG}{tb:TS}{pos:Pos}(hp:fR (model X.prog X.w) X.A X.env X.xe)(hc:X.calm=true)(hi:PI X tg iter wi)(hg:PG X tg g)(hb:M2 X body tb)
  (hs:∀x,foldedSetIterable iter X.env x=pure x:=by intro _;rfl):PS X (.For tg iter body [] pos) (tFor wi g tb):=by
 intro pins s σ H D I h
 refine wpAny_For (B0 (hi pins s σ H _ I h) fun v s1 h1=>B0 h1 fun itv s2 h2=>?_) hs
 obtain⟨it,fp,tn,J,H2,e,I2,T,st2,f2,W,⟨m0,w0⟩,turn⟩:=h2
 subst e
 have stat:∀{H':Hp},(∀b∈fp,H' b=none)→∀b∈fp,HE X pins H' b:=fun hn b hb=>⟨hn b hb,(f2 b hb).2⟩
 refine codeAny_forLoop_any (fun n s'=>∃i σ' H',AR X pins σ' H' s'∧tn i s'.heap∧(∀b∈fp,H' b=none)∧W i n σ' H') ?_ m0 ⟨0,σ,H2,I2,st2,fun b hb=>(f2 b hb).1,w0⟩
 rintro n s3 ⟨i,σ3,H3,I3,st3,fr3,w3⟩
 rcases turn i n σ3 H3 w3 with⟨stop,qn⟩|⟨go,N,hN,step⟩
 ·refine gd hp (B0 (T.done X rfl rfl rfl hc i pins s3 σ3 H3 X.xe I3 (stat fr3) st3 stop) fun r s4 ⟨hr,I4⟩=>?_)
  subst hr
  exact gh ⟨σ3,H3,I4,qn⟩
 ·refine gd hp (B0 (T.item X rfl rfl rfl hc i pins s3 σ3 H3 X.xe I3 (stat fr3) st3 go) fun r s4 ⟨u,hr,h4⟩=>?_)
  subst hr
  refine gd hp (B0 h4 fun _ s5 ⟨x,H5,I5,r5,y5,st5,fr5⟩=>?_)
  have I5':=I5.pinned (stat fr5) (T.obj _ _ st5)
  refine gd hp (B0 (hg _ s5 σ3 H5 x u _ I5' r5 (step x H5 y5)) fun _ s6 ⟨σ6,H6,I6,q6⟩=>?_)
  refine gd hp (B0 (hb _ s6 σ6 H6 _ I6 q6) fun f s7 q7=>?_)
  have again:∀{σ7:St} {H7:Hp},AR X (pins++Jc fp s5.heap) σ7 H7 s7→N σ7 H7→∃m,m<n∧∃i σ' H',AR X pins σ' H' s7∧tn i s7.heap∧(∀b∈fp,H' b=none)∧W i m σ' H':=fun{σ7 H7} I7 n7=>by
   obtain⟨m',hm,w7⟩:=hN σ7 H7 n7
   refine⟨m',hm,i+1,σ7,H7,I7.unpinned,T.keep _ _ _ st5 fun b hb o e=>(I7.pin (b,o) (bg _ (bg _ (Gj hb e)))).1,fun b hb=>?_,w7⟩
   obtain⟨o,e,d⟩:=T.obj _ _ st5 b hb
   exact(I7.pin (b,o) (bg _ (bg _ (Gj hb e)))).2.1
  cases f with
  | next=>obtain⟨σ7,H7,I7,n7⟩:=q7;exact again I7 n7
  | cont=>obtain⟨σ7,H7,I7,n7⟩:=q7;exact again I7 n7
  | brk=>obtain⟨σ7,H7,I7,q7⟩:=q7;exact⟨σ7,H7,I7.unpinned,q7⟩
  | ret v=>obtain⟨x7,σ7,H7,I7,r7,q7⟩:=q7;exact⟨x7,σ7,H7,I7.unpinned,r7,q7⟩
end
theorem Cl{K:aj}{a:fG}{xs:List V}{g:TG}{tb:TS}{D:Kc}{σ:St}{H:Hp}(Pv:Nat→St→Hp→Prop)(h0:Pv 0 σ H)(hl:∀i σ H,i≤xs.length→Pv i σ H→AD K H a xs)
  (hs:∀i x σ H,xs[i]?=some x→Pv i σ H→g x σ H fun σ2 H2=>tb { D with nx:=Pv (i+1),ct:=Pv (i+1),bk:=D.nx } σ2 H2) (hd:∀σ H,Pv xs.length σ H→D.nx σ H) :
  ∃W:Nat→Nat→St→Hp→Prop,(∃m,W 0 m σ H)∧∀i m σ H,W i m σ H →
   ((Itl K a).stop i H∧D.nx σ H)∨((Itl K a).go i H∧∃N:St→Hp→Prop,(∀σ' H',N σ' H'→∃m',m'<m∧W (i+1) m' σ' H')∧∀x H',(Itl K a).yld i H x H'→g x σ H' fun σ2 H2=>tb { D with nx:=N,ct:=N,bk:=D.nx } σ2 H2):=by
 refine⟨fun i m σ H=>m=xs.length - i∧i≤xs.length∧Pv i σ H,⟨xs.length,by simp,bw _,h0⟩,?_⟩
 rintro i m σ H ⟨rfl,hi,p⟩
 have q:=hl i σ H hi p
 by_cases hlt:i<xs.length
 ·refine .inr ⟨⟨xs,xs[i],q,by simp[hlt]⟩,Pv (i+1),fun σ' H' p'=>⟨xs.length - (i+1),by omega,rfl,hlt,p'⟩,fun x H' y=>?_⟩
  obtain⟨e,y⟩:=y
  subst e
  exact hs i x σ _ (y xs q) p
 ·have e:i=xs.length:=by omega
  subst e
  exact .inl ⟨⟨xs,q,aE _⟩,hd σ H p⟩
theorem Sg{K:aj}{a:fG}{xs:List V}{g:TG}{tb:TS}{D:Kc}{σ:St}{H:Hp}(Pv:Nat→St→Hp→Prop)(h0:Pv 0 σ H)(hl:∀i σ H,i≤xs.length→Pv i σ H→A2 K H a xs)
  (hs:∀i x σ H,xs[i]?=some x→Pv i σ H→g x σ H fun σ2 H2=>tb { D with nx:=Pv (i+1),ct:=Pv (i+1),bk:=D.nx } σ2 H2) (hd:∀σ H,Pv xs.length σ H→D.nx σ H) :
  ∃W:Nat→Nat→St→Hp→Prop,(∃m,W 0 m σ H)∧∀i m σ H,W i m σ H →
   ((Itt K a).stop i H∧D.nx σ H)∨((Itt K a).go i H∧∃N:St→Hp→Prop,(∀σ' H',N σ' H'→∃m',m'<m∧W (i+1) m' σ' H')∧∀x H',(Itt K a).yld i H x H'→g x σ H' fun σ2 H2=>tb { D with nx:=N,ct:=N,bk:=D.nx } σ2 H2):=by
 refine⟨fun i m σ H=>m=xs.length - i∧i≤xs.length∧Pv i σ H,⟨xs.length,by simp,bw _,h0⟩,?_⟩
 rintro i m σ H ⟨rfl,hi,p⟩
 have q:=hl i σ H hi p
 by_cases hlt:i<xs.length
 ·refine .inr ⟨⟨xs,xs[i],q,by simp[hlt]⟩,Pv (i+1),fun σ' H' p'=>⟨xs.length - (i+1),by omega,rfl,hlt,p'⟩,fun x H' y=>?_⟩
  obtain⟨e,y⟩:=y
  subst e
  exact hs i x σ _ (y xs q) p
 ·have e:i=xs.length:=by omega
  subst e
  exact .inl ⟨⟨xs,q,aE _⟩,hd σ H p⟩
theorem Bh{lo:Int}{n:Nat}{g:TG}{tb:TS}{D:Kc}{σ:St}{H:Hp}(Pv:Nat→St→Hp→Prop)(h0:Pv 0 σ H)
  (hs:∀i σ H,i<n→Pv i σ H→g (.int (lo+i)) σ H fun σ2 H2=>tb { D with nx:=Pv (i+1),ct:=Pv (i+1),bk:=D.nx } σ2 H2) (hd:∀σ H,Pv n σ H→D.nx σ H) :
  ∃W:Nat→Nat→St→Hp→Prop,(∃m,W 0 m σ H)∧∀i m σ H,W i m σ H →
   ((Rv lo n).stop i H∧D.nx σ H)∨((Rv lo n).go i H∧∃N:St→Hp→Prop,(∀σ' H',N σ' H'→∃m',m'<m∧W (i+1) m' σ' H')∧∀x H',(Rv lo n).yld i H x H'→g x σ H' fun σ2 H2=>tb { D with nx:=N,ct:=N,bk:=D.nx } σ2 H2):=by
 refine⟨fun i m σ H=>m=n - i∧i≤n∧Pv i σ H,⟨n,by simp,bw _,h0⟩,?_⟩
 rintro i m σ H ⟨rfl,hi,p⟩
 by_cases hlt:i<n
 ·refine .inr ⟨hlt,Pv (i+1),fun σ' H' p'=>⟨n - (i+1),by omega,rfl,hlt,p'⟩,fun x H' y=>?_⟩
  obtain⟨e,y⟩:=y
  subst e y
  exact hs i σ _ hlt p
 ·have e:i=n:=by omega
  subst e
  exact .inl ⟨aE _,hd σ H p⟩
end L2
namespace L2
open PySem PySem.Spec PyProof.Rows
abbrev R2:=V→V→Hp→VK→Prop
def G9(X:Cx)(f:fF→fF→Sem fF)(r:R2):Prop:=
 ∀(pins:List (fG×Obj)) (s:fJ) (σ:St) (H:Hp) (x y:V) (v u:fF) (Q:VK),AR X pins σ H s→Bm x v→Bm y u→r x y H Q →
  wpAny (model X.prog X.w) X.A (f v u) (EP X pins σ Q) X.xe s
def UnR(X:Cx)(f:fF→Sem fF)(r:V→Hp→VK→Prop):Prop:=
 ∀(pins:List (fG×Obj)) (s:fJ) (σ:St) (H:Hp) (x:V) (v:fF) (Q:VK),AR X pins σ H s→Bm x v→r x H Q →
  wpAny (model X.prog X.w) X.A (f v) (EP X pins σ Q) X.xe s
def JZ(X:Cx)(f:fF)(r:List V→Hp→VK→Prop):Prop:=
 ∀(pins:List (fG×Obj)) (s:fJ) (σ:St) (H:Hp) (xs:List V) (us:List fF) (Q:VK),AR X pins σ H s→A5 xs us→r xs H Q →
  wpAny (model X.prog X.w) X.A (call f us) (EP X pins σ Q) X.xe s
def tOp(r:R2)(ta tb:TE):TE:=fun σ H Q=>ta σ H fun x H1=>tb σ H1 fun y H2=>r x y H2 Q
def tUn(r:V→Hp→VK→Prop)(ta:TE):TE:=fun σ H Q=>ta σ H fun x H1=>r x H1 Q
def rI(C:Int→Int→Prop)(g:Int→Int→V):R2:=fun x y H Q=>∃i j,x=.int i∧y=.int j∧C i j∧Q (g i j) H
def rI0(g:Int→Int→V):R2:=fun x y H Q=>∃i j,x=.int i∧y=.int j∧Q (g i j) H
def rU(g:Int→V):V→Hp→VK→Prop:=fun x H Q=>∃i,x=.int i∧Q (g i) H
section
variable{X:Cx}{a b c:Expr}{ta tb tc:TE}{pos:Pos}
theorem binT(ha:PE X a ta)(hb:PE X b tb){pins:List (fG×Obj)}{s:fJ}{σ:St}{H:Hp}{R:V→V→Hp→Prop}(I:AR X pins σ H s)
  (h:ta σ H fun x H1=>tb σ H1 fun y H2=>R x y H2) {Q:fF→fJ→Prop} {f:fF→fF→Sem fF}
  (hf:∀v u s2 x y H2,AR X pins σ H2 s2→Bm x v→Bm y u→R x y H2→wpAny (model X.prog X.w) X.A (f v u) Q X.xe s2) :
  wpAny (model X.prog X.w) X.A (eval a X.env) (fun v s₁=>wpAny (model X.prog X.w) X.A (eval b X.env) (fun u s₂=>wpAny (model X.prog X.w) X.A (f v u) Q X.xe s₂) X.xe s₁) X.xe s:=by
 refine B0 (ha pins s σ H _ I h) fun v s1 ⟨x,H1,I1,r1,q1⟩=>?_
 refine B0 (hb pins s1 σ H1 _ I1 q1) fun u s2 ⟨y,H2,I2,r2,q2⟩=>?_
 exact hf v u s2 x y H2 I2 r1 r2 q2
theorem AO{op:Operator}{r:R2}(ho:G9 X (binaryOp op) r)(ha:PE X a ta)(hb:PE X b tb):PE X (.BinOp a op b pos) (tOp r ta tb):=by
 intro pins s σ H Q I h
 exact wpAny_BinOp (binT ha hb I h fun v u s2 x y H2 I2 rx ry q=>ho pins s2 σ H2 x y v u Q I2 rx ry q)
theorem EH{op:UnaryOp}{r:V→Hp→VK→Prop}(ho:UnR X (unaryOp op) r)(ha:PE X a ta):PE X (.UnaryOp op a pos) (tUn r ta):=by
 intro pins s σ H Q I h
 exact UnaryOp_ (B0 (ha pins s σ H _ I h) fun v s1 ⟨x,H1,I1,r1,q1⟩=>ho pins s1 σ H1 x v Q I1 r1 q1)
theorem opI{f:fF→fF→Sem fF}{C:Int→Int→Prop}{g:Int→Int→Int}
  (rule:∀(i j:Int) (t u:Tok) (s:fJ) (Q:fF→fJ→Prop) (E:fF→fJ→Prop),C i j→Q (.int (g i j) s.toks) { s with toks:=s.toks+1 }→wpAny (model X.prog X.w) X.A (f (.int i t) (.int j u)) Q E s) :
  G9 X f (rI C fun i j=>.int (g i j)):=by
 intro pins s σ H x y v u Q I rx ry h
 obtain⟨i,j,rfl,rfl,hc,q⟩:=h
 obtain⟨t,rfl⟩:=rx
 obtain⟨t',rfl⟩:=ry
 exact rule i j t t' s _ _ hc ⟨.int (g i j),H,I.tok _,⟨_,rfl⟩,q⟩
theorem opI0{f:fF→fF→Sem fF}{g:Int→Int→Int}
  (rule:∀(i j:Int) (t u:Tok) (s:fJ) (Q:fF→fJ→Prop) (E:fF→fJ→Prop),Q (.int (g i j) s.toks) { s with toks:=s.toks+1 }→wpAny (model X.prog X.w) X.A (f (.int i t) (.int j u)) Q E s) :
  G9 X f (rI0 fun i j=>.int (g i j)):=by
 intro pins s σ H x y v u Q I rx ry h
 obtain⟨i,j,rfl,rfl,q⟩:=h
 obtain⟨t,rfl⟩:=rx
 obtain⟨t',rfl⟩:=ry
 exact rule i j t t' s _ _ ⟨.int (g i j),H,I.tok _,⟨_,rfl⟩,q⟩
theorem RT{f:fF→fF→Sem fF}{g:Int→Int→Bool}
  (rule:∀(i j:Int) (t u:Tok) (s:fJ) (Q:fF→fJ→Prop) (E:fF→fJ→Prop),Q (.bool (g i j)) s→wpAny (model X.prog X.w) X.A (f (.int i t) (.int j u)) Q E s) :
  G9 X f (rI0 fun i j=>.bl (g i j)):=by
 intro pins s σ H x y v u Q I rx ry h
 obtain⟨i,j,rfl,rfl,q⟩:=h
 obtain⟨t,rfl⟩:=rx
 obtain⟨t',rfl⟩:=ry
 exact rule i j t t' s _ _ ⟨.bl (g i j),H,I,rfl,q⟩
def CDiv(i j:Int):Prop:=0<j∧j<1073741824
def CMul(i j:Int):Prop:=(-(2 ^ 64)<i∧i<2 ^ 64)∨(-(2 ^ 64)<j∧j<2 ^ 64)
theorem CMul.ok{i j:Int}(h:CMul i j):IntMulOk i j:=by
 rcases h with⟨h1,h2⟩|⟨h1,h2⟩
 ·exact .of_left (intBits_le_64 h1 h2)
 ·exact .of_right (intBits_le_64 h1 h2)
theorem BN:G9 X (binaryOp .Add) (rI0 fun i j=>.int (i+j)):=opI0 fun _ _ _ _ _ _ _ q=>add_int q
theorem Nm:G9 X (binaryOp .Sub) (rI0 fun i j=>.int (i - j)):=opI0 fun _ _ _ _ _ _ _ q=>sub_int q
theorem Ll:G9 X (binaryOp .Mult) (rI CMul fun i j=>.int (i*j)):=opI fun _ _ _ _ _ _ _ hc q=>mul_int q hc.ok
theorem Cb:G9 X (binaryOp .FloorDiv) (rI CDiv fun i j=>.int (i / j)):=opI fun i j _ _ _ _ _ hc q=>by
 have h1:(0:Int)<j:=hc.1
 have h2:j<1073741824:=hc.2
 exact floordiv_int (by omega) (by rw[Int.fdiv_eq_ediv_of_nonneg i (by omega)];exact q) (.inl (PyProof.noPylong_small (by omega)))
theorem Bx:G9 X (binaryOp .Mod) (rI (fun _ j=>0<j) fun i j=>.int (i % j)):=opI fun i j _ _ _ _ _ hc q=>by
 have h1:(0:Int)<j:=hc
 exact mod_int' (by omega) (by rw[Int.fmod_eq_emod_of_nonneg i (by omega)];exact q)
theorem unI{f:fF→Sem fF}{g:Int→Int}
  (rule:∀(i:Int) (t:Tok) (s:fJ) (Q:fF→fJ→Prop) (E:fF→fJ→Prop),Q (.int (g i) s.toks) { s with toks:=s.toks+1 }→wpAny (model X.prog X.w) X.A (f (.int i t)) Q E s) :
  UnR X f (rU fun i=>.int (g i)):=by
 intro pins s σ H x v Q I rx h
 obtain⟨i,rfl,q⟩:=h
 obtain⟨t,rfl⟩:=rx
 exact rule i t s _ _ ⟨.int (g i),H,I.tok _,⟨_,rfl⟩,q⟩
theorem C7:UnR X (unaryOp .USub) (rU fun i=>.int (-i)):=unI fun _ _ _ _ _ q=>neg_int q
end
def scal:V→V→Bool
 | .non,.non=>true|.non,.int _=>true|.int _,.non=>true|.non,.bl _=>true|.bl _,.non=>true|.non,.str _=>true|.str _,.non=>true
 | .int _,.int _=>true|.bl _,.bl _=>true|.str _,.str _=>true|.byt _,.byt _=>true
 | .int _,.str _=>true|.str _,.int _=>true|.bl _,.str _=>true|.str _,.bl _=>true
 | _,_=>false
def rEq:R2:=fun x y H Q=>scal x y=true∧Q (.bl (decide (x=y))) H
def rNe:R2:=fun x y H Q=>scal x y=true∧Q (.bl (!decide (x=y))) H
theorem OM{i j:Int}:decide (V.int i=V.int j)=(i==j):=by
 rw[cv]
 simp
theorem Rh{i j:Bool}:decide (V.bl i=V.bl j)=(i==j):=by
 rw[cv]
 simp
theorem OL{i j:Str}:decide (V.str i=V.str j)=(i==j):=by
 rw[cv]
 simp
theorem ON{i j:Array UInt8}:decide (V.byt i=V.byt j)=(i.toList==j.toList):=by
 rw[cv]
 cases i
 cases j
 simp
section
variable{X:Cx}{a b c:Expr}{ta tb tc:TE}{pos:Pos}
theorem Bg{pins:List (fG×Obj)}{σ:St}{H:Hp}{s:fJ}{Q:VK}{k k':Bool}(I:AR X pins σ H s)(q:Q (.bl k) H)(e:k=k'):EP X pins σ Q (.bool k') s:=by
 subst e
 exact⟨.bl k,H,I,rfl,q⟩
theorem B4:G9 X (fY .Eq) rEq:=by
 intro pins s σ H x y v u Q I rx ry h
 obtain⟨hs,q⟩:=h
 cases x with
 | non=>
  cases rx
  cases y with
  | non=>cases ry;exact PySem.EqNone.eq_none_none (Bg I q (by simp))
  | bl j=>cases ry;exact PySem.EqNone.eq_none_bool (Bg I q (by simp))
  | int j=>obtain⟨t',rfl⟩:=ry;exact PySem.EqNone.eq_none_int (Bg I q (by simp))
  | str j=>obtain⟨t',rfl⟩:=ry;exact PySem.EqNone.eq_none_str (Bg I q (by simp))
  | _=>exact absurd (show false=true from hs) aM
 | bl i=>
  cases rx
  cases y with
  | non=>cases ry;exact PySem.EqNone.eq_bool_none (Bg I q (by simp))
  | bl j=>cases ry;exact eq_bool (Bg I q Rh)
  | str j=>obtain⟨t',rfl⟩:=ry;exact PySem.EqMixed.eq_bool_str (Bg I q (by simp))
  | _=>exact absurd (show false=true from hs) aM
 | int i=>
  obtain⟨t,rfl⟩:=rx
  cases y with
  | non=>cases ry;exact PySem.EqNone.eq_int_none (Bg I q (by simp))
  | int j=>obtain⟨t',rfl⟩:=ry;exact eq_int (Bg I q OM)
  | str j=>obtain⟨t',rfl⟩:=ry;exact PySem.EqMixed.eq_int_str (Bg I q (by simp))
  | _=>exact absurd (show false=true from hs) aM
 | str i=>
  obtain⟨t,rfl⟩:=rx
  cases y with
  | non=>cases ry;exact PySem.EqNone.eq_str_none (Bg I q (by simp))
  | bl j=>cases ry;exact PySem.EqMixed.eq_str_bool (Bg I q (by simp))
  | int j=>obtain⟨t',rfl⟩:=ry;exact PySem.EqMixed.eq_str_int (Bg I q (by simp))
  | str j=>obtain⟨t',rfl⟩:=ry;exact eq_str (Bg I q OL)
  | _=>exact absurd (show false=true from hs) aM
 | byt i=>
  obtain⟨t,rfl⟩:=rx
  cases y with
  | byt j=>obtain⟨t',rfl⟩:=ry;exact PySem.W.eq_bytes (Bg I q ON)
  | _=>exact absurd (show false=true from hs) aM
 | _=>cases y<;>exact absurd (show false=true from hs) aM
theorem E2:G9 X (fY .NotEq) rNe:=by
 intro pins s σ H x y v u Q I rx ry h
 obtain⟨hs,q⟩:=h
 cases x with
 | non=>
  cases rx
  cases y with
  | non=>cases ry;exact PySem.EqNone.ne_none_none (Bg I q (by simp))
  | bl j=>cases ry;exact PySem.EqNone.ne_none_bool (Bg I q (by simp))
  | int j=>obtain⟨t',rfl⟩:=ry;exact PySem.EqNone.ne_none_int (Bg I q (by simp))
  | str j=>obtain⟨t',rfl⟩:=ry;exact PySem.EqNone.ne_none_str (Bg I q (by simp))
  | _=>exact absurd (show false=true from hs) aM
 | bl i=>
  cases rx
  cases y with
  | non=>cases ry;exact PySem.EqNone.ne_bool_none (Bg I q (by simp))
  | bl j=>cases ry;exact ne_bool (Bg I q (congrArg not Rh))
  | str j=>obtain⟨t',rfl⟩:=ry;exact PySem.EqMixed.ne_bool_str (Bg I q (by simp))
  | _=>exact absurd (show false=true from hs) aM
 | int i=>
  obtain⟨t,rfl⟩:=rx
  cases y with
  | non=>cases ry;exact PySem.EqNone.ne_int_none (Bg I q (by simp))
  | int j=>obtain⟨t',rfl⟩:=ry;exact ne_int (Bg I q (congrArg not OM))
  | str j=>obtain⟨t',rfl⟩:=ry;exact PySem.EqMixed.ne_int_str (Bg I q (by simp))
  | _=>exact absurd (show false=true from hs) aM
 | str i=>
  obtain⟨t,rfl⟩:=rx
  cases y with
  | non=>cases ry;exact PySem.EqNone.ne_str_none (Bg I q (by simp))
  | bl j=>cases ry;exact PySem.EqMixed.ne_str_bool (Bg I q (by simp))
  | int j=>obtain⟨t',rfl⟩:=ry;exact PySem.EqMixed.ne_str_int (Bg I q (by simp))
  | str j=>obtain⟨t',rfl⟩:=ry;exact ne_str (Bg I q (congrArg not OL))
  | _=>exact absurd (show false=true from hs) aM
 | byt i=>
  obtain⟨t,rfl⟩:=rx
  cases y with
  | byt j=>obtain⟨t',rfl⟩:=ry;exact PySem.W.ne_bytes (Bg I q (congrArg not ON))
  | _=>exact absurd (show false=true from hs) aM
 | _=>cases y<;>exact absurd (show false=true from hs) aM
theorem Om:G9 X (fY .Lt) (rI0 fun i j=>.bl (decide (i<j))):=RT fun _ _ _ _ _ _ _ q=>lt_int q
theorem Ky:G9 X (fY .LtE) (rI0 fun i j=>.bl (decide (i≤j))):=RT fun _ _ _ _ _ _ _ q=>le_int q
theorem Mn:G9 X (fY .Gt) (rI0 fun i j=>.bl (decide (j<i))):=RT fun _ _ _ _ _ _ _ q=>gt_int q
theorem op_ge:G9 X (fY .GtE) (rI0 fun i j=>.bl (decide (j≤i))):=RT fun _ _ _ _ _ _ _ q=>ge_int q
theorem RQ:G9 X (fY .IsNot) (fun x y H Q=>y=.non∧Q (.bl (!decide (x=.non))) H):=by
 intro pins s σ H x y v u Q I rx ry h
 obtain⟨rfl,q⟩:=h
 cases ry
 refine isnot_none_gen (Bg I q ?_)
 cases x<;>first
  | (cases rx;rfl)
  | (obtain⟨t,rfl⟩:=rx;rfl)
theorem AS(b:Expr){op:CmpOp}(h:op≠.In:=by decide)(h2:op≠.NotIn:=by decide):behindInMarks op b=false:=by
 have e1:(op==CmpOp.In)=false:=by cases op<;>first|rfl|exact absurd rfl h
 have e2:(op==CmpOp.NotIn)=false:=by cases op<;>first|rfl|exact absurd rfl h2
 cases b<;>simp[behindInMarks,e1,e2]
theorem Fs{op:CmpOp}{r:R2}(ho:G9 X (fY op) r)(ha:PE X a ta)(hb:PE X b tb)(hm:behindInMarks op b=false):PE X (.Compare a [op] [b] pos) (tOp r ta tb):=by
 intro pins s σ H Q I h
 exact wpAny_Compare1 (binT ha hb I h fun v u s2 x y H2 I2 rx ry q=>ho pins s2 σ H2 x y v u Q I2 rx ry q) hm
def tTest(t:TE):TT:=fun σ H Q=>t σ H fun x H'=>∃k,x=.bl k∧Q k H'
theorem AB{op:CmpOp}{r:R2}(ho:G9 X (fY op) r)(ha:PE X a ta)(hb:PE X b tb)(hm:behindInMarks op b=false):PT X (.Compare a [op] [b] pos) (tTest (tOp r ta tb)):=by
 intro pins s σ H Q I h
 refine wpAny_isTrue_Compare1 (B0 (ha pins s σ H _ I h) fun v s1 ⟨x,H1,I1,r1,q1⟩=>B0 (hb pins s1 σ H1 _ I1 q1) fun u s2 ⟨y,H2,I2,r2,q2⟩=>
  B0 (ho pins s2 σ H2 x y v u _ I2 r1 r2 q2) fun c s3 ⟨z,H3,I3,r3,k,e,q3⟩=>?_) hm
 subst e
 cases r3
 exact fX ⟨H3,I3,q3⟩
def tChain(r r':R2)(ta tb tc:TE):TE:=fun σ H Q=>ta σ H fun x H1=>tb σ H1 fun y H2=>r x y H2 fun z H3=>∃k,z=.bl k ∧
 (if k=true then tc σ H3 fun w' H4=>r' y w' H4 Q else Q (.bl false) H3)
theorem GU{op op':CmpOp}{r r':R2}(ho:G9 X (fY op) r)(ho':G9 X (fY op') r')(ha:PE X a ta)(hb:PE X b tb)(hc:PE X c tc)
  (hm:lastMarks [op,op'] [b,c]=false:=by with_unfolding_all rfl):PT X (.Compare a [op,op'] [b,c] pos) (tTest (tChain r r' ta tb tc)):=by
 intro pins s σ H Q I h
 refine isTrue_chain (B0 (ha pins s σ H _ I h) fun v s1 ⟨x,H1,I1,r1,q1⟩=>test_link (B0 (hb pins s1 σ H1 _ I1 q1) fun u s2 ⟨y,H2,I2,r2,q2⟩=>
  B0 (ho pins s2 σ H2 x y v u _ I2 r1 r2 q2) fun d s3 ⟨z,H3,I3,r3,k,e,q3⟩=>?_)) hm
 subst e
 cases r3
 refine fX ?_
 cases k with
 | false=>
  obtain⟨k',e',q'⟩:=q3
  cases e'
  exact ite_ff ⟨H3,I3,q'⟩
 | true=>
  refine ite_tt (test_last (B0 (hc pins s3 σ H3 _ I3 q3) fun w' s4 ⟨z',H4,I4,r4,q4⟩=>B0 (ho' pins s4 σ H4 y z' u w' _ I4 r2 r4 q4) fun d' s5 ⟨z2,H5,I5,r5,k2,e2,q5⟩=>?_))
  subst e2
  cases r5
  exact fX ⟨H5,I5,q5⟩
theorem Ls:(fL:Nat)<2 ^ 63:=by rw[sizeLine_eq];decide
theorem P1{x:V}{us:List fF}(r:A5 [x] us):∃u,us=[u]∧Bm x u:=by
 cases r with
 | cons r1 r2=>cases r2;exact⟨_,rfl,r1⟩
end
end L2
namespace L2
open PySem PySem.Spec PyProof.Rows
structure PU(h:Heap)(x dx C:fG)(mA:Str→Option fF):Prop where
 obj:h.get? x=some (cc C dx)
 ns:h.Ns1 dx mA
 ne:dx≠x
theorem Pq{h:Heap}{dx:fG}{mA:Str→Option fF}(n:h.Ns1 dx mA):∃od,h.get? dx=some od∧∀name,dU name od=some (mA name):=by
 obtain⟨o,es,ep,ho,hd,hk,_,hm⟩:=n
 refine⟨o,ho,fun name=>?_⟩
 have e:=hm name
 unfold nsFind findBy at e
 rw[← Array.find?_toList]at e
 unfold dU
 rw[hd]
 dsimp only
 split
 ·rename_i y q
  rw[q]at e
  exact congrArg some e
 ·rename_i q
  rw[q]at e
  have a:es.toList.any (·.refKey)=false:=by
   rw[List.any_eq_false]
   intro y hy
   obtain⟨z,t,hkey⟩:=hk y (Array.mem_toList_iff.mp hy)
   simp[DictEntry.refKey,hkey]
  have a':¬es.toList.any (·.refKey)=true:=by rw[a];exact aM
  rw[if_neg a']
  exact congrArg some e
theorem PU.look{h:Heap}{x dx C:fG}{mA:Str→Option fF}(I:PU h x dx C mA):∃od,PySem.W.InstAt h x (cc C dx) C (some od)∧∀name,dU name od=some (mA name):=
 let⟨od,ho,hl⟩:=Pq I.ns
 ⟨od,⟨I.obj,rfl,rfl,ho⟩,hl⟩
section
variable{prog:fP}{w:fS}{A:fQ}{E:fF→fJ→Prop}{s:fJ}{K:aj}{x dx C f:fG}{mA:Str→Option fF}{name:Str}{v:fF}
theorem Sa{expr:Bool}{Q:fF→fJ→Prop}(X:K.In s.heap)(I:PU s.heap x dx C mA)(hg:c9 K C name=true)(hh:c6 K C=true)
  (ha:bt K (.ref C) name=some none) (hv:mA name=some v) (hv':fj v=true) (h:Q v { s with toks:=s.toks+1 }) :
  wpAny (model prog w) A (getAttr (.ref x) name expr) Q E s:=by
 obtain⟨od,J,hl⟩:=I.look
 exact PySem.W.get_value X J (PySem.W.plainGet_of hg).1 (PySem.W.findObj_own hh ha rfl (by rw[hl,hv])) hv' h
theorem RB{ns:List Str}{Q:Unit→fJ→Prop}(X:K.In s.heap)(I:PU s.heap x dx C mA)
  (hs:bt K (.ref C) "__setattr__" = some (some (.builtin "object.__setattr__"))) (hp:cO K C=true) (ht:dL K C name=some none) (hh:c6 K C=true)
  (hw:PySem.Within mA ns) (hsz:ns.length≤fL)
  (h:∀h',PU h' x dx C (fun y=>if y=name then some v else mA y)→Heap.SameBut dx s.heap h'→Q () { s with heap:=h',toks:=s.toks+2 }) :
  wpAny (model prog w) A (setAttr (.ref x) name v) Q E s:=by
 obtain⟨od,J,hl⟩:=I.look
 refine PySem.W.set_plain X J hs (PySem.W.osa_open (s:={ s with toks:=s.toks+1 }) (r:=none) X J hp ht fun b=>?_)
 obtain⟨cd,hc,hd'⟩:=PySem.W.any_some hh
 have hx:s.heap.get? x=some ⟨.ref C,some dx,.plain,#[]⟩:=I.obj
 refine fH (fM (fH (fH (wpAny_loadPart hx (fH (PySem.W.Looks.here (s:={ s with toks:=s.toks+1 }) (PySem.W.looks_clsIn X hc) ?_))))))
 rw[hd']
 refine fM (a:=some dx) (fH (fM (fH ?_)))
 refine wpAny_nsSet1 (s:={ s with toks:=s.toks+1 }) I.ns fun h' hn2 hs2=>?_
 obtain⟨oD,esD,epD,hoD,hdD,hcD⟩:=hn2.count (PySem.Within.cons name v hw)
 refine fH (wpAny_lookBehind hoD (by rw[hdD];exact pastItsLine_dict (aU hcD (by rw[bf];omega))) ?_)
 exact fM (h _ ⟨(hs2.2 _ (Ne.symm I.ne)).trans I.obj,hn2,I.ne⟩ hs2)
theorem QH{R:Result→fJ→Prop}{vs:List fF}{kw:List (Str×fF)}(X:K.In s.heap)(hm:df K C=true)
  (hi:bt K (.ref C) "__init__" = some (some (.ref f))) (hf:PySem.W.typeIn K (.ref f)=some (.type "function"))
  (h:codeAny (model prog w) (A.under (.builtin "type.__call__" ⟨.ref C::vs,kw⟩)) (.call (.ref f) ⟨.ref (s.heap.objs.size+1)::vs,kw⟩) (PySem.W.InitBack (s.heap.objs.size+1) R)
   { s with heap:=(s.heap.push bH).push (cc C s.heap.objs.size) }) :
  codeAny (model prog w) A (.call (.ref C) ⟨vs,kw⟩) R s:=by
 obtain⟨hh,g,d,t,os⟩:=s
 exact PySem.W.make_core (PySem.W.makes_of X hm) (PySem.W.looks_findIn X hi) (fun self=>PySem.W.bind_fn X self hf) (.inl rfl) h
end
def Bu(f:Str)(v:V):List (Str×V)→List (Str×V)
 | []=>[(f,v)]
 | (g,x)::r=>if g=f then(g,v)::r else(g,x)::Bu f v r
theorem Bs(f g:Str)(v:V):∀fs:List (Str×V),(Bu f v fs).lookup g=if g=f then some v else fs.lookup g
 | []=>by
  show cH g [(f,v)]=_
  by_cases h:g=f
  ·have hb:(g==f)=true:=beq_iff_eq.mpr h
   simp only[cH,hb,if_pos h]
  ·have hb:(g==f)=false:=beq_eq_false_iff_ne.mpr h
   simp only[cH,hb,if_neg h]
 | (k,x)::r=>by
  have ih:=Bs f g v r
  rw[show Bu f v ((k,x)::r)=(if k=f then(k,v)::r else(k,x)::Bu f v r) from rfl]
  by_cases hk:k=f
  ·rw[if_pos hk]
   by_cases h:g=k
   ·have hb:(g==k)=true:=beq_iff_eq.mpr h
    simp only[cH,hb,if_pos (h.trans hk)]
   ·have hb:(g==k)=false:=beq_eq_false_iff_ne.mpr h
    simp only[cH,hb,if_neg (fun e:g=f=>h (e.trans hk.symm))]
  ·rw[if_neg hk]
   by_cases h:g=k
   ·have hb:(g==k)=true:=beq_iff_eq.mpr h
    simp only[cH,hb,if_neg (fun e:g=f=>hk (h.symm.trans e))]
   ·have hb:(g==k)=false:=beq_eq_false_iff_ne.mpr h
    simp only[cH,hb]
    exact ih
theorem Hu(f:Str)(v:V):∀fs:List (Str×V),f∈(Bu f v fs).map (·.1)∧∀g,g∈fs.map (·.1)→g∈(Bu f v fs).map (·.1)
 | []=>⟨by simp[Bu],fun g h=>by simp at h⟩
 | (k,x)::r=>by
  obtain⟨i1,i2⟩:=Hu f v r
  rw[show Bu f v ((k,x)::r)=(if k=f then(k,v)::r else(k,x)::Bu f v r) from rfl]
  by_cases hk:k=f
  ·rw[if_pos hk]
   subst hk
   exact⟨by simp,fun g h=>by simpa using h⟩
  ·rw[if_neg hk]
   refine⟨?_,fun g h=>?_⟩
   ·rw[aY]
    exact aq _ i1
   ·rw[aY]at h ⊢
    rcases aG.mp h with e|e
    ·exact aG.mpr (.inl e)
    ·exact aq _ (i2 g e)
theorem HP(f:Str)(v:V):∀fs:List (Str×V),(Bu f v fs).length≤fs.length+1
 | []=>by simp[Bu]
 | (k,x)::r=>by
  have ih:=HP f v r
  rw[show Bu f v ((k,x)::r)=(if k=f then(k,v)::r else(k,x)::Bu f v r) from rfl]
  by_cases hk:k=f
  ·rw[if_pos hk,bf,bf];omega
  ·rw[if_neg hk,bf,bf];omega
theorem NP.some_of{v:V}{o:Option fF}(r:NP (some v) o):∃u,o=some u∧Bm v u:=by
 cases o with
 | none=>exact(show False from r).elim
 | some u=>exact⟨u,rfl,r⟩
theorem Pz{v:V}{u:fF}(r:Bm v u):fj u=true:=by
 cases v with
 | non=>cases (show u=fF.none from r);rfl
 | bl b=>cases (show u=fF.bool b from r);rfl
 | int i=>obtain⟨t,e⟩:=(show ∃t,u=fF.int i t from r);cases e;rfl
 | str x=>obtain⟨t,e⟩:=(show ∃t,u=fF.str x t from r);cases e;rfl
 | byt b=>obtain⟨t,e⟩:=(show ∃t,u=fF.bytes b t from r);cases e;rfl
 | flt b=>obtain⟨t,e⟩:=(show ∃t,u=fF.float b t from r);cases e;rfl
 | ref a=>cases (show u=fF.ref a from r);rfl
 | ty n=>cases (show u=fF.type n from r);rfl
section
variable{P:fP}{w:fS}{H H':Hp}{h h':Heap}{a C dx:fG}{fs fs':List (Str×V)}
theorem Ly(hok:Iw P w H h)(e:H a=some (.ins C dx fs)):∃mA,PU h a dx C mA∧(∀f,NP (fs.lookup f) (mA f))∧PySem.Within mA (fs.map (·.1))∧fs.length≤1000∧H dx=some (.own a):=by
 obtain⟨d,z,ne,ob,mA,n,r,q⟩:=(show Cs P w H h a (.ins C dx fs) from hok a _ e)
 exact⟨mA,⟨ob,n,ne⟩,r,q,z,d⟩
end
structure Rw(K:aj)(C:fG):Prop where
 pg:c9 K C Str.empty=true
 hd:c6 K C=true
 po:cO K C=true
 sa:bt K (.ref C) "__setattr__" = some (some (.builtin "object.__setattr__"))
theorem Rw.get{K:aj}{C:fG}(c:Rw K C)(f:Str):c9 K C f=true:=c.pg
def CK(K:aj)(C:fG)(f:Str):Prop:=bt K (.ref C) f=some none
theorem CK.taker{K:aj}{C:fG}{f:Str}(n:CK K C f):dL K C f=some none:=by
 unfold dL
 rw[show bt K (.ref C) f=some none from n]
 rfl
section
variable{X:Cx}{pins:List (fG×Obj)}{σ:St}{H:Hp}{s:fJ}{a C dx:fG}{fs:List (Str×V)}{f:Str}{v:V}{A:fQ}{E:fF→fJ→Prop}
theorem NE{b:Bool}{Q:fF→fJ→Prop}(I:AR X pins σ H s)(e:H a=some (.ins C dx fs))(c:Rw X.K C)(n:CK X.K C f)(l:fs.lookup f=some v)
  (h:∀u s',AR X pins σ H s'→Bm v u→Q u s'):wpAny (model X.prog X.w) A (getAttr (.ref a) f b) Q E s:=by
 obtain⟨mA,O,r,_,_,_⟩:=Ly I.hok e
 obtain⟨u,hu,ru⟩:=NP.some_of (v:=v) (o:=mA f) (by rw[← l];exact r f)
 exact Sa I.kIn O (c.get f) c.hd n hu (Pz ru) (h u _ (I.tok _) ru)
theorem Na{y:V}{u:fF}{Q:Unit→fJ→Prop}(I:AR X pins σ H s)(e:H a=some (.ins C dx fs))(c:Rw X.K C)(n:CK X.K C f)(hl:fs.length<1000)(ry:Bm y u)
  (h:∀s',AR X pins σ (upd H a (.ins C dx (Bu f y fs))) s'→Q () s'):wpAny (model X.prog X.w) A (setAttr (.ref a) f u) Q E s:=by
 obtain⟨mA,O,r,wi,_,ho⟩:=Ly I.hok e
 have hz:(fs.map (·.1)).length≤fL:=by rw[ac,sizeLine_eq];omega
 refine RB I.kIn O c.sa c.po n.taker c.hd wi hz fun h' O' sb=>h _ ?_
 have hd:∃o,h'.get? dx=some o:=let⟨o,_,_,e',_⟩:=O'.ns;⟨o,e'⟩
 refine I.write (x:=a) (e:=dx) (by rw[e];exact True.intro) (.inr ho) (fun b q hb z=>(sb.2 b hb).trans z) hd ?_
 refine⟨by rw[Aj O.ne];exact ho,?_,O.ne,O'.obj,_,O'.ns,fun g=>?_,fun g hg=>?_⟩
 ·have:=HP f y fs;omega
 ·show NP ((Bu f y fs).lookup g) (if g=f then some u else mA g)
  rw[Bs]
  by_cases q:g=f
  ·rw[if_pos q,if_pos q];exact ry
  ·rw[if_neg q,if_neg q];exact r g
 ·by_cases q:g=f
  ·rw[q];exact(Hu f y fs).1
  ·refine(Hu f y fs).2 g (wi g fun z=>hg ?_)
   show(if g=f then some u else mA g)=none
   rw[if_neg q];exact z
theorem AR.made(I:AR X pins σ H s):AR X pins σ (upd (upd H s.heap.objs.size (.own (s.heap.objs.size+1))) (s.heap.objs.size+1) (.ins C s.heap.objs.size []))
  { s with heap:=(s.heap.push bH).push (cc C s.heap.objs.size) }:=by
 have e1:(s.heap.push bH).get? s.heap.objs.size=some bH:=Heap.get?_push_size s.heap rfl
 have e2:((s.heap.push bH).push (cc C s.heap.objs.size)).get? (s.heap.objs.size+1)=some (cc C s.heap.objs.size):=by
  have:=Heap.get?_push_size (s.heap.push bH) (o:=cc C s.heap.objs.size) rfl
  rwa [Heap.size_push]at this
 have e3:(s.heap.push bH).Ns s.heap.objs.size (fun _=>none):=⟨bH,#[],_,e1,rfl,(fun e he=>absurd he (by simp)),fun _=>rfl⟩
 have I1:=I.laid (a:=s.heap.objs.size) (o:=.own (s.heap.objs.size+1)) (h':=s.heap.push bH) (t':=s.toks) (fun b u q=>Heap.get?_push_of_some _ q) (aE _) ⟨_,e1⟩
 refine I1.laid (a:=s.heap.objs.size+1) (o:=.ins C s.heap.objs.size []) (t':=s.toks) (fun b u q=>Heap.get?_push_of_some _ q) (cA (Heap.size_push _ _)) ?_
 have ne:s.heap.objs.size≠s.heap.objs.size+1:=ba (bU _)
 refine⟨by rw[Aj ne,Ad],bw _,ne,e2,fun _=>none,(Heap.Ns1.of_empty e3).at fun o q=>Heap.get?_push_of_some _ q,fun _=>True.intro,fun y hy=>absurd rfl hy⟩
theorem Sw{prog:fP}{w:fS}{env:Env}{e:Expr}{f:Str}{pos:Pos}{s:fJ}{Q:fF→fJ→Prop}(hb:attributeBase e f env (eval e env)=eval e env)
  (h:wpAny (model prog w) A (eval e env) (fun o s₁=>wpAny (model prog w) A (getAttr o f true) Q E s₁) E s):wpAny (model prog w) A (eval (.Attribute e f pos) env) Q E s:=
 Attribute_any_ h (by rw[arm_eval_Attribute,hb])
end
def tFld(K:aj)(ta:TE)(f:Str):TE:=fun σ H Q=>ta σ H fun x H1=>∃a C dx fs v,x=.ref a∧H1 a=some (.ins C dx fs)∧Rw K C∧CK K C f∧fs.lookup f=some v∧Q v H1
def sFld(K:aj)(ta tv:TE)(f:Str):TS:=fun D σ H=>tv σ H fun y H1=>ta σ H1 fun x H2=>∃a C dx fs,x=.ref a∧H2 a=some (.ins C dx fs)∧Rw K C∧CK K C f∧fs.length<1000 ∧
 D.nx σ (upd H2 a (.ins C dx (Bu f y fs)))
section
variable{X:Cx}{o e value:Expr}{f:Str}{pos pos' tpos:Pos}{ta tv:TE}
theorem A3(he:PE X e ta)(hb:attributeBase e f X.env (eval e X.env)=eval e X.env):PE X (.Attribute e f pos) (tFld X.K ta f):=by
 intro pins s σ H Q I h
 refine Sw hb (B0 (he pins s σ H _ I h) fun u s1 ⟨x,H1,I1,rx,a,C,dx,fs,v,ex,ea,c,n,l,q⟩=>?_)
 subst ex
 obtain rfl:u=fF.ref a:=rx
 exact NE I1 ea c n l fun u' s2 I2 ru=>⟨v,H1,I2,ru,q⟩
theorem Jb(ha:PE X o ta)(hv:PE X value tv)(hs:swapsWith value (some (.Attribute o f pos')) pos.line X.env=pure false):PS X (.Assign [.Attribute o f pos'] value pos) (sFld X.K ta tv f):=by
 intro pins s σ H D I h
 refine plainObj_wpAny_Assign_Attribute (B0 (hv pins s σ H _ I h) fun u s1 ⟨y,H1,I1,ry,q⟩=>B0 (ha pins s1 σ H1 _ I1 q) fun ov s2 ⟨x,H2,I2,rx,a,C,dx,fs,ex,ea,c,n,l,q2⟩=>?_) hs
 subst ex
 obtain rfl:ov=fF.ref a:=rx
 exact Na I2 ea c n l ry fun s3 I3=>⟨σ,_,I3,q2⟩
end
section
variable{X:Cx}{pins:List (fG×Obj)}{σ:St}{H:Hp}{s:fJ}{A:fQ}{E:fF→fJ→Prop}{Q:fF→fJ→Prop}{c:fF}{b:Bool}
inductive Hx(K:aj)(H:Hp):V→fF→Prop where
 | non:Hx K H .non (.type "NoneType")
 | bl (x:Bool):Hx K H (.bl x) (.type "bool")
 | int (i:Int):Hx K H (.int i) (.type "int")
 | str (x:Str):Hx K H (.str x) (.type "str")
 | flt (x:UInt64):Hx K H (.flt x) (.type "float")
 | lst {a:fG} {xs:List V} (e:H a=some (.lst xs)):Hx K H (.ref a) (.type "list")
 | frz {a:fG} {o:Obj} {xs:List V} (e:H a=some (.frz o (.lst xs))):Hx K H (.ref a) (.type "list")
 | tup {a:fG} {xs:List V} (e:H a=some (.tup xs)):Hx K H (.ref a) (.type "tuple")
 | dK {a:fG} {kvs:List (LT×V)} (e:H a=some (.dK kvs)):Hx K H (.ref a) (.type "dict")
 | dT {a:fG} {kvs:List (List LT×V)} (e:H a=some (.dT kvs)):Hx K H (.ref a) (.type "dict")
 | ins {a C dx:fG} {fs:List (Str×V)} (e:H a=some (.ins C dx fs)) (cl:Rw K C) (ha:bt K (.ref C) "__class__" = some (some (.builtin "object.__class__")))
   (hn:PySem.W.specialIn K (.builtin "object.__class__") "__get__" = some (some (.builtin "getset_descriptor.__get__"))) (htk:PySem.W.takesIn K (.builtin "object.__class__")=some true)
   (hm:PySem.W.mroIn K C (.type "object")=some true):Hx K H (.ref a) (.ref C)
theorem Pt{x:V}{u t:fF}(I:AR X pins σ H s)(rx:Bm x u)(ty:Hx X.K H x t)(e:bu X.K t c=some b)(h:∀tk,Q (.bool b) { s with toks:=tk }) :
  wpAny (model X.prog X.w) A (call (.builtin "isinstance") [u,c]) Q E s:=by
 cases ty with
 | non=>cases (show u=fF.none from rx);exact bE PySem.W.kitx_none I.kIn True.intro e (fun z=>nomatch z) h
 | bl y=>cases (show u=fF.bool y from rx);exact bE PySem.W.kitx_bool I.kIn True.intro e (fun z=>nomatch z) h
 | int i=>obtain⟨t,q⟩:=(show ∃t,u=fF.int i t from rx);cases q;exact bE PySem.W.kitx_int I.kIn True.intro e (fun z=>nomatch z) h
 | str y=>obtain⟨t,q⟩:=(show ∃t,u=fF.str y t from rx);cases q;exact bE PySem.W.kitx_str I.kIn True.intro e (fun z=>nomatch z) h
 | flt y=>obtain⟨t,q⟩:=(show ∃t,u=fF.float y t from rx);cases q;exact bE PySem.W.kitx_float I.kIn True.intro e (fun z=>nomatch z) h
 | @lst a xs ea=>
  cases (show u=fF.ref a from rx)
  obtain⟨_,_,n,_,h1⟩:=(show Cs X.prog X.w H s.heap a (.lst xs) from I.hok a _ ea)
  exact bE eR I.kIn ⟨_,h1,rfl⟩ e (fun z=>nomatch z) h
 | @frz a ob xs ea=>
  cases (show u=fF.ref a from rx)
  obtain⟨_,_,_,n,_,h1⟩:=(show Cs X.prog X.w H s.heap a (.frz ob (.lst xs)) from I.hok a _ ea)
  exact bE eR I.kIn ⟨_,h1,rfl⟩ e (fun z=>nomatch z) h
 | @tup a xs ea=>
  cases (show u=fF.ref a from rx)
  obtain⟨_,_,_,p⟩:=(show Cs X.prog X.w H s.heap a (.tup xs) from I.hok a _ ea)
  obtain⟨o,h1,h2,_⟩:=p
  exact bE PySem.W.kitx_tuple I.kIn ⟨o,h1,h2⟩ e (fun z=>nomatch z) h
 | @dK a kvs ea=>
  cases (show u=fF.ref a from rx)
  obtain⟨_,_,vs,_,p⟩:=(show Cs X.prog X.w H s.heap a (.dK kvs) from I.hok a _ ea)
  obtain⟨o,es,ep,h1,h2,_⟩:=p
  exact bE eT I.kIn ⟨o,h1,h2.1⟩ e (fun z=>nomatch z) h
 | @dT a kvs ea=>
  cases (show u=fF.ref a from rx)
  obtain⟨_,_,xs,_,o,es,ep,h1,h2,_⟩:=(show Cs X.prog X.w H s.heap a (.dT kvs) from I.hok a _ ea)
  exact bE eT I.kIn ⟨o,h1,h2.1⟩ e (fun z=>nomatch z) h
 | @ins a C dx fs ea cl ha hn htk hm=>
  cases (show u=fF.ref a from rx)
  obtain⟨mA,O,_⟩:=Ly I.hok ea
  obtain⟨od,J,_⟩:=O.look
  exact bE (PySem.W.kitx_own (cl.get _) cl.hd ha hn htk hm) I.kIn J e (fun z=>nomatch z) h
end
end L2
namespace L2
open PySem PySem.Spec PyProof.Rows
structure CO(k:Nat)(A:fQ):Prop where
 hd:A.handled=none
 dp:A.depth+3*k+5<recursionLimit
 un:A.units+16*k+200<cLine
theorem CO.mono{j k:Nat}{A:fQ}(r:CO k A)(h:j≤k):CO j A:=⟨r.hd,by have:=r.dp;omega,by have:=r.un;omega⟩
theorem CO.deeper{k:Nat}{A:fQ}(r:CO (k+1) A)(env:Env):CO k (A.deeper env):=
 ⟨r.hd,by have:=r.dp;show A.depth+1+3*k+5<_;omega,by have:=r.un;show A.units+3+16*k+200<_;omega⟩
theorem Ny{A:fQ}{C:fG}{us:List fF}{kw:List (Str×fF)}:(A.under (.builtin "type.__call__" ⟨.ref C::us,kw⟩)).depth=A.depth+1:=by
 first|rfl|simp[fQ.under,Code.weight,Code.isCreation,Code.isGuard,Code.isCaller,Code.frames,Code.isFrame,guardIds]
theorem Nx{A:fQ}{C:fG}{us:List fF}{kw:List (Str×fF)}:(A.under (.builtin "type.__call__" ⟨.ref C::us,kw⟩)).units=A.units+1:=by
 first|rfl|simp[fQ.under,Code.cUnits,Code.frames,Code.isFrame]
theorem CO.make{k:Nat}{A:fQ}(r:CO (k+1) A)(C:fG)(us:List fF)(kw:List (Str×fF)):CO k (A.under (.builtin "type.__call__" ⟨.ref C::us,kw⟩)):=
 ⟨r.hd,by have:=r.dp;rw[Ny];omega,by have:=r.un;rw[Nx];omega⟩
theorem CO.depth{k:Nat}{A:fQ}(r:CO k A):A.depth<recursionLimit:=by have:=r.dp;omega
theorem CO.units{k:Nat}{A:fQ}(r:CO k A):A.units+64<cLine:=by have:=r.un;omega
def O3:TA:=fun _ H Q=>Q [] H
def HG(ta:TE)(tr:TA):TA:=fun σ H Q=>ta σ H fun x H1=>tr σ H1 fun xs H2=>Q (x::xs) H2
section
variable{X:Cx}{e:Expr}{es:List Expr}{te:TE}{t:TA}{pos:Pos}
theorem Ab:PA X [] O3:=fun _ _ _ _ H Q I h=>Calls.spliced_nil ⟨[],H,I,.nil,h⟩
theorem Aa(ha:PE X e te)(hr:PA X es t)(hs:gj (e::es) X.env=(false,eval e X.env)::gj es X.env:=by rfl):PA X (e::es) (HG te t):=by
 intro pos pins s σ H Q I h
 rw[hs]
 show wpAny _ _ (spliced ((false,eval e X.env)::backTo pos (gj es X.env))) _ _ s
 refine Calls.spliced_cons (B0 (ha pins s σ H _ I h) fun u s1 ⟨x,H1,I1,r1,q1⟩=>?_)
 exact B0 (hr pos pins s1 σ H1 _ I1 q1) fun us s2 ⟨xs,H2,I2,r2,q2⟩=>⟨x::xs,H2,I2,.cons r1 r2,q2⟩
def tTup(t:TA):TE:=fun σ H Q=>t σ H fun xs H1=>xs.length≤fL∧∀p,H1 p=none→Q (.ref p) (upd H1 p (.tup xs))
def tLst(t:TA):TE:=fun σ H Q=>t σ H fun xs H1=>xs.length≤fL∧∀p,H1 p=none→Q (.ref p) (upd H1 p (.lst xs))
theorem AY{x1}(h:PA X es t):PE X (.Tuple es x1 pos) (tTup t):=by
 intro pins s σ H Q I hq
 refine wpAny_Tuple_spliced (B0 (h pos pins s σ H _ I hq) fun us s1 ⟨xs,H1,I1,r,z,q⟩=>⟨by rw[← r.length];exact z,?_⟩)
 have hf:H1 s1.heap.objs.size=none:=I1.hok.fresh (aE _)
 refine⟨.ref s1.heap.objs.size,upd H1 s1.heap.objs.size (.tup xs),I1.laid (t':=s1.toks) (fun b u e=>Heap.get?_push_of_some _ e) (aE _) ?_,rfl,q _ hf⟩
 exact⟨z,us,r,⟨_,Heap.get?_push_size _ rfl,rfl,_,rfl⟩⟩
theorem Bj(h:PA X es t):PE X (.List es pos) (tLst t):=by
 intro pins s σ H Q I hq
 refine wpAny_List_spliced (B0 (h pos pins s σ H _ I hq) fun us s1 ⟨xs,H1,I1,r,z,q⟩=>⟨by rw[← r.length];exact z,?_⟩)
 have hf:H1 s1.heap.objs.size=none:=I1.hok.fresh (aE _)
 refine⟨.ref s1.heap.objs.size,upd H1 s1.heap.objs.size (.lst xs),I1.laid (t':=s1.toks) (fun b u e=>Heap.get?_push_of_some _ e) (aE _) ?_,rfl,q _ hf⟩
 exact⟨z,us,0,r,Heap.get?_push_size _ rfl⟩
end
abbrev Sp:=List V→Hp→VK→XK→Prop
abbrev Rs:=List Env→Hp→fJ→XK→fF→fJ→Prop
structure NR(P:fP)(w:fS)(K:aj)(mg:Str→Option fF)(base:Heap)(A:fQ)(outer:List Env)(s:fJ)(H:Hp):Prop where
 frames:A.frames=some outer
 mod:Mod K mg base
 bs:∀b o,base.get? b=some o→s.heap.get? b=some o∧H b=none
 bsz:base.objs.size≤s.heap.objs.size
 funs:s.heap.FunFrames base outer
 frf:∀b∈NF outer,H b=none
 hok:Iw P w H s.heap
 bare:AllBare s.gens
def CE(outer:List Env)(P:fP)(w:fS)(H:Hp)(s:fJ)(Q:VK)(u:fF)(s':fJ):Prop:=
 ∃v H',s'.os=s.os∧AllBare s'.gens∧Un (NF outer) [] H H' s.heap s'.heap∧Iw P w H' s'.heap∧Bm v u∧Q v H'
def CR(CX:Rs)(outer:List Env)(P:fP)(w:fS)(H:Hp)(s:fJ)(Q:VK)(E:XK)(r:Result)(s':fJ):Prop:=
 match r with
 | .ok (.ret u)=>CE outer P w H s Q u s'
 | .ok _=>False
 | .error e=>CX outer H s E e s'
structure AC(P:fP)(w:fS)(K:aj)(mg:Str→Option fF)(base:Heap)(CX:Rs)(k:Nat)(f:fG)(fd:fO)(ps:List Str)(sp:Sp):Prop where
 len:∀vs H Q E,sp vs H Q E→vs.length=ps.length
 run:∀(A:fQ) (outer:List Env) (s:fJ) (H:Hp) (args:Args) (us:List fF) (vs:List V) (Q:VK) (E:XK),CO k A→NR P w K mg base A outer s H→BindsTo s fd args (ps.zip us)→A5 vs us→sp vs H Q E →
  codeAny (model P w) A (.call (.ref f) args) (CR CX outer P w H s Q E) s
theorem NR.make{P:fP}{w:fS}{K:aj}{mg:Str→Option fF}{base:Heap}{A:fQ}{outer:List Env}{s:fJ}{H:Hp}(e:NR P w K mg base A outer s H)(C:fG)(us:List fF)(kw:List (Str×fF)) :
  NR P w K mg base (A.under (.builtin "type.__call__" ⟨.ref C::us,kw⟩)) outer s H:=⟨by first|exact e.frames|(simpa [fQ.under,Code.envs,Code.isFrame,pushEnvs] using e.frames),e.mod,e.bs,e.bsz,e.funs,e.frf,e.hok,e.bare⟩
section
variable{X:Cx}{pins:List (fG×Obj)}{σ:St}{H:Hp}{s s':fJ}
theorem AR.env0(I:AR X pins σ H s):NR X.prog X.w X.K X.mg X.base X.A X.stack s H:=
 ⟨I.ok.frames,I.ok.mod,I.bs,aU I.ok.bsz I.sz,I.stack,I.stkFree,I.hok,I.bare⟩
theorem AR.after{Q:VK}{u:fF}(I:AR X pins σ H s)(h:CE X.stack X.prog X.w H s Q u s'):EP X pins σ Q u s':=by
 obtain⟨v,H',os,bare,un,hok,r,q⟩:=h
 obtain⟨hh,g,d,t,os'⟩:=s'
 obtain rfl:os'=s.os:=os
 exact⟨v,H',I.call (h':=hh) (g':=g) (d':=d) (t':=t) (ch:=[]) un hok bare (fun b z=>absurd z (by simp)),r,q⟩
end
def tCall(sp:Sp)(dvs:List V)(E:XK)(t:TA):TE:=fun σ H Q=>t σ H fun vs H1=>sp (vs++dvs) H1 Q E
def tMake(C:fG)(sp:Sp)(dvs:List V)(E:XK)(t:TA):TE:=fun σ H Q=>t σ H fun vs H1=>∀x dx,H1 x=none→H1 dx=none→dx≠x →
 sp (.ref x::(vs++dvs)) (upd (upd H1 dx (.own x)) x (.ins C dx [])) (fun v H2=>v=.non∧Q (.ref x) H2) E
def Fg(K:aj)(fd:fO)(ps:List Str)(ds:List fF):Prop:=
 ∀(s:fJ) (us:List fF),K.In s.heap→(us++ds).length=ps.length→BindsTo s fd ⟨us,[]⟩ (ps.zip (us++ds))
theorem Fg.all{K:aj}{fd:fO}{ps:List Str}(h:∀us:List fF,us.length=ps.length→bindArgs fd ⟨us,[]⟩=pure (ps.zip us)):Fg K fd ps []:=fun s us _ hl=>by
 rw[bn]at hl ⊢
 exact .of_eq (h us hl)
def JX(CX:Rs)(X:Cx)(E:XK):Prop:=∀(pins:List (fG×Obj)) (σ:St) (H:Hp) (s:fJ) (e:fF) (s':fJ),AR X pins σ H s→CX X.stack H s E e s'→X.xe e s'
section
variable{X:Cx}{CX:Rs}{k:Nat}{f C:fG}{fd:fO}{ps:List Str}{sp:Sp}{dvs:List V}{ds:List fF}{E:XK}{x m:Str}{p pos apos:Pos}{e o:Expr}{es:List Expr}{ta:TE}{t:TA}
theorem run_fn{pins:List (fG×Obj)}{σ:St}{H:Hp}{s:fJ}{Q:VK}{us:List fF}{vs:List V}(F:AC X.prog X.w X.K X.mg X.base CX k f fd ps sp)(hr:CO k X.A)(hb:Fg X.K fd ps ds)(hd:A5 dvs ds)(hx:JX CX X E)
  (I:AR X pins σ H s) (r:A5 vs us) (h:sp (vs++dvs) H Q E):wpAny (model X.prog X.w) X.A (call (.ref f) us) (EP X pins σ Q) X.xe s:=by
 have r2:A5 (vs++dvs) (us++ds):=r.append hd
 have hl:(us++ds).length=ps.length:=by rw[← r2.length];exact F.len _ _ _ _ h
 refine wpAny_call (ge (F.run X.A X.stack s H ⟨us,[]⟩ (us++ds) (vs++dvs) Q E hr I.env0 (hb s us I.kIn hl) r2 h) fun r s' hq=>?_)
 cases r with
 | error e=>exact hx pins σ H s e s' I hq
 | ok fl=>
  cases fl with
  | ret u=>exact I.after hq
  | next=>exact False.elim hq
  | brk=>exact False.elim hq
  | cont=>exact False.elim hq
theorem Aq(F:AC X.prog X.w X.K X.mg X.base CX k f fd ps sp)(hr:CO k X.A)(hg:Gl X x)(hm:X.mg x=some (.ref f))(hk:cm X.K (.ref f)=true)(hb:Fg X.K fd ps ds)(hd:A5 dvs ds)(hx:JX CX X E)
  (ha:PA X (e::es) t) (hdb:(x==("__debug__" : Str))=false:=by decide) (he:gj (e::es) X.env=(false,eval e X.env)::gj es X.env:=by rfl) (hpl:(backTo pos (gj es X.env)).any (·.1)=false:=by rfl) :
  PE X (.Call (.Name x p) (e::es) [] pos) (tCall sp dvs E t):=by
 intro pins s σ H Q I h
 refine fW (Lu I hg hm ?_ hdb)
 refine eM (h₀:=X.base) I.ok.mod.kin hk (B0 (ha pos pins s σ H _ I h) fun us s1 ⟨vs,H1,I1,r,q⟩=>⟨I1.kIn,?_⟩) he hpl
 exact run_fn F hr hb hd hx I1 r q
structure Mk(K:aj)(C f:fG):Prop where
 makes:df K C=true
 init:bt K (.ref C) "__init__" = some (some (.ref f))
 fn:eU K (.ref f)=true
 kp:cm K (.ref C)=true
theorem Qi{pins:List (fG×Obj)}{σ:St}{H:Hp}{s:fJ}{Q:VK}{us:List fF}{vs:List V}(M:Mk X.K C f)(F:AC X.prog X.w X.K X.mg X.base CX k f fd ps sp)(hr:CO (k+1) X.A)(hb:Fg X.K fd ps ds)(hd:A5 dvs ds)
  (hx:JX CX X E) (I:AR X pins σ H s) (r:A5 vs us)
  (h:∀x dx,H x=none→H dx=none→dx≠x→sp (.ref x::(vs++dvs)) (upd (upd H dx (.own x)) x (.ins C dx [])) (fun v H2=>v=.non∧Q (.ref x) H2) E) :
  wpAny (model X.prog X.w) X.A (call (.ref C) us) (EP X pins σ Q) X.xe s:=by
 have hq:=h (s.heap.objs.size+1) s.heap.objs.size (I.hok.fresh (c7 _)) (I.hok.fresh (aE _)) (ba (bU _))
 have I2:=AR.made (C:=C) I
 have r2:A5 (V.ref (s.heap.objs.size+1)::(vs++dvs)) (fF.ref (s.heap.objs.size+1)::(us++ds)):=.cons rfl (r.append hd)
 have hl:(fF.ref (s.heap.objs.size+1)::us++ds).length=ps.length:=by
  have e:=r2.length
  rw[F.len _ _ _ _ hq]at e
  exact e.symm
 refine wpAny_call (QH (f:=f) I.kIn M.makes M.init (beq_iff_eq.mp M.fn) (ge (F.run _ X.stack _ _ ⟨fF.ref (s.heap.objs.size+1)::us,[]⟩ (fF.ref (s.heap.objs.size+1)::(us++ds)) _ _ E (hr.make C us [])
  (I2.env0.make C us []) (hb _ (fF.ref (s.heap.objs.size+1)::us) I2.kIn hl) r2 hq) fun r s' hq'=>?_))
 cases r with
 | error e=>exact hx pins σ _ _ e s' I2 hq'
 | ok fl=>
  cases fl with
  | ret u=>
   obtain⟨v,H',I3,rv,ev,q3⟩:=I2.after hq'
   subst ev
   exact⟨rv,⟨V.ref (s.heap.objs.size+1),H',I3,rfl,q3⟩⟩
  | next=>exact False.elim hq'
  | brk=>exact False.elim hq'
  | cont=>exact False.elim hq'
theorem Lj(M:Mk X.K C f)(F:AC X.prog X.w X.K X.mg X.base CX k f fd ps sp)(hr:CO (k+1) X.A)(hg:Gl X x)(hm:X.mg x=some (.ref C))(hb:Fg X.K fd ps ds)(hd:A5 dvs ds)(hx:JX CX X E)
  (ha:PA X (e::es) t) (hdb:(x==("__debug__" : Str))=false:=by decide) (he:gj (e::es) X.env=(false,eval e X.env)::gj es X.env:=by rfl) (hpl:(backTo pos (gj es X.env)).any (·.1)=false:=by rfl) :
  PE X (.Call (.Name x p) (e::es) [] pos) (tMake C sp dvs E t):=by
 intro pins s σ H Q I h
 refine fW (Lu I hg hm ?_ hdb)
 refine eM (h₀:=X.base) I.ok.mod.kin M.kp (B0 (ha pos pins s σ H _ I h) fun us s1 ⟨vs,H1,I1,r,q⟩=>⟨I1.kIn,?_⟩) he hpl
 exact Qi M F hr hb hd hx I1 r q
end
section
variable{X:Cx}{CX:Rs}{k:Nat}{f C:fG}{fd:fO}{ps ks:List Str}{sp:Sp}{E:XK}{x m:Str}{p pos apos kpos:Pos}{e o:Expr}{es:List Expr}{kws:List Keyword}{te ta:TE}{t tk:TA}{nm:Option Str}
variable{g:List fF→List fF→List fF}{gV:List V→List V→List V}
end
structure AA(N P:List Str)(sc:Scope):Prop where
 kind:sc.kind=.function
 co:sc.isCoroutine=false
 gen:sc.isGenerator=false
 nd:N.Nodup
 pre:N.take P.length=P
 par:∀x∈P,sc.names.lookup x=some .local∨sc.names.lookup x=some .cell
 nofree:∀y∈sc.names,y.2≠.free
theorem KN{kindOf:Str→Option fZ}{x:Str}:∀{binds:List (Str×fF)} {m:Str→Option fF},(∀v,(x,v)∉binds)→bindL kindOf binds m x=m x
 | [],_,_=>rfl
 | (n,v)::r,m,h=>by
  unfold bindL
  rw[KN fun w hw=>h w (aq _ hw)]
  split
  ·have:x≠n:=by rintro rfl;exact h v aw
   simp[this]
  ·rfl
theorem KP{kindOf:Str→Option fZ}{x:Str}:∀{binds:List (Str×fF)} {m:Str→Option fF},(∀v,(x,v)∉binds)→bindC kindOf binds m x=m x
 | [],_,_=>rfl
 | (n,v)::r,m,h=>by
  unfold bindC
  rw[KP fun w hw=>h w (aq _ hw)]
  split
  ·rfl
  ·have:x≠n:=by rintro rfl;exact h v aw
   simp[this]
theorem KO{kindOf:Str→Option fZ}{x:Str}{v:fF}:∀{P:List Str} {vs:List fF} {i:Nat} {m:Str→Option fF},P.Nodup→P[i]?=some x→vs[i]?=some v→kindOf x=some .local →
  bindL kindOf (P.zip vs) m x=some v
 | [],_,_,_,_,h,_,_=>by simp at h
 | _::_,[],_,_,_,_,h,_=>by simp at h
 | p::P,w::vs,0,m,nd,h1,h2,hk=>by
  simp at h1 h2;subst h1;subst h2
  show bindL kindOf ((p,w)::P.zip vs) m p=_
  unfold bindL
  rw[KN fun v hv=>(bm.mp nd).1 (dM hv).1,if_pos hk]
  simp
 | p::P,w::vs,i+1,m,nd,h1,h2,hk=>by
  show bindL kindOf ((p,w)::P.zip vs) m x=_
  unfold bindL
  exact KO (i:=i) (bm.mp nd).2 (by simpa using h1) (by simpa using h2) hk
theorem KQ{kindOf:Str→Option fZ}{x:Str}{v:fF}:∀{P:List Str} {vs:List fF} {i:Nat} {m:Str→Option fF},P.Nodup→P[i]?=some x→vs[i]?=some v→kindOf x≠some .local →
  bindC kindOf (P.zip vs) m x=some v
 | [],_,_,_,_,h,_,_=>by simp at h
 | _::_,[],_,_,_,_,h,_=>by simp at h
 | p::P,w::vs,0,m,nd,h1,h2,hk=>by
  simp at h1 h2;subst h1;subst h2
  show bindC kindOf ((p,w)::P.zip vs) m p=_
  unfold bindC
  rw[KP fun v hv=>(bm.mp nd).1 (dM hv).1,if_neg hk]
  simp
 | p::P,w::vs,i+1,m,nd,h1,h2,hk=>by
  show bindC kindOf ((p,w)::P.zip vs) m x=_
  unfold bindC
  exact KQ (i:=i) (bm.mp nd).2 (by simpa using h1) (by simpa using h2) hk
def start(N:List Str)(vs:List V):St:=vs.map some++dW (N.length - vs.length) none
def LL(CX:Rs)(P:fP)(w:fS)(K:aj)(mg:Str→Option fF)(base:Heap)(N:List Str)(qual:Str)(scope:Scope)(f:fG)(cd:fF)(A:fQ)(outer:List Env)(s:fJ)(H:Hp)(E:XK):Cx where
 prog:=P
 w:=w
 K:=K
 mg:=mg
 base:=base
 A:=A.deeper (envOfC qual scope s.heap.objs.size f cd)
 N:=N
 s₀:=s
 H₀:=H
 env:=envOfC qual scope s.heap.objs.size f cd
 outer:=outer
 stack:=envOfC qual scope s.heap.objs.size f cd::outer
 ex:=[]
 calm:=true
 fn:=fun _=>true
 pn:=[]
 xe:=fun e s'=>wpAny (model P w) (A.deeper (envOfC qual scope s.heap.objs.size f cd)) (leaving (envOfC qual scope s.heap.objs.size f cd) e) (fun _ s''=>CX outer H s E e s'') (fun e' s''=>CX outer H s E e' s'') s'
theorem MY{sc:Scope}{n:Nat}{x:Str}(h:sc.names.lookup x=some .cell):∃c,(cellsFrom n sc.names []).lookup x=some c:=by
 have q:=dF sc.names n [] (.inl h)
 exact cD.mp q
theorem Pu{CX:Rs}{P:fP}{w:fS}{K:aj}{mg:Str→Option fF}{base:Heap}{N ps:List Str}{qual:Str}{scope:Scope}{f:fG}{cd:fF}{A:fQ}{outer:List Env}{s s1:fJ}{H:Hp}{E:XK}{us:List fF}{vs:List V}
  (S:AA N ps scope) (hd:A.handled=none) (e0:NR P w K mg base A outer s H) (hl:vs.length=ps.length) (r:A5 vs us)
  (x:InCallC s s.heap.objs.size (bindL (envOfC qual scope s.heap.objs.size f cd).kindOf (ps.zip us) fun _=>none) (cellsFrom (s.heap.objs.size+1) scope.names []) (bindC (envOfC qual scope s.heap.objs.size f cd).kindOf (ps.zip us) fun _=>none) s1) :
  AR (LL CX P w K mg base N qual scope f cd A outer s H E) [] (start N vs) H s1:=by
 have hpl:ps.length≤N.length:=by have:=congrArg d4 S.pre;rw[bc]at this;omega
 obtain⟨h1,tk,rfl,hk⟩:=x.done
 have noA:∀b:fG,b∉(LL CX P w K mg base N qual scope f cd A outer s H E).ex:=fun b z=>absurd (show b∈([]:List fG) from z) (by simp)
 refine⟨⟨e0.mod,S.kind,rfl,rfl,aE _,fun y z c h1 h2=>?_,fun y hy=>?_,fun y c _ h=>?_,fun _=>hd,fQ.frames_deeper e0.frames,.inr ⟨rfl,rfl⟩,fun b z=>absurd z (noA b),e0.bs,e0.bsz,fun b _ _=>noA b,fun b z=>absurd z (noA b),e0.funs,e0.frf⟩,
  rfl,e0.bare,Un.kept hk,⟨_,x.toInCall.ns,fun i y v h1 h2 h3=>?_⟩,fun y c h=>⟨_,x.cell y c h⟩,e0.hok.fresh (aE _),fun y c h=>?_,fun p hp=>absurd (show p∈([]:List (fG×Obj)) from hp) (by simp),e0.hok.kept hk,?_⟩
 ·exact name_of_addr x.apart (PySem.mem_of_lookup h1) (PySem.mem_of_lookup h2)
 ·have hy:scope.names.lookup y=some .cell∨scope.names.lookup y=some .free:=hy
  rcases hy with hy|hy
  ·exact MY hy
  ·exact absurd rfl (S.nofree _ (PySem.mem_of_lookup hy))
 ·exact dm (x.above y c (PySem.mem_of_lookup h))
 ·have hi:i<vs.length:=by
   unfold start at h2
   by_cases hi:i<vs.length
   ·exact hi
   ·rw[aT (by simpa using hi)]at h2
    rw[d9]at h2
    split at h2<;>cases h2
  have ha:vs[i]?=some v:=by
   unfold start at h2
   rw[aO (by simpa using hi),av]at h2
   cases e:vs[i]? with
   | none=>rw[e]at h2;cases h2
   | some a=>rw[e]at h2;cases h2;rfl
  obtain⟨u,hu,rv⟩:=r.get ha
  have hp:ps[i]?=some y:=by
   rw[← S.pre,d7 (by omega)];exact h1
  have ndP:ps.Nodup:=by rw[← S.pre];exact S.nd.sublist (List.take_sublist _ _)
  refine⟨u,rv,?_⟩
  rcases S.par y (ay hp) with k|k
  ·exact .inl ⟨k,KO ndP hp hu k⟩
  ·obtain⟨c,e⟩:=MY (n:=s.heap.objs.size+1) k
   refine .inr ⟨.inl k,c,e,?_⟩
   have q:=x.cell y c e
   rw[KQ ndP hp hu (by show scope.names.lookup y≠_;rw[k];decide)]at q
   exact q
 ·exact e0.hok.fresh (dm (x.above y c (PySem.mem_of_lookup h)))
 ·unfold start
  show _=N.length
  rw[ai,ac,dQ]
  omega
theorem fn_of{CX:Rs}{P:fP}{w:fS}{K:aj}{mg:Str→Option fF}{base:Heap}{k:Nat}{f:fG}{name qual:Str}{params:Arguments}{body:List Stmt}{scope:Scope}{dV kV doc pm cdv ct oc:fF}{an od:Option fG}
  {osl:Array (Option fF)} {N ps:List Str} {sp:Sp} (lk:K.lookup f=some ⟨oc,od,.func (cj name qual params body scope dV kV doc pm an cdv ct),osl⟩) (hcd:dq K cdv qual=true) (S:AA N ps scope)
  (len:∀vs H Q E,sp vs H Q E→vs.length=ps.length)
  (hbody:∀(A:fQ) (outer:List Env) (s:fJ) (H:Hp) (vs:List V) (Q:VK) (E:XK),CO k (A.deeper (envOfC qual scope s.heap.objs.size f cdv))→sp vs H Q E →
   ∃t,M2 (LL CX P w K mg base N qual scope f cdv A outer s H E) body t∧t { nx:=fun _ H'=>Q .non H',rt:=Q } (start N vs) H) :
  AC P w K mg base CX (k+1) f (cj name qual params body scope dV kV doc pm an cdv ct) ps sp:=by
 refine⟨len,fun A outer s H args us vs Q E hr e0 hb r hsp=>?_⟩
 have hl:=len _ _ _ _ hsp
 have KX:K.In s.heap:=e0.mod.kin.keeps fun b o e=>(e0.bs b o e).1
 have lim:s.heap.NoLimit:=e0.mod.nolimit.keeps fun b o e=>(e0.bs b o e).1
 have hkind:∀y∈ps.zip us,scope.names.lookup y.1=some .local∨(scope.names.lookup y.1=some .cell∧((cellsFrom (s.heap.objs.size+1) scope.names []).lookup y.1).isSome=true):=fun⟨n,v⟩ hy=>by
  rcases S.par n (dM hy).1 with q|q
  ·exact .inl q
  ·exact .inr ⟨q,dF _ _ _ (.inl q)⟩
 refine codeAny_call_function hr.depth (KX _ _ lk) rfl S.co S.gen rfl (PySem.W.codeRec_of KX hcd) (hb _ _ _ _ ?_)
 refine wpAny_newFunctionEnv_cells S.kind hkind fun env he s1 x=>?_
 subst he
 refine⟨lim.keeps x.toInCall.keep,codeAny_func ?_⟩
 obtain⟨t,ht,hq⟩:=hbody A outer s H vs Q E (hr.deeper _) hsp
 have I:AR (LL CX P w K mg base N qual scope f cdv A outer s H E) [] (start N vs) H s1:=Pu S hr.hd e0 hl r x
 refine fT (ht [] s1 (start N vs) H _ I hq) (fun fl s' hs=>?_) fun e s' hs=>hs
 have fin:∀{σ':St} {H':Hp} {v:V} {u:fF},AR (LL CX P w K mg base N qual scope f cdv A outer s H E) [] σ' H' s'→Bm v u→Q v H'→CE outer P w H s Q u s':=
  fun{σ' H' v u} J rv q=>⟨v,H',J.os,J.bare,J.base,J.hok,rv,q⟩
 cases fl with
 | ret u=>
  obtain⟨v,σ',H',J,rv,q⟩:=hs
  exact fin J rv q
 | next=>
  obtain⟨σ',H',J,q⟩:=hs
  exact fin (v:=V.non) (u:=fF.none) J rfl q
 | brk=>
  obtain⟨_,_,_,q⟩:=hs
  exact False.elim q
 | cont=>
  obtain⟨_,_,_,q⟩:=hs
  exact False.elim q
end L2
namespace L2
open PySem PySem.Spec PyProof.Rows
section
variable{X:Cx}{x:Str}{p pos:Pos}{e:Expr}{es:List Expr}{t:TA}{id T:String}{r:List V→Hp→VK→Prop}
def tCB(r:List V→Hp→VK→Prop)(t:TA):TE:=fun σ H Q=>t σ H fun vs H1=>r vs H1 Q
theorem AF(hc:JZ X (.builtin id) r)(hg:Gl X x)(hm:X.mg x=none)(hv:gf x=some (.builtin id))(ha:PA X (e::es) t)(hn:x≠"__name__":=by decide)(hdb:(x==("__debug__" : Str))=false:=by decide)
  (he:gj (e::es) X.env=(false,eval e X.env)::gj es X.env:=by rfl) (hpl:(backTo pos (gj es X.env)).any (·.1)=false:=by rfl):PE X (.Call (.Name x p) (e::es) [] pos) (tCB r t):=by
 intro pins s σ H Q I h
 refine fW (E6 I hg hm hv ?_ hn hdb)
 exact PyProof.Rows.callWith_builtin1 (B0 (ha pos pins s σ H _ I h) fun us s1 ⟨vs,H1,I1,r1,q1⟩=>hc pins s1 σ H1 vs us Q I1 r1 q1) he hpl
theorem Bc(hc:JZ X (.type T) r)(hg:Gl X x)(hm:X.mg x=none)(hv:gf x=some (.type T))(ha:PA X (e::es) t)(hn:x≠"__name__":=by decide)(hdb:(x==("__debug__" : Str))=false:=by decide)
  (he:gj (e::es) X.env=(false,eval e X.env)::gj es X.env:=by rfl) (hpl:(backTo pos (gj es X.env)).any (·.1)=false:=by rfl):PE X (.Call (.Name x p) (e::es) [] pos) (tCB r t):=by
 intro pins s σ H Q I h
 refine fW (E6 I hg hm hv ?_ hn hdb)
 exact PyProof.Rows.callWith_type1 (B0 (ha pos pins s σ H _ I h) fun us s1 ⟨vs,H1,I1,r1,q1⟩=>hc pins s1 σ H1 vs us Q I1 r1 q1) he hpl
end
end L2
namespace HT
open PySem PyProof.Rows
section
open PySem.SeqAt
open PySem.AutoSeq1 (wpAny_loadPart')
open PySem.MeetsSeq PySem.MeetsSeq2 PySem.MeetsSeq3
end
section
variable{prog:fP}{w:fS}{A:fQ}{E:fF→fJ→Prop}{s:fJ}
theorem cat_tup{t b:fG}{vs ws:List fF}{Q:fF→fJ→Prop}(ht:IsTup s.heap t vs.toArray)(hb:IsTup s.heap b ws.toArray)(hv:vs≠[])
  (h1:ws=[]→Q (.ref t) s) (h2:ws≠[]→Q (.ref s.heap.objs.size) { s with heap:=s.heap.push { cls:=.type "tuple",data:=.seq (vs++ws).toArray } })
  (hsz:vs.length+ws.length≤fL):wpAny (model prog w) A (binaryOp .Add (.ref t) (.ref b)) Q E s:=by
 obtain⟨⟨cls,dd,data,sl⟩,ho,hc,n,hd⟩:=id ht
 obtain⟨⟨cls2,dd2,data2,sl2⟩,ho2,hc2,n2,hd2⟩:=id hb
 simp only at hc hd hc2 hd2
 subst hc hd hc2 hd2
 have e:vs.toArray++ws.toArray=(vs++ws).toArray:=by simp
 by_cases hw:ws=[]
 ·exact concat_meets ⟨_,ho,rfl⟩ ⟨_,ho2,rfl⟩ noFill_tuple_add seq_tuple_add cP cI (cE _ _)
   (tuple_addW1 t b vs.toArray ws.toArray n n2 dd dd2 sl sl2 (by simpa using hv) (by simp[hw])) ⟨ho,ho2,h1 hw⟩
 ·refine concat_meets ⟨_,ho,rfl⟩ ⟨_,ho2,rfl⟩ noFill_tuple_add seq_tuple_add cP cI (cE _ _)
   (tuple_addW2 t b vs.toArray ws.toArray n n2 dd dd2 sl sl2 (by simpa using hv) (by simpa using hw) (by rw[aH,aH];exact hsz)) ⟨ho,ho2,?_⟩
  rw[e]
  exact h2 hw
def sIx(n d:Nat):Option Int→Nat
 | none=>d
 | some v=>if v<0 then(v+(n:Int)).toNat else min v.toNat n
theorem sIx_none(n d:Nat):sIx n d none=d:=rfl
theorem sIx_nat(n d k:Nat):sIx n d (some (k:Int))=min k n:=by
 show(if(k:Int)<0 then((k:Int)+(n:Int)).toNat else min (k:Int).toNat n)=min k n
 rw[if_neg (by omega),aA]
end
end HT
namespace L2
open PySem PySem.Spec PyProof.Rows
abbrev TO:=St→Hp→(Option Int→Hp→Prop)→Prop
def PO(X:Cx)(e:Option Expr)(t:TO):Prop:=
 ∀(pins:List (fG×Obj)) (s:fJ) (σ:St) (H:Hp) (Q:Option Int→Hp→Prop),AR X pins σ H s→t σ H Q →
  wpAny (model X.prog X.w) X.A (evalPart e X.env) (fun u s'=>∃o H',AR X pins σ H' s'∧IsPart u o∧Q o H') X.xe s
def Ry:TO:=fun _ H Q=>Q none H
def tPart(t:TE):TO:=fun σ H Q=>t σ H fun x H1=>∃i,x=.int i∧Q (some i) H1
theorem Jo{ns:List Int}:∀{us:List fF},A5 (ns.map V.int) us→IntsAre us ns:=by
 induction ns with
 | nil=>intro us r;rw[dG]at r;cases r;exact .nil
 | cons n ns ih=>
  intro us r
  rw[aY]at r
  cases r with
  | cons r1 r2=>
   obtain⟨t,e⟩:=r1
   subst e
   exact .cons n t (ih r2)
section
variable{X:Cx}{e:Expr}{te:TE}{lo hi:Option Expr}{tl th:TO}{pos p2:Pos}
theorem EA:PO X none Ry:=by
 intro pins s σ H Q I h
 rw[evalPart_none]
 exact fM ⟨none,H,I,.none,h⟩
theorem Ez(h:PE X e te):PO X (some e) (tPart te):=by
 intro pins s σ H Q I hw
 rw[evalPart_some]
 refine B0 (h pins s σ H _ I hw) fun u s1 ⟨x,H1,I1,r1,q1⟩=>?_
 obtain⟨i,rfl,q⟩:=q1
 obtain⟨t,rfl⟩:=r1
 exact⟨some i,H1,I1,.int i t,q⟩
def SlR(X:Cx)(r:V→Option Int→Option Int→Hp→VK→Prop):Prop:=
 ∀(pins:List (fG×Obj)) (s:fJ) (σ:St) (H:Hp) (x:V) (v vl vu:fF) (lo hi:Option Int) (sl:fG) (Q:VK),AR X pins σ H s→Bm x v→s.heap.IsSliceOf sl vl vu .none→IsPart vl lo→IsPart vu hi→r x lo hi H Q →
  ∃T id,typeLookup (.type T) "__getitem__" = pure (some (.builtin id))∧s.TypeIs v T∧wpAny (model X.prog X.w) X.A (getItem v (.ref sl)) (EP X pins σ Q) X.xe s
def tSl(r:V→Option Int→Option Int→Hp→VK→Prop)(te:TE)(tl th:TO):TE:=fun σ H Q=>te σ H fun x H1=>tl σ H1 fun l H2=>th σ H2 fun u H3=>r x l u H3 Q
theorem DJ{r:V→Option Int→Option Int→Hp→VK→Prop}(hr:SlR X r)(he:PE X e te)(hl:PO X lo tl)(hu:PO X hi th):PE X (.Subscript e (.Slice lo hi none p2) pos) (tSl r te tl th):=by
 intro pins s σ H Q I h
 refine Subscript_ (B0 (he pins s σ H _ I h) fun v s1 ⟨x,H1,I1,r1,q1⟩=>?_)
 refine wpAny_Slice (B0 (hl pins s1 σ H1 _ I1 q1) fun vl s2 ⟨l,H2,I2,pl,q2⟩=>B0 (hu pins s2 σ H2 _ I2 q2) fun vu s3 ⟨u,H3,I3,pu,q3⟩=>?_)
 rw[evalPart_none]
 refine fM ?_
 have I4:AR X pins σ H3 { s3 with heap:=s3.heap.push { cls:=.type "slice",data:=.fields #[vl,vu,.none] } }:=I3.kept (t':=s3.toks) fun b ob q=>Heap.get?_push_of_some _ q
 obtain⟨T,id,hT,ht,hg⟩:=hr pins { s3 with heap:=s3.heap.push { cls:=.type "slice",data:=.fields #[vl,vu,.none] } } σ H3 x v vl vu l u s3.heap.objs.size Q I4 r1 (Heap.IsSliceOf.new ..) pl pu q3
 show wpAny (model X.prog X.w) X.A (subscriptTail e (.Slice lo hi none p2) v (.ref s3.heap.objs.size)) (EP X pins σ Q) X.xe { s3 with heap:=s3.heap.push { cls:=.type "slice",data:=.fields #[vl,vu,.none] } }
 exact tail_any (ops:=[.ref s3.heap.objs.size,v]) ht hT hg (by with_unfolding_all rfl)
def Cm(xs:List V)(lo hi:Option Int):List V:=(xs.drop (HT.sIx xs.length 0 lo)).take (HT.sIx xs.length xs.length hi - HT.sIx xs.length 0 lo)
theorem MW(xs:List V)(lo hi:Option Int):(Cm xs lo hi).length≤xs.length:=by
 unfold Cm
 rw[bc,bV]
 omega
def rCatT(K:aj):R2:=fun x y H Q=>∃a b xs ys,x=.ref a∧y=.ref b∧A2 K H a xs∧A2 K H b ys∧xs≠[]∧xs.length+ys.length≤fL ∧
 (ys=[]→Q (.ref a) H)∧(ys≠[]→∀p,H p=none→Q (.ref p) (upd H p (.tup (xs++ys))))
theorem A5.nil_iff{xs:List V}{us:List fF}(r:A5 xs us):us=[]↔xs=[]:=by
 cases r with
 | nil=>simp
 | cons _ _=>simp
theorem RS:G9 X (binaryOp .Add) (rCatT X.K):=by
 intro pins s σ H x y v u Q I rx ry h
 obtain⟨a,b,xs,ys,rfl,rfl,ha,hb,hx,hz,q1,q2⟩:=h
 cases rx
 cases ry
 obtain⟨its,r1,p1,_⟩:=I.tuple ha
 obtain⟨its2,r2,p2,_⟩:=I.tuple hb
 refine HT.cat_tup p1 p2 (fun z=>hx (r1.nil_iff.mp z)) (fun z=>⟨.ref a,H,I,rfl,q1 (r2.nil_iff.mp z)⟩) (fun z=>?_) (by rw[← r1.length,← r2.length];exact hz)
 refine⟨.ref s.heap.objs.size,_,I.laid (t':=s.toks) (o:=.tup (xs++ys)) (fun b ob q=>Heap.get?_push_of_some _ q) (aE _) ?_,rfl,q2 (fun w=>z (r2.nil_iff.mpr w)) _ (I.hok.fresh (aE _))⟩
 exact⟨by rw[ai];exact hz,_,r1.append r2,IsTup.new _ _⟩
end
end L2
namespace L2
open PySem PySem.Spec PyProof.Rows
def QQ(n:Nat)(i:Int):Option Nat:=if 0≤i then(if i<n then some i.toNat else none) else if -(n:Int)≤i then some (i+n).toNat else none
def G6{α:Type}(xs:List α)(i:Int):Option α:=(QQ xs.length i).bind fun j=>xs[j]?
theorem OB{n:Nat}{i:Int}{j:Nat}(h:QQ n i=some j):seqIndex? i n=some j∧j<n∧-(n:Int)≤i∧i<n:=by
 unfold QQ at h
 by_cases h0:0≤i
 ·rw[if_pos h0]at h
  by_cases h1:i<n
  ·rw[if_pos h1]at h
   have e:i.toNat=j:=br.inj h
   exact⟨by rw[seqIndex_of h0 h1,e],by omega,by omega,h1⟩
  ·rw[if_neg h1]at h;cases h
 ·rw[if_neg h0]at h
  by_cases h1:-(n:Int)≤i
  ·rw[if_pos h1]at h
   have e:(i+n).toNat=j:=br.inj h
   exact⟨by rw[seqIndex_neg (by omega) h1,e],by omega,h1,by omega⟩
  ·rw[if_neg h1]at h;cases h
theorem OS{α:Type}{xs:List α}{i:Int}{v:α}(h:G6 xs i=some v):∃j,seqIndex? i xs.length=some j∧xs[j]?=some v∧j<xs.length∧-(xs.length:Int)≤i∧i<xs.length:=by
 unfold G6 at h
 cases e:QQ xs.length i with
 | none=>rw[e]at h;cases h
 | some j=>
  rw[e]at h
  obtain⟨h1,h2,h3,h4⟩:=OB e
  exact⟨j,h1,h,h2,h3,h4⟩
theorem Bo{α:Type}{xs:List α}{j:Nat}{v:α}(h:xs[j]?=some v):G6 xs (j:Int)=some v:=by
 have hj:j<xs.length:=(af.mp h).1
 have e:QQ xs.length (j:Int)=some j:=by
  unfold QQ
  rw[if_pos (by omega),if_pos (by omega)];simp
 unfold G6;rw[e];exact h
def Sz(b:Expr):Prop:=∀o i,subscripted b false o i=operate [o,i] (getItem o i)
def IxR(X:Cx)(r:R2):Prop:=
 ∀(value slice:Expr) (pins:List (fG×Obj)) (s:fJ) (σ:St) (H:Hp) (x y:V) (v u:fF) (Q:VK),AR X pins σ H s→Bm x v→Bm y u→r x y H Q →
  subscripted slice false v u=operate [v,u] (getItem v u)→wpAny (model X.prog X.w) X.A (subscriptTail value slice v u) (EP X pins σ Q) X.xe s
def MtR(X:Cx)(id:String)(r:V→List V→Hp→VK→Prop):Prop:=
 ∀(pins:List (fG×Obj)) (s:fJ) (σ:St) (H:Hp) (x:V) (xs:List V) (v:fF) (us:List fF) (Q:VK),AR X pins σ H s→Bm x v→A5 xs us→r x xs H Q →
  wpAny (model X.prog X.w) X.A (call (.builtin id) (v::us)) (EP X pins σ Q) X.xe s
section
variable{X:Cx}{a b:Expr}{ta tb:TE}{pos:Pos}
theorem Ao{r:R2}(hr:IxR X r)(ha:PE X a ta)(hb:PE X b tb)(hs:Sz b):PE X (.Subscript a b pos) (tOp r ta tb):=by
 intro pins s σ H Q I h
 exact Subscript_ (binT ha hb I h fun v u s2 x y H2 I2 rx ry q=>hr a b pins s2 σ H2 x y v u Q I2 rx ry q (hs _ _))
def rIxL(K:aj):R2:=fun x y H Q=>∃p xs i v,x=.ref p∧y=.int i∧AD K H p xs∧G6 xs i=some v∧Q v H
def rIxT(K:aj):R2:=fun x y H Q=>∃p xs i v,x=.ref p∧y=.int i∧A2 K H p xs∧G6 xs i=some v∧Q v H
theorem Au:IxR X (rIxL X.K):=by
 intro value slice pins s σ H x y v u Q I rx ry h hs
 obtain⟨p,xs,i,z,rfl,rfl,hq,he,q⟩:=h
 cases rx
 obtain⟨t,rfl⟩:=ry
 obtain⟨its,r,pl,hz⟩:=I.list hq
 obtain⟨j,h1,h2,h3,h4,h5⟩:=OS he
 obtain⟨w,ew,rw'⟩:=r.get h2
 have hl:=r.length
 have hn:=Ls
 have fin:EP X pins σ Q w s:=⟨z,H,I,rw',q⟩
 by_cases h0:0≤i
 ·have hj:i.toNat=j:=by
   rw[seqIndex_of h0 h5]at h1
   exact br.inj h1
  exact item_listR pl.isList h0 (by omega) (by rw[hj];simpa using ew) fin hs
 ·have hj:(i+(its.toArray.size:Int)).toNat=j:=by
   rw[seqIndex_neg (by omega) h4]at h1
   rw[aH,← hl]
   exact br.inj h1
  exact subscriptTail_builtinR (x:=w) pl.isList.typeIs slot_list_getitem.lookup
   (wpAny_getItem_list_neg (Q:=fun r s'=>r=w∧EP X pins σ Q r s') pl.isList (by omega) (by rw[aH]<;>omega) (by omega) (by rw[hj];simpa using ew) ⟨rfl,fin⟩) hs
theorem Av:IxR X (rIxT X.K):=by
 intro value slice pins s σ H x y v u Q I rx ry h hs
 obtain⟨p,xs,i,z,rfl,rfl,hq,he,q⟩:=h
 cases rx
 obtain⟨t,rfl⟩:=ry
 obtain⟨its,r,pl,hz⟩:=I.tuple hq
 obtain⟨j,h1,h2,h3,h4,h5⟩:=OS he
 obtain⟨w,ew,rw'⟩:=r.get h2
 have hl:=r.length
 have hn:=Ls
 have fin:EP X pins σ Q w s:=⟨z,H,I,rw',q⟩
 exact subscriptTail_builtinR (x:=w) pl.typeIs slot_tuple_getitem.lookup
  (getItem_tuple (j:=j) (Q:=fun r s'=>r=w∧EP X pins σ Q r s') pl (by omega) (by omega) (by rw[aH,← hl];exact h1) (by simpa using ew) ⟨rfl,fin⟩) hs
theorem Nw(its:List fF)(n j:Nat)(u:fF):Obj.mapSeq (·.setIfInBounds j u) { cls:=.type "list",data:=.seq its.toArray n }={ cls:=.type "list",data:=.seq (its.set j u).toArray n }:=by
 simp[Obj.mapSeq]
theorem AR.lst{pins:List (fG×Obj)}{σ:St}{H:Hp}{s:fJ}{p:fG}{xs:List V}(I:AR X pins σ H s)(h:H p=some (.lst xs)) :
  ∃(its:List fF) (n:Nat),A5 xs its∧s.heap.get? p=some { cls:=.type "list",data:=.seq its.toArray n }∧xs.length≤fL:=by
 obtain⟨z,its,n,r,e⟩:=I.hok p _ h
 exact⟨its,n,r,e,z⟩
theorem AR.lstUpd{pins:List (fG×Obj)}{σ:St}{H:Hp}{s:fJ}{p:fG}{xs ys:List V}{its its':List fF}{n n':Nat}{f:Obj→Obj}(I:AR X pins σ H s)(h:H p=some (.lst xs))
  (ho:s.heap.get? p=some { cls:=.type "list",data:=.seq its.toArray n }) (hf:f { cls:=.type "list",data:=.seq its.toArray n }={ cls:=.type "list",data:=.seq its'.toArray n' }) (r:A5 ys its') (hz:ys.length≤fL) (t:Nat) :
  AR X pins σ (upd H p (.lst ys)) { s with heap:=s.heap.update p f,toks:=t }:=by
 have e:(s.heap.update p f).get? p=some { cls:=.type "list",data:=.seq its'.toArray n' }:=by
  rw[Heap.get?_update_self f ho (by rw[hf]<;>rfl),hf]
 refine I.write (x:=p) (e:=p) (by rw[h];trivial) (.inl rfl) (fun b u hb q=>(Heap.get?_update_other _ _ (Ne.symm hb)).trans q) ⟨_,e⟩ ?_
 exact⟨hz,its',n',r,e⟩
def rSetL:V→V→V→Hp→(Hp→Prop)→Prop:=fun o i v H Q=>∃p xs k j,o=.ref p∧i=.int k∧H p=some (.lst xs)∧QQ xs.length k=some j∧Q (upd H p (.lst (xs.set j v)))
theorem IK:PSet X rSetL:=by
 intro pins s σ H o i v ov iv u Q I ro ri rv h
 obtain⟨p,xs,k,j,rfl,rfl,hp,hj,q⟩:=h
 cases ro
 obtain⟨t,rfl⟩:=ri
 obtain⟨its,n,r,ho,hz⟩:=I.lst hp
 obtain⟨h1,h2,h3,h4⟩:=OB hj
 have hl:=r.length
 have hn:=Ls
 have I':AR X pins σ (upd H p (.lst (xs.set j v))) { s with heap:=s.heap.update p (Obj.mapSeq (·.setIfInBounds j u)) }:=
  I.lstUpd hp ho (Nw its n j u) (r.set rv j) (by rw[List.length_set];exact hz) s.toks
 by_cases h0:0≤k
 ·have hk:k.toNat=j:=by
   rw[seqIndex_of h0 h4]at h1
   exact br.inj h1
  exact PySem.W.ki_setAt ho h0 (by omega) (by rw[aH,← hl];exact h4) (by rw[hk];exact⟨_,I',q⟩)
 ·have hk:(k+(its.toArray.size:Int)).toNat=j:=by
   rw[seqIndex_neg (by omega) h3]at h1
   rw[aH,← hl]
   exact br.inj h1
  exact PySem.W.ki_setBack ho (by omega) (by rw[aH,← hl];exact h3) (by omega) (by rw[hk];exact⟨_,I',q⟩)
theorem K7(lo hi:Option Int)(n:Nat):(sliceBounds lo hi none n).1=((HT.sIx n 0 lo:Nat):Int)∧(sliceBounds lo hi none n).2.1=((HT.sIx n n hi:Nat):Int)∧(sliceBounds lo hi none n).2.2=1:=by
 refine⟨?_,?_,rfl⟩
 ·cases lo with
  | none=>simp[sliceBounds,HT.sIx]
  | some i=>
   simp only[sliceBounds,HT.sIx,fq,show(1:Int) > 0 by decide,if_true]
   by_cases h:i<0
   ·simp only[h,if_true]<;>omega
   ·simp only[h,if_false]<;>omega
 ·cases hi with
  | none=>simp[sliceBounds,HT.sIx]
  | some i=>
   simp only[sliceBounds,HT.sIx,fq,show(1:Int) > 0 by decide,if_true]
   by_cases h:i<0
   ·simp only[h,if_true]<;>omega
   ·simp only[h,if_false]<;>omega
theorem J2(its:List fF)(lo hi:Option Int):slicePick its.toArray lo hi none=((its.drop (HT.sIx its.length 0 lo)).take (HT.sIx its.length its.length hi - HT.sIx its.length 0 lo)).toArray:=by
 obtain⟨h1,h2,h3⟩:=K7 lo hi its.toArray.size
 unfold slicePick
 rw[h1,h2,h3]
 simp only[sliceRange_one,pick_run,aH]<;>rfl
def rSlL(K:aj):V→Option Int→Option Int→Hp→VK→Prop:=fun x lo hi H Q=>∃a xs,x=.ref a∧AD K H a xs∧∀p,H p=none→Q (.ref p) (upd H p (.lst (Cm xs lo hi)))
theorem Er:SlR X (rSlL X.K):=by
 intro pins s σ H x v vl vu lo hi sl Q I rx hs pl pu h
 obtain⟨a,xs,rfl,hx,q⟩:=h
 cases rx
 obtain⟨its,r,ht,hz⟩:=I.list hx
 have hlen:=r.length
 refine⟨"list",_,slot_list_getitem.lookup,ht.isList.typeIs,?_⟩
 refine wpAny_getItem_list_slice ht.isList hs pl pu .none (by simp) ?_ (by rw[aH]<;>omega)
 rw[J2,← hlen]
 refine⟨.ref s.heap.objs.size,_,I.laid (t':=s.toks) (o:=.lst (Cm xs lo hi)) (fun b ob q=>Heap.get?_push_of_some _ q) (aE _) ?_,rfl,q _ (I.hok.fresh (aE _))⟩
 exact⟨aU (MW xs lo hi) hz,_,0,(r.drop (HT.sIx xs.length 0 lo)).take (HT.sIx xs.length xs.length hi - HT.sIx xs.length 0 lo),Heap.get?_push_size _ rfl⟩
def G4:V→Bool
 | .non=>true
 | .bl _=>true
 | .int _=>true
 | .str _=>true
 | _=>false
def Sj:V→V→Bool
 | .non,.non=>true
 | .bl a,.bl b=>a==b
 | .bl a,.int b=>(if a then 1 else 0)==b
 | .int a,.bl b=>a==(if b then 1 else 0)
 | .int a,.int b=>a==b
 | .str a,.str b=>a==b
 | _,_=>false
theorem eqAt_V{A:fQ}{s:fJ}{y x:V}{u v:fF}(ry:Bm y u)(rx:Bm x v)(fy:G4 y=true)(fx:G4 x=true):SeqAt.EqAt A s u v (Sj y x):=by
 cases y with
 | non=>
  cases ry
  cases x with
  | non=>cases rx;exact SeqAt.EqAt.same _
  | bl b=>cases rx;exact SeqAt.EqAt.none_bool b
  | int b=>obtain⟨t,rfl⟩:=rx;exact SeqAt.EqAt.none_int b t
  | str b=>obtain⟨t,rfl⟩:=rx;exact SeqAt.EqAt.none_str b t
  | _=>exact absurd (show false=true from fx) aM
 | bl a=>
  cases ry
  cases x with
  | non=>cases rx;exact SeqAt.EqAt.bool_none a
  | bl b=>cases rx;exact SeqAt.EqAt.bool_bool a b
  | int b=>obtain⟨t,rfl⟩:=rx;exact SeqAt.EqAt.bool_int a b t
  | str b=>obtain⟨t,rfl⟩:=rx;exact SeqAt.EqAt.bool_str a b t
  | _=>exact absurd (show false=true from fx) aM
 | int a=>
  obtain⟨t',rfl⟩:=ry
  cases x with
  | non=>cases rx;exact SeqAt.EqAt.int_none a t'
  | bl b=>cases rx;exact SeqAt.EqAt.int_bool a t' b
  | int b=>obtain⟨t,rfl⟩:=rx;exact SeqAt.EqAt.int_int a t' b t
  | str b=>obtain⟨t,rfl⟩:=rx;exact SeqAt.EqAt.int_str a t' b t
  | _=>exact absurd (show false=true from fx) aM
 | str a=>
  obtain⟨t',rfl⟩:=ry
  cases x with
  | non=>cases rx;exact SeqAt.EqAt.str_none a t'
  | bl b=>cases rx;exact SeqAt.EqAt.str_bool a t' b
  | int b=>obtain⟨t,rfl⟩:=rx;exact SeqAt.EqAt.str_int a t' b t
  | str b=>obtain⟨t,rfl⟩:=rx;exact SeqAt.EqAt.str_str a t' b t
  | _=>exact absurd (show false=true from fx) aM
 | _=>exact absurd (show false=true from fy) aM
def NL(x:V)(u:fF):Bool:=match u with
 | .none=>Sj .non x
 | .bool b=>Sj (.bl b) x
 | .int i _=>Sj (.int i) x
 | .str z _=>Sj (.str z) x
 | _=>false
theorem Rc{x y:V}{u:fF}(r:Bm y u)(f:G4 y=true):NL x u=Sj y x:=by
 cases y with
 | non=>cases r;rfl
 | bl b=>cases r;rfl
 | int i=>obtain⟨t,rfl⟩:=r;rfl
 | str z=>obtain⟨t,rfl⟩:=r;rfl
 | _=>exact absurd (show false=true from f) aM
theorem G8{x:V}:∀{xs:List V} {us:List fF},A5 xs us→xs.all G4=true→us.any (NL x)=xs.any fun y=>Sj y x
 | _,_,.nil,_=>rfl
 | y::xs,u::us,.cons r t,f=>by
  rw[eH,be]at f
  rw[cF,cF,Rc r f.1,G8 t f.2]
theorem E4{A:fQ}{s:fJ}{x:V}{v:fF}(rx:Bm x v)(fx:G4 x=true):∀{xs:List V} {us:List fF},A5 xs us→xs.all G4=true→∀u∈us,SeqAt.EqAt A s u v (NL x u)
 | _,_,.nil,_=>fun u hu=>by cases hu
 | y::xs,u::us,.cons r t,f=>fun u' hu=>by
  rw[eH,be]at f
  rcases aG.mp hu with rfl|hu
  ·rw[Rc r f.1];exact eqAt_V r rx f.1 fx
  ·exact E4 rx fx t f.2 u' hu
def Ie(x:V)(xs:List V):Bool:=xs.any fun y=>Sj y x
def rIn(K:aj)(neg:Bool):R2:=fun x y H Q=>∃p xs,y=.ref p∧(AD K H p xs∨A2 K H p xs)∧G4 x=true∧xs.all G4=true∧Q (.bl (if neg then !Ie x xs else Ie x xs)) H
theorem BT:G9 X (fY .In) (rIn X.K false):=by
 intro pins s σ H x y v u Q I rx ry h
 obtain⟨p,xs,rfl,hq,fx,fs,q⟩:=h
 cases ry
 rcases hq with hq|hq
 ·obtain⟨its,r,pl,hz⟩:=I.list hq
  refine SeqAt.in_listAt (NL x) pl.isList (fun w hw=>E4 rx fx r fs w (by simpa using hw)) ⟨.bl _,H,I,rfl,?_⟩
  rw[show its.toArray.any (NL x)=its.any (NL x) by simp,G8 r fs]
  exact q
 ·obtain⟨its,r,pl,hz⟩:=I.tuple hq
  refine SeqAt.in_tupleAt (NL x) pl (fun w hw=>E4 rx fx r fs w (by simpa using hw)) ⟨.bl _,H,I,rfl,?_⟩
  rw[show its.toArray.any (NL x)=its.any (NL x) by simp,G8 r fs]
  exact q
theorem Dq:G9 X (fY .NotIn) (rIn X.K true):=by
 intro pins s σ H x y v u Q I rx ry h
 obtain⟨p,xs,rfl,hq,fx,fs,q⟩:=h
 cases ry
 rcases hq with hq|hq
 ·obtain⟨its,r,pl,hz⟩:=I.list hq
  refine SeqAt.notIn_listAt (NL x) pl.isList (fun w hw=>E4 rx fx r fs w (by simpa using hw)) ⟨.bl _,H,I,rfl,?_⟩
  rw[show its.toArray.any (NL x)=its.any (NL x) by simp,G8 r fs]
  exact q
 ·obtain⟨its,r,pl,hz⟩:=I.tuple hq
  refine SeqAt.notIn_tupleAt (NL x) pl (fun w hw=>E4 rx fx r fs w (by simpa using hw)) ⟨.bl _,H,I,rfl,?_⟩
  rw[show its.toArray.any (NL x)=its.any (NL x) by simp,G8 r fs]
  exact q
theorem At:JZ X (.builtin "len") (fun xs H Q=>∃p ys,xs=[.ref p]∧(AD X.K H p ys∨A2 X.K H p ys)∧Q (.int ys.length) H):=by
 intro pins s σ H xs us Q I r h
 obtain⟨p,ys,rfl,hq,q⟩:=h
 obtain⟨u,rfl,rx⟩:=P1 r
 cases rx
 have hn:=Ls
 rcases hq with hq|hq
 ·obtain⟨its,r',pl,hz⟩:=I.list hq
  have hlen:=r'.length
  exact Calls.call_len_list pl.isList (by simp only[aH]<;>omega) ⟨.int ys.length,H,I.tok _,⟨s.toks+1,by rw[aH,hlen]⟩,q⟩
 ·obtain⟨its,r',pl,hz⟩:=I.tuple hq
  have hlen:=r'.length
  exact len_tuple pl (by simp only[aH]<;>omega) ⟨.int ys.length,H,I.tok _,⟨s.toks+1,by rw[aH,hlen]⟩,q⟩
theorem Bq:JZ X (.type "list") (fun xs H Q=>∃p ys,xs=[.ref p]∧(AD X.K H p ys∨A2 X.K H p ys)∧∀l,H l=none→Q (.ref l) (upd H l (.lst ys))):=by
 intro pins s σ H xs us Q I r h
 obtain⟨p,ys,rfl,hq,q⟩:=h
 obtain⟨u,rfl,rx⟩:=P1 r
 cases rx
 have fin:∀(its:List fF),A5 ys its→ys.length≤fL→∀(h':Heap) (c':Nat),(∀b o',s.heap.get? b=some o'→h'.get? b=some o') →
   h'.get? s.heap.objs.size=some { cls:=.type "list",dict:=none,data:=.seq its.toArray c',slots:=#[] }→EP X pins σ Q (.ref s.heap.objs.size) { s with heap:=h' }:=fun its r' hz h' c' kp e=>
  ⟨.ref s.heap.objs.size,_,I.laid (t':=s.toks) kp (aE _) (show Cs X.prog X.w _ h' _ (.lst ys) from⟨hz,its,c',r',e⟩),rfl,q _ (I.hok.fresh (aE _))⟩
 rcases hq with hq|hq
 ·obtain⟨its,r',pl,hz⟩:=I.list hq
  have hlen:=r'.length
  obtain⟨o,ho,hc,n,hd⟩:=pl.isList
  exact call_list_seq p (.inl rfl) ho hc hd (fun h' c' kp e=>fin its r' hz h' c' kp e) (by simp only[aH]<;>omega)
 ·obtain⟨its,r',pl,hz⟩:=I.tuple hq
  have hlen:=r'.length
  obtain⟨o,ho,hc,n,hd⟩:=pl
  exact call_list_seq p (.inr rfl) ho hc hd (fun h' c' kp e=>fin its r' hz h' c' kp e) (by simp only[aH]<;>omega)
theorem BA:JZ X (.type "tuple") (fun xs H Q=>∃p ys,xs=[.ref p]∧((AD X.K H p ys∧∀l,H l=none→Q (.ref l) (upd H l (.tup ys)))∨(A2 X.K H p ys∧Q (.ref p) H))):=by
 intro pins s σ H xs us Q I r h
 obtain⟨p,ys,rfl,h⟩:=h
 obtain⟨u,rfl,rx⟩:=P1 r
 cases rx
 rcases h with⟨hq,q⟩|⟨hq,q⟩
 ·obtain⟨its,r',pl,hz⟩:=I.list hq
  have hlen:=r'.length
  refine call_tuple_list pl.isList (fun h' kp=>?_) (by simp only[aH]<;>omega)
  have I1:AR X pins σ H { s with heap:=h' }:=I.kept (t':=s.toks) kp
  have I2:AR X pins σ (upd H h'.objs.size (.tup ys)) { s with heap:=h'.push { cls:=.type "tuple",data:=.seq its.toArray } }:=
   I1.laid (t':=s.toks) (fun b o e=>Heap.get?_push_of_some _ e) (aE _) (show Cs X.prog X.w _ _ _ (.tup ys) from⟨hz,its,r',IsTup.new _ _⟩)
  exact⟨.ref h'.objs.size,_,I2,rfl,q _ (I1.hok.fresh (aE _))⟩
 ·obtain⟨its,r',pl,hz⟩:=I.tuple hq
  exact call_tuple_same pl ⟨.ref p,H,I,rfl,q⟩
def tyV(K:aj)(T:String)(x:V)(H:Hp):Prop:=match x with
 | .str _=>T = "str"
 | .int _=>T = "int"
 | .ref p=>(T = "list"∧∃xs,AD K H p xs)∨(T = "tuple"∧∃o,K.lookup p=some o∧o.cls=.type "tuple"∧o.dict=none) ∨
   (T = "dict"∧((∃kvs,H p=some (.dK kvs))∨∃kvs,H p=some (.dT kvs)))∨(T = "set"∧∃S n,H p=some (.set S n))
 | _=>False
theorem tyV_is{pins:List (fG×Obj)}{σ:St}{H:Hp}{s:fJ}{T:String}{x:V}{v:fF}(I:AR X pins σ H s)(r:Bm x v)(ty:tyV X.K T x H) :
  s.TypeIs v T∧∀a,v=.ref a→∃ob,s.heap.get? a=some ob∧ob.dict=none:=by
 cases x with
 | str z=>
  obtain⟨t,rfl⟩:=r
  cases (show T = "str" from ty)
  exact⟨typeIs_str s z t,fun _ e=>nomatch e⟩
 | int i=>
  obtain⟨t,rfl⟩:=r
  cases (show T = "int" from ty)
  exact⟨typeIs_int s i t,fun _ e=>nomatch e⟩
 | ref p=>
  cases r
  rcases ty with⟨rfl,xs,hq⟩|⟨rfl,o,hk,hc,hd⟩|⟨rfl,hk⟩|⟨rfl,S,n,hk⟩
  ·obtain⟨its,_,pl,_⟩:=I.list hq
   refine⟨pl.isList.typeIs,fun a e=>?_⟩
   cases e
   obtain⟨o,n,e,c,hd,_⟩:=pl
   exact⟨o,e,hd⟩
  ·refine⟨⟨o,I.kIn p o hk,hc⟩,fun a e=>?_⟩
   cases e
   exact⟨o,I.kIn _ o hk,hd⟩
  ·have z:∃o,s.heap.get? p=some o∧o.ExactDict:=by
    rcases hk with⟨kvs,hk⟩|⟨kvs,hk⟩
    ·obtain⟨_,_,_,_,o,_,_,e,ex,_⟩:=I.hok p _ hk
     exact⟨o,e,ex⟩
    ·obtain⟨_,_,_,_,o,_,_,e,ex,_⟩:=I.hok p _ hk
     exact⟨o,e,ex⟩
   obtain⟨o,e,ex⟩:=z
   refine⟨⟨o,e,ex.1⟩,fun a e2=>?_⟩
   cases e2
   exact⟨o,e,ex.2.1⟩
  ·obtain⟨o,_,_,_,e,ex,_⟩:=I.hok p _ hk
   refine⟨⟨o,e,ex.1⟩,fun a e2=>?_⟩
   cases e2
   exact⟨o,e,ex.2.1⟩
 | _=>exact False.elim ty
def tBM(K:aj)(T:String)(r:V→List V→Hp→VK→Prop)(to:TE)(t:TA):TE:=fun σ H Q=>to σ H fun x H1=>tyV K T x H1∧t σ H1 fun xs H2=>r x xs H2 Q
variable{o e:Expr}{es:List Expr}{to:TE}{t:TA}{name:Str}{apos cpos:Pos}{T id:String}{r:V→List V→Hp→VK→Prop}
theorem BF(pa:PlainAttrs T)(slot:Slot T name id)(hty:typeOf (.builtin id)=pure (.type "method_descriptor"))(hm:MtR X id r)(ho:PE X o to)(ha:PA X (e::es) t)
  (hbase:attributeBase o name X.env (eval o X.env)=eval o X.env:=by rfl)
  (hfew:((backTo cpos (gj (e::es) X.env)).all (fun x=>!x.1)&&(backToKw cpos (keywordEach [] X.env)).all (fun x=>x.1.isSome)
  &&decide ((e::es).length+([]:List Keyword).length+(if([]:List Keyword).isEmpty then 0 else 1)<30))=true:=by rfl)
  (hline:(apos.endLine==cpos.line)=true:=by rfl) (hs:gj (e::es) X.env=(false,eval e X.env)::gj es X.env:=by rfl) (hplain:(backTo cpos (gj es X.env)).any (·.1)=false:=by rfl) :
  PE X (.Call (.Attribute o name apos) (e::es) [] cpos) (tBM X.K T r to t):=by
 intro pins s σ H Q I h
 refine wpAny_Call_method_late hbase hfew hline rfl (B0 (ho pins s σ H _ I h) fun v s1 ⟨x,H1,I1,r1,ty,q1⟩=>?_)
 obtain⟨h1,h2⟩:=tyV_is I1 r1 ty
 refine⟨T,id,pa,slot,hty,h1,h2,?_⟩
 have hA:=ha cpos pins s1 σ H1 _ I1 q1
 rw[hs]at hA ⊢
 refine Calls.callWith_builtin (by show(false||(backTo cpos (gj es X.env)).any (·.1))=false;rw[hplain]<;>rfl) (Calls.evalArgs_plain ?_)
 exact B0 hA fun us s2 ⟨vs,H2,I2,r2,q2⟩=>hm pins s2 σ H2 x vs v us Q I2 r1 r2 q2
end
end L2
namespace L2
open PySem PySem.Spec PyProof.Rows
def MtM(X:Cx)(id:String)(r:V→List V→Hp→VK→Prop):Prop:=
 ∀(pins:List (fG×Obj)) (s:fJ) (σ:St) (H:Hp) (x:V) (xs:List V) (v:fF) (us:List fF) (Q:VK),AR X pins σ H s→Bm x v→A5 xs us→r x xs H Q →
  wpAny (model X.prog X.w) X.A (call (.builtin id) (v::us)) (EP X pins σ Q) X.xe s
theorem A5.one:∀{x:V} {us:List fF},A5 [x] us→∃u,us=[u]∧Bm x u
 | _,_,.cons r .nil=>⟨_,rfl,r⟩
theorem A5.two:∀{x y:V} {us:List fF},A5 [x,y] us→∃u v,us=[u,v]∧Bm x u∧Bm y v
 | _,_,_,.cons r (.cons q .nil)=>⟨_,_,rfl,r,q⟩
theorem A5.eraseIdx:∀{xs:List V} {us:List fF} (i:Nat),A5 xs us→A5 (xs.eraseIdx i) (us.eraseIdx i)
 | _,_,_,.nil=>.nil
 | _,_,0,.cons _ t=>t
 | _,_,i+1,.cons r t=>.cons r (A5.eraseIdx i t)
theorem KE{α:Type}:∀(l:List α) (i:Nat),(l.eraseIdx i).length≤l.length
 | [],_=>aE _
 | _::_,0=>c7 _
 | _::r,i+1=>Nat.succ_le_succ (KE r i)
section
variable{X:Cx}{pins:List (fG×Obj)}{σ:St}{H:Hp}{s:fJ}{l b:fG}{xs ys zs:List V}
theorem AR.lset{its its':List fF}{n:Nat}{f:Array fF→Array fF}{t':Nat}(I:AR X pins σ H s)(hH:H l=some (.lst xs))
  (e:s.heap.get? l=some { cls:=.type "list",data:=.seq its.toArray n }) (hf:f its.toArray=its'.toArray) (hv:A5 ys its') (hz:ys.length≤fL) :
  AR X pins σ (upd H l (.lst ys)) { s with heap:=s.heap.update l (Obj.mapSeq f),toks:=t' }:=by
 have q:=PySem.IsL.update e f
 rw[hf]at q
 refine I.write (x:=l) (e:=l) (by rw[hH];exact trivial) (.inl rfl) (fun b' u hb hu=>(Heap.get?_update_other s.heap (Obj.mapSeq f) (Ne.symm hb)).trans hu) ⟨_,q⟩ ?_
 exact⟨hz,its',_,hv,q⟩
theorem AR.lnew{its:List fF}{t':Nat}(I:AR X pins σ H s)(hv:A5 ys its)(hz:ys.length≤fL) :
  AR X pins σ (upd H s.heap.objs.size (.lst ys)) { s with heap:=s.heap.push { cls:=.type "list",data:=.seq its.toArray },toks:=t' }:=
 I.laid (fun _ _ q=>Heap.get?_push_of_some _ q) (aE _) ⟨hz,its,0,hv,Heap.get?_push_size _ rfl⟩
theorem AR.fresh(I:AR X pins σ H s):H s.heap.objs.size=none:=I.hok.fresh (aE _)
theorem AR.lstM(I:AR X pins σ H s)(hH:H l=some (.lst xs)):xs.length≤fL∧∃(its:List fF) (n:Nat),A5 xs its∧xs.length=its.length∧s.heap.get? l=some { cls:=.type "list",data:=.seq its.toArray n }:=by
 obtain⟨z,its,n,r,e⟩:=I.hok l _ hH
 exact⟨z,its,n,r,r.length,e⟩
theorem QA{n:Nat}(h:n≤fL):Builtin.List.listTooLong n=false:=by
 unfold Builtin.List.listTooLong
 exact decide_eq_false (by omega)
end
section
variable{X:Cx}
def GT:V→List V→Hp→VK→Prop:=fun x vs H Q=>∃l xs y,x=.ref l∧vs=[y]∧H l=some (.lst xs)∧xs.length<fL∧Q .non (upd H l (.lst (xs++[y])))
theorem AU:MtM X "list.append" GT:=by
 intro pins s σ H x vs v us Q I rx rv h
 obtain⟨l,xs,y,rfl,rfl,hH,hz,q⟩:=h
 cases rx
 obtain⟨u,rfl,ru⟩:=rv.one
 obtain⟨z,its,n,r,hl,e⟩:=I.lstM hH
 refine call_meets F.slot_list_append ⟨_,e,rfl⟩ F.entry_list_append (F.args_list_append_2 _ _) (PySem.list_append l its.toArray n u (by rw[aH];omega)) ⟨e,?_⟩
 refine⟨.non,_,I.lset (its':=its++[u]) hH e (by simp) (r.append (.cons ru .nil)) ?_,rfl,q⟩
 rw[ai,dR]
 omega
def RN:V→List V→Hp→VK→Prop:=fun x vs H Q=>∃l b xs zs,x=.ref l∧vs=[.ref b]∧H l=some (.lst xs)∧H b=some (.lst zs)∧xs.length+zs.length≤fL∧Q .non (upd H l (.lst (xs++zs)))
theorem Pn:MtM X "list.extend" RN:=by
 intro pins s σ H x vs v us Q I rx rv h
 obtain⟨l,b,xs,zs,rfl,rfl,hH,hB,hz,q⟩:=h
 cases rx
 obtain⟨u,rfl,ru⟩:=rv.one
 cases ru
 obtain⟨z,its,n,r,hl,e⟩:=I.lstM hH
 obtain⟨z2,its2,n2,r2,hl2,e2⟩:=I.lstM hB
 have hsz:its.toArray.size+its2.toArray.size≤fL:=by rw[aH,aH];omega
 have hlong:¬(!its.toArray.isEmpty&&Builtin.List.listTooLong (its.toArray.size+its2.toArray.size))=true:=by
  rw[QA hsz,du]
  exact aM
 refine call_meets F.slot_list_extend ⟨_,e,rfl⟩ F.entry_list_extend (F.args_list_extend_2 _ _)
  (AutoSeq1.list_extend_list_list_0 l its.toArray n b its2.toArray n2 hlong (by rw[aH];omega) (by omega)) ⟨e,e2,?_⟩
 refine⟨.non,_,I.lset (its':=its++its2) hH e (by simp) (r.append r2) ?_,rfl,q⟩
 rw[ai]
 omega
def rPopAt:V→List V→Hp→VK→Prop:=fun x vs H Q=>∃l xs i k y,x=.ref l∧vs=[.int i]∧H l=some (.lst xs)∧-(2 ^ 63)≤i∧i<2 ^ 63∧seqIndex? i xs.length=some k∧xs[k]?=some y∧Q y (upd H l (.lst (xs.eraseIdx k)))
theorem QD:MtM X "list.pop" rPopAt:=by
 intro pins s σ H x vs v us Q I rx rv h
 obtain⟨l,xs,i,k,y,rfl,rfl,hH,h1,h2,hk,hy,q⟩:=h
 cases rx
 obtain⟨u,rfl,ru⟩:=rv.one
 obtain⟨t,rfl⟩:=ru
 obtain⟨z,its,n,r,hl,e⟩:=I.lstM hH
 obtain⟨w,hw,rw'⟩:=r.get hy
 refine call_meets F.slot_list_pop ⟨_,e,rfl⟩ F.entry_list_pop (F.args_list_pop_2 _ _)
  (MeetsSeq.list_pop_at l its.toArray n i t k w (fitsIndex_both h1 h2) (by rw[aH,← hl];exact hk) (by rw[← Array.getElem?_toList];exact hw) (by rw[aH];omega)) ⟨e,?_⟩
 refine⟨y,_,I.lset (its':=its.eraseIdx k) hH e ?_ (r.eraseIdx k) ?_,rw',q⟩
 ·show its.toArray.eraseIdxIfInBounds k=(its.eraseIdx k).toArray
  rw[List.eraseIdxIfInBounds_toArray]
 ·have:=KE xs k
  omega
def rCat:R2:=fun x y H Q=>∃l b xs zs,x=.ref l∧y=.ref b∧H l=some (.lst xs)∧H b=some (.lst zs)∧xs.length+zs.length≤fL∧∀p,H p=none→Q (.ref p) (upd H p (.lst (xs++zs)))
theorem Jd:G9 X (binaryOp .Add) rCat:=by
 intro pins s σ H x y v u Q I rx ry h
 obtain⟨l,b,xs,zs,rfl,rfl,hH,hB,hz,q⟩:=h
 cases rx
 cases ry
 obtain⟨z,its,n,r,hl,e⟩:=I.lstM hH
 obtain⟨z2,its2,n2,r2,hl2,e2⟩:=I.lstM hB
 refine PySem.P.add_list e e2 ?_ (by rw[aH,aH];omega)
 have ea:its.toArray++its2.toArray=(its++its2).toArray:=by simp
 rw[ea]
 exact⟨.ref _,_,I.lnew (t':=s.toks) (r.append r2) (by rw[ai];omega),rfl,q _ I.fresh⟩
end
section
variable{prog:fP}{w:fS}{A:fQ}{E:fF→fJ→Prop}{s:fJ}
end
section
variable{X:Cx}
end
end L2
namespace Att
open PySem PySem.W PySem.Calls PyProof.Rows
theorem Id{P:Params}{h:Heap}:∀(ns:List Int) (vs:List fF),WellAll P h vs (ns.map WData.int)→IntsAre vs ns:=by
 intro ns
 induction ns with
 | nil=>
  intro vs w
  rw[dG]at w
  cases w
  exact .nil
 | cons n ns ih=>
  intro vs w
  rw[aY]at w
  cases w with
  | cons a b=>
   cases a
   exact .cons _ _ (ih _ b)
theorem O6{l:OpenLaw}{n:Nat}(hn:l.most=some n){P:Params}{h:Heap}{args:List WData}{vals:List fF}
  (hpre:l.row.toRowW.claim.pre args=true) (hwl:WellAll P h vals args) :
  ∃a vs ns,vals=[fF.ref a]∧args=[WData.list (ns.map WData.int)]∧h.get? a=some { cls:=.type "list",data:=.seq vs.toArray }∧IntsAre vs ns∧ns.length≤n:=by
 have hsh:WShape.hasAll [] args [.list .int]=true:=(pre_splitW hpre).1
 have hc:l.pre.holds [] { args:=args }=true:=(pre_splitW hpre).2
 obtain⟨d,r,rfl,h1,h2⟩:=hasAllW_cons hsh
 obtain rfl:=hasAllW_nil h2
 obtain⟨xs,rfl,h3⟩:=hasW_list h1
 obtain⟨ns,rfl⟩:=items_int h3
 have hlen:ns.length≤n:=by
  unfold OpenLaw.pre at hc
  have h4:(WTm.not (.lt (.lit (.int (n:Int))) (.len (.arg 0)))).holds [] { args:=[.list (ns.map .int)] }=true:=by
   have h4:=(holds_andW hc).1
   rw[hn]at h4
   exact h4
  have h5:=condW_of h4 (w_not (w_lt w_lit (w_len_list (w_arg rfl))))
  rw[ac]at h5
  refine dA fun q=>?_
  have q':(n:Int)<((ns.length:Nat):Int):=by omega
  first
   | (rw[decide_eq_true q']at h5;exact absurd h5 (by decide))
   | (simp at h5;omega)
 cases hwl with
 | cons w1 w2=>
  cases w2
  cases w1 with
  | list ho hall=>exact⟨_,_,ns,rfl,rfl,ho,Id ns _ hall,hlen⟩
theorem O8(l:OpenLaw)(args:List WData):l.row.toRowW.claim.post args (.bool true) args=true:=
 postW_of (r:=l.row.toRowW) (X:=(true==true))
  (show WShape.has [] (.bool true) .bool=true by first|rfl|decide|simp[WShape.has,WShape.arms,WShape.armsAll])
  (show(WTm.eq .res (.lit (.bool true))).value [] { args:=args,res:=some (.bool true),after:=args }=some (.bool (true==true)) from w_eq_bool (w_res rfl) w_lit) rfl
theorem attach_call{l:OpenLaw}{n:Nat}{q:fP}{loose:List Str}{XP:(Str→Option fF)→Heap→Prop}{YP:fS→Heap→Prop}{d:DefRec}
  (hn:l.most=some n) (hdf:d.params.defaults=[])
  (call:∀(w:fS) (s₀ s₁:fJ) (mg mb:Str→Option fF) (fa:fG) (o:Obj) (pm cd doc:fF) (a:fG) (vs:List fF) (ns:List Int),
   Ground q loose [] XP w s₀ mg mb s₁.heap→YP w s₁.heap →
   s₁.heap.get? fa=some o→o.data=.func (docDef d.name d.params d.body d.scope pm cd doc)→s₁.heap.CodeRec cd d.name→mg d.name=some (.ref fa) →
   s₁.heap.get? a=some { cls:=.type "list",data:=.seq vs.toArray }→IntsAre vs ns→ns.length≤n→s₁.gens=#[] →
   codeAny (model l.prog w) callerA (.call (.ref fa) ⟨[.ref a],[]⟩) (fun r s'=>r=.ok (.ret (.bool true))∧OldK s₁.heap s'.heap∧s'.os=s₁.os∧AllBare s'.gens) s₁) :
  WalkO q loose XP YP l.row.toRowW d [] (fun f vs=>PySem.call f vs):=by
 intro w s₀ s₁ mg mb G Y fa o pm cd doc dV kV ho hd hcd hD hmg hg args vals as hpre hlay hrd hwl hlo
 obtain rfl:dV=.none:=Dflts.none hD hdf
 obtain rfl:kV=.none:=Dflts.noKw hD
 obtain⟨a,vs,ns,rfl,rfl,hobj,hints,hlen⟩:=O6 hn hpre hwl
 refine enter_call (ge (call w s₀ s₁ mg mb fa o pm cd doc a vs ns G Y ho (fd_plain hd) hcd hmg hobj hints hlen hg) fun r s' hq=>?_)
 obtain⟨rfl,h2,h3,h4⟩:=hq
 exact⟨.inl ⟨.bool true,.bool true,[],rfl,fun _=>rfl,.bool true,O8 l _,fun _=>⟨bp.nil,fun _ hm=>(nomatch hm)⟩⟩,h2,h3,h4⟩
section
variable{prog:fP}{w:fS}{A:fQ}{E:fF→fJ→Prop}{s:fJ}{K:Frag}
end
end Att
namespace L2
open PySem PySem.Spec PyProof.Rows
theorem He:∀{vs:List fF} {ns:List Int},IntsAre vs ns→A5 (ns.map V.int) vs
 | _,_,.nil=>.nil
 | _,_,.cons n t h=>.cons ⟨t,rfl⟩ (He h)
def Only(H:Hp):Prop:=∀b,H b=none∨∃o xs,H b=some (.frz o (.lst xs))
theorem QK{P:fP}{w:fS}{K:aj}{mg mb:Str→Option fF}{CX:Rs}{k:Nat}{fa a:fG}{fd:fO}{x:Str}{sp:Sp}{s₁:fJ}{vs:List fF}{ns:List Int}
  (KX:K.In s₁.heap) (hns:s₁.heap.Ns fK mg) (hb:s₁.heap.Ns builtinsNs mb) (hbb:∀x:Str,x≠"__name__"→mb x=gf x) (hlim:s₁.heap.NoLimit) (hg:s₁.gens=#[])
  (ha:s₁.heap.get? a=some { cls:=.type "list",data:=.seq vs.toArray }) (hi:IntsAre vs ns) (hl:ns.length≤fL) (hr:CO k callerA)
  (F:∀base:Heap,K.In base→base.Ns fK mg→AC P w K mg base CX k fa fd [x] sp) (hbind:∀(s:fJ) (u:fF),BindsTo s fd ⟨[u],[]⟩ [(x,u)])
  (hsp:∀H:Hp,Only H→AD K H a (ns.map V.int)→sp [.ref a] H (fun v _=>v=.bl true) fun _ _ _=>False)
  (hCX:∀H e s',CX [] H s₁ (fun _ _ _=>False) e s'→False) :
  codeAny (model P w) callerA (.call (.ref fa) ⟨[.ref a],[]⟩) (fun r s'=>r=.ok (.ret (.bool true))∧OldK s₁.heap s'.heap∧s'.os=s₁.os∧AllBare s'.gens) s₁:=by
 have rv:=He hi
 have lenV:=hi.length
 have core:∀H:Hp,Only H→AD K H a (ns.map V.int)→Iw P w H s₁.heap→(∀b,H b≠none→b=a)→(H a≠none→K.lookup a=none) →
   codeAny (model P w) callerA (.call (.ref fa) ⟨[.ref a],[]⟩) (fun r s'=>r=.ok (.ret (.bool true))∧OldK s₁.heap s'.heap∧s'.os=s₁.os∧AllBare s'.gens) s₁:=by
  intro H hO hS hok hA hK
  have base_of:∀{b:fG} {o:Obj},s₁.heap.get? b=some o→H b=none→(LA s₁.heap H).get? b=some o:=fun e n=>QT e n
  have noA:∀{b:fG} {o:Obj} {es:Array DictEntry} {ep:Nat},s₁.heap.get? b=some o→o.data=.dict es ep→H b=none:=fun{b o es ep} e d=>by
   cases q:H b with
   | none=>rfl
   | some u=>
    have e':b=a:=hA b (by rw[q];simp)
    subst e'
    rw[ha]at e;cases e
    have d':Data.seq vs.toArray _=Data.dict es ep:=d
    cases d'
  have nsK:∀{b:fG} {m:Str→Option fF},s₁.heap.Ns b m→(LA s₁.heap H).Ns b m:=fun{b m} ⟨o,es,ep,e,d,r⟩=>⟨o,es,ep,base_of e (noA e d),d,r⟩
  have hKb:K.In (LA s₁.heap H):=fun b o e=>base_of (KX b o e) (by
   cases q:H b with
   | none=>rfl
   | some u=>
    have e':b=a:=hA b (by rw[q];simp)
    subst e'
    rw[hK (by rw[q];simp)]at e;cases e)
  have hM:Mod K mg (LA s₁.heap H):=⟨hKb,nsK hns,⟨mb,nsK hb,hbb⟩,let⟨mc,h1,h2⟩:=hlim;⟨mc,nsK h1,h2⟩⟩
  have e0:NR P w K mg (LA s₁.heap H) callerA [] s₁ H:=⟨rfl,hM,fun b o e=>R3 e,cA (Py _ _),trivial,fun b hb=>absurd (show b∈([]:List fG) from hb) (by simp),hok,.of_eq hg⟩
  refine ge ((F _ hKb (nsK hns)).run callerA [] s₁ H ⟨[.ref a],[]⟩ [.ref a] [.ref a] _ _ hr e0 (hbind s₁ (.ref a)) (.cons rfl .nil) (hsp H hO hS)) fun r s' h=>?_
  cases r with
  | error e=>exact(hCX H e s' h).elim
  | ok fl=>
   cases fl with
   | next=>exact False.elim h
   | brk=>exact False.elim h
   | cont=>exact False.elim h
   | ret u=>
    obtain⟨v,H',os,bare,un,hok',r',q⟩:=h
    have q':v=.bl true:=q
    subst q'
    obtain rfl:u=fF.bool true:=r'
    refine⟨rfl,OldK.of_keep fun b o e=>?_,os,bare⟩
    cases q:H b with
    | none=>exact un.keep b o e q (by intro z;exact absurd (show b∈([]:List fG) from z) (by simp)) (by simp)
    | some u=>
     rcases hO b with z|⟨ob,xs,z⟩
     ·rw[q]at z;cases z
     ·have z2:=un.frzs b ob _ z
      obtain⟨e1,_⟩:=hok b _ z
      obtain⟨e2,_⟩:=hok' b _ z2
      rw[e]at e1;cases e1
      exact e2
 cases hk:K.lookup a with
 | some o=>
  have e:=KX a o hk
  rw[ha]at e
  cases e
  refine core (fun _=>none) (fun _=>.inl rfl) (.inr ⟨_,vs.toArray,_,hk,rfl,rfl,rfl,by rw[aH,lenV];exact hl,by simpa using rv⟩) (fun b u z=>by have z':(none:Option HO)=some u:=z;cases z') (fun b z=>absurd rfl z) fun z=>absurd rfl z
 | none=>
  refine core (fun b=>if b=a then some (.frz { cls:=.type "list",data:=.seq vs.toArray } (.lst (ns.map V.int))) else none) (fun b=>?_) (.inl (.inr ⟨{ cls:=.type "list",data:=.seq vs.toArray },if_pos rfl⟩)) (fun b u z=>?_) (fun b z=>?_) fun _=>hk
  ·by_cases hb:b=a
   ·exact .inr ⟨_,_,if_pos hb⟩
   ·exact .inl (if_neg hb)
  ·by_cases hb:b=a
   ·have z':=(if_pos hb).symm.trans z
    cases z'
    subst hb
    exact⟨ha,by rw[ac];exact hl,vs,_,rv,ha⟩
   ·have z':=(if_neg hb).symm.trans z
    cases z'
  ·by_cases hb:b=a
   ·exact hb
   ·exact absurd (if_neg hb) z
end L2
namespace L2
open PySem PySem.Spec PyProof.Rows
theorem walk_of{l:dO}{n k:Nat}{q:fP}{loose:List Str}{XP:(Str→Option fF)→Heap→Prop}{YP:fS→Heap→Prop}{d:DefRec}{K:Params→aj}{CX:fS→Rs}{sp:fS→Sp}{x:Str}
  (hn:l.most=some n) (hn2:n≤fL) (hdf:d.params.defaults=[]) (hr:CO k callerA)
  (hY:∀(w:fS) (h:Heap),YP w h→(K w.params).In h)
  (F:∀(w:fS) (mg:Str→Option fF) (fa:fG) (h:Heap),(K w.params).In h→h.Ns fK mg→mg d.name=some (.ref fa) →
   ∃fd:fO,(∀(s:fJ) (u:fF),BindsTo s fd ⟨[u],[]⟩ [(x,u)]) ∧
    ∀base:Heap,(K w.params).In base→base.Ns fK mg→AC l.prog w (K w.params) mg base (CX w) k fa fd [x] (sp w))
  (hsp:∀(w:fS) (H:Hp) (a:fG) (ns:List Int),ns.length≤n→Only H→AD (K w.params) H a (ns.map V.int)→sp w [.ref a] H (fun v _=>v=.bl true) fun _ _ _=>False)
  (hCX:∀(w:fS) (H:Hp) (s:fJ) (e:fF) (s':fJ),CX w [] H s (fun _ _ _=>False) e s'→False) :
  fD q loose XP YP l.row.toRowW d [] (fun f vs=>PySem.call f vs):=by
 refine Att.attach_call hn hdf fun w s₀ s₁ mg mb fa o pm cd doc a vs ns G Y ho hd hcd hmg hobj hints hlen hg=>?_
 have KX:=hY w _ Y
 obtain⟨fd,hb,hF⟩:=F w mg fa _ KX G.T.g hmg
 exact QK KX G.T.g G.T.b G.T.builtins G.T.nolimit hg hobj hints (aU hlen hn2) hr hF hb (fun H hO hS=>hsp w H a ns hlen hO hS) fun H e s'=>hCX w H s₁ e s'
end L2
namespace L2
open PySem PySem.Spec PyProof.Rows
def OE(s:Stmt)(j:Nat):Stmt:=match s with
 | .ClassDef _ _ _ body _ _ _ _ _ _ _=>body.getD j (.Pass ⟨0,0,0,0⟩)
 | _=>.Pass ⟨0,0,0,0⟩
def ED(s:Stmt):Arguments:=match s with
 | .FunctionDef _ a _ _ _ _ _ _ _ _=>a
 | _=>{ posonlyargs:=[],args:=[],vararg:=none,kwonlyargs:=[],kw_defaults:=[],kwarg:=none,defaults:=[] }
def CI(s:Stmt):List Stmt:=match s with
 | .FunctionDef _ _ b _ _ _ _ _ _ _=>b
 | _=>[]
def Am(s:Stmt):Scope:=match s with
 | .FunctionDef _ _ _ _ _ _ sc _ _ _=>sc
 | _=>{ kind:=.function,names:=[],isGenerator:=false,isCoroutine:=false }
abbrev A6:Rs:=fun _ _ _ _ _ _=>False
abbrev E0:XK:=fun _ _ _=>False
theorem AE{X:Cx}:JX A6 X E0:=fun _ _ _ _ _ _ _ h=>h.elim
structure Fun(K:aj)(x qual:Str)(st:Stmt)(f:fG)(fd:fO):Prop where
 ex:∃(oc:fF) (od:Option fG) (kV doc pm:fF) (an:Option fG) (cdv ct:fF) (osl:Array (Option fF)),
  fd=cj x qual (ED st) (CI st) (Am st) .none kV doc pm an cdv ct∧K.lookup f=some ⟨oc,od,.func fd,osl⟩∧dq K cdv qual=true
 kp:cm K (.ref f)=true
section
variable{P:fP}{w:fS}{K:aj}{mg:Str→Option fF}{base:Heap}
theorem Fun.ok{x qual:Str}{st:Stmt}{f:fG}{fd:fO}{N ps:List Str}{k:Nat}{sp:Sp}(F:Fun K x qual st f fd)(S:AA N ps (Am st))(len:∀vs H Q E,sp vs H Q E→vs.length=ps.length)
  (hbody:∀(cdv:fF) (A:fQ) (outer:List Env) (s:fJ) (H:Hp) (vs:List V) (Q:VK) (E:XK),CO k (A.deeper (envOfC qual (Am st) s.heap.objs.size f cdv))→sp vs H Q E →
   ∃t,M2 (LL A6 P w K mg base N qual (Am st) f cdv A outer s H E).nox (CI st) t∧t { nx:=fun _ H'=>Q .non H',rt:=Q } (start N vs) H):AC P w K mg base A6 (k+1) f fd ps sp:=by
 obtain⟨oc,od,kV,doc,pm,an,cdv,ct,osl,rfl,lk,hcd⟩:=F.ex
 refine fn_of lk hcd S len fun A outer s H vs Q E hr hsp=>?_
 obtain⟨t,h,q⟩:=hbody cdv A outer s H vs Q E hr hsp
 exact⟨t,h.nox,q⟩
theorem Fun.binds{x qual:Str}{st:Stmt}{f:fG}{fd:fO}{ps:List Str}(F:Fun K x qual st f fd)
  (h:∀(kV doc pm:fF) (an:Option fG) (cdv ct:fF) (us:List fF),us.length=ps.length→bindArgs (cj x qual (ED st) (CI st) (Am st) .none kV doc pm an cdv ct) ⟨us,[]⟩=pure (ps.zip us)):Fg K fd ps []:=by
 obtain⟨oc,od,kV,doc,pm,an,cdv,ct,osl,rfl,lk,hcd⟩:=F.ex
 exact .all (h kV doc pm an cdv ct)
theorem AM{x qual:Str}{st:Stmt}{f:fG}{oc:fF}{od an:Option fG}{osl:Array (Option fF)}{kV doc pm cdv ct:fF}(l:K.lookup f=some ⟨oc,od,.func (cj x qual (ED st) (CI st) (Am st) .none kV doc pm an cdv ct),osl⟩)
  (c:dq K cdv qual=true) (k:cm K (.ref f)=true):Fun K x qual st f (cj x qual (ED st) (CI st) (Am st) .none kV doc pm an cdv ct):=⟨⟨oc,od,kV,doc,pm,an,cdv,ct,osl,rfl,l,c⟩,k⟩
end
theorem Aw{n:Nat}(h:n≤1000):n<fL:=bK h (by decide)
section
variable{X:Cx}
theorem pv(i:Nat){x:Str}{pos:Pos}(hN:X.N[i]?=some x:=by rfl)(hv:Vis X.env.scope x:=by first|exact Or.inl rfl|exact Or.inr (Or.inl rfl)|exact Or.inr (Or.inr rfl))(hd:(x==("__debug__" : Str))=false:=by decide)
  (hcd:(x==("__classdict__" : Str))=false:=by decide):PE X (.Name x pos) (GC i):=pe_var hN hv hd hcd
end
theorem A9{A B:Prop}(h:B):if false=true then A else B:=by
 rw[if_neg aM]
 exact h
theorem Bw{A B:Prop}(h:A):if true=true then A else B:=by
 rw[if_pos rfl]
 exact h
theorem DT{c A B:Prop}[Decidable c](h1:c→A)(h2:¬c→B):if c then A else B:=by
 by_cases h:c
 ·rw[if_pos h]
  exact h1 h
 ·rw[if_neg h]
  exact h2 h
theorem Jn{c A B:Prop}[Decidable c](hc:c)(h:B):if(!decide c)=true then A else B:=by
 rw[decide_eq_true hc]
 exact A9 h
def An(H H':Hp):Prop:=∀b o,H b=some o→H' b=some o
theorem An.refl(H:Hp):An H H:=fun _ _ h=>h
theorem An.trans{H H1 H2:Hp}(a:An H H1)(b:An H1 H2):An H H2:=fun c o h=>b c o (a c o h)
theorem An.free{H H':Hp}(e:An H H'){l:fG}(h:H' l=ae):H l=ae:=by
 cases q:H l with
 | none=>rfl
 | some o=>
  rw[e l o q]at h
  cases h
theorem An.seq{K:aj}{H H':Hp}{a:fG}{xs:List V}(e:An H H')(h:AD K H a xs):AD K H' a xs:=by
 rcases h with(h|⟨o,h⟩)|h
 ·exact .inl (.inl (e _ _ h))
 ·exact .inl (.inr ⟨o,e _ _ h⟩)
 ·exact .inr h
end L2
set_option linter.all false
namespace Rm
def hold(hs:List Int)(i:Nat):Int:=hs.getD i (-1)
structure Tree(hs:List Int):Prop where
 pos:0<hs.length
 root:hold hs 0=-1
 up:∀i:Nat,0<i→i<hs.length→0≤hold hs i∧hold hs i<(i:Int)
def kids(hs:List Int)(k:Int):List Int:=((ak hs.length).filter fun j=>decide (hold hs j=k)).map fun(j:Nat)=>(j:Int)
def chain(hs:List Int)(i:Nat):List Nat:=
 if h:0≤hold hs i∧hold hs i<(i:Int) then i::chain hs (hold hs i).toNat else [i]
termination_by i
decreasing_by omega
theorem chain_up{hs:List Int}{i:Nat}(h:0≤hold hs i∧hold hs i<(i:Int)):chain hs i=i::chain hs (hold hs i).toNat:=by
 rw[chain,dif_pos h]
theorem chain_top{hs:List Int}{i:Nat}(h:¬0≤hold hs i):chain hs i=[i]:=by
 rw[chain,dif_neg fun z=>h z.1]
theorem chain_self(hs:List Int)(i:Nat):i∈chain hs i:=by
 rw[chain];split<;>exact aw
theorem chain_le{hs:List Int}{j:Nat}:∀i:Nat,j∈chain hs i→j≤i:=by
 intro i
 induction i using bz with
 | ind i ih=>
  intro h
  by_cases z:0≤hold hs i∧hold hs i<(i:Int)
  ·rw[chain_up z]at h
   rcases aG.mp h with h|h
   ·omega
   ·have:=ih (hold hs i).toNat (by omega) h
    omega
  ·rw[chain,dif_neg z]at h
   have:=au.mp h
   omega
def wi(hs:List Int)(i j:Nat):Bool:=decide (j∈chain hs i)
theorem wi_step{hs:List Int}{p j:Nat}(h:0≤hold hs p∧hold hs p<(p:Int))(hj:j<p):wi hs p j=wi hs (hold hs p).toNat j:=by
 unfold wi
 rw[chain_up h]
 refine decide_eq_decide.mpr ⟨fun z=>?_,fun z=>aq _ z⟩
 rcases aG.mp z with z|z
 ·omega
 ·exact z
theorem wi_end{hs:List Int}{p j:Nat}(hj:p≤j):wi hs p j=decide (p=j):=by
 unfold wi
 refine decide_eq_decide.mpr ⟨fun z=>?_,fun z=>z▸chain_self hs p⟩
 have:=chain_le p z
 omega
theorem hold_lt{hs:List Int}(T:Tree hs){i:Nat}(hi:i<hs.length):hold hs i<(i:Int):=by
 by_cases h:i=0
 ·subst h;rw[T.root];decide
 ·exact(T.up i (by omega) hi).2
theorem hold_get{hs:List Int}{i:Nat}(hi:i<hs.length):hs[i]?=some (hold hs i):=by
 unfold hold
 rw[ag,aa hi];rfl
theorem QM{hs:List Int}{k:Int}:kids hs k=[]↔∀j:Nat,j<hs.length→hold hs j≠k:=by
 unfold kids
 rw[dk,cQ]
 refine⟨fun h j hj e=>h j (az.mpr hj) (decide_eq_true e),fun h j hj e=>h j (az.mp hj) (of_decide_eq_true e)⟩
theorem range_filter_succ(p:Nat→Bool)(i:Nat):(ak (i+1)).filter p=(ak i).filter p++(if p i=true then [i] else []):=by
 rw[bh,bq]
 cases h:p i<;>simp[h]
def cell(ns:List Int)(k:Nat):Int:=ns.getD k 0
def lh(ns:List Int)(k:Nat):Int:=if k=0 then -1 else cell ns k % (k:Int)
def holders(ns:List Int)(m:Nat):List Int:=(ak m).map (lh ns)
theorem holders_len(ns:List Int)(m:Nat):(holders ns m).length=m:=by simp[holders]
theorem holders_hold{ns:List Int}{m i:Nat}(hi:i<m):hold (holders ns m) i=lh ns i:=by
 unfold hold holders
 rw[ag,av,bv hi];rfl
theorem holders_tree(ns:List Int){m:Nat}(hm:0<m):Tree (holders ns m):=by
 refine⟨by rw[holders_len];exact hm,?_,fun i h0 hi=>?_⟩
 ·rw[holders_hold hm];rfl
 ·rw[holders_len]at hi
  rw[holders_hold hi]
  unfold lh
  rw[if_neg (by omega)]
  exact⟨cw _ (by omega),cq _ (by omega)⟩
theorem holders_succ(ns:List Int)(m:Nat):holders ns (m+1)=holders ns m++[lh ns m]:=by
 unfold holders
 rw[bh,am];rfl
theorem mem_holders{ns:List Int}{m:Nat}{k:Int}:k∈holders ns m↔kids (holders ns m) k≠[]:=by
 rw[Ne,QM]
 constructor
 ·intro h z
  obtain⟨j,hj,e⟩:=aJ.mp h
  have hj:=az.mp hj
  exact z j (by rw[holders_len];exact hj) (by rw[holders_hold hj];exact e)
 ·intro h
  refine Classical.byContradiction fun z=>h fun j hj e=>z ?_
  rw[holders_len]at hj
  rw[holders_hold hj]at e
  exact aJ.mpr ⟨j,az.mpr hj,e⟩
end Rm
namespace Rm
theorem tail_lt{hs:List Int}{i j:Nat}(h:j∈(chain hs i).tail):j<i:=by
 by_cases z:0≤hold hs i∧hold hs i<(i:Int)
 ·rw[chain_up z]at h
  have:=chain_le _ h
  omega
 ·rw[chain,dif_neg z]at h
  simp at h
def li(hs:List Int)(i j:Nat):Bool:=decide (j∈(chain hs i).tail)
theorem li_eq(hs:List Int)(i j:Nat):li hs i j=(!decide (i=j)&&wi hs i j):=by
 have hc:chain hs i=i::(chain hs i).tail:=by rw[chain];split<;>rfl
 unfold li wi
 by_cases e:i=j
 ·subst e
  have:¬i∈(chain hs i).tail:=fun z=>absurd (tail_lt z) (cz _)
  simp[this]
 ·have:j∈chain hs i↔j∈(chain hs i).tail:=by
   rw[hc]
   refine⟨fun z=>?_,fun z=>aq _ z⟩
   rcases aG.mp z with z|z
   ·exact absurd z.symm e
   ·exact z
  simp[e,this]
def upper(hs:List Int)(h:Int):List Nat:=if 0≤h then chain hs h.toNat else []
theorem upper_neg(hs:List Int):upper hs (-1)=[]:=rfl
theorem tail_upper{hs:List Int}(T:Tree hs){i:Nat}(hi:i<hs.length):(chain hs i).tail=upper hs (hold hs i):=by
 unfold upper
 by_cases z:0≤hold hs i
 ·rw[if_pos z,chain_up ⟨z,hold_lt T hi⟩];rfl
 ·rw[if_neg z,chain_top z];rfl
theorem upper_step{hs:List Int}(T:Tree hs){i:Nat}(hi:i<hs.length):upper hs (i:Int)=i::upper hs (hold hs i):=by
 rw[← tail_upper T hi]
 unfold upper
 rw[if_pos (by omega),aA]
 rw[chain];split<;>rfl
end Rm
namespace Rm
def kidsN(hs:List Int)(k:Nat):List Nat:=(ak hs.length).filter fun j=>decide (hold hs j=(k:Int))
theorem kids_kidsN(hs:List Int)(k:Nat):kids hs (k:Int)=(kidsN hs k).map fun(j:Nat)=>(j:Int):=rfl
theorem mem_kidsN{hs:List Int}{j k:Nat}:j∈kidsN hs k↔j<hs.length∧hold hs j=(k:Int):=by
 unfold kidsN
 rw[aR,az,decide_eq_true_eq]
theorem kidsN_nodup(hs:List Int)(k:Nat):(kidsN hs k).Nodup:=bp.filter _ dB
theorem kid_gt{hs:List Int}(T:Tree hs){j k:Nat}(h:j∈kidsN hs k):k<j:=by
 obtain⟨h1,h2⟩:=mem_kidsN.mp h
 have:=hold_lt T h1
 omega
structure Pick(hs:List Int)(ch:Nat→List Nat):Prop where
 sub:∀r,∀c∈ch r,c∈kidsN hs r
 nd:∀r,(ch r).Nodup
def ent(ch:Nat→List Nat):Nat→Nat→List Nat
 | 0,r=>[r]
 | f+1,r=>r::(ch r).flatMap (ent ch f)
theorem chain_mono{hs:List Int}{a b:Nat}:∀k:Nat,a∈chain hs k→b∈chain hs k→a≤b→a∈chain hs b:=by
 intro k
 induction k using bz with
 | ind k ih=>
  intro ha hb hab
  by_cases z:0≤hold hs k∧hold hs k<(k:Int)
  ·rw[chain_up z]at hb
   rcases aG.mp hb with e|hb
   ·rw[e];exact ha
   ·rw[chain_up z]at ha
    rcases aG.mp ha with e|ha
    ·have:=chain_le _ hb
     omega
    ·exact ih _ (by omega) ha hb hab
  ·rw[chain,dif_neg z]at hb
   rw[au.mp hb];exact ha
theorem chain_kid{hs:List Int}(T:Tree hs){c r:Nat}(h:c∈kidsN hs r):chain hs c=c::chain hs r:=by
 obtain⟨h1,h2⟩:=mem_kidsN.mp h
 have:=kid_gt T h
 rw[chain_up ⟨by omega,by omega⟩,h2,aA]
theorem chain_trans{hs:List Int}{a b:Nat}:∀k:Nat,a∈chain hs b→b∈chain hs k→a∈chain hs k:=by
 intro k
 induction k using bz with
 | ind k ih=>
  intro ha hb
  by_cases z:0≤hold hs k∧hold hs k<(k:Int)
  ·rw[chain_up z]at hb
   rcases aG.mp hb with e|hb
   ·rw[← e];exact ha
   ·rw[chain_up z];exact aq _ (ih _ (by omega) ha hb)
  ·rw[chain,dif_neg z]at hb
   rw[← au.mp hb];exact ha
theorem ent_sub{hs:List Int}{ch:Nat→List Nat}(T:Tree hs)(P:Pick hs ch):∀(f r k:Nat),r<hs.length→k∈ent ch f r→k<hs.length∧r∈chain hs k
 | 0,r,k,hr,h=>by
  rw[au.mp h];exact⟨hr,chain_self hs r⟩
 | f+1,r,k,hr,h=>by
  rcases aG.mp h with e|h
  ·rw[e];exact⟨hr,chain_self hs r⟩
  ·obtain⟨c,hc,hk⟩:=bW.mp h
   have hc':=P.sub r c hc
   obtain⟨a,b⟩:=ent_sub T P f c k (mem_kidsN.mp hc').1 hk
   refine⟨a,chain_trans k ?_ b⟩
   rw[chain_kid T hc'];exact aq _ (chain_self hs r)
theorem ent_nodup{hs:List Int}{ch:Nat→List Nat}(T:Tree hs)(P:Pick hs ch):∀(f r:Nat),r<hs.length→(ent ch f r).Nodup
 | 0,r,_=>by simp[ent]
 | f+1,r,hr=>by
  show(r::(ch r).flatMap (ent ch f)).Nodup
  refine bm.mpr ⟨fun h=>?_,?_⟩
  ·obtain⟨c,hc,hk⟩:=bW.mp h
   have hc':=P.sub r c hc
   have:=(ent_sub T P f c r (mem_kidsN.mp hc').1 hk).2
   have:=chain_le _ this
   have:=kid_gt T hc'
   omega
  ·show bp _ _
   rw[List.pairwise_flatMap]
   refine⟨fun c hc=>ent_nodup T P f c (mem_kidsN.mp (P.sub r c hc)).1,?_⟩
   refine(P.nd r).imp_of_mem fun{a b} ha hb hab x hx y hy e=>?_
   subst e
   have a':=P.sub r a ha
   have b':=P.sub r b hb
   have ca:=(ent_sub T P f a x (mem_kidsN.mp a').1 hx).2
   have cb:=(ent_sub T P f b x (mem_kidsN.mp b').1 hy).2
   have ga:=kid_gt T a'
   have gb:=kid_gt T b'
   rcases cR a b with l|l
   ·have:=chain_mono x ca cb l
    rw[chain_kid T b']at this
    rcases aG.mp this with e|e
    ·exact hab e
    ·have:=chain_le _ e
     omega
   ·have:=chain_mono x cb ca l
    rw[chain_kid T a']at this
    rcases aG.mp this with e|e
    ·exact hab e.symm
    ·have:=chain_le _ e
     omega
theorem ent_len{hs:List Int}{ch:Nat→List Nat}(T:Tree hs)(P:Pick hs ch)(f r:Nat)(hr:r<hs.length):(ent ch f r).length≤hs.length:=by
 have h:=(ent_nodup T P f r hr).length_le_of_subset (l₂:=ak hs.length) fun k hk=>az.mpr (ent_sub T P f r k hr hk).1
 rwa [aF]at h
def kb(ok:Nat→Nat→Bool)(hs:List Int)(k:Nat):Bool:=
 if h:0≤hold hs k∧hold hs k<(k:Int) then kb ok hs (hold hs k).toNat&&ok (hold hs k).toNat k else decide (k=0)
termination_by k
decreasing_by omega
theorem kb_root{ok:Nat→Nat→Bool}{hs:List Int}(T:Tree hs):kb ok hs 0=true:=by
 rw[kb,dif_neg (by rw[T.root];decide)];rfl
theorem kb_up{ok:Nat→Nat→Bool}{hs:List Int}(T:Tree hs){k:Nat}(h0:0<k)(hk:k<hs.length):kb ok hs k=(kb ok hs (hold hs k).toNat&&ok (hold hs k).toNat k):=by
 rw[kb,dif_pos (T.up k h0 hk)]
theorem ent_next{hs:List Int}{ch:Nat→List Nat}(T:Tree hs)(P:Pick hs ch):∀(f r p k:Nat),r<hs.length→hs.length≤f+r→p∈ent ch f r→k∈ch p→k∈ent ch f r
 | 0,r,p,k,hr,hf,_,_=>absurd hr (by omega)
 | f+1,r,p,k,hr,hf,hp,hk=>by
  rcases aG.mp hp with e|hp
  ·subst e
   refine aq _ (bW.mpr ⟨k,hk,?_⟩)
   cases f with
   | zero=>exact au.mpr rfl
   | succ f=>exact aw
  ·obtain⟨c,hc,hp⟩:=bW.mp hp
   have hc':=P.sub r c hc
   have:=kid_gt T hc'
   exact aq _ (bW.mpr ⟨c,hc,ent_next T P f c p k (mem_kidsN.mp hc').1 (by omega) hp hk⟩)
theorem ent_back{hs:List Int}{ch:Nat→List Nat}(T:Tree hs)(P:Pick hs ch):∀(f r k:Nat),r<hs.length→k∈ent ch f r→k=r∨(k∈ch (hold hs k).toNat∧(hold hs k).toNat∈ent ch f r∧0<k)
 | 0,r,k,hr,h=>.inl (au.mp h)
 | f+1,r,k,hr,h=>by
  rcases aG.mp h with e|h
  ·exact .inl e
  ·obtain⟨c,hc,hk⟩:=bW.mp h
   have hc':=P.sub r c hc
   obtain⟨c1,c2⟩:=mem_kidsN.mp hc'
   have:=kid_gt T hc'
   rcases ent_back T P f c k c1 hk with e|⟨a,b,d⟩
   ·subst e
    refine .inr ⟨by rw[c2,aA];exact hc,?_,by omega⟩
    rw[c2,aA];exact aw
   ·exact .inr ⟨a,aq _ (bW.mpr ⟨c,hc,b⟩),d⟩
theorem Sk{hs:List Int}{ch:Nat→List Nat}{ok:Nat→Nat→Bool}(T:Tree hs)(P:Pick hs ch){f:Nat}(hf:hs.length≤f)(hok:∀k,0<k→k<hs.length→(ok (hold hs k).toNat k=true↔k∈ch (hold hs k).toNat)) :
  ∀k,k∈ent ch f 0↔k<hs.length∧kb ok hs k=true:=by
 intro k
 induction k using bz with
 | ind k ih=>
  constructor
  ·intro h
   have hk:=(ent_sub T P f 0 k T.pos h).1
   refine⟨hk,?_⟩
   rcases ent_back T P f 0 k T.pos h with e|⟨a,b,d⟩
   ·rw[e];exact kb_root T
   ·have hu:=T.up k d hk
    rw[kb_up T d hk,((ih _ (by omega)).mp b).2,(hok k d hk).mpr a];rfl
  ·rintro⟨hk,h⟩
   by_cases z:k=0
   ·subst z
    cases f with
    | zero=>exact au.mpr rfl
    | succ f=>exact aw
   ·have hu:=T.up k (by omega) hk
    rw[kb_up T (by omega) hk,be]at h
    exact ent_next T P f 0 _ k T.pos (by omega) ((ih _ (by omega)).mpr ⟨by omega,h.1⟩) ((hok k (by omega) hk).mp h.2)
theorem ent_sorted{hs:List Int}{ch:Nat→List Nat}{ok:Nat→Nat→Bool}(T:Tree hs)(P:Pick hs ch){f:Nat}(hf:hs.length≤f)(hok:∀k,0<k→k<hs.length→(ok (hold hs k).toNat k=true↔k∈ch (hold hs k).toNat))
  {ns:List Int} (hp:ns.Perm ((ent ch f 0).map fun(j:Nat)=>(j:Int))) (hs':ns.Pairwise (·≤·)):ns=((ak hs.length).filter (kb ok hs)).map fun(j:Nat)=>(j:Int):=by
 have hq:(ent ch f 0).Perm ((ak hs.length).filter (kb ok hs)):=by
  refine(dv (ent_nodup T P f 0 T.pos) (bp.filter _ dB)).mpr fun k=>?_
  rw[Sk T P hf hok,aR,az]
 refine(hp.trans (hq.map _)).eq_of_pairwise (fun a b _ _ h1 h2=>Int.le_antisymm h1 h2) hs' ?_
 rw[d5]
 exact(bp.filter _ bS).imp fun h=>by omega
end Rm
set_option linter.all false
namespace Fm
structure Mc where
 n:Nat
 nx:Nat→Nat→Nat
 dd:Nat→Nat→List Int
structure Mc.Ok(m:Mc):Prop where
 pos:0<m.n
 nx:∀a e,a<m.n→e<4→m.nx a e<m.n
variable{m:Mc}
def al(m:Mc):Nat→Nat→Nat→Bool
 | 0,_,_=>true
 | t+1,a,b=>(ak 4).all fun e=>decide (m.dd a e=m.dd b e)&&al m t (m.nx a e) (m.nx b e)
theorem al_succ{t a b:Nat}:al m (t+1) a b=true↔∀e,e<4→m.dd a e=m.dd b e∧al m t (m.nx a e) (m.nx b e)=true:=by
 show((ak 4).all fun e=>decide (m.dd a e=m.dd b e)&&al m t (m.nx a e) (m.nx b e))=true↔_
 rw[cf]
 constructor
 ·intro h e he
  have z:=h e (az.mpr he)
  rw[be,decide_eq_true_iff]at z
  exact z
 ·intro h e he
  rw[be,decide_eq_true_iff]
  exact h e (az.mp he)
theorem OT:∀(t a:Nat),al m t a a=true
 | 0,_=>rfl
 | t+1,a=>al_succ.mpr fun e _=>⟨rfl,OT t _⟩
theorem al_symm:∀{t a b:Nat},al m t a b=true→al m t b a=true
 | 0,_,_,_=>rfl
 | t+1,a,b,h=>al_succ.mpr fun e he=>⟨((al_succ.mp h) e he).1.symm,al_symm ((al_succ.mp h) e he).2⟩
theorem al_trans:∀{t a b c:Nat},al m t a b=true→al m t b c=true→al m t a c=true
 | 0,_,_,_,_,_=>rfl
 | t+1,a,b,c,h,g=>al_succ.mpr fun e he=>⟨((al_succ.mp h) e he).1.trans ((al_succ.mp g) e he).1,al_trans ((al_succ.mp h) e he).2 ((al_succ.mp g) e he).2⟩
theorem al_down:∀{t a b:Nat},al m (t+1) a b=true→al m t a b=true
 | 0,_,_,_=>rfl
 | t+1,a,b,h=>al_succ.mpr fun e he=>⟨((al_succ.mp h) e he).1,al_down ((al_succ.mp h) e he).2⟩
theorem al_le{s t a b:Nat}(hst:s≤t)(h:al m t a b=true):al m s a b=true:=by
 induction t with
 | zero=>
      have:s=0:=by omega
      subst this;exact h
 | succ t ih=>
  by_cases z:s=t+1
  ·rw[z];exact h
  ·exact ih (by omega) (al_down h)
def Stable(m:Mc)(t:Nat):Prop:=∀a b,a<m.n→b<m.n→al m t a b=true→al m (t+1) a b=true
theorem L4(ok:m.Ok){t:Nat}(h:Stable m t):Stable m (t+1):=fun a b ha hb z=>
 al_succ.mpr fun e he=>⟨((al_succ.mp z) e he).1,h _ _ (ok.nx a e ha he) (ok.nx b e hb he) ((al_succ.mp z) e he).2⟩
theorem Kh(ok:m.Ok){s t:Nat}(hst:s≤t)(h:Stable m s):Stable m t:=by
 induction t with
 | zero=>
      have:s=0:=by omega
      subst this;exact h
 | succ t ih=>
  by_cases z:s=t+1
  ·rw[← z];exact h
  ·exact L4 ok (ih (by omega))
theorem stable_al(ok:m.Ok){s t:Nat}(hst:s≤t)(h:Stable m s){a b:Nat}(ha:a<m.n)(hb:b<m.n):al m t a b=al m s a b:=by
 have up:al m s a b=true→al m t a b=true:=fun z=>by
  induction t with
  | zero=>
       have:s=0:=by omega
       subst this;exact z
  | succ t ih=>
   by_cases y:s=t+1
   ·rw[← y];exact z
   ·exact Kh ok (show s≤t by omega) h a b ha hb (ih (by omega))
 cases z:al m s a b with
 | true=>exact up z
 | false=>
  cases y:al m t a b with
  | false=>rfl
  | true=>rw[al_le hst y]at z;cases z
def Ru(m:Mc)(t k:Nat):Bool:=(ak k).all fun j=>!al m t j k
theorem Fr{t k:Nat}:Ru m t k=true↔∀j,j<k→al m t j k=false:=by
 unfold Ru
 rw[cf]
 constructor
 ·intro h j hj
  have z:=h j (az.mpr hj)
  simpa using z
 ·intro h j hj
  rw[h j (az.mp hj)];rfl
theorem Qj{t k:Nat}(h:Ru m t k=true):Ru m (t+1) k=true:=Fr.mpr fun j hj=>by
 cases z:al m (t+1) j k with
 | false=>rfl
 | true=>exact absurd (Fr.mp h j hj) (by rw[al_down z];decide)
def mr(m:Mc)(t k:Nat):Nat:=((ak (k+1)).find? fun j=>al m t j k).getD k
theorem Lp(t k:Nat):mr m t k≤k∧al m t (mr m t k) k=true∧∀j,j<mr m t k→al m t j k=false:=by
 unfold mr
 cases h:(ak (k+1)).find? fun j=>al m t j k with
 | none=>
  have z:=bL.mp h k (az.mpr (by omega))
  exact absurd (OT t k) z
 | some r=>
  have h1:=dg h
  have h2:=az.mp (cg h)
  refine⟨by show r≤k;omega,h1,fun j hj=>?_⟩
  have hj':j<r:=hj
  obtain⟨_,i,hi,e,hlt⟩:=bX.mp h
  rw[bM]at e
  subst e
  have z:=hlt j hj'
  rw[bM]at z
  simpa using z
theorem mr_le(t k:Nat):mr m t k≤k:=(Lp t k).1
theorem mr_al(t k:Nat):al m t (mr m t k) k=true:=(Lp t k).2.1
theorem QF{t k j:Nat}(h:j<mr m t k):al m t j k=false:=(Lp t k).2.2 j h
theorem mr_of{t j k:Nat}(h:al m t j k=true):mr m t k≤j:=dA fun z=>by rw[QF z]at h;cases h
theorem mr_eq{t j k:Nat}(h:al m t j k=true):mr m t j=mr m t k:=by
 have h1:=mr_of (al_trans (mr_al t j) h)
 have h2:=mr_of (al_trans (mr_al t k) (al_symm h))
 omega
theorem mr_iff{t j k:Nat}:mr m t j=mr m t k↔al m t j k=true:=⟨fun e=>al_trans (al_symm (mr_al t j)) (by rw[e];exact mr_al t k),mr_eq⟩
theorem QE(t k:Nat):Ru m t (mr m t k)=true:=Fr.mpr fun j hj=>by
 cases z:al m t j (mr m t k) with
 | false=>rfl
 | true=>exact absurd (al_trans z (mr_al t k)) (by rw[QF hj];decide)
def cnt(m:Mc)(t:Nat):Nat:=((ak m.n).filter (Ru m t)).length
theorem cnt_le(t:Nat):cnt m t≤m.n:=by
 have:=aL (Ru m t) (ak m.n)
 rw[aF]at this
 exact this
theorem Fb{α:Type}{p q:α→Bool}(h:∀x,p x=true→q x=true):∀(l:List α),(l.filter p).length≤(l.filter q).length∧((l.filter p).length=(l.filter q).length→∀x∈l,q x=true→p x=true)
 | []=>⟨aE _,fun _ x hx=>by simp at hx⟩
 | y::l=>by
  obtain⟨i1,i2⟩:=Fb h l
  cases hp:p y with
  | true=>
   rw[cJ hp,cJ (h y hp)]
   refine⟨by simp;exact i1,fun e x hx hq=>?_⟩
   rcases aG.mp hx with z|z
   ·rw[z];exact hp
   ·exact i2 (by simpa using e) x z hq
  | false=>
   rw[dC (by rw[hp];decide)]
   cases hq:q y with
   | true=>
    rw[cJ hq]
    refine⟨by simp;omega,fun e=>?_⟩
    simp at e
    omega
   | false=>
    rw[dC (by rw[hq];decide)]
    refine⟨i1,fun e x hx hqx=>?_⟩
    rcases aG.mp hx with z|z
    ·rw[z,hq]at hqx;cases hqx
    ·exact i2 e x z hqx
theorem MX(t:Nat):cnt m t≤cnt m (t+1):=(Fb (fun x h=>Qj h) _).1
theorem JK{t:Nat}(h:cnt m t=cnt m (t+1)):Stable m t:=fun a b ha hb z=>by
 have g:=(Fb (p:=Ru m t) (q:=Ru m (t+1)) (fun x h=>Qj h) (ak m.n)).2 h
 have ra:=g _ (az.mpr (bK (mr_le (t+1) a) ha)) (QE (t+1) a)
 have rb:=g _ (az.mpr (bK (mr_le (t+1) b) hb)) (QE (t+1) b)
 have hab:al m t (mr m (t+1) a) (mr m (t+1) b)=true:=al_trans (al_down (mr_al (t+1) a)) (al_trans z (al_symm (al_down (mr_al (t+1) b))))
 have e:mr m (t+1) a=mr m (t+1) b:=by
  rcases cS (mr m (t+1) a) (mr m (t+1) b) with y|y|y
  ·rw[Fr.mp rb _ y]at hab;cases hab
  ·exact y
  ·have:=al_symm hab
   rw[Fr.mp ra _ y]at this;cases this
 exact mr_iff.mp e
theorem Sr(ok:m.Ok)(t:Nat):1≤cnt m t:=by
 have h0:0∈(ak m.n).filter (Ru m t):=aR.mpr ⟨az.mpr ok.pos,Fr.mpr fun j hj=>absurd hj (by omega)⟩
 exact cT h0
theorem HI(ok:m.Ok):∀t,(∃s,s<t∧Stable m s)∨t+1≤cnt m t
 | 0=>.inr (Sr ok 0)
 | t+1=>by
  rcases HI ok t with⟨s,hs,z⟩|z
  ·exact .inl ⟨s,by omega,z⟩
  ·by_cases e:cnt m t=cnt m (t+1)
   ·exact .inl ⟨t,by omega,JK e⟩
   ·have:=MX (m:=m) t
    exact .inr (by omega)
theorem stable_n(ok:m.Ok):Stable m m.n:=by
 rcases HI ok m.n with⟨s,hs,z⟩|z
 ·exact Kh ok (by omega) z
 ·have:=cnt_le (m:=m) m.n
  omega
theorem mr_stable(ok:m.Ok){t:Nat}(h:∀k,k<m.n→mr m t k=mr m (t+1) k):Stable m t:=fun a b ha hb z=>by
 have e:=mr_eq z
 rw[h a ha,h b hb]at e
 exact mr_iff.mp e
theorem mr_unstable{t k:Nat}(hk:k<m.n)(h:mr m t k≠mr m (t+1) k):cnt m t<cnt m (t+1):=by
 have g:=MX (m:=m) t
 by_cases e:cnt m t=cnt m (t+1)
 ·have st:=JK e
  refine absurd ?_ h
  have h1:al m (t+1) (mr m t k) k=true:=st _ _ (bK (mr_le t k) hk) hk (mr_al t k)
  have h2:=mr_of h1
  have h3:=mr_of (m:=m) (al_down (mr_al (m:=m) (t+1) k))
  omega
 ·omega
theorem mr_end(ok:m.Ok){t k:Nat}(hk:k<m.n)(st:Stable m t):mr m t k=mr m m.n k:=by
 have key:∀j,j<m.n→al m t j k=al m m.n j k:=fun j hj=>by
  rcases cR t m.n with z|z
  ·exact(stable_al ok z st hj hk).symm
  ·exact stable_al ok z (stable_n ok) hj hk
 have h1:al m t (mr m m.n k) k=true:=by rw[key _ (bK (mr_le _ k) hk)];exact mr_al _ k
 have h2:al m m.n (mr m t k) k=true:=by rw[← key _ (bK (mr_le _ k) hk)];exact mr_al _ k
 have:=mr_of h1
 have:=mr_of h2
 omega
def far(m:Mc):Nat→Nat→Nat→Nat
 | 0,_,_=>0
 | t+1,a,b=>if far m t a b≠0 then far m t a b else if(if t=0 then(ak 4).any fun e=>decide (m.dd a e≠m.dd b e) else(ak 4).any fun e=>decide (far m t (m.nx a e) (m.nx b e)=t))=true then t+1 else 0
theorem al_or{t a b:Nat}(h:al m (t+1) a b=false):∃e,e<4∧(m.dd a e≠m.dd b e∨al m t (m.nx a e) (m.nx b e)=false):=by
 refine Classical.byContradiction fun z=>?_
 have:al m (t+1) a b=true:=al_succ.mpr fun e he=>by
  refine⟨Classical.byContradiction fun y=>z ⟨e,he,.inl y⟩,?_⟩
  cases y:al m t (m.nx a e) (m.nx b e) with
  | true=>rfl
  | false=>exact absurd ⟨e,he,.inr y⟩ z
 rw[this]at h;cases h
theorem far_spec:∀(t a b:Nat),(far m t a b=0↔al m t a b=true)∧(far m t a b≠0→far m t a b≤t∧al m (far m t a b) a b=false∧al m (far m t a b - 1) a b=true)
 | 0,a,b=>⟨⟨fun _=>rfl,fun _=>rfl⟩,fun h=>absurd rfl h⟩
 | t+1,a,b=>by
  obtain⟨i1,i2⟩:=far_spec t a b
  by_cases h:far m t a b≠0
  ·have e:far m (t+1) a b=far m t a b:=by rw[far,if_pos h]
   rw[e]
   obtain⟨j1,j2,j3⟩:=i2 h
   refine⟨⟨fun z=>absurd z h,fun z=>?_⟩,fun _=>⟨by omega,j2,j3⟩⟩
   rw[i1.mpr (al_down z)]at h;exact absurd rfl h
  ·have h0:far m t a b=0:=by omega
   have ha:=i1.mp h0
   have e:far m (t+1) a b=if(if t=0 then(ak 4).any fun e=>decide (m.dd a e≠m.dd b e) else(ak 4).any fun e=>decide (far m t (m.nx a e) (m.nx b e)=t))=true then t+1 else 0:=by rw[far,if_neg h]
   have key:(if t=0 then(ak 4).any fun e=>decide (m.dd a e≠m.dd b e) else(ak 4).any fun e=>decide (far m t (m.nx a e) (m.nx b e)=t))=true↔al m (t+1) a b=false:=by
    constructor
    ·intro z
     cases y:al m (t+1) a b with
     | false=>rfl
     | true=>
      by_cases t0:t=0
      ·rw[if_pos t0,cW]at z
       obtain⟨x,hx,hd⟩:=z
       exact absurd ((al_succ.mp y) x (az.mp hx)).1 (of_decide_eq_true hd)
      ·rw[if_neg t0,cW]at z
       obtain⟨x,hx,hd⟩:=z
       have hd':=of_decide_eq_true hd
       have g:=((al_succ.mp y) x (az.mp hx)).2
       rw[(far_spec t _ _).1.mpr g]at hd'
       omega
    ·intro z
     obtain⟨x,hx,hd⟩:=al_or z
     by_cases t0:t=0
     ·rw[if_pos t0,cW]
      subst t0
      refine⟨x,az.mpr hx,decide_eq_true ?_⟩
      rcases hd with y|y
      ·exact y
      ·cases y
     ·rw[if_neg t0,cW]
      refine⟨x,az.mpr hx,decide_eq_true ?_⟩
      obtain⟨t',rfl⟩:∃t',t=t'+1:=⟨t - 1,by omega⟩
      have g:=(al_succ.mp ha) x hx
      rcases hd with y|y
      ·exact absurd g.1 y
      ·obtain⟨k1,k2⟩:=far_spec (t'+1) (m.nx a x) (m.nx b x)
       have kn:far m (t'+1) (m.nx a x) (m.nx b x)≠0:=fun q=>by rw[k1.mp q]at y;cases y
       obtain⟨l1,l2,l3⟩:=k2 kn
       by_cases lt:far m (t'+1) (m.nx a x) (m.nx b x)≤t'
       ·rw[al_le lt g.2]at l2;cases l2
       ·omega
   rw[e]
   by_cases z:al m (t+1) a b=true
   ·rw[if_neg (by rw[key,z];decide)]
    exact⟨⟨fun _=>z,fun _=>rfl⟩,fun y=>absurd rfl y⟩
   ·have z':al m (t+1) a b=false:=by cases y:al m (t+1) a b with|true=>exact absurd y z|false=>rfl
    rw[if_pos (key.mpr z')]
    refine⟨⟨fun y=>by omega,fun y=>absurd y z⟩,fun _=>⟨aE _,z',ha⟩⟩
theorem far_zero(t a b:Nat):far m t a b=0↔al m t a b=true:=(far_spec t a b).1
end Fm
set_option Elab.async false
set_option linter.all false
set_option maxRecDepth 100000
set_option maxHeartbeats 4000000
namespace L2
open PySem PySem.Spec PyProof.Rows
mutual
inductive LP(K:aj)(H:Hp):V→fN→Prop
 | non:LP K H .non .none
 | bl (b:Bool):LP K H (.bl b) (.bool b)
 | int (i:Int):LP K H (.int i) (.int i)
 | str (x:Str):LP K H (.str x) (.str x)
 | lst {a:fG} {xs:List V} {ds:List fN}:AD K H a xs→GA K H xs ds→LP K H (.ref a) (.list ds)
 | tup {a:fG} {xs:List V} {ds:List fN}:A2 K H a xs→GA K H xs ds→LP K H (.ref a) (.tuple ds)
inductive GA(K:aj)(H:Hp):List V→List fN→Prop
 | nil:GA K H [] []
 | cons {x:V} {d:fN} {xs:List V} {ds:List fN}:LP K H x d→GA K H xs ds→GA K H (x::xs) (d::ds)
end
section
variable{X:Cx}{pins:List (fG×Obj)}{σ:St}{H:Hp}{s:fJ}
mutual
theorem LP.reads(I:AR X pins σ H s):∀{v:V} {d:fN} {u:fF},LP X.K H v d→Bm v u→∃as,Reads s.heap u d as
 | _,_,u,.non,r=>by
  cases (show u=fF.none from r)
  exact⟨_,.none⟩
 | _,_,u,.bl b,r=>by
  cases (show u=fF.bool b from r)
  exact⟨_,.bool b⟩
 | _,_,u,.int i,r=>by
  obtain⟨t,q⟩:=(show ∃t,u=fF.int i t from r)
  cases q
  exact⟨_,.int i t⟩
 | _,_,u,.str x,r=>by
  obtain⟨t,q⟩:=(show ∃t,u=fF.str x t from r)
  cases q
  exact⟨_,.str x t⟩
 | _,_,u,.lst (a:=a) h hs,r=>by
  cases (show u=fF.ref a from r)
  obtain⟨its,rv,p,_⟩:=I.list h
  obtain⟨o,ho,hc,n,hd⟩:=p.isList
  obtain⟨as,q⟩:=GA.reads I hs rv
  exact⟨_,.list ho hc hd (by simpa using q)⟩
 | _,_,u,.tup (a:=a) h hs,r=>by
  cases (show u=fF.ref a from r)
  obtain⟨its,rv,p,_⟩:=I.tuple h
  obtain⟨o,ho,hc,n,hd⟩:=p
  obtain⟨as,q⟩:=GA.reads I hs rv
  exact⟨_,.tuple ho hc hd (by simpa using q)⟩
theorem GA.reads(I:AR X pins σ H s):∀{vs:List V} {ds:List fN} {us:List fF},GA X.K H vs ds→A5 vs us→∃as,ReadsAll s.heap us ds as
 | _,_,_,.nil,.nil=>⟨_,.nil⟩
 | _,_,_,.cons h hs,.cons r rs=>by
  obtain⟨as,q⟩:=LP.reads I h r
  obtain⟨bs,q'⟩:=GA.reads I hs rs
  exact⟨_,.cons q q'⟩
end
def rEqD(K:aj)(neg:Bool):R2:=fun x y H Q=>∃da db,LP K H x da∧LP K H y db∧SeqAt.shaped da=true∧SeqAt.shaped db=true∧Q (.bl (if neg then !fN.eqv da db else fN.eqv da db)) H
theorem op_eqD(hu:X.A.units+64<cLine):G9 X (fY .Eq) (rEqD X.K false):=by
 intro pins s σ H x y v u Q I rx ry h
 obtain⟨da,db,ra,rb,ha,hb,q⟩:=h
 obtain⟨as,r1⟩:=ra.reads I rx
 obtain⟨bs,r2⟩:=rb.reads I ry
 exact eq_dataH r1 r2 ha hb hu ⟨.bl _,H,I,rfl,q⟩
theorem Nn(hu:X.A.units+64<cLine):G9 X (fY .NotEq) (rEqD X.K true):=by
 intro pins s σ H x y v u Q I rx ry h
 obtain⟨da,db,ra,rb,ha,hb,q⟩:=h
 obtain⟨as,r1⟩:=ra.reads I rx
 obtain⟨bs,r2⟩:=rb.reads I ry
 exact ne_dataH r1 r2 ha hb hu ⟨.bl _,H,I,rfl,q⟩
theorem C4:JZ X (.builtin "isinstance") (fun xs H Q=>∃x n t b,xs=[x,.ty n]∧Hx X.K H x t∧bu X.K t (.type n)=some b∧Q (.bl b) H):=by
 intro pins s σ H xs us Q I r h
 obtain⟨x,n,t,b,rfl,ty,e,q⟩:=h
 obtain⟨u,u',rfl,rx,ry⟩:=A5.two r
 cases (show u'=fF.type n from ry)
 exact Pt I rx ty e fun tk=>⟨.bl b,H,I.tok tk,rfl,q⟩
end
theorem MZ{X:Cx}:JZ X (.builtin "sorted") (fun xs H Q=>∃p ns,xs=[.ref p]∧AD X.K H p (ns.map V.int)∧ns.length<64 ∧
  ∀l (ns':List Int),H l=none→ns'.Perm ns→ns'.Pairwise (·≤·)→Q (.ref l) (upd H l (.lst (ns'.map V.int)))):=by
 intro pins s σ H xs us Q I r h
 obtain⟨p,ns,rfl,hq,h64,q⟩:=h
 obtain⟨u,rfl,ru⟩:=A5.one r
 cases (show u=fF.ref p from ru)
 obtain⟨its,rv,pl,hz⟩:=I.list hq
 have hl:=rv.length
 rw[ac]at hl
 refine sorted_ints pl.isList (Jo rv) (by omega) fun out ns' a1 a2 a3=>?_
 obtain⟨e,he⟩:=sortedAll_at s.heap its out
 have hn:=a2.length_eq
 have sml:(ns'.map V.int).length≤fL:=by
  rw[ac]
  exact dm (aZ (show ns'.length<64 by omega) (by decide))
 exact⟨.ref _,_,I.laid (o:=.lst (ns'.map V.int)) (t':=s.toks) (fun b o z=>sortedAll_old z) (c7 _) ⟨sml,out.toList,e,He a1,he⟩,rfl,q _ ns' (I.hok.fresh (c7 _)) a2 a3⟩
structure Bk where
 cl:List (Str×fG)
 C:fG
 s:fJ
 H:Hp
 fp:List fG
 pn:List (fG×Obj)
def Cx.blk(X:Cx)(N':List Str)(sc:Scope)(b:Bk):Cx where
 prog:=X.prog
 w:=X.w
 K:=X.K
 mg:=X.mg
 base:=X.base
 A:=X.A
 N:=N'
 s₀:=b.s
 H₀:=b.H
 env:=compEnvC sc b.cl b.C X.env
 outer:=X.stack
 stack:=X.stack
 ex:=b.fp
 fn:=fun _=>false
 calm:=X.calm
 pn:=b.pn
 xe:=fun _ _=>False
def bst(ix:List (Option Nat))(σ:St):St:=ix.map fun o=>match o with
 | none=>none
 | some j=>(σ[j]?).getD none
def Fa(N:List Str)(names:List (Str×fZ)):List Str→List (Option Nat)→Bool
 | x::r,some j::t=>decide (N[j]?=some x)&&decide (names.lookup x=some .free)&&Fa N names r t
 | _::r,none::t=>Fa N names r t
 | [],[]=>true
 | _,_=>false
theorem Jx{N:List Str}{names:List (Str×fZ)}:∀{N':List Str} {ix:List (Option Nat)},Fa N names N' ix=true →
  ix.length=N'.length∧∀(i j:Nat) (x:Str),N'[i]?=some x→ix[i]?=some (some j)→N[j]?=some x∧names.lookup x=some .free
 | [],[],_=>⟨rfl,fun i j x e _=>by simp at e⟩
 | x::r,some j::t,h=>by
  simp only[Fa,be,decide_eq_true_eq]at h
  obtain⟨hl,hf⟩:=Jx (N':=r) (ix:=t) h.2
  refine⟨by simp[hl],fun i k y e1 e2=>?_⟩
  cases i with
  | zero=>
   simp at e1 e2
   subst e1 e2
   exact h.1
  | succ i=>exact hf i k y (by simpa using e1) (by simpa using e2)
 | x::r,none::t,h=>by
  simp only[Fa]at h
  obtain⟨hl,hf⟩:=Jx (N':=r) (ix:=t) h
  refine⟨by simp[hl],fun i k y e1 e2=>?_⟩
  cases i with
  | zero=>simp at e2
  | succ i=>exact hf i k y (by simpa using e1) (by simpa using e2)
 | [],some _::_,h=>by simp[Fa]at h
 | [],none::_,h=>by simp[Fa]at h
 | _::_,[],h=>by simp[Fa]at h
theorem Jz{α β:Type}{f:α→β→Sem (ForInStep β)}(Pv:List α→β→Prop)(hs:∀x l b,Pv (x::l) b→∃b',f x b=pure (.yield b')∧Pv l b') :
  ∀(l:List α) (b:β),Pv l b→∃b',forIn l b f=pure b'∧Pv [] b'
 | [],b,h=>⟨b,rfl,h⟩
 | x::l,b,h=>by
  obtain⟨b1,e1,h1⟩:=hs x l b h
  obtain⟨b2,e2,h2⟩:=Jz Pv hs l b1 h1
  refine⟨b2,?_,h2⟩
  rw[cx,e1,pure_bind]
  exact e2
def Rj(env:Env)(x:Str×fZ)(r:List (Str×fG)):Sem (ForInStep (List (Str×fG))):=
 if x.2==.free then(do let c ← cellOf env x.1;pure (.yield ((x.1,c)::r))) else pure (.yield r)
theorem LM(sc:Scope)(env:Env):closureFor sc env=(forIn sc.names [] (Rj env) >>= fun cs=>pure cs):=by rfl
theorem JL{sc:Scope}{env:Env}(h:∀p∈sc.names,p.2=.free→∃c,env.cells.lookup p.1=some c) :
  ∃cl,closureFor sc env=pure cl∧(∀x c,cl.lookup x=some c→env.cells.lookup x=some c)∧∀p∈sc.names,p.2=.free→∃c,cl.lookup p.1=some c:=by
 obtain⟨cl,e,_,h1,h2⟩:=Jz (f:=Rj env)
  (fun l (b:List (Str×fG))=>(∀p∈l,p∈sc.names)∧(∀x c,b.lookup x=some c→env.cells.lookup x=some c)∧∀p∈sc.names,p.2=.free→p∈l∨∃c,b.lookup p.1=some c)
  (fun p l b ⟨g0,g1,g2⟩=>by
   unfold Rj
   by_cases hk:p.2=.free
   ·obtain⟨c,hc⟩:=h p (g0 p aw) hk
    have ec:cellOf env p.1=pure c:=by unfold cellOf;rw[hc]
    rw[hk,if_pos (by decide),ec,pure_bind]
    refine⟨_,rfl,fun q hq=>g0 q (aq _ hq),fun x d e=>?_,fun q hq hf=>?_⟩
    ·rw[cp]at e
     cases hx:x==p.1 with
     | true=>
      rw[hx]at e
      cases e
      rw[eq_of_beq hx];exact hc
     | false=>
      rw[hx]at e
      exact g1 x d e
    ·rcases g2 q hq hf with z|⟨d,hd⟩
     ·rcases aG.mp z with z|z
      ·subst z
       exact .inr ⟨c,by rw[cp,beq_self_eq_true]⟩
      ·exact .inl z
     ·refine .inr ?_
      rw[cp]
      cases hx:q.1==p.1 with
      | true=>exact⟨c,rfl⟩
      | false=>exact⟨d,hd⟩
   ·rw[if_neg (by simpa using hk)]
    refine⟨_,rfl,fun q hq=>g0 q (aq _ hq),g1,fun q hq hf=>?_⟩
    rcases g2 q hq hf with z|z
    ·rcases aG.mp z with z|z
     ·subst z;exact absurd hf hk
     ·exact .inl z
    ·exact .inr z)
  sc.names [] ⟨fun _ z=>z,fun x c e=>by simp at e,fun p hp _=>.inl hp⟩
 refine⟨cl,?_,h1,fun p hp hf=>(h2 p hp hf).elim (fun z=>by simp at z) id⟩
 rw[LM,e,pure_bind]
theorem Gn{names:List (Str×fZ)}{x:Str}{k:fZ}:names.lookup x=some k→(x,k)∈names:=by
 induction names with
 | nil=>intro e;simp at e
 | cons p r ih=>
  intro e
  rw[cp]at e
  cases hx:x==p.1 with
  | true=>
   rw[hx]at e
   cases e
   rw[eq_of_beq hx];exact aw
  | false=>
   rw[hx]at e
   exact aq _ (ih e)
theorem Ja(sc:Scope)(env:Env):(relabel sc env).names=sc.names.map fun p=>(p.1,if(p.2==.free&&env.scope.kind==.function&&env.kindOf p.1==some .cell)=true then fZ.cell else p.2):=by
 show(sc.names.map _)=_
 refine bT fun p _=>?_
 obtain⟨n,k⟩:=p
 dsimp only
 split<;>rfl
theorem IZ{sc:Scope}{env:Env}{x:Str}{k:fZ}(hc:∀y∈sc.names,y.2≠.cell)(h:(relabel sc env).names.lookup x=some k)(hk:k=.cell∨k=.free):(x,fZ.free)∈sc.names:=by
 have hm:=Gn h
 rw[Ja]at hm
 obtain⟨p,hp,e⟩:=aJ.mp hm
 obtain⟨n,k'⟩:=p
 injection e with e1 e2
 dsimp only at e1 e2
 subst e1
 have hk':k'=.free:=by
  by_cases z:(k'==fZ.free&&env.scope.kind==.function&&env.kindOf n==some .cell)=true
  ·have z':=(dX.mp (dX.mp z).1).1
   exact eq_of_beq z'
  ·rw[if_neg z]at e2
   rcases hk with w|w
   ·exact absurd (e2.trans w) (hc _ hp)
   ·exact e2.trans w
 subst hk'
 exact hp
theorem Hn{sc:Scope}{env:Env}{x:Str}(hf:sc.names.lookup x=some .free):(relabel sc env).names.lookup x≠some .local:=by
 have key:∀(g:Str→fZ→fZ) (l:List (Str×fZ)),(l.map fun p=>(p.1,g p.1 p.2)).lookup x=(l.lookup x).map (g x):=by
  intro g l
  induction l with
  | nil=>rfl
  | cons p r ih=>
   rw[aY,cp,cp]
   cases hx:x==p.1 with
   | true=>rw[eq_of_beq hx];rfl
   | false=>exact ih
 rw[Ja,key fun n k=>if(k==.free&&env.scope.kind==.function&&env.kindOf n==some .cell)=true then fZ.cell else k,hf]
 intro z
 simp only[dh]at z
 split at z<;>cases z
def PTs(X:Cx)(ifs:List Expr)(t:TT):Prop:=
 ∀(pins:List (fG×Obj)) (s:fJ) (σ:St) (H:Hp) (Q:Bool→Hp→Prop),AR X pins σ H s→t σ H Q →
  wpAny (model X.prog X.w) X.A (forIn ifs true fun c r=>if r=true then do let ok ← isTrue c X.env (eval c X.env);pure (ForInStep.yield ok) else pure (ForInStep.yield r)) (TP X pins σ Q) X.xe s
def P4:TT:=fun _ H Q=>Q true H
theorem BJ{X:Cx}:PTs X [] P4:=fun _ _ _ H _ I h=>wpAny_tests_nil ⟨H,I,h⟩
theorem DW{X:Cx}{c:Expr}{t:TT}(h:PT X c t):PTs X [c] t:=fun pins s σ H Q I q=>wpAny_tests_one (h pins s σ H Q I q)
def GD(J:It)(g:TG)(tt:TT)(te:TE)(D:fG)(Q:VK)(σ:St)(H:Hp):Prop:=
 ∃W:Nat→Nat→St→Hp→Prop,(∃m,W 0 m σ H)∧∀i m σ H,W i m σ H→(J.stop i H∧Q (.ref D) H)∨(J.go i H∧∃(N1:V→St→Hp→Prop) (N2:St→Hp→Prop),
  (∀y σ' H',N1 y σ' H'→∃ys,H' D=some (.lst ys)∧ys.length<fL∧∃m',m'<m∧W (i+1) m' σ' (upd H' D (.lst (ys++[y]))))∧(∀σ' H',N2 σ' H'→∃m',m'<m∧W (i+1) m' σ' H') ∧
  ∀x H',J.yld i H x H'→g x σ H' fun σ2 H2=>tt σ2 H2 fun b H3=>if b=true then te σ2 H3 (fun y H4=>N1 y σ2 H4) else N2 σ2 H3)
def tComp(wi:TI)(ix:List (Option Nat))(g:Bk→TG)(tt:Bk→TT)(te:Bk→TE):TE:=fun σ H Q=>wi σ H fun J H1=>∀(b:Bk) D,H1 D=none→GD J (g b) (tt b) (te b) D Q (bst ix σ) (upd H1 D (.lst []))
section
variable{X:Cx}
theorem OR{tg elt iter:Expr}{ifs:List Expr}{sc:Scope}{pos:Pos}{N':List Str}{ix:List (Option Nat)}{g:Bk→TG}{tt:Bk→TT}{te:Bk→TE}{Q:VK}{pins:List (fG×Obj)}{σ:St}{H:Hp}{s:fJ}{it:fG}{fp:List fG}{tn:Nat→Heap→Prop}{J:It}{cl:List (Str×fG)}
  {RR:fF→fG→Result→fJ→Prop} {E:fF→fJ→Prop}
  (hc:X.calm=true) (hkind:sc.kind=.function) (hcell:∀y∈sc.names,y.2≠.cell) (hfree:∀p∈sc.names,p.2=.free→X.env.kindOf p.1=some .cell) (hfrom:Fa X.N sc.names N' ix=true)
  (hg:∀b:Bk,PG (X.blk N' sc b) tg (g b)) (ht:∀b:Bk,PTs (X.blk N' sc b) ifs (tt b)) (he:∀b:Bk,PE (X.blk N' sc b) elt (te b))
  (hcl:∀x c,cl.lookup x=some c→X.env.cells.lookup x=some c) (hcl2:∀p∈sc.names,p.2=.free→∃c,cl.lookup p.1=some c)
  (I:AR X pins σ H s) (T:PR X.prog X.w X.K tg J fp it tn) (st:tn 0 s.heap) (f2:∀b∈fp,HE X pins H b) (q:∀(b:Bk) D,H D=none→GD J (g b) (tt b) (te b) D Q (bst ix σ) (upd H D (.lst [])))
  (hRR:∀D C (s':fJ) H',AR X pins σ H' s'→Q (.ref D) H'→(∃m,s'.heap.Ns C m)→H' C=none→C≠X.env.locals→X.s₀.heap.objs.size≤C→(∀x c,X.env.cells.lookup x=some c→c≠C)→(∀p∈X.pn++pins,p.1≠C)→RR (.ref D) C (.ok .next) s') :
  wpAny (model X.prog X.w) X.A (newList []) (fun acc s3=>wpAny (model X.prog X.w) X.A (newFunctionEnv sc X.env.globals cl [] X.env.qual none .none (some X.env)) (fun cenv s4=>
   codeAny (model X.prog X.w) X.A (.compStart (.ListComp elt [⟨tg,iter,ifs,0⟩] sc pos) 0 (.ref it) acc { cenv with scope:=relabel sc X.env }) (RR acc cenv.locals) s4) E s3) E s:=by
 refine wpAny_newObj_type (wpAny_newFunctionEnv hcell (by intro y hy;simp at hy) (fun h1 hns hsb=>?_) hkind)
 dsimp only at hns hsb ⊢
 have I3:AR X pins σ (upd H s.heap.objs.size (.lst [])) { s with heap:=s.heap.push { cls:=.type "list",dict:=none,data:=.seq ([]:List fF).toArray } }:=
  I.lnew (t':=s.toks) (ys:=[]) (its:=[]) .nil (by show 0≤fL;decide)
 have hD:H s.heap.objs.size=none:=I.fresh
 generalize hDn:s.heap.objs.size=D at hns hsb I3 hD ⊢
 generalize hh:s.heap.push { cls:=.type "list",dict:=none,data:=.seq ([]:List fF).toArray }=hp at hns hsb I3 ⊢
 generalize hH3:upd H D (.lst [])=H3 at I3 ⊢
 generalize hCn:hp.objs.size=C at hns hsb ⊢
 have hDC:D<C:=by rw[← hCn,← hh,Heap.size_push,hDn];exact bU _
 have old:∀b o,hp.get? b=some o→h1.get? b=some o:=fun b o e=>hsb.extBut b o (by rw[← hCn];exact ba (Heap.lt_size e)) (Heap.get?_push_of_some _ e)
 have old0:∀b o,s.heap.get? b=some o→hp.get? b=some o:=fun b o e=>by rw[← hh];exact Heap.get?_push_of_some _ e
 have fpLt:∀b∈fp,b<D:=fun b hb=>by
  obtain⟨o,e,_⟩:=T.obj _ _ st b hb
  rw[← hDn];exact Heap.lt_size e
 have I3s:AR X pins σ H3 { s with heap:=hp }:=I3
 let B:Bk:=⟨cl,C,{ s with heap:=hp },H3,fp,X.pn++pins⟩
 have cellX:∀x c,cl.lookup x=some c→c≠C∧∀b∈fp,c≠b:=fun x c e=>by
  obtain⟨v,z⟩:=I3s.cell x c (hcl x c e)
  exact⟨by rw[← hCn];exact ba z.lt,fun b hb=>(f2 b hb).2.2.2.2.1 x c (hcl x c e)⟩
 have okY:(X.blk N' sc B).Ok:=by
  refine⟨I.ok.mod,hkind,I.ok.glob,I.ok.blt,?_,fun x y c a b=>I.ok.inj x y c (hcl x c a) (hcl y c b),fun x hx=>?_,(fun x c (a:false=true)=>(nomatch a)),I.ok.hd,I.ok.frames,.inl rfl,fun b hb=>?_,fun b o e=>?_,?_,fun b o e hb=>?_,fun b hb z=>?_,I3s.stack,I3s.stkFree⟩
  ·show hp.objs.size≤C
   rw[hCn];exact aE _
  ·have hx':(relabel sc X.env).names.lookup x=some .cell∨(relabel sc X.env).names.lookup x=some .free:=hx
   rcases hx' with z|z
   ·exact hcl2 _ (IZ hcell z (.inl rfl)) rfl
   ·exact hcl2 _ (IZ hcell z (.inr rfl)) rfl
  ·exact⟨ba (cB (fpLt b hb) hDC),fun x c e=>(cellX x c e).2 b hb⟩
  ·obtain⟨z1,z2⟩:=I3s.bs b o e
   exact⟨z1,z2⟩
  ·exact aU I.ok.bsz I3s.sz
  ·rcases(f2 b hb).2.2.2.1 with z|z
   ·exact I.ok.noex b o e z
   ·exact absurd (aZ (Heap.lt_size (h:=X.base) e) (aU I.ok.bsz z)) (cz _)
  ·rcases aG.mp (I.stkSub b z) with w|w
   ·exact(f2 b hb).2.1 w
   ·exact(f2 b hb).2.2.1 w
 have frC:∀b∈NF X.stack,b≠C:=fun b hb=>by
  obtain⟨_,o,ho,_⟩:=I3s.stack.mem hb
  rw[← hCn];exact ba (Heap.lt_size (h:=hp) ho)
 obtain⟨hlen,hix⟩:=Jx hfrom
 have IY:AR (X.blk N' sc B) [] (bst ix σ) H3 { s with heap:=h1,toks:=s.toks+([]:List (Str×fF)).length }:=by
  refine⟨okY,rfl,I.bare,Un.kept old,⟨_,hns,fun i x v e1 e2 e3=>?_⟩,fun x c e=>?_,I3s.hok.fresh (by show hp.objs.size≤C;rw[hCn];exact aE _),fun x c e=>I3s.freeC x c (hcl x c e),fun p hp'=>?_,I3s.hok.kept old,by show(bst ix σ).length=N'.length;rw[← hlen];simp[bst]⟩
  ·have e1':N'[i]?=some x:=e1
   unfold bst at e2
   rw[av]at e2
   cases hi:ix[i]? with
   | none=>rw[hi]at e2;cases e2
   | some o=>
    rw[hi]at e2
    cases o with
    | none=>cases e2
    | some j=>
     obtain⟨hj,hfr⟩:=hix i j x e1' hi
     have e2':(σ[j]?).getD none=some v:=br.inj e2
     have e4:σ[j]?=some (some v):=by
      cases z:σ[j]? with
      | none=>rw[z]at e2';cases e2'
      | some w=>rw[z]at e2';exact congrArg some e2'
     have hkX:=hfree _ (Gn hfr) rfl
     obtain⟨m,hn,hl⟩:=I3s.loc
     obtain⟨u,r,l⟩:=hl j x v hj e4 (.inr (.inl hkX))
     refine⟨u,r,.inr ⟨?_,?_⟩⟩
     ·have e3':(relabel sc X.env).names.lookup x=some .local∨(relabel sc X.env).names.lookup x=some .cell∨(relabel sc X.env).names.lookup x=some .free:=e3
      rcases e3' with z|z
      ·exact absurd z (Hn hfr)
      ·exact z
     ·obtain⟨c,hc'⟩:=hcl2 _ (Gn hfr) rfl
      refine⟨c,hc',?_⟩
      rcases l with⟨z,_⟩|⟨_,d,hd,hcell'⟩
      ·rw[hkX]at z;cases z
      ·rw[hcl x c hc']at hd
       cases hd
       obtain⟨o,ho,hod⟩:=hcell'
       exact⟨o,old _ o ho,hod⟩
  ·obtain⟨v,o,ho,hod⟩:=I3s.cell x c (hcl x c e)
   exact⟨v,o,old _ o ho,hod⟩
  ·have hp'':p∈X.pn++pins:=by simpa [Cx.blk,B] using hp'
   obtain⟨z1,z2,z3,z4,z5⟩:=I3s.pin p hp''
   refine⟨old _ _ z1,z2,by show p.1≠C;rw[← hCn];exact ba (Heap.lt_size (h:=hp) z1),fun z=>?_,z5⟩
   rcases aG.mp (I.stkSub p.1 z) with w|w
   ·exact z3 w
   ·exact z4 w
 have st1:tn 0 h1:=T.keep _ _ _ st fun b _ o e=>old b o (old0 b o e)
 have fpY:∀{H':Hp},(∀b∈fp,H' b=none)→∀b∈fp,HE (X.blk N' sc B) [] H' b:=fun hn b hb=>by
  refine⟨hn b hb,ba (cB (fpLt b hb) hDC),okY.exfs b hb,.inl hb,fun x c e=>(cellX x c e).2 b hb,fun p hp'=>?_⟩
  have hp'':p∈X.pn++pins:=by simpa [Cx.blk,B] using hp'
  exact(f2 b hb).2.2.2.2.2 p hp''
 have qD:=q B D hD
 rw[hH3]at qD
 obtain⟨W,⟨m0,w0⟩,turn⟩:=qD
 have fin:∀{i:Nat} {σ':St} {H':Hp} {s':fJ},AR (X.blk N' sc B) [] σ' H' s'→Q (.ref D) H'→RR (.ref D) C (.ok .next) s':=fun{i σ' H' s'} I' q'=>by
  have IX:AR X pins σ H' s':=I3s.call' (ch:=fp) I'.os I'.base I'.hok I'.bare fun b hb=>by
   obtain⟨_,a2,_,a4,a5,a6⟩:=f2 b hb
   exact⟨a4,a2,a5,a6⟩
  have hCs:X.s₀.heap.objs.size≤C:=aU I3s.sz (by show hp.objs.size≤C;rw[hCn];exact aE _)
  refine hRR D C s' H' IX q' (let⟨m,hn,_⟩:=I'.loc;⟨m,hn⟩) I'.free ?_ hCs (fun x c e=>?_) fun p hp'=>?_
  ·rw[← hCn];exact dD I3s.lt
  ·obtain⟨v,z⟩:=I3s.cell x c e
   rw[← hCn];exact ba z.lt
  ·rw[← hCn];exact ba (Heap.lt_size (h:=hp) (I3s.pin p hp').1)
 have loop:codeAny (model X.prog X.w) X.A (.compLoop (.ListComp elt [⟨tg,iter,ifs,0⟩] sc pos) 0 (.ref it) (.ref D) (compEnvC sc cl C X.env)) (RR (.ref D) C) { s with heap:=h1,toks:=s.toks+([]:List (Str×fF)).length }:=by
  refine codeAny_loop rfl (fun n s'=>∃i σ' H',AR (X.blk N' sc B) [] σ' H' s'∧tn i s'.heap∧(∀b∈fp,H' b=none)∧W i n σ' H') (fun n s5 hI=>?_) m0 ⟨0,_,_,IY,st1,fun b hb=>?_,w0⟩
  ·obtain⟨i,σ5,H5,I5,st5,fr5,w5⟩:=hI
   show wpAny _ _ ((compTurn (.ListComp elt [⟨tg,iter,ifs,0⟩] sc pos) 0 (.ref it) (.ref D) (compEnvC sc cl C X.env)).onRaise (fun x=>do noteFrame x (compEnvC sc cl C X.env);theTreesLotGoes x)) _ _ s5
   refine wpAny_noted ?_
   rw[compTurn_list]
   refine fH (gc ?_)
   rcases turn i n σ5 H5 w5 with⟨stop,qn⟩|⟨go,N1,N2,hN1,hN2,step⟩
   ·refine fH (fT (T.done (X.blk N' sc B) rfl rfl rfl hc i [] s5 σ5 H5 (fun _ _=>False) I5 (fpY fr5) st5 stop) (fun r s6 h6=>?_) fun _ _ f=>f.elim)
    obtain⟨hr,I6⟩:=h6
    subst hr
    exact fM (fin (i:=i) I6 qn)
   ·refine fH (fT (T.item (X.blk N' sc B) rfl rfl rfl hc i [] s5 σ5 H5 (fun _ _=>False) I5 (fpY fr5) st5 go) (fun r s6 h6=>?_) fun _ _ f=>f.elim)
    obtain⟨u,hr,h6⟩:=h6
    subst hr
    refine fH (fT h6 (fun _ s7 h7=>?_) fun _ _ f=>f.elim)
    obtain⟨x,H7,I7,r7,y7,st7,fr7⟩:=h7
    have I7':=I7.pinned (fpY fr7) (T.obj _ _ st7)
    refine fH (fT (hg B _ s7 σ5 H7 x u _ I7' r7 (step x H7 y7)) (fun _ s8 h8=>?_) fun _ _ f=>f.elim)
    obtain⟨σ8,H8,I8,q8⟩:=h8
    refine fH (fT (ht B _ s8 σ8 H8 _ I8 q8) (fun ok s9 h9=>?_) fun _ _ f=>f.elim)
    obtain⟨H9,I9,q9⟩:=h9
    have again:∀{s':fJ} {H':Hp},AR (X.blk N' sc B) ([]++Jc fp s7.heap) σ8 H' s'→(∃m',m'<n∧W (i+1) m' σ8 H') →
      ∃m,m<n∧∃i σ' H',AR (X.blk N' sc B) [] σ' H' s'∧tn i s'.heap∧(∀b∈fp,H' b=none)∧W i m σ' H':=fun{s' H'} I' w'=>by
     obtain⟨m',hm,w'⟩:=w'
     have pn:∀b∈fp,∀o,s7.heap.get? b=some o→s'.heap.get? b=some o∧H' b=none:=fun b hb o e=>by
      have z:=I'.pin (b,o) (bg _ (bg _ (Gj hb e)))
      exact⟨z.1,z.2.1⟩
     refine⟨m',hm,i+1,σ8,H',I'.unpinned,T.keep _ _ _ st7 fun b hb o e=>(pn b hb o e).1,fun b hb=>?_,w'⟩
     obtain⟨o,e,_⟩:=T.obj _ _ st7 b hb
     exact(pn b hb o e).2
    cases ok with
    | false=>
     have q9':N2 σ8 H9:=by simpa using q9
     exact fM ⟨rfl,again I9 (hN2 _ _ q9')⟩
    | true=>
     have q9':te B σ8 H9 fun y H4=>N1 y σ8 H4:=by simpa using q9
     refine fH (fH (fT (he B _ s9 σ8 H9 _ I9 q9') (fun y sA hA=>?_) fun _ _ f=>f.elim))
     obtain⟨yv,HA,IA,rA,nA⟩:=hA
     obtain⟨ys,eA,zA,w'⟩:=hN1 _ _ _ nA
     refine fH (fT (AU (X:=X.blk N' sc B) _ sA σ8 HA (.ref D) [yv] (.ref D) [y] (fun _ H'=>H'=upd HA D (.lst (ys++[yv]))) IA rfl (.cons rA .nil) ⟨D,ys,yv,rfl,rfl,eA,zA,rfl⟩) (fun _ sB hB=>?_) fun _ _ f=>f.elim)
     obtain⟨_,HB,IB,_,eB⟩:=hB
     subst eB
     exact fM (fM ⟨rfl,again IB w'⟩)
  ·rw[← hH3,Aj (ba (fpLt b hb))]
   exact(f2 b hb).1
 exact codeAny_compStart_list loop (T.self _ 0 _ _ _ st1 loop)
theorem BW{tg elt iter:Expr}{ifs:List Expr}{sc:Scope}{pos:Pos}{wi:TI}{g:Bk→TG}{tt:Bk→TT}{te:Bk→TE}(N':List Str)(ix:List (Option Nat))(hc:X.calm=true)
  (hi:PI X tg iter wi) (hg:∀b:Bk,PG (X.blk N' sc b) tg (g b)) (ht:∀b:Bk,PTs (X.blk N' sc b) ifs (tt b)) (he:∀b:Bk,PE (X.blk N' sc b) elt (te b)) {N:List Str} {ks:List (Str×fZ)}
  (hN:X.N=N) (hks:X.env.scope.names=ks) (hfree:∀p∈sc.names,p.2=.free→ks.lookup p.1=some .cell) (hfrom:Fa N sc.names N' ix=true)
  (hcell:∀y∈sc.names,y.2≠.cell) (hnames:∀y∈sc.names,y.2=.local→sc.names.lookup y.1=some .local) (hkind:sc.kind=.function:=by rfl)
  (hs:∀x,foldedSetIterable iter X.env x=pure x:=by intro _;rfl):PE X (.ListComp elt [⟨tg,iter,ifs,0⟩] sc pos) (tComp wi ix g tt te):=by
 intro pins s σ H Q I h
 have hfree':∀p∈sc.names,p.2=.free→X.env.kindOf p.1=some .cell:=fun p hp hf=>by
  show X.env.scope.names.lookup p.1=_
  rw[hks];exact hfree p hp hf
 obtain⟨cl,hclos,hcl,hcl2⟩:=JL (sc:=sc) (env:=X.env) fun p hp hf=>I.ok.has p.1 (.inl (hfree' p hp hf))
 rw[eval_ListComp]
 refine wpAny_comprehension_free (use:=none) rfl hs hclos hkind hnames (B0 (hi pins s σ H _ I h) fun v s1 h1=>B0 h1 fun itv s2 h2=>?_)
 obtain⟨it,fp,tn,J,H2,e,I2,T,st2,f2,q⟩:=h2
 subst e
 refine OR (RR:=fun acc C=>compPost (model X.prog X.w) X.A X.xe none (EP X pins σ Q) acc C) hc hkind hcell hfree' (by rw[hN];exact hfrom) hg ht he hcl hcl2 I2 T st2 f2 q ?_
 intro D C s' H' I' q' hns hC hL hsz hcel hpin
 obtain⟨m,hn⟩:=hns
 refine⟨m,hn,fun h' hsb=>?_⟩
 exact⟨.ref D,H',I'.turned (t':=s'.toks) (fun b o hb e=>hsb.extBut b o hb e) hC hL (.inr hsz) hcel hpin,rfl,q'⟩
theorem CV{i:Nat}{y:Str}{py spos:Pos}{tg elt iter:Expr}{ifs:List Expr}{sc:Scope}{pos:Pos}{wi:TI}{g:Bk→TG}{tt:Bk→TT}{te:Bk→TE}(N':List Str)(ix:List (Option Nat))(hc:X.calm=true)(hNd:X.N.Nodup)(hiy:X.N[i]?=some y)(hy:X.env.scope.names.lookup y=some .local)
  (hi:PI X tg iter wi) (hg:∀b:Bk,PG (X.blk N' sc b) tg (g b)) (ht:∀b:Bk,PTs (X.blk N' sc b) ifs (tt b)) (he:∀b:Bk,PE (X.blk N' sc b) elt (te b)) {N:List Str} {ks:List (Str×fZ)}
  (hN:X.N=N) (hks:X.env.scope.names=ks) (hfree:∀p∈sc.names,p.2=.free→ks.lookup p.1=some .cell) (hfrom:Fa N sc.names N' ix=true)
  (hcell:∀y∈sc.names,y.2≠.cell) (hnames:∀y∈sc.names,y.2=.local→sc.names.lookup y.1=some .local) (hkind:sc.kind=.function:=by rfl)
  (hs:∀x,foldedSetIterable iter X.env x=pure x:=by intro _;rfl) (hsw:swapsWith (.ListComp elt [⟨tg,iter,ifs,0⟩] sc pos) (some (.Name y py)) spos.line X.env=pure true:=by rfl) :
  PS X (.Assign [.Name y py] (.ListComp elt [⟨tg,iter,ifs,0⟩] sc pos) spos) (Rz (tComp wi ix g tt te) (Jw i)):=by
 intro pins s σ H D I h
 have hfree':∀p∈sc.names,p.2=.free→X.env.kindOf p.1=some .cell:=fun p hp hf=>by
  show X.env.scope.names.lookup p.1=_
  rw[hks];exact hfree p hp hf
 obtain⟨cl,hclos,hcl,hcl2⟩:=JL (sc:=sc) (env:=X.env) fun p hp hf=>I.ok.has p.1 (.inl (hfree' p hp hf))
 rw[exec_Assign_Name_used _ _ _ _ hsw]
 refine fH (gc (fH ?_))
 show wpAny _ X.A (do let _ ← comprehension (.ListComp elt [⟨tg,iter,ifs,0⟩] sc pos) sc X.env _ (newList []) false (eval iter X.env) (some (assign (.Name y py) X.env))) _ _ s
 refine fH (fT (wpAny_comprehension_free (use:=some (assign (.Name y py) X.env)) (Q:=fun _ s'=>SP X pins D .next s') rfl hs hclos hkind hnames
  (B0 (hi pins s σ H _ I h) fun v s1 h1=>B0 h1 fun itv s2 h2=>?_)) (fun _ s' hq=>fM (fM hq)) fun _ _ e=>e)
 obtain⟨it,fp,tn,J,H2,e,I2,T,st2,f2,q⟩:=h2
 subst e
 refine OR (Q:=fun x H1=>Jw i x σ H1 D.nx) (RR:=fun acc C=>compPost (model X.prog X.w) X.A X.xe (some (assign (.Name y py) X.env)) (fun _ s'=>SP X pins D .next s') acc C) hc hkind hcell hfree' (by rw[hN];exact hfrom) hg ht he hcl hcl2 I2 T st2 f2 q ?_
 intro E C s' H' I' q' hns hC hL hsz hcel hpin
 obtain⟨m,hn⟩:=hns
 show wpAny _ X.A (assign (.Name y py) X.env (.ref E)) _ _ _
 refine wpAny_assign_Name (Kf I' hNd hiy (.inl hy) (show Bm (.ref E) (.ref E) from rfl) (fun s2 I2' hch=>?_) (.inr hy))
 obtain⟨a,hsb,ha⟩:=hch
 have haC:C≠a:=by
  rcases ha with z|z
  ·rw[z];exact hL
  ·exact(hcel _ _ z).symm
 refine⟨m,hn.sameBut hsb haC,fun h' hsb'=>?_⟩
 exact⟨_,H',I2'.turned (t':=s2.toks) (fun b o hb e=>hsb'.extBut b o hb e) hC hL (.inr hsz) hcel hpin,q'⟩
end
theorem DN{lo:Int}{n:Nat}{g:TG}{tt:TT}{te:TE}{D:fG}{Q:VK}{σ:St}{H:Hp}(Pv:Nat→List V→St→Hp→Prop)(h0:Pv 0 [] σ (upd H D (.lst [])))
  (hs:∀i ys σ H,i<n→H D=some (.lst ys)→Pv i ys σ H→g (.int (lo+i)) σ H fun σ2 H2=>tt σ2 H2 fun b H3=>
   if b=true then te σ2 H3 fun y H4=>H4 D=some (.lst ys)∧ys.length<fL∧Pv (i+1) (ys++[y]) σ2 (upd H4 D (.lst (ys++[y]))) else H3 D=some (.lst ys)∧Pv (i+1) ys σ2 H3)
  (hd:∀ys σ H,H D=some (.lst ys)→Pv n ys σ H→Q (.ref D) H) :
  GD (Rv lo n) g tt te D Q σ (upd H D (.lst [])):=by
 refine⟨fun i m σ H=>m=n - i∧i≤n∧∃ys,H D=some (.lst ys)∧Pv i ys σ H,⟨n,by simp,bw _,[],Ad,h0⟩,?_⟩
 rintro i m σ H ⟨rfl,hi,ys,hD,p⟩
 by_cases hlt:i<n
 ·refine .inr ⟨hlt,fun y σ' H'=>H' D=some (.lst ys)∧ys.length<fL∧Pv (i+1) (ys++[y]) σ' (upd H' D (.lst (ys++[y]))),fun σ' H'=>H' D=some (.lst ys)∧Pv (i+1) ys σ' H',
   fun y σ' H' q=>⟨ys,q.1,q.2.1,n - (i+1),by omega,rfl,hlt,_,Ad,q.2.2⟩,fun σ' H' q=>⟨n - (i+1),by omega,rfl,hlt,ys,q⟩,fun x H' y=>?_⟩
  obtain⟨e,y⟩:=y
  subst e y
  exact hs i ys σ _ hlt hD p
 ·have e:i=n:=by omega
  subst e
  exact .inl ⟨aE _,hd ys σ H hD p⟩
theorem Fz{K:aj}{a:fG}{xs:List V}{g:TG}{tt:TT}{te:TE}{D:fG}{Q:VK}{σ:St}{H:Hp}(Pv:Nat→List V→St→Hp→Prop)(h0:Pv 0 [] σ (upd H D (.lst [])))
  (hl:∀i ys σ H,i≤xs.length→H D=some (.lst ys)→Pv i ys σ H→AD K H a xs)
  (hs:∀i x ys σ H,xs[i]?=some x→H D=some (.lst ys)→Pv i ys σ H→g x σ H fun σ2 H2=>tt σ2 H2 fun b H3=>
   if b=true then te σ2 H3 fun y H4=>H4 D=some (.lst ys)∧ys.length<fL∧Pv (i+1) (ys++[y]) σ2 (upd H4 D (.lst (ys++[y]))) else H3 D=some (.lst ys)∧Pv (i+1) ys σ2 H3)
  (hd:∀ys σ H,H D=some (.lst ys)→Pv xs.length ys σ H→Q (.ref D) H) :
  GD (Itl K a) g tt te D Q σ (upd H D (.lst [])):=by
 refine⟨fun i m σ H=>m=xs.length - i∧i≤xs.length∧∃ys,H D=some (.lst ys)∧Pv i ys σ H,⟨xs.length,by simp,bw _,[],Ad,h0⟩,?_⟩
 rintro i m σ H ⟨rfl,hi,ys,hD,p⟩
 have hq:=hl i ys σ H hi hD p
 by_cases hlt:i<xs.length
 ·refine .inr ⟨⟨xs,xs[i],hq,by simp[hlt]⟩,fun y σ' H'=>H' D=some (.lst ys)∧ys.length<fL∧Pv (i+1) (ys++[y]) σ' (upd H' D (.lst (ys++[y]))),fun σ' H'=>H' D=some (.lst ys)∧Pv (i+1) ys σ' H',
   fun y σ' H' q=>⟨ys,q.1,q.2.1,xs.length - (i+1),by omega,rfl,hlt,_,Ad,q.2.2⟩,fun σ' H' q=>⟨xs.length - (i+1),by omega,rfl,hlt,ys,q⟩,fun x H' y=>?_⟩
  obtain⟨e,y⟩:=y
  subst e
  exact hs i x ys σ _ (y xs hq) hD p
 ·have e:i=xs.length:=by omega
  subst e
  exact .inl ⟨⟨xs,hq,aE _⟩,hd ys σ H hD p⟩
theorem Fc{lo:Int}{n:Nat}{g:TG}{te:TE}{D:fG}{Q:VK}{σ:St}{H:Hp}(Pv:Nat→List V→St→Hp→Prop)(h0:Pv 0 [] σ (upd H D (.lst [])))
  (hs:∀i ys σ H,i<n→H D=some (.lst ys)→Pv i ys σ H→g (.int (lo+i)) σ H fun σ2 H3=>te σ2 H3 fun y H4=>H4 D=some (.lst ys)∧ys.length<fL∧Pv (i+1) (ys++[y]) σ2 (upd H4 D (.lst (ys++[y]))))
  (hd:∀ys σ H,H D=some (.lst ys)→Pv n ys σ H→Q (.ref D) H):GD (Rv lo n) g P4 te D Q σ (upd H D (.lst [])):=
 DN Pv h0 (fun i ys σ H hi hD p=>hs i ys σ H hi hD p) hd
theorem BC{K:aj}{a:fG}{xs:List V}{g:TG}{te:TE}{D:fG}{Q:VK}{σ:St}{H:Hp}(Pv:Nat→List V→St→Hp→Prop)(h0:Pv 0 [] σ (upd H D (.lst [])))
  (hl:∀i ys σ H,i≤xs.length→H D=some (.lst ys)→Pv i ys σ H→AD K H a xs)
  (hs:∀i x ys σ H,xs[i]?=some x→H D=some (.lst ys)→Pv i ys σ H→g x σ H fun σ2 H3=>te σ2 H3 fun y H4=>H4 D=some (.lst ys)∧ys.length<fL∧Pv (i+1) (ys++[y]) σ2 (upd H4 D (.lst (ys++[y]))))
  (hd:∀ys σ H,H D=some (.lst ys)→Pv xs.length ys σ H→Q (.ref D) H):GD (Itl K a) g P4 te D Q σ (upd H D (.lst [])):=
 Fz Pv h0 hl (fun i x ys σ H hi hD p=>hs i x ys σ H hi hD p) hd
end L2
namespace L2
open PySem PySem.Spec PyProof.Rows
def Ite(K:aj)(a:fG):It:=
 ⟨fun i H=>∃xs x,AD K H a xs∧xs[i]?=some x,fun i H y H'=>∃t x,y=.ref t∧H t=none∧H'=upd H t (.tup [.int i,x])∧∀xs,AD K H a xs→xs[i]?=some x,fun i H=>∃xs,AD K H a xs∧xs.length≤i⟩
theorem O1{P:fP}{w:fS}{K:aj}{elts:List Expr}{x1:Nat}{tp:Pos}(a e it:fG)(hne:e≠it) :
  PR P w K (.Tuple elts x1 tp) (Ite K a) [e,it] e (fun i h=>(∃old,IsEnum h e it (i:Nat) old)∧h.IsListIter it a i) where
 mem:=by simp
 obj:=fun i h st b hb=>by
  obtain⟨⟨old,he⟩,o,ho,hc,hd⟩:=st
  rcases aG.mp hb with z|hb
  ·subst z
   exact⟨_,he,fun v z=>by cases (show Data.fields _=Data.cell v from z)⟩
  ·have z:b=it:=by simpa using hb
   subst z
   exact⟨o,ho,fun v z=>by rw[hd]at z;cases z⟩
 keep:=fun i h h' st k=>by
  obtain⟨⟨old,he⟩,hit⟩:=st
  exact⟨⟨old,k e (by simp) _ he⟩,hit.at fun o z=>k it (by simp) o z⟩
 item:=by
  intro X hP hw hK hc i pins s σ H E I hf st hg
  subst hP hw hK
  obtain⟨⟨old,he⟩,hit⟩:=st
  obtain⟨xs,x,hq,hx⟩:=hg
  obtain⟨its,rv,pl,hz⟩:=I.list hq
  obtain⟨u,hu,ru⟩:=rv.get hx
  obtain⟨f0,f1,f2,f3,f4,f5⟩:=hf e (by simp)
  obtain⟨g0,g1,g2,g3,g4,g5⟩:=hf it (by simp)
  refine wpAny_pyNext_enum_item he hit pl.isList (x:=u) (by simpa using hu) hne fun h1 heo hit1 ht1 hz1 hk1=>⟨_,rfl,?_⟩
  refine wpAny_letOwnedTupleGo_enum heo fun h2 he2 hs2=>?_
  have hk2:∀b o,b≠e→b≠it→s.heap.get? b=some o→h2.get? b=some o:=fun b o n1 n2 q=>(hs2.2 b n1).trans (hk1 b o n1 n2 q)
  have elt:e<s.heap.objs.size:=Heap.lt_size he
  have ilt:it<s.heap.objs.size:=by obtain⟨o,z,_⟩:=hit;exact Heap.lt_size z
  have hTe:s.heap.objs.size≠e:=dD elt
  have hT:h2.get? s.heap.objs.size=some { cls:=.type "tuple",data:=.seq #[.int i s.toks,u] }:=(hs2.2 _ hTe).trans ht1
  have hn:H s.heap.objs.size=none:=I.fresh
  have hob:∀b o,h2.get? b=some o∨s.heap.get? b=some o→True:=fun _ _ _=>trivial
  have e2:∃o,h2.get? e=some o:=⟨_,he2⟩
  have i2:∃o,h2.get? it=some o:=by
   obtain⟨o,z,_⟩:=hit1
   exact⟨o,(hs2.2 it hne.symm).trans z⟩
  have I2:AR X pins σ (upd H s.heap.objs.size (.tup [.int i,x])) { s with heap:=h2,toks:=s.toks+1 }:=by
   refine I.step (g':=s.gens) (d':=s.drawn) (ch:=[e,it]) (fun b hb=>?_) (fun b o _ _ hcb q _=>?_) (fun b o _ _ hcb q _=>?_) (fun b o _ q n=>?_) (fun b o hcb q=>?_) (fun b ys q=>?_) (fun b o v q=>?_) (fun b qs q=>?_) (fun m hm=>?_) (fun b v q=>?_) I.bare
   ·rcases aG.mp hb with z|hb
    ·subst z;exact⟨f3,f1,f4,f5⟩
    ·have z:b=it:=by simpa using hb
     subst z;exact⟨g3,g1,g4,g5⟩
   ·exact hk2 b o (fun z=>hcb (by simp[z])) (fun z=>hcb (by simp[z])) q
   ·exact⟨o.slots,hk2 b o (fun z=>hcb (by simp[z])) (fun z=>hcb (by simp[z])) q⟩
   ·rw[Aj (ba (Heap.lt_size q))];exact n
   ·exact⟨o,hk2 b o (fun z=>hcb (by simp[z])) (fun z=>hcb (by simp[z])) q⟩
   ·rw[Aj (Af q hn)];exact q
   ·rw[Aj (Af q hn)];exact q
   ·exact⟨#[],by rw[Aj (Af q hn),q];simp⟩
   ·obtain⟨o,es,ep,ho,r⟩:=hm
    exact⟨o,es,ep,hk2 _ o (Ne.symm f1) (Ne.symm g1) ho,r⟩
   ·by_cases hb:b=s.heap.objs.size
    ·subst hb
     rw[Ad]at q
     cases q
     exact⟨by show 2≤fL;decide,[.int i s.toks,u],.cons ⟨_,rfl⟩ (.cons ru .nil),_,hT,rfl,_,rfl⟩
    ·rw[Aj hb]at q
     refine(I.hok b v q).stay (fun c o hc' z=>hk2 c o ?_ ?_ z) (fun c z=>by rw[Aj (Af z hn)];exact z) fun c ys z=>by rw[Aj (Af z hn)];exact z
     ·rcases hc' with y|y
      ·rw[y];exact fun w=>by rw[w,f0]at q;cases q
      ·exact fun w=>by rw[w,f0]at y;cases y
     ·rcases hc' with y|y
      ·rw[y];exact fun w=>by rw[w,g0]at q;cases q
      ·exact fun w=>by rw[w,g0]at y;cases y
  refine⟨.ref s.heap.objs.size,_,I2,rfl,⟨_,x,rfl,hn,rfl,fun ys hy=>by rw[I.list_inj hy hq];exact hx⟩,⟨⟨_,he2⟩,?_⟩,fun b hb=>?_⟩
  ·exact hit1.at fun o z=>(hs2.2 it hne.symm).trans z
  ·rcases aG.mp hb with z|hb
   ·subst z;rw[Aj hTe.symm];exact f0
   ·have z:b=it:=by simpa using hb
    subst z;rw[Aj (ba ilt)];exact g0
 done:=by
  intro X hP hw hK hc i pins s σ H E I hf st hg
  subst hP hw hK
  obtain⟨⟨old,he⟩,hit⟩:=st
  obtain⟨xs,hq,hx⟩:=hg
  obtain⟨its,rv,pl,hz⟩:=I.list hq
  obtain⟨g0,g1,g2,g3,g4,g5⟩:=hf it (by simp)
  have hl:=rv.length
  exact wpAny_pyNext_enum_end (I.ok.hd hc) he hit pl.isList (by simp;omega) fun h' eb=>⟨rfl,I.turned (t':=s.toks) (fun b o hb q=>eb b o hb q) g0 g1 g3 g4 g5⟩
 self:=fun _ _ _ _ _ st h=>by
  obtain⟨⟨old,he⟩,_⟩:=st
  exact wpAny_pyIter_enum he h
section
variable{X:Cx}
def iEnum(K:aj)(ta:TA):TI:=fun σ H R=>ta σ H fun vs H1=>∃a,vs=[.ref a]∧(∃xs,AD K H1 a xs)∧R (Ite K a) H1
theorem Ik{elts:List Expr}{x1:Nat}{tp:Pos}{a:Expr}{ta:TA}{p pos:Pos}(hg:Gl X "enumerate")(hm:X.mg "enumerate" = none)(ha:PA X [a] ta)(hs:gj [a] X.env=[(false,eval a X.env)]:=by rfl) :
  PI X (.Tuple elts x1 tp) (.Call (.Name "enumerate" p) [a] [] pos) (iEnum X.K ta):=by
 intro pins s σ H R I h
 refine Call_ (E6 I hg hm (by decide +kernel:gf "enumerate" = some (.type "enumerate")) (PyProof.Rows.callWith_type1 (B0 (ha pos pins s σ H _ I h) fun us s1 ⟨vs,H1,I1,r1,q1⟩=>?_) hs rfl))
 obtain⟨b,e,⟨xs,hq⟩,q⟩:=q1
 subst e
 obtain⟨u,rfl,ru⟩:=A5.one r1
 cases (show u=fF.ref b from ru)
 obtain⟨its,rv,pl,hz⟩:=I1.list hq
 refine call_enumerate_list pl.isList fun h' he hit hsz hk=>?_
 refine wpAny_pyIter_enum he ?_
 have I2:AR X pins σ H1 { s1 with heap:=h' }:=I1.kept (t':=s1.toks) hk
 refine⟨s1.heap.objs.size+1,[s1.heap.objs.size+1,s1.heap.objs.size],_,_,H1,rfl,I2,O1 b (s1.heap.objs.size+1) s1.heap.objs.size (Nat.succ_ne_self _),⟨⟨.none,he⟩,hit⟩,fun c hc=>?_,q⟩
 rcases aG.mp hc with z|hc
 ·subst z;exact I1.fpOk (c7 _) (I1.hok.fresh (c7 _))
 ·have z:c=s1.heap.objs.size:=by simpa using hc
  subst z;exact I1.fpOk (aE _) (I1.hok.fresh (aE _))
end
theorem G3{K:aj}{a:fG}{xs:List V}{g:TG}{tb:TS}{D:Kc}{σ:St}{H:Hp}(Pv:Nat→St→Hp→Prop)(h0:Pv 0 σ H)(hl:∀i σ H,i≤xs.length→Pv i σ H→AD K H a xs)
  (hs:∀i x t σ H,xs[i]?=some x→H t=none→Pv i σ H→g (.ref t) σ (upd H t (.tup [.int i,x])) fun σ2 H2=>tb { D with nx:=Pv (i+1),ct:=Pv (i+1),bk:=D.nx } σ2 H2) (hd:∀σ H,Pv xs.length σ H→D.nx σ H) :
  ∃W:Nat→Nat→St→Hp→Prop,(∃m,W 0 m σ H)∧∀i m σ H,W i m σ H →
   ((Ite K a).stop i H∧D.nx σ H)∨((Ite K a).go i H∧∃N:St→Hp→Prop,(∀σ' H',N σ' H'→∃m',m'<m∧W (i+1) m' σ' H')∧∀x H',(Ite K a).yld i H x H'→g x σ H' fun σ2 H2=>tb { D with nx:=N,ct:=N,bk:=D.nx } σ2 H2):=by
 refine⟨fun i m σ H=>m=xs.length - i∧i≤xs.length∧Pv i σ H,⟨xs.length,by simp,bw _,h0⟩,?_⟩
 rintro i m σ H ⟨rfl,hi,p⟩
 have q:=hl i σ H hi p
 by_cases hlt:i<xs.length
 ·refine .inr ⟨⟨xs,xs[i],q,by simp[hlt]⟩,Pv (i+1),fun σ' H' p'=>⟨xs.length - (i+1),by omega,rfl,hlt,p'⟩,fun y H' hy=>?_⟩
  obtain⟨t,x,rfl,ht,rfl,hx⟩:=hy
  exact hs i x t σ H (hx xs q) ht p
 ·have e:i=xs.length:=by omega
  subst e
  exact .inl ⟨⟨xs,q,aE _⟩,hd σ H p⟩
end L2
namespace L2
open PySem PySem.Spec PyProof.Rows
theorem GK:∀xs:List Int,(∀x∈xs,0≤x∧x<65536)→fN.canLayAll0 (xs.map fN.int)=true∧fN.depthAll (xs.map fN.int)=0∧fN.weightAll (xs.map fN.int)≤17*xs.length
 | [],_=>⟨rfl,rfl,aE _⟩
 | x::r,h=>by
  obtain⟨a,b,c⟩:=GK r fun y hy=>h y (aq _ hy)
  obtain⟨h1,h2⟩:=h x aw
  have hw:fN.weight (.int x)≤16:=by
   simp only[fN.weight]
   split
   ·omega
   ·rename_i hx
    have hx':x≠0:=by simpa using hx
    have:x.natAbs.log2<16:=(Nat.log2_lt (by omega)).mpr (by omega)
    omega
  refine⟨?_,?_,?_⟩
  ·simp only[aY,fN.canLayAll0,fN.canLay0,a,bO]
  ·simp only[aY,fN.depthAll,fN.depth,b];rfl
  ·simp only[aY,fN.weightAll,bf];omega
theorem J1{xs:List Int}(h:∀x∈xs,0≤x∧x<65536)(hl:xs.length≤1000):fN.layable0 (.list (xs.map fN.int))=true:=by
 obtain⟨a,b,c⟩:=GK xs h
 unfold fN.layable0
 rw[be,be]
 refine⟨⟨by simpa only[fN.canLay0] using a,decide_eq_true ?_⟩,decide_eq_true ?_⟩
 ·simp only[fN.depth,b];decide
 ·simp only[fN.weight];omega
def rIndex(K:aj):V→List V→Hp→VK→Prop:=fun x vs H Q=>∃(l:fG) (ns:List Int) (k:Int),x=.ref l∧vs=[.int k]∧AD K H l (ns.map V.int)∧(∀y∈ns,0≤y∧y<65536)∧ns.length≤1000∧k∈ns∧Q (.int (ns.idxOf k:Nat)) H
theorem Mv{X:Cx}:MtM X "list.index" (rIndex X.K):=by
 intro pins s σ H x vs v us Q I rx rv h
 obtain⟨l,ns,k,rfl,rfl,hq,hs,hl,hk,q⟩:=h
 cases rx
 obtain⟨u,rfl,ru⟩:=rv.one
 obtain⟨t,rfl⟩:=(show ∃t,u=fF.int k t from ru)
 obtain⟨its,rr,pl,hz⟩:=I.list hq
 exact index_list_ints pl.isList (Jo rr) (J1 hs hl) hk ⟨.int _,H,I.tok _,⟨_,rfl⟩,q⟩
end L2
set_option Elab.async false
set_option linter.all false
set_option maxRecDepth 100000
set_option maxHeartbeats 4000000
namespace L2
open PySem PySem.Spec PyProof.Rows
section
variable{M:Model}{A:fQ}{E:fF→fJ→Prop}{s:fJ}
end
section
variable{nb:Bool}{X:Cx}{pins:List (fG×Obj)}{σ:St}{H:Hp}{s:fJ}{a:fG}{C:fF}{d:Option fG}{h':Heap}
end
section
variable{nb:Bool}{P:fP}{w:fS}{K:aj}{mg:Str→Option fF}{base:Heap}{N:List Str}{qual:Str}{scope:Scope}{f:fG}{cd:fF}{A:fQ}{outer:List Env}{s0:fJ}{H0:Hp}{E:XK}
end
section
variable{nb:Bool}{X:Cx}{pins:List (fG×Obj)}{σ:St}{H:Hp}{s s':fJ}{e:fF}{E:XK}
end
section
variable{nb:Bool}{P:fP}{w:fS}{K:aj}{mg:Str→Option fF}{base:Heap}{N:List Str}{qual:Str}{scope:Scope}{f:fG}{cd:fF}{A:fQ}{outer:List Env}{s0:fJ}{H0:Hp}{E:XK}
end
section
variable{nb:Bool}{X:Cx}{E:XK}{x:Str}{C:fG}{np cpos pos:Pos}{e:Expr}{es:List Expr}{ta:TA}
end
section
variable{nb:Bool}{P:fP}{w:fS}{K:aj}{mg:Str→Option fF}{base:Heap}{N:List Str}{qual:Str}{scope:Scope}{f:fG}{cd:fF}{A:fQ}{outer:List Env}{s0:fJ}{H0:Hp}{E:XK}
end
section
variable{nb:Bool}{X:Cx}{e a:Expr}{es:List Expr}{c c':St→Hp→Prop}{ta:TE}{pos:Pos}
end
section
variable{nb:Bool}{X:Cx}{pins:List (fG×Obj)}{σ:St}{H:Hp}{s:fJ}{a:fG}{C:fF}{d:Option fG}{E:XK}
end
section
variable{nb:Bool}{X:Cx}{k:Nat}{f C:fG}{fd:fO}{ps:List Str}{sp:Sp}{x:Str}{p pos:Pos}{e:Expr}{es:List Expr}{ta:TA}
end
section
variable{nb:Bool}{X:Cx}{pins:List (fG×Obj)}{σ:St}{H:Hp}{s:fJ}{a:fG}{C:fF}{d:Option fG}
end
section
variable{nb:Bool}{X:Cx}
end
section
open PySem.W
end
section
open PySem PySem.Spec PyProof.Rows PySem.W
variable{prog:fP}{w:fS}{A:fQ}{E:fF→fJ→Prop}{K:Frag}{x C CE N:fG}{ox:Obj}{od:Option Obj}{name:Str}{v:fF}{Q:Unit→fJ→Prop}{hp:Heap}{g:Array GenState}{dr:Drawn}{tk:Nat}{os:OsState}
 {nm q:Str} {bs:List fF} {sn:List Str} {sub:List fF} {ab:Bool} {col:Option Bool} {dd:Option fG} {k0 k1 k2 k3 k5:Option fF} {newId:String}
end
section
open PySem PySem.Spec PyProof.Rows PySem.W
variable{prog:fP}{w:fS}{A:fQ}{E:fF→fJ→Prop}{K:Frag}{e C CE N:fG}{oe:Obj}{Q:fF→fJ→Prop}{hp:Heap}{g:Array GenState}{dr:Drawn}{tk:Nat}{os:OsState}
 {nm q:Str} {bs:List fF} {hd0:Bool} {sn:List Str} {sub:List fF} {ab:Bool} {col:Option Bool} {dd:Option fG} {k0 k1 k2 k3 k5:Option fF} {newId:String}
end
end L2
set_option Elab.async false
set_option linter.all false
set_option maxRecDepth 100000
set_option maxHeartbeats 1000000
namespace L2
open PySem PySem.Spec PyProof.Rows
section
open PySem.W
variable{prog:fP}{w:fS}{A:fQ}{E:fF→fJ→Prop}{K:Frag}{C CE N fI:fG}{h:Heap}{g:Array GenState}{d:Drawn}{t:Nat}{os:OsState}
 {nm q:Str} {bs:List fF} {hdct:Bool} {sn:List Str} {sub:List fF} {ab:Bool} {col:Option Bool} {dd:Option fG} {k0 k1 k2 k3 k5:Option fF}
end
section
end
section
variable{X:Cx}{pins:List (fG×Obj)}{σ:St}{H:Hp}{s:fJ}{d:fG}{o:HO}
end
section
variable{X:Cx}{C CE fI:fG}{o value:Expr}{f:Str}{ta tv:TE}{pos pos':Pos}
end
section
variable{X:Cx}{C CE fI:fG}{e:Expr}{f:Str}{ta:TE}{pos:Pos}
end
section
variable{X:Cx}{C CE fI:fG}{e:Expr}{es:List Expr}{ta:TA}{x:Str}{p apos pos:Pos}{pl:Sem Bool}
end
section
variable{X:Cx}{pins:List (fG×Obj)}{σ:St}{H:Hp}{s:fJ}{a:fG}{φ:Heap→Prop}
end
section
variable{nb:Bool}{X:Cx}{E:XK}{C CE fI:fG}{k:Nat}{fd:fO}{ps:List Str}{sp:Sp}{x:Str}{np cpos pos:Pos}{e:Expr}{es:List Expr}{ta:TA}
end
section
open PySem.W
variable{prog:fP}{w:fS}{A:fQ}{E:fF→fJ→Prop}{K:Frag}{x C:fG}{ox:Obj}{od:Option Obj}{hp:Heap}{g:Array GenState}{dr:Drawn}{tk:Nat}{os:OsState}
end
section
variable{X:Cx}
end
section
variable{nb:Bool}{P:fP}{w:fS}{K:aj}{mg:Str→Option fF}{base:Heap}
end
end L2
set_option Elab.async false
set_option linter.all false
set_option maxRecDepth 100000
set_option maxHeartbeats 4000000
namespace L2
open PySem PySem.Spec PyProof.Rows
section
variable{prog:fP}{w:fS}{A:fQ}{E:fF→fJ→Prop}{s:fJ}
end
section
variable{M:Model}{A:fQ}{E:fF→fJ→Prop}{s:fJ}
end
section
variable{nb:Bool}{X:Cx}{pins:List (fG×Obj)}{σ:St}{H:Hp}{s:fJ}{a:fG}{C:fF}{d:Option fG}{h':Heap}
end
section
variable{X:Cx}{pins:List (fG×Obj)}{σ:St}{H:Hp}{s:fJ}{a:fG}{C:fF}{d:Option fG}{oe:Obj}{vs:Array fF}{M:Model}{A:fQ}{E:fF→fJ→Prop}{Q:Unit→fJ→Prop}
end
section
variable{nb:Bool}{P:fP}{w:fS}{K:aj}{mg:Str→Option fF}{base:Heap}{N:List Str}{qual:Str}{scope:Scope}{f:fG}{cd:fF}{A:fQ}{outer:List Env}{s0:fJ}{H0:Hp}{E:XK}
end
section
variable{P:fP}{w:fS}{K:aj}{mg:Str→Option fF}{base:Heap}
end
section
variable{nb:Bool}{X:Cx}{E:XK}{C CE fI:fG}{k:Nat}{fd:fO}{ps:List Str}{sp:Sp}{x:Str}{np cpos pos:Pos}{e:Expr}{es:List Expr}{ta:TA}
end
section
variable{X:Cx}{C CE fI:fG}{e:Expr}{f:Str}{ta:TE}{pos:Pos}
end
section
variable{X:Cx}{pins:List (fG×Obj)}{σ:St}{H:Hp}{s:fJ}{a:fG}{C:fF}{d:Option fG}
end
section
variable{P:fP}{w:fS}{K:aj}{mg:Str→Option fF}{base:Heap}{N:List Str}{qual:Str}{scope:Scope}{f:fG}{cd:fF}{A:fQ}{outer:List Env}{s0:fJ}{H0:Hp}{E:XK}
end
section
variable{X:Cx}{E:XK}{C2 CE fI:fG}{j:Nat}{fd:fO}{ps:List Str}{sp:Sp}{x x2 n:Str}{np np2 cpos rpos hpos p3:Pos}{kk:Nat}{e:Expr}{es:List Expr}{ta:TA}{c:fF}{i:Nat}
end
section
variable{nb:Bool}{X:Cx}{e:Expr}{pos:Pos}
end
section
variable{X:Cx}
end
end L2
set_option Elab.async false
set_option linter.all false
set_option maxRecDepth 100000
set_option maxHeartbeats 4000000
namespace L2
open PySem PySem.Spec PyProof.Rows
section
variable{X:Cx}
theorem PN{ds:List fN}(h:∀d∈ds,SeqAt.shaped d=true):fN.canLayAll0 ds=true:=by
 induction ds with
 | nil=>rfl
 | cons d r ih=>
  have h1:=h d aw
  have h2:=ih fun x hx=>h x (aq _ hx)
  simp only[fN.canLayAll0,SeqAt.canLay_of_shaped h1,h2,bO]
def rInD(K:aj)(neg:Bool):R2:=fun x y H Q=>∃p xs ds d,y=.ref p∧AD K H p xs∧GA K H xs ds∧LP K H x d∧(∀e∈ds,SeqAt.shaped e=true)∧SeqAt.shaped d=true∧d.depth≤62∧Q (.bl (if neg then !(ds.any fun e=>e.eqv d) else ds.any fun e=>e.eqv d)) H
theorem Pc(hu:X.A.units+64<cLine):G9 X (fY .NotIn) (rInD X.K true):=by
 intro pins s σ H x y v u Q I rx ry h
 obtain⟨p,xs,ds,d,rfl,hp,hs,hd,s1,s2,dd,q⟩:=h
 obtain⟨as,r1⟩:=(LP.lst hp hs).reads I ry
 obtain⟨bs,r2⟩:=hd.reads I rx
 exact SeqAt.notIn_list_reads r1 r2 (PN s1) (SeqAt.canLay_of_shaped s2) (by omega) ⟨.bl _,H,I,rfl,q⟩
theorem EY{h:Heap}:∀{vs:List fF} {ds:List fN} {as:List fG},ReadsAll h vs ds as→∀(i:Nat) (h1:i<vs.length),∃(h2:i<ds.length),∃bs,Reads h vs[i] ds[i] bs
 | _,_,_,.nil,i,h1=>absurd h1 (Nat.not_lt_zero i)
 | _,_,_,.cons r t,0,_=>⟨Nat.zero_lt_succ _,_,r⟩
 | _,_,_,.cons r t,i+1,h1=>by
  obtain⟨a,b,c⟩:=EY t i (Nat.lt_of_succ_lt_succ h1)
  exact⟨Nat.succ_lt_succ a,b,c⟩
theorem GS{h:Heap}:∀{vs:List fF} {ds:List fN} {as:List fG},ReadsAll h vs ds as→vs.length=ds.length
 | _,_,_,.nil=>rfl
 | _,_,_,.cons r t=>congrArg (·+1) (GS t)
def RM(K:aj):V→List V→Hp→VK→Prop:=fun x vs H Q=>∃(l:fG) (y:V) (xs:List V) (ds:List fN) (d:fN) (j:Nat) (hj:j<ds.length),x=.ref l∧vs=[y]∧AD K H l xs∧GA K H xs ds∧LP K H y d∧(∀e∈ds,SeqAt.shaped e=true)∧SeqAt.shaped d=true∧d.depth≤62∧ds.length≤1000 ∧
 ds[j].eqv d=true∧(∀(m:Nat) (hm:m<ds.length),m<j→ds[m].eqv d=false)∧Q (.int (j:Nat)) H
theorem Pm(hu:X.A.units+64<cLine):MtM X "list.index" (RM X.K):=by
 intro pins s σ H x vs v us Q I rx rv h
 obtain⟨l,y,xs,ds,d,j,hj,rfl,rfl,hl,hs,hd,s1,s2,hdp,hz,hy,hn,q⟩:=h
 cases rx
 obtain⟨u,rfl,ru⟩:=rv.one
 obtain⟨bs,r2⟩:=hd.reads I ru
 obtain⟨its,rr,pl,_⟩:=I.list hl
 obtain⟨as,r1⟩:=GA.reads I hs rr
 have hlen:=GS r1
 obtain⟨⟨cls,dd,data,sl⟩,ho,hc,n,hdt⟩:=pl.isList
 simp only at hc hdt
 subst hc hdt
 have rd:∀(m:Nat) (hm:m<its.toArray.size),∃hm':m<ds.length,SeqAt.readOf s.heap its.toArray[m]=ds[m]:=fun m hm=>by
  obtain⟨a,b,c⟩:=EY r1 m (by simpa using hm)
  exact⟨a,by simpa using SeqAt.readOf_eq (SeqAt.canLay_of_shaped (s1 _ (aI a))) c⟩
 have hjs:j<its.toArray.size:=by simp;omega
 refine call_meets F.slot_list_index ⟨_,ho,rfl⟩ F.entry_list_index (F.args_list_index_2 (.ref l) u) (SeqAt.list_indexAt l its.toArray n dd sl u (fun z=>(SeqAt.readOf s.heap z).eqv d) j hjs (by omega) ?_ ?_) ⟨ho,?_,⟨.int _,H,I.tok _,⟨_,rfl⟩,q⟩⟩
 ·show(SeqAt.readOf s.heap its.toArray[j]).eqv d=true
  obtain⟨a,b⟩:=rd j hjs
  rw[b];exact hy
 ·intro m hm hmj
  show(SeqAt.readOf s.heap its.toArray[m]).eqv d=false
  obtain⟨a,b⟩:=rd m hm
  rw[b];exact hn m a hmj
 ·intro z hz
  obtain⟨m,hm,rfl⟩:=Array.mem_iff_getElem.mp hz
  obtain⟨a,b⟩:=rd m hm
  rw[b]
  obtain⟨a',c,e⟩:=EY r1 m (by simpa using hm)
  have e':Reads s.heap its.toArray[m] ds[m] c:=by simpa using e
  refine SeqAt.eqAt_reads _ _ _ _ _ _ _ _ e' r2 (SeqAt.canLay_of_shaped (s1 _ (aI a))) (SeqAt.canLay_of_shaped s2) ?_
  show X.A.units+1+min _ _<cLine
  omega
end
end L2
set_option Elab.async false
set_option linter.all false
set_option maxRecDepth 100000
set_option maxHeartbeats 4000000
namespace L2
open PySem PySem.Spec PyProof.Rows
section
variable{X:Cx}
seal PySem.Meets in
end
end L2
set_option Elab.async false
set_option linter.all false
set_option maxRecDepth 100000
set_option maxHeartbeats 4000000
namespace L2
open PySem PySem.Spec PyProof.Rows
inductive Tr where
 | int (i:Int)
 | nil
 | cons (x r:Tr)
 deriving DecidableEq
def Tr.dep:Tr→Nat
 | .int _=>0
 | .nil=>1
 | .cons x r=>max (x.dep+1) r.dep
def Tr.size:Tr→Nat
 | .int _=>1
 | .nil=>1
 | .cons x r=>x.size+r.size+1
mutual
inductive TV(h:Heap):Tr→fF→Prop
 | int (i:Int) (t:Tok):TV h (.int i) (.int i t)
 | nil {a:fG} {o:Obj} {n:Nat}:h.get? a=some o→o.cls=.type "tuple"→o.data=.seq #[] n→TV h .nil (.ref a)
 | cons {a:fG} {o:Obj} {n:Nat} {x r:Tr} {v:fF} {vs:List fF}:h.get? a=some o→o.cls=.type "tuple"→o.data=.seq (v::vs).toArray n→TV h x v→KU h r vs→TV h (.cons x r) (.ref a)
inductive KU(h:Heap):Tr→List fF→Prop
 | nil:KU h .nil []
 | cons {x r:Tr} {v:fF} {vs:List fF}:TV h x v→KU h r vs→KU h (.cons x r) (v::vs)
end
theorem TV.tup{h:Heap}{k:Tr}{a:fG}(x:TV h k (.ref a)):∃o items n,h.get? a=some o∧o.cls=.type "tuple"∧o.data=.seq items n∧KU h k items.toList:=by
 cases x with
 | nil h1 h2 h3=>exact⟨_,_,_,h1,h2,h3,.nil⟩
 | cons h1 h2 h3 h4 h5=>exact⟨_,_,_,h1,h2,h3,.cons h4 h5⟩
theorem TV.typeIs{s:fJ}{k:Tr}{a:fG}(x:TV s.heap k (.ref a)):s.TypeIs (.ref a) "tuple":=let⟨o,_,_,h1,h2,_⟩:=x.tup;⟨o,h1,h2⟩
mutual
theorem TV.inj{h:Heap}:∀{x y:Tr} {v:fF},TV h x v→TV h y v→x=y
 | _,_,_,.int i t,b=>by cases b;rfl
 | _,_,_,.nil h1 h2 h3,b=>by
  cases b with
  | nil _ _ _=>rfl
  | cons g1 g2 g3 _ _=>
   rw[h1]at g1;cases g1
   rw[h3]at g3
   injection g3 with g3 _
   have:=congrArg dn g3
   simp at this
 | _,_,_,.cons h1 h2 h3 h4 h5,b=>by
  cases b with
  | nil g1 g2 g3=>
   rw[h1]at g1;cases g1
   rw[h3]at g3
   injection g3 with g3 _
   have:=congrArg dn g3
   simp at this
  | cons g1 g2 g3 g4 g5=>
   rw[h1]at g1;cases g1
   rw[h3]at g3
   injection g3 with g3 _
   have e:=congrArg dn g3
   simp only[fE.injEq]at e
   obtain⟨rfl,rfl⟩:=e
   rw[TV.inj h4 g4,KU.inj h5 g5]
theorem KU.inj{h:Heap}:∀{x y:Tr} {vs:List fF},KU h x vs→KU h y vs→x=y
 | _,_,_,.nil,b=>by cases b;rfl
 | _,_,_,.cons a1 a2,b=>by
  cases b with
  | cons b1 b2=>rw[TV.inj a1 b1,KU.inj a2 b2]
end
mutual
theorem TV.mono{h h':Heap}(H:∀a o,h.get? a=some o→o.cls=.type "tuple"→(∃items n,o.data=.seq items n)→h'.get? a=some o):∀{x:Tr} {v:fF},TV h x v→TV h' x v
 | _,_,.int i t=>.int i t
 | _,_,.nil h1 h2 h3=>.nil (H _ _ h1 h2 ⟨_,_,h3⟩) h2 h3
 | _,_,.cons h1 h2 h3 h4 h5=>.cons (H _ _ h1 h2 ⟨_,_,h3⟩) h2 h3 (TV.mono H h4) (KU.mono H h5)
theorem KU.mono{h h':Heap}(H:∀a o,h.get? a=some o→o.cls=.type "tuple"→(∃items n,o.data=.seq items n)→h'.get? a=some o):∀{x:Tr} {vs:List fF},KU h x vs→KU h' x vs
 | _,_,.nil=>.nil
 | _,_,.cons a b=>.cons (TV.mono H a) (KU.mono H b)
end
mutual
def Tr.hsh:Tr→Int
 | .int i=>hashInt i
 | .nil=>reduceHash (Builtin.Tuple.tupleHashOf [])
 | .cons x r=>reduceHash (Builtin.Tuple.tupleHashOf (x.hsh::r.hshs))
def Tr.hshs:Tr→List Int
 | .int _=>[]
 | .nil=>[]
 | .cons x r=>x.hsh::r.hshs
end
mutual
def Tr.drw:Tr→Nat
 | .int _=>1
 | .nil=>1
 | .cons x r=>x.drw+r.drws+1
def Tr.drws:Tr→Nat
 | .int _=>0
 | .nil=>0
 | .cons x r=>x.drw+r.drws
end
section
variable{prog:fP}{w:fS}{E:fF→fJ→Prop}
theorem KF{A:fQ}{a:fG}{s:fJ}{items:Array fF}{n:Nat}{o:Obj}{hs:List Int}{dr:Nat}{Q:Int→fJ→Prop}(ho:s.heap.get? a=some o)(hc:o.cls=.type "tuple")(hd:o.data=.seq items n)(hu:A.units<cLine)
  (loop:∀(A':fQ) (Q':Array Int→fJ→Prop),A'=A.in1→(∀b':Array Int,b'.toList=hs→Q' b' { s with toks:=s.toks+dr }) →
   wpAny (model prog w) A' (forIn items.toList #[] fun x r=>do let h ← pyHash x;pure PUnit.unit;pure (ForInStep.yield (r.push h))) Q' E s)
  (q:Q (reduceHash (Builtin.Tuple.tupleHashOf hs)) { s with toks:=s.toks+(dr+1) }):wpAny (model prog w) A (pyHash (.ref a)) Q E s:=by
 refine PySem.W.pyHash_slot (T:="tuple") ⟨_,ho,hc⟩ F.slot_tuple_hash F.entry_tuple_hash (F.args_tuple_hash_1 _) (beq_builtin_none _) (.inr hu) ?_
 show wpAny _ _ (Builtin.Tuple.tupleItemsOf (.ref a) >>= _) _ _ s
 refine fH (wpAny_tupleItemsOf ho hd ?_)
 refine fH ?_
 rw[← eO]
 refine loop _ _ rfl fun b hb=>?_
 show wpAny _ _ (retInt (Builtin.Tuple.tupleHashOf b.toList)) _ _ _
 rw[hb]
 refine fH (wpAny_mkInt (fM ⟨_,_,rfl,?_⟩))
 simpa [eI] using q
mutual
theorem K0:∀(k:Tr) {v:fF} {A:fQ} {s:fJ} {Q:Int→fJ→Prop},TV s.heap k v→A.units+k.dep<cLine→Q k.hsh { s with toks:=s.toks+k.drw }→wpAny (model prog w) A (pyHash v) Q E s
 | .int i,v,A,s,Q,x,hu,h=>by
  cases x
  exact wpAny_pyHash_int h
 | .nil,v,A,s,Q,x,hu,h=>by
  cases x with
  | nil h1 h2 h3=>
   refine KF (hs:=[]) (dr:=0) h1 h2 h3 (by simp only[Tr.dep]at hu;omega) (fun A' Q' e q'=>?_) (by simpa [Tr.hsh,Tr.drw] using h)
   exact fM (q' #[] rfl)
 | .cons y r,v,A,s,Q,x,hu,h=>by
  cases x with
  | @cons a o n _ _ v' vs h1 h2 h3 h4 h5=>
   simp only[Tr.dep]at hu
   refine KF (hs:=y.hsh::r.hshs) (dr:=y.drw+r.drws) h1 h2 h3 (by omega) (fun A' Q' e q'=>?_) (by simpa [Tr.hsh,Tr.drw] using h)
   subst e
   show wpAny _ _ (forIn (v'::vs) _ _) _ _ _
   rw[cx]
   refine fH (fH (K0 y h4 (by rw[fQ.in1_units];omega) ?_))
   refine fH (fM (fM ?_))
   refine LX r (s:={ s with toks:=s.toks+y.drw }) h5 (by rw[fQ.in1_units];omega) fun b' hb=>?_
   have z:=q' b' (by rw[hb];simp)
   simpa [eI] using z
theorem LX:∀(k:Tr) {vs:List fF} {A:fQ} {s:fJ} {b:Array Int} {Q:Array Int→fJ→Prop},KU s.heap k vs→A.units+(k.dep - 1)<cLine →
  (∀b':Array Int,b'.toList=b.toList++k.hshs→Q b' { s with toks:=s.toks+k.drws })→wpAny (model prog w) A (forIn vs b fun x r=>do let h ← pyHash x;pure PUnit.unit;pure (ForInStep.yield (r.push h))) Q E s
 | .int i,vs,A,s,b,Q,x,hu,h=>by cases x
 | .nil,vs,A,s,b,Q,x,hu,h=>by
  cases x
  exact fM (h b (by simp[Tr.hshs]))
 | .cons y r,vs,A,s,b,Q,x,hu,h=>by
  cases x with
  | @cons _ _ v' vs h4 h5=>
   simp only[Tr.dep]at hu
   rw[cx]
   refine fH (fH (K0 y h4 (by omega) ?_))
   refine fH (fM (fM ?_))
   refine LX r (s:={ s with toks:=s.toks+y.drw }) h5 (by omega) fun b' hb=>?_
   have z:=h b' (by rw[hb];simp[Tr.hshs])
   simpa [eI,Tr.drws] using z
end
def Tr.cmp:Tr→Tr→Prop
 | .int _,.int _=>True
 | .int _,_=>False
 | _,.int _=>False
 | .cons x r,.cons y q=>x.cmp y∧r.cmp q
 | _,_=>True
theorem tv_eq:∀(n:Nat) (x y:Tr) (v u:fF) (A:fQ) (s:fJ) (Q:Bool→fJ→Prop),x.size≤n→TV s.heap x v→TV s.heap y u→x.cmp y→A.units+x.dep<cLine→Q (decide (x=y)) s→wpAny (model prog w) A (eqBool v u) Q E s
 | 0,x,y,v,u,A,s,Q,hn,_,_,_,_,_=>by cases x<;>simp[Tr.size]at hn
 | n+1,x,y,v,u,A,s,Q,hn,hx,hy,hc,hu,h=>by
  have tt:∀{a b:fG},TV s.heap x (.ref a)→TV s.heap y (.ref b)→0<x.dep→wpAny (model prog w) A (eqBool (.ref a) (.ref b)) Q E s:=by
   intro a b hx hy hdep
   unfold eqBool
   try with_reducible refine fU ?_
   show wpAny _ _ (if(fF.ref a==fF.ref b)=true then _ else _) Q E s
   by_cases hab:(fF.ref a==fF.ref b)=true
   ·rw[if_pos hab]
    have e:a=b:=by have:=eq_of_beq hab;injection this
    subst e
    obtain rfl:=hx.inj hy
    exact fH (wpAny_rule (fM (by simpa using h)))
   ·rw[if_neg hab]
    refine fH (wpAny_richCompare_same_room (op:=.Eq) hx.typeIs hy.typeIs F.slot_tuple_eq
     (wpAny_call_entry F.slot_tuple_eq hx.typeIs F.entry_tuple_eq ?_ (F.args_tuple_eq_2 _ _)) (by omega))
    have hTb:=hy.typeIs
    obtain⟨oa,xs,na,hoa,_,hda,hia⟩:=hx.tup
    obtain⟨ob,ys,nb,hob,_,hdb,hib⟩:=hy.tup
    show wpAny _ _ (isInstance (.ref b) (.type "tuple") >>= _) _ _ s
    refine fH (wpAny_isInstance hTb isSubtype_tuple_tuple ?_)
    simp only[d8,bC,if_false]
    refine fH (wpAny_tupleItemsOf hoa hda ?_)
    refine fH (wpAny_tupleItemsOf hob hdb ?_)
    refine fH ?_
    refine wpAny_forIn_list _
     (fun EM r s'=>r.1=none∧s'=s∧∃x' y' xs' ys',EM=List.zip xs' ys'∧KU s.heap x' xs'∧KU s.heap y' ys'∧decide (x'=y')=decide (x=y)∧(xs'.length==ys'.length)=(xs.size==ys.size)∧x'.size≤n+1∧x'.dep≤x.dep∧x'.cmp y')
     _ ?_ ?_ _ _ ⟨rfl,rfl,x,y,xs.toList,ys.toList,rfl,hia,hib,rfl,by simp,hn,aE _,hc⟩
    ·rintro⟨u,v⟩ EM r s' ⟨hr,rfl,x',y',xs',ys',hz,hx',hy',hdec,hlen,hsz,hdp,hcp⟩
     cases hx' with
     | nil=>simp at hz
     | @cons k1 x'' u' xs'' h1 hx''=>
      cases hy' with
      | nil=>simp at hz
      | @cons k2 y'' v' ys'' h2 hy''=>
       simp only[List.zip_cons_cons,fE.injEq,Prod.mk.injEq]at hz
       obtain⟨⟨rfl,rfl⟩,rfl⟩:=hz
       simp only[Tr.size]at hsz
       simp only[Tr.dep]at hdp
       obtain⟨c1,c2⟩:=(show k1.cmp k2∧x''.cmp y'' from hcp)
       refine fH (tv_eq n k1 k2 _ _ _ _ _ (by omega) h1 h2 c1 (by rw[fQ.in1_units];omega) ?_)
       by_cases hk:k1=k2
       ·subst hk
        rw[decide_eq_true rfl]
        simp only[d8,bC,if_false]
        refine fM ⟨rfl,rfl,x'',y'',xs'',ys'',rfl,hx'',hy'',?_,by simpa using hlen,by omega,by omega,c2⟩
        rw[← hdec]
        by_cases hxy:x''=y''
        ·simp[hxy]
        ·simp[hxy]
       ·rw[decide_eq_false hk]
        simp only[Bool.not_false,if_true]
        have hf:decide (x=y)=false:=by rw[← hdec];simp[hk]
        rw[hf]at h
        exact fH (fM (fM (fM ⟨_,rfl,(fun e=>nomatch e),fX h⟩)))
    ·rintro⟨r1,r2⟩ s' ⟨hr,rfl,x',y',xs',ys',hz,hx',hy',hdec,hlen,_,_,_⟩
     simp only at hr
     subst hr
     refine fM ?_
     have hfin:(xs.size==ys.size)=decide (x=y):=by
      rw[← hdec,← hlen]
      cases hx' with
      | nil=>
       cases hy' with
       | nil=>simp
       | cons _ _=>simp
      | cons _ _=>
       cases hy' with
       | nil=>simp
       | cons _ _=>simp at hz
     refine⟨_,rfl,(fun e=>nomatch e),?_⟩
     show wpAny _ _ (truthy (.bool (xs.size==ys.size))) _ _ _
     rw[hfin]
     exact fX h
  cases x with
  | int i=>
   cases y with
   | int j=>
    cases hx with
    | int _ t=>
    cases hy with
    | int _ t'=>
    refine(intKind prog w).eqBool (a:=i) (b:=j) (show fF.isInt i (.int i t)=true by simp[fF.isInt]) (show fF.isInt j (.int j t')=true by simp[fF.isInt]) ?_
    have e:decide (Tr.int i=Tr.int j)=decide (i=j):=by simp
    rw[e]at h
    exact h
   | nil=>exact absurd hc (by simp[Tr.cmp])
   | cons y q=>exact absurd hc (by simp[Tr.cmp])
  | nil=>
   cases y with
   | int j=>exact absurd hc (by simp[Tr.cmp])
   | nil=>
    cases hx with
    | nil a1 a2 a3=>
    cases hy with
    | nil b1 b2 b3=>exact tt (.nil a1 a2 a3) (.nil b1 b2 b3) (by simp[Tr.dep])
   | cons y q=>cases hx;cases hy;exact tt (.nil ‹_› ‹_› ‹_›) (.cons ‹_› ‹_› ‹_› ‹_› ‹_›) (by simp[Tr.dep])
  | cons x r=>
   cases y with
   | int j=>exact absurd hc (by simp[Tr.cmp])
   | nil=>cases hx;cases hy;exact tt (.cons ‹_› ‹_› ‹_› ‹_› ‹_›) (.nil ‹_› ‹_› ‹_›) (by simp[Tr.dep];omega)
   | cons y q=>
    cases hx with
    | cons a1 a2 a3 a4 a5=>
     cases hy with
     | cons b1 b2 b3 b4 b5=>exact tt (.cons a1 a2 a3 a4 a5) (.cons b1 b2 b3 b4 b5) (by simp[Tr.dep];omega)
theorem P2:∀(n:Nat) (k:Tr) {v:fF} {A:fQ} {s:fJ} {Q:Bool→fJ→Prop},k.dep≤n→TV s.heap k v→Q true s→wpAny (model prog w) A (eqIsQuiet n v) Q E s:=by
 intro n
 induction n with
 | zero=>
  intro k v A s Q hk hx h
  cases hx with
  | int i t=>
   rw[eqIsQuiet_byValue _ rfl]
   exact fM h
  | nil=>simp[Tr.dep]at hk
  | cons=>simp[Tr.dep]at hk
 | succ n ih=>
  intro k v A s Q hk hx h
  have key:∀{a:fG},TV s.heap k (.ref a)→wpAny (model prog w) A (eqIsQuiet (n+1) (.ref a)) Q E s:=by
   intro a hx
   have hT:=hx.typeIs
   obtain⟨o,items,m,ho,_,hd,hi⟩:=hx.tup
   unfold eqIsQuiet
   refine fH (wpAny_specialOf hT F.slot_tuple_eq.lookup ?_)
   show wpAny _ _ (isInstance (.ref a) (.type "tuple") >>= _) _ _ s
   refine fH (wpAny_isInstance hT isSubtype_tuple_tuple ?_)
   simp only[d8,bC,if_false]
   refine fH (wpAny_seqItems ho hd ?_)
   refine fH ?_
   show wpAny _ _ (forIn items _ _) _ _ s
   rw[← eO]
   refine wpAny_forIn_list _ (fun EM r s'=>r.1=none∧s'=s∧∃k',KU s.heap k' EM∧k'.dep≤n+1) _ ?_ ?_ _ _ ⟨rfl,rfl,k,hi,hk⟩
   ·rintro v EM r s' ⟨hr,rfl,k',hk',hd'⟩
    cases hk' with
    | @cons y q _ _ h1 h2=>
     simp only[Tr.dep]at hd'
     refine fH (ih y (by omega) h1 ?_)
     simp only[d8,bC,if_false]
     exact fM ⟨rfl,rfl,q,h2,by omega⟩
   ·rintro⟨r1,r2⟩ s' ⟨hr,rfl,_⟩
    simp only at hr
    subst hr
    exact fM h
  cases hx with
  | int i t=>
   rw[eqIsQuiet_byValue _ rfl]
   exact fM h
  | nil h1 h2 h3=>exact key (.nil h1 h2 h3)
  | cons h1 h2 h3 h4 h5=>exact key (.cons h1 h2 h3 h4 h5)
structure EQ where
 fit:Tr→Prop
 dep:∀k,fit k→k.dep≤8
 cmp:∀x y,fit x→fit y→x.cmp y
def FK(prog:fP)(w:fS)(F:EQ):HeapKind prog w Tr where
 is:=fun h k a=>TV h k (.ref a)∧F.fit k
 hash:=Tr.hsh
 draws:=Tr.drw
 room:=fun A=>A.units+8<cLine
 inj:=fun hx hy=>hx.1.inj hy.1
 keeps:=fun x ho hd hs=>⟨x.1.mono (fun a o e hc hs'=>by
  refine(hs.2 a ?_).trans e
  rintro rfl
  rw[ho]at e
  cases e
  obtain⟨_,_,z⟩:=hs'
  rw[hd]at z
  cases z),x.2⟩
 pyHash:=fun hu hk h=>K0 _ hk.1 (by have:=F.dep _ hk.2;omega) h
 eqBool:=fun hu hx hy h=>tv_eq _ _ _ _ _ _ _ _ (aE _) hx.1 hy.1 (F.cmp _ _ hx.2 hy.2) (by have:=F.dep _ hx.2;omega) h
 quiet:=fun hk h=>P2 8 _ (F.dep _ hk.2) hk.1 h
end
section
variable{prog:fP}{w:fS}{K:Type}[DecidableEq K]{knd:HeapKind prog w K}{A:fQ}{E:fF→fJ→Prop}{s:fJ}
theorem EL{d a:fG}{xs:List (K×fG×fF)}{k:K}{v:fF}{Q:fF→fJ→Prop}(hu:knd.room A)(hkey:knd.is s.heap k a)(hm:s.heap.DictOfH knd d xs)
  (h1:∀p,atKey xs k=some p→Q p.2 { s with toks:=s.toks+knd.draws k })
  (h2:atKey xs k=none→∀h',h'.DictOfH knd d (xs++[(k,a,v)])→Heap.SameBut d s.heap h'→Q v { s with heap:=h',toks:=s.toks+knd.draws k })
  (hsz:xs.length≤fL):wpAny (model prog w) A (dictSetDefault d (.ref a) v) Q E s:=by
 obtain⟨o,es,ep,ho,hc,hd,he,his,hn⟩:=hm
 unfold dictSetDefault
 try with_reducible refine fU ?_
 refine fH (knd.pyHash hu hkey ?_)
 refine fH (wpAny_dictFind_heap (s:={ s with toks:=s.toks+knd.draws k }) hu hkey ho hd he his hn ?_ ?_)
 ·intro hno
  have hnot:k∉xs.map (·.1):=not_mem_keys_of_get hno
  refine fH (wpAny_rule (fH (wpAny_updateDictKeys (hz:=by have e:=size_of_entries he;omega) (s:={ s with toks:=s.toks+knd.draws k }) ho hd (fM (h2 (atKey_none_of_get hno) _ ⟨_,_,ep+1,Heap.get?_update_self _ ho (Obj.isFreed_of_dict (Obj.data_mapDictKeys hd _)),
   hc.mapDictKeys _,Obj.data_mapDictKeys hd _,?_,?_,?_⟩ (Heap.SameBut.update ..))))))
  ·simp[he,entryOfKey]
  ·intro x hx
   rcases aP.mp hx with hx|hx
   ·exact knd.keeps (his x hx) ho hd (Heap.SameBut.update ..)
   ·simp only[au]at hx
    subst hx
    exact knd.keeps hkey ho hd (Heap.SameBut.update ..)
  ·rw[am,bB]
   refine⟨hn,by simp,?_⟩
   intro x hx y hy
   simp only[aY,dG,au]at hy
   subst hy
   exact fun e=>hnot (e▸hx)
 ·intro j p hj
  refine fH (wpAny_dictEntries (s:={ s with toks:=s.toks+knd.draws k }) ho hd ?_)
  rw[entry_at he j,hj]
  exact fH (wpAny_rule (fM (h1 p (atKey_of_get hn hj))))
theorem GY(knd:HeapKind prog w K)(d a:fG)(hd:(d==sysModules)=false)(dflt:fF) :
  MeetsIn prog w (Builtin.«dict.setdefault» ⟨[.ref d,.ref a,dflt],[]⟩) (fun A R s=>knd.room A.in1∧∃k xs,knd.is s.heap k a∧s.heap.DictOfH knd d xs∧xs.length≤fL ∧
   (∀p,atKey xs k=some p→R (.ok (.ret p.2)) { s with toks:=s.toks+knd.draws k }) ∧
   (atKey xs k=none→∀h',h'.DictOfH knd d (xs++[(k,a,dflt)])→Heap.SameBut d s.heap h'→R (.ok (.ret dflt)) { s with heap:=h',toks:=s.toks+knd.draws k })):=
 .of_wp fun A R s ⟨hu,k,xs,hkey,hm,hz,h1,h2⟩=>by
  unfold Builtin.«dict.setdefault»
  refine fH ?_
  unfold Builtin.Dict.keyAndDefault
  refine fH (wpAny_notOrdered_dict hm.typeIs ?_)
  show wpAny _ _ (pure (d,fF.ref a,some dflt)) _ _ s
  refine fM ?_
  show wpAny _ _ (if(d==sysModules)=true then _ else(dictSetDefault d (.ref a) dflt >>= _)) _ _ s
  rw[if_neg (by rw[hd];exact aM)]
  exact fH (EL hu hkey hm (fun p hp=>fM ⟨_,rfl,h1 p hp⟩) (fun hn h' hm' hs'=>fM ⟨dflt,rfl,h2 hn h' hm' hs'⟩) hz)
end
mutual
inductive DR(H:Hp):Tr→V→Prop
 | int (i:Int):DR H (.int i) (.int i)
 | tup {a:fG} {vs:List V} {k:Tr}:H a=some (.tup vs)→DQ H k vs→DR H k (.ref a)
inductive DQ(H:Hp):Tr→List V→Prop
 | nil:DQ H .nil []
 | cons {x r:Tr} {v:V} {vs:List V}:DR H x v→DQ H r vs→DQ H (.cons x r) (v::vs)
end
mutual
theorem DR.keep{H H':Hp}(k:∀a xs,H a=some (.tup xs)→H' a=some (.tup xs)):∀{x:Tr} {v:V},DR H x v→DR H' x v
 | _,_,.int i=>.int i
 | _,_,.tup h hs=>.tup (k _ _ h) (DQ.keep k hs)
theorem DQ.keep{H H':Hp}(k:∀a xs,H a=some (.tup xs)→H' a=some (.tup xs)):∀{x:Tr} {vs:List V},DQ H x vs→DQ H' x vs
 | _,_,.nil=>.nil
 | _,_,.cons a b=>.cons (DR.keep k a) (DQ.keep k b)
end
section
variable{X:Cx}{pins:List (fG×Obj)}{σ:St}{H:Hp}{s:fJ}
mutual
theorem DR.tv(I:AR X pins σ H s):∀{k:Tr} {v:V} {u:fF},DR H k v→Bm v u→TV s.heap k u
 | _,_,u,.int i,r=>by
  obtain⟨t,q⟩:=(show ∃t,u=fF.int i t from r)
  cases q
  exact .int i t
 | _,_,u,.tup (a:=a) h hs,r=>by
  cases (show u=fF.ref a from r)
  obtain⟨its,rv,p,_⟩:=I.tuple (A2.of h)
  obtain⟨o,ho,hc,n,hd⟩:=p
  have z:=DQ.tvs I hs rv
  cases z with
  | nil=>exact .nil ho hc hd
  | cons z1 z2=>exact .cons ho hc hd z1 z2
theorem DQ.tvs(I:AR X pins σ H s):∀{k:Tr} {vs:List V} {us:List fF},DQ H k vs→A5 vs us→KU s.heap k us
 | _,_,_,.nil,.nil=>.nil
 | _,_,_,.cons h hs,.cons r rs=>.cons (DR.tv I h r) (DQ.tvs I hs rs)
end
end
abbrev NK:=Tr×fG×V
def Jk(p:NK)(q:Tr×fG×fF):Prop:=p.1=q.1∧p.2.1=q.2.1∧Bm p.2.2 q.2.2
def ND(d:fG)(kvs:List NK):HO:=.ext fun h=>(d==sysModules)=false∧∃(o:Obj) (es:Array DictEntry) (ep:Nat) (xs:List (Tr×fG×fF)),h.get? d=some o∧o.ExactDict∧o.data=.dict es ep∧Paired Jk kvs xs ∧
 es.toList=xs.map fun x=>(⟨x.1.hsh,.ref x.2.1,x.2.2⟩:DictEntry)
structure NQ(F:EQ)(H:Hp)(d:fG)(kvs:List NK):Prop where
 ob:H d=some (ND d kvs)
 keys:∀x∈kvs,DR H x.1 (.ref x.2.1)∧F.fit x.1
 nd:(kvs.map (·.1)).Nodup
 few:kvs.length≤1000
theorem NQ.keep{F:EQ}{H H':Hp}{d:fG}{kvs:List NK}(h:NQ F H d kvs)(ob:H' d=some (ND d kvs))(k:∀a xs,H a=some (.tup xs)→H' a=some (.tup xs)):NQ F H' d kvs:=
 ⟨ob,fun x hx=>⟨(h.keys x hx).1.keep k,(h.keys x hx).2⟩,h.nd,h.few⟩
def C6(kvs:List NK)(k:Tr):Option V:=(kvs.find? fun x=>decide (x.1=k)).map (·.2.2)
theorem Ek:∀{kvs:List NK} {xs:List (Tr×fG×fF)},Paired Jk kvs xs→∀k,(atKey xs k=none→C6 kvs k=none)∧(∀p,atKey xs k=some p→∃z,C6 kvs k=some z∧Bm z p.2)
 | _,_,.nil,k=>⟨fun _=>rfl,fun p h=>by simp[atKey]at h⟩
 | _,_,.cons (a:=p) (b:=q) h hs,k=>by
  obtain⟨i1,i2⟩:=Ek hs k
  obtain⟨e1,e2,e3⟩:=h
  by_cases hk:p.1=k
  ·have hq:q.1=k:=e1.symm.trans hk
   refine⟨fun z=>by simp[atKey,hq]at z,fun r hr=>?_⟩
   simp only[atKey,ce,hq,decide_true,dh,br.injEq]at hr
   subst hr
   exact⟨p.2.2,by simp[C6,hk],e3⟩
  ·have hq:¬q.1=k:=fun z=>hk (e1.trans z)
   refine⟨fun z=>?_,fun r hr=>?_⟩
   ·have:=i1 (by simpa [atKey,hq] using z)
    simpa [C6,hk] using this
   ·obtain⟨z,z1,z2⟩:=i2 r (by simpa [atKey,hq] using hr)
    exact⟨z,by simpa [C6,hk] using z1,z2⟩
theorem FZ:∀{kvs:List NK} {xs:List (Tr×fG×fF)},Paired Jk kvs xs→(∀x∈xs,∃p∈kvs,p.1=x.1∧p.2.1=x.2.1)∧kvs.map (·.1)=xs.map (·.1)
 | _,_,.nil=>⟨fun x hx=>by simp at hx,rfl⟩
 | _,_,.cons (a:=p) (b:=q) h hs=>by
  obtain⟨i1,i2⟩:=FZ hs
  refine⟨fun x hx=>?_,by rw[aY,aY,i2,h.1]⟩
  rcases aG.mp hx with z|z
  ·subst z;exact⟨p,aw,h.1,h.2.1⟩
  ·obtain⟨p',hp',e⟩:=i1 x z
   exact⟨p',aq _ hp',e⟩
theorem E1:∀{kvs:List NK} {xs:List (Tr×fG×fF)} {p:NK} {q:Tr×fG×fF},Paired Jk kvs xs→Jk p q→Paired Jk (kvs++[p]) (xs++[q])
 | _,_,_,_,.nil,r=>.cons r .nil
 | _,_,_,_,.cons h hs,r=>.cons h (E1 hs r)
theorem F0:∀{kvs:List NK} {xs:List (Tr×fG×fF)},Paired Jk kvs xs→kvs.length=xs.length
 | _,_,.nil=>rfl
 | _,_,.cons _ hs=>by simp[F0 hs]
theorem GW(d:fG)(kvs:List NK)(h1 h2:Heap)(p:(d==sysModules)=false∧∃(o:Obj) (es:Array DictEntry) (ep:Nat) (xs:List (Tr×fG×fF)),h1.get? d=some o∧o.ExactDict∧o.data=.dict es ep∧Paired Jk kvs xs ∧
  es.toList=xs.map fun x=>(⟨x.1.hsh,.ref x.2.1,x.2.2⟩:DictEntry)) (k:∀o,h1.get? d=some o→h2.get? d=some o) :
  (d==sysModules)=false∧∃(o:Obj) (es:Array DictEntry) (ep:Nat) (xs:List (Tr×fG×fF)),h2.get? d=some o∧o.ExactDict∧o.data=.dict es ep∧Paired Jk kvs xs∧es.toList=xs.map fun x=>(⟨x.1.hsh,.ref x.2.1,x.2.2⟩:DictEntry):=by
 obtain⟨a,o,es,ep,xs,b1,b2⟩:=p
 exact⟨a,o,es,ep,xs,k _ b1,b2⟩
section
variable{X:Cx}{pins:List (fG×Obj)}{σ:St}{H:Hp}{s:fJ}{pos:Pos}
theorem NW(I:AR X pins σ H s):sysModules<s.heap.objs.size:=by
 have h:fK<s.heap.objs.size:=(I.mod.glob.keeps I.bk).lt
 exact cB (by decide) h
def tDNewN:TE:=fun _ H Q=>∀p,H p=none→Q (.ref p) (upd H p (ND p []))
theorem Qm:PE X (.Dict [] [] pos) tDNewN:=fun pins s σ H Q I h=>by
 refine wpAny_Dict_empty ⟨.ref s.heap.objs.size,_,I.laid (a:=s.heap.objs.size) (o:=ND s.heap.objs.size []) (t':=s.toks) (fun _ _ q=>Heap.get?_push_of_some _ q) (aE _) ?_,rfl,h _ (I.hok.fresh (aE _))⟩
 have g:=Heap.get?_push_size s.heap (o:={ cls:=.type "dict",data:=.dict #[] }) rfl
 exact⟨⟨beq_eq_false_iff_ne.mpr (Ne.symm (ba (NW I))),_,#[],0,[],g,⟨rfl,rfl,rfl⟩,rfl,.nil,rfl⟩,⟨_,g⟩,fun h1 h2 p k=>GW _ _ h1 h2 p k⟩
theorem QC(I:AR X pins σ H s){d:fG}{kvs:List NK}(e:H d=some (ND d kvs)):(d==sysModules)=false∧∃(o:Obj) (es:Array DictEntry) (ep:Nat) (xs:List (Tr×fG×fF)),s.heap.get? d=some o∧o.ExactDict∧o.data=.dict es ep∧Paired Jk kvs xs ∧
  es.toList=xs.map fun x=>(⟨x.1.hsh,.ref x.2.1,x.2.2⟩:DictEntry):=(I.hok d _ e).1
def Oh(F:EQ):V→List V→Hp→VK→Prop:=fun x vs H Q=>∃(d a:fG) (kvs:List NK) (k:Tr) (v:V),x=.ref d∧vs=[.ref a,v]∧NQ F H d kvs∧kvs.length<1000∧DR H k (.ref a)∧F.fit k ∧
 (∀z,C6 kvs k=some z→Q z H)∧(C6 kvs k=none→Q v (upd H d (ND d (kvs++[(k,a,v)]))))
theorem Pl(F:EQ)(hu:X.A.units+64<cLine):MtM X "dict.setdefault" (Oh F):=by
 intro pins s σ H x vs v us Q I rx rv h
 obtain⟨d,a,kvs,k,z,rfl,rfl,hN,hl,hk,hf,q1,q2⟩:=h
 cases rx
 obtain⟨u,u',rfl,ru,ru'⟩:=rv.two
 cases (show u=fF.ref a from ru)
 obtain⟨hs,o,es,ep,xs,h1,h2,h3,h4,h5⟩:=QC I hN.ob
 have hT:s.TypeIs (.ref d) "dict":=⟨o,h1,h2.1⟩
 obtain⟨m1,m2⟩:=FZ h4
 have hD:s.heap.DictOfH (FK X.prog X.w F) d xs:=by
  refine⟨o,es,ep,h1,h2,h3,h5,fun x hx=>?_,by rw[← m2];exact hN.nd⟩
  obtain⟨p,hp,e1,e2⟩:=m1 x hx
  obtain⟨k1,k2⟩:=hN.keys p hp
  rw[e1,e2]at k1
  rw[e1]at k2
  exact⟨k1.tv I rfl,k2⟩
 obtain⟨p1,p2⟩:=Ek h4 k
 have lx:=F0 h4
 refine call_meetsIn di hT PySem.F.entry_dict_setdefault (PySem.F.args_dict_setdefault_3 _ _ _) (GY (FK X.prog X.w F) d a hs u')
  ⟨by show X.A.in1.units+8<cLine;rw[fQ.in1_units];omega,k,xs,⟨hk.tv I rfl,hf⟩,hD,aU (show xs.length≤1000 by omega) (by decide),fun p hp=>?_,fun hn h' hm' hs'=>?_⟩
 ·obtain⟨z',z1,z2⟩:=p2 p hp
  exact⟨z',H,I.tok _,z2,q1 z' z1⟩
 ·obtain⟨o',es',ep',g1,g2,g3,g4,g5,g6⟩:=hm'
  refine⟨z,_,I.write (x:=d) (e:=d) (by rw[hN.ob];exact True.intro) (.inl rfl) (fun b q hb y=>(hs'.2 b hb).trans y) ⟨_,g1⟩ ?_,ru',q2 (p1 hn)⟩
  exact⟨⟨hs,o',es',ep',_,g1,g2,g3,E1 h4 ⟨rfl,rfl,ru'⟩,g4⟩,⟨_,g1⟩,fun h1 h2 p k=>GW _ _ h1 h2 p k⟩
def Rx(F:EQ)(to:TE)(t:TA):TE:=fun σ H Q=>to σ H fun x H1=>(∃d kvs,x=.ref d∧H1 d=some (ND d kvs))∧t σ H1 fun xs H2=>Oh F x xs H2 Q
theorem O9(F:EQ)(hu:X.A.units+64<cLine){o e:Expr}{es:List Expr}{to:TE}{t:TA}{apos cpos:Pos}(ho:PE X o to)(ha:PA X (e::es) t)
  (hbase:attributeBase o "setdefault" X.env (eval o X.env)=eval o X.env:=by rfl)
  (hfew:((backTo cpos (gj (e::es) X.env)).all (fun x=>!x.1)&&(backToKw cpos (keywordEach [] X.env)).all (fun x=>x.1.isSome)
  &&decide ((e::es).length+([]:List Keyword).length+(if([]:List Keyword).isEmpty then 0 else 1)<30))=true:=by rfl)
  (hline:(apos.endLine==cpos.line)=true:=by rfl) (hs:gj (e::es) X.env=(false,eval e X.env)::gj es X.env:=by rfl) (hplain:(backTo cpos (gj es X.env)).any (·.1)=false:=by rfl) :
  PE X (.Call (.Attribute o "setdefault" apos) (e::es) [] cpos) (Rx F to t):=by
 intro pins s σ H Q I h
 refine wpAny_Call_method_late hbase hfew hline rfl (B0 (ho pins s σ H _ I h) fun v s1 ⟨x,H1,I1,r1,ty,q1⟩=>?_)
 obtain⟨d,kvs,rfl,e⟩:=ty
 cases r1
 obtain⟨_,o',_,_,_,h1,h2,_⟩:=QC I1 e
 refine⟨"dict", "dict.setdefault",PySem.F.plainAttrs_dict,di,PySem.F.type_dict_setdefault,⟨o',h1,h2.1⟩,fun a ea=>by cases ea;exact⟨o',h1,h2.2.1⟩,?_⟩
 have hA:=ha cpos pins s1 σ H1 _ I1 q1
 rw[hs]at hA ⊢
 refine Calls.callWith_builtin (by show(false||(backTo cpos (gj es X.env)).any (·.1))=false;rw[hplain]<;>rfl) (Calls.evalArgs_plain ?_)
 exact B0 hA fun us s2 ⟨vs,H2,I2,rv,q2⟩=>Pl F hu pins s2 σ H2 (.ref d) vs (.ref d) us Q I2 rfl rv q2
end
end L2
set_option Elab.async false
set_option linter.all false
set_option maxRecDepth 100000
set_option maxHeartbeats 4000000
namespace L2
open PySem PySem.Spec PyProof.Rows
section
variable{X:Cx}{pins:List (fG×Obj)}{σ:St}{H:Hp}{s:fJ}{pos:Pos}
theorem GX{F:EQ}(I:AR X pins σ H s){d:fG}{kvs:List NK}(hN:NQ F H d kvs):(d==sysModules)=false∧∃xs:List (Tr×fG×fF),Paired Jk kvs xs∧s.heap.DictOfH (FK X.prog X.w F) d xs:=by
 obtain⟨hs,o,es,ep,xs,h1,h2,h3,h4,h5⟩:=QC I hN.ob
 obtain⟨m1,m2⟩:=FZ h4
 refine⟨hs,xs,h4,o,es,ep,h1,h2,h3,h5,fun x hx=>?_,by rw[← m2];exact hN.nd⟩
 obtain⟨p,hp,e1,e2⟩:=m1 x hx
 obtain⟨k1,k2⟩:=hN.keys p hp
 rw[e1,e2]at k1
 rw[e1]at k2
 exact⟨k1.tv I rfl,k2⟩
def RL(F:EQ):R2:=fun x y H Q=>∃d a kvs k,y=.ref d∧x=.ref a∧NQ F H d kvs∧DR H k (.ref a)∧F.fit k∧Q (.bl (!(C6 kvs k).isSome)) H
theorem Pb(F:EQ)(hu:X.A.units+64<cLine):G9 X (fY .NotIn) (RL F):=by
 intro pins s σ H x y v u Q I rx ry h
 obtain⟨d,a,kvs,k,rfl,rfl,hN,hk,hf,q⟩:=h
 cases rx
 cases ry
 obtain⟨hs,xs,h4,hD⟩:=GX I hN
 obtain⟨p1,p2⟩:=Ek h4 k
 refine wpAny_notIn_heap (knd:=FK X.prog X.w F) (by show X.A.in1.units+8<cLine;rw[fQ.in1_units];omega) ⟨hk.tv I rfl,hf⟩ hs hD ⟨.bl _,H,I.tok _,?_,q⟩
 show fF.bool _=fF.bool _
 cases e:atKey xs k with
 | none=>rw[p1 e];rfl
 | some p=>
  obtain⟨z,z1,_⟩:=p2 p e
  rw[z1];rfl
def rIxN(F:EQ):R2:=fun x y H Q=>∃d a kvs k z,x=.ref d∧y=.ref a∧NQ F H d kvs∧DR H k (.ref a)∧F.fit k∧C6 kvs k=some z∧Q z H
theorem ME(F:EQ)(hu:X.A.units+64<cLine):IxR X (rIxN F):=by
 intro value slice pins s σ H x y v u Q I rx ry h hs'
 obtain⟨d,a,kvs,k,z,rfl,rfl,hN,hk,hf,hz,q⟩:=h
 cases rx
 cases ry
 obtain⟨hs,xs,h4,hD⟩:=GX I hN
 obtain⟨p1,p2⟩:=Ek h4 k
 cases e:atKey xs k with
 | none=>rw[p1 e]at hz;cases hz
 | some p=>
  obtain⟨z',z1,z2⟩:=p2 p e
  rw[hz]at z1
  cases z1
  exact subscriptTail_builtinR (x:=p.2) hD.typeIs PySem.F.slot_dict_getitem.lookup
   (wpAny_getItem_heap (knd:=FK X.prog X.w F) (Q:=fun r s'=>r=p.2∧EP X pins σ Q r s') (by show X.A.in1.units+8<cLine;rw[fQ.in1_units];omega) ⟨hk.tv I rfl,hf⟩ hD e ⟨rfl,z,H,I.tok _,z2,q⟩) hs'
def rSetN(F:EQ):V→V→V→Hp→(Hp→Prop)→Prop:=fun o i v H Q=>∃d a kvs k,o=.ref d∧i=.ref a∧NQ F H d kvs∧kvs.length<1000∧DR H k (.ref a)∧F.fit k∧C6 kvs k=none∧Q (upd H d (ND d (kvs++[(k,a,v)])))
theorem O5(F:EQ)(hu:X.A.units+64<cLine):PSet X (rSetN F):=by
 intro pins s σ H o i v ov iv u Q I ro ri rv h
 obtain⟨d,a,kvs,k,rfl,rfl,hN,hl,hk,hf,hz,q⟩:=h
 cases ro
 cases ri
 obtain⟨hs,xs,h4,hD⟩:=GX I hN
 obtain⟨p1,p2⟩:=Ek h4 k
 have lx:=F0 h4
 have hn:atKey xs k=none:=by
  cases e:atKey xs k with
  | none=>rfl
  | some p=>
   obtain⟨z',z1,_⟩:=p2 p e
   rw[hz]at z1;cases z1
 refine wpAny_setItem_heap (knd:=FK X.prog X.w F) (by show X.A.in1.units+8<cLine;rw[fQ.in1_units];omega) ⟨hk.tv I rfl,hf⟩ hD (fun h' hm' hs'=>?_) (aU (show xs.length≤1000 by omega) (by decide))
 have est:storedH xs k a u=xs++[(k,a,u)]:=storedH_new hn a u
 rw[est]at hm'
 obtain⟨o',es',ep',g1,g2,g3,g4,g5,g6⟩:=hm'
 refine⟨_,I.write (x:=d) (e:=d) (by rw[hN.ob];exact True.intro) (.inl rfl) (fun b q hb y=>(hs'.2 b hb).trans y) ⟨_,g1⟩ ?_,q⟩
 exact⟨⟨hs,o',es',ep',_,g1,g2,g3,E1 h4 ⟨rfl,rfl,rv⟩,g4⟩,⟨_,g1⟩,fun h1 h2 p k=>GW _ _ h1 h2 p k⟩
end
end L2
namespace PySem
open Sem (wp)
section
variable{prog:fP}{w:fS}{A:fQ}{E:fF→fJ→Prop}{s:fJ}
abbrev Ed(h:Heap)(z TI TO T:fG)(b:Bool):Prop:=
 h.get? z=some { cls:=.type "zip",dict:=none,data:=.fields #[rawInt T,.bool b,.bool false,.ref TI,.ref TO],slots:=#[] }
theorem Ro{a:fG}{o:Obj}{Q:Option Obj→fJ→Prop}(ho:s.heap.get? a=some o)(h:Q (some o) s):wpAny (model prog w) A (loadIfAlive a) Q E s:=by
 have h':Q (s.heap.get? a) s:=by rw[ho];exact h
 exact fun _ _ _=>h'
theorem MO{z TI TO T:fG}{bb:Bool}{oT:Obj}{Q:Bool→fJ→Prop}(hz:Ed s.heap z TI TO T bb)(hT:s.heap.get? T=some oT)
  (h:∀h₁,Ed h₁ z TI TO T true→Heap.SameBut z s.heap h₁→Q false { s with heap:=h₁ }):wpAny (model prog w) A (Builtin.SmallTypes.ownedTupleIsFree (.ref z)) Q E s:=by
 unfold Builtin.SmallTypes.ownedTupleIsFree
 refine fH (fV hz rfl (x:=rawInt T) rfl ?_)
 show wpAny _ _ (loadIfAlive ((T:Int)).toNat >>= _) _ _ _
 rw[aA]
 refine fH (Ro hT ?_)
 simp only[Option.isNone_some,bC,if_false]
 refine fH (fV hz rfl (x:=.bool bb) rfl ?_)
 cases bb with
 | true=>
  simp only[bne_self_eq_false,bC,if_false]
  exact fM (h s.heap hz (Heap.SameBut.refl z s.heap))
 | false=>
  have e:(fF.bool false != fF.bool true)=true:=by decide
  simp only[e,if_true]
  refine fH (wpAny_setField_rec hz (by simp) fun h₁ hz₁ hs₁=>fM (h h₁ hz₁ hs₁))
theorem Ix{z TI TO i1 i2 l1 l2 T:fG}{bb:Bool}{k1 k2:Nat}{xs ys:Array fF}{x y:fF}{oT:Obj}{Q:fF→fJ→Prop}(D:ZipApart z TI TO i1 i2 l1 l2)
  (hz:Ed s.heap z TI TO T bb) (hTI:IsPair s.heap TI (.ref i1) (.ref i2)) (hT:s.heap.get? T=some oT)
  (h1:s.heap.IsListIter i1 l1 k1) (h2:s.heap.IsListIter i2 l2 k2) (hl1:s.heap.IsList l1 xs) (hl2:s.heap.IsList l2 ys) (hx:xs[k1]?=some x) (hy:ys[k2]?=some y)
  (hQ:∀h',Ed h' z TI TO T true→h'.IsListIter i1 l1 (k1+1)→h'.IsListIter i2 l2 (k2+1)→IsPair h' s.heap.objs.size x y→h'.objs.size=s.heap.objs.size+1 →
   (∀c o,c≠z→c≠i1→c≠i2→s.heap.get? c=some o→h'.get? c=some o)→Q (.ref s.heap.objs.size) { s with heap:=h' }) :
  wpAny (model prog w) A (Builtin.«zip.__next__» ⟨[.ref z],[]⟩) (fun fin s'=>∃v,fin=.done (.ret v)∧Q v s') E s:=by
 show wpAny _ _ (field (.ref z) 2 >>= _) _ _ _
 refine fH (fV hz rfl (x:=.bool false) rfl ?_)
 show wpAny _ _ (field (.ref z) 3 >>= _) _ _ _
 refine fH (fV hz rfl (x:=.ref TI) rfl ?_)
 refine fH (wpAny_seqItems hTI rfl ?_)
 show wpAny _ _ (Builtin.SmallTypes.ownedTupleIsFree (.ref z) >>= _) _ _ _
 refine fH (MO hz hT fun h₁ hz₁ hs₁=>?_)
 simp only[bC,if_false]
 rw[show(#[fF.ref i1,fF.ref i2]:Array fF)=[fF.ref i1,fF.ref i2].toArray from rfl,eP]
 simp only[cx,dY]
 refine fH (fH (fH (fU ?_)))
 show wpAny _ _ (Builtin.SmallTypes.nextOf (.ref i1) >>= _) _ _ _
 refine fH (wpAny_nextOf_list_item (h1.extBut hs₁.extBut D.i1z) (hl1.extBut hs₁.extBut D.l1z) hx fun h₂ h1₂ hs₂=>fM (fM ?_))
 refine fH (fH (fU ?_))
 show wpAny _ _ (Builtin.SmallTypes.nextOf (.ref i2) >>= _) _ _ _
 refine fH (wpAny_nextOf_list_item ((h2.extBut hs₁.extBut D.i2z).extBut hs₂.extBut D.i12.symm) ((hl2.extBut hs₁.extBut D.l2z).extBut hs₂.extBut D.l2i1) hy fun h₃ h2₃ hs₃=>fM (fM (fM ?_)))
 have hsz:h₃.objs.size=s.heap.objs.size:=by rw[hs₃.1,hs₂.1,hs₁.1]
 refine fH (wpAny_newTuple (hsz:=(by show 2≤fL;decide)) ?_)
 refine fM ⟨_,rfl,?_⟩
 show Q (.ref h₃.objs.size) _
 have up:∀c o,h₃.get? c=some o→(h₃.push { cls:=.type "tuple",data:=.seq #[x,y] }).get? c=some o:=fun c o e=>Heap.get?_push_of_some _ e
 have hT3:IsPair (h₃.push { cls:=.type "tuple",data:=.seq #[x,y] }) h₃.objs.size x y:=Heap.get?_push_size _ rfl
 rw[hsz]at hT3 ⊢
 exact hQ _ (up _ _ (hs₃.extBut _ _ D.i2z.symm (hs₂.extBut _ _ D.i1z.symm hz₁))) ((h1₂.extBut hs₃.extBut D.i12).at fun o e=>up _ o e) (h2₃.at fun o e=>up _ o e) hT3 (by rw[Heap.size_push,hsz]) fun c o c1 c2 c3 e=>up _ _ (hs₃.extBut _ _ c3 (hs₂.extBut _ _ c2 (hs₁.extBut _ _ c1 e)))
theorem J0{z TI TO i1 i2 l1 l2 T:fG}{bb:Bool}{k1:Nat}{xs:Array fF}{oT:Obj}{Q:Fin→fJ→Prop}(hh:A.handled=none)(D:ZipApart z TI TO i1 i2 l1 l2)
  (hz:Ed s.heap z TI TO T bb) (hTI:IsPair s.heap TI (.ref i1) (.ref i2)) (hT:s.heap.get? T=some oT)
  (h1:s.heap.IsListIter i1 l1 k1) (hl1:s.heap.IsList l1 xs) (hx:xs[k1]?=none)
  (hE:∀h' e,(∀c o,c≠z→c≠i1→s.heap.get? c=some o→h'.get? c=some o)→(∃o,h'.get? e=some o∧o.cls=.type "StopIteration")→E (.ref e) { s with heap:=h' }) :
  wpAny (model prog w) A (Builtin.«zip.__next__» ⟨[.ref z],[]⟩) Q E s:=by
 show wpAny _ _ (field (.ref z) 2 >>= _) _ _ _
 refine fH (fV hz rfl (x:=.bool false) rfl ?_)
 show wpAny _ _ (field (.ref z) 3 >>= _) _ _ _
 refine fH (fV hz rfl (x:=.ref TI) rfl ?_)
 refine fH (wpAny_seqItems hTI rfl ?_)
 show wpAny _ _ (Builtin.SmallTypes.ownedTupleIsFree (.ref z) >>= _) _ _ _
 refine fH (MO hz hT fun h₁ hz₁ hs₁=>?_)
 simp only[bC,if_false]
 rw[show(#[fF.ref i1,fF.ref i2]:Array fF)=[fF.ref i1,fF.ref i2].toArray from rfl,eP]
 simp only[cx,dY]
 refine fH (fH (fH (fU ?_)))
 show wpAny _ _ (Builtin.SmallTypes.nextOf (.ref i1) >>= _) _ _ _
 exact fH (wpAny_nextOf_list_end hh (h1.extBut hs₁.extBut D.i1z) (hl1.extBut hs₁.extBut D.l1z) hx fun h₂ e hs₂ he=>hE h₂ e (fun c o c1 c2 x=>hs₂ _ _ c2 (hs₁.extBut _ _ c1 x)) he)
end
end PySem
namespace PySem
section
variable{prog:fP}{w:fS}{A:fQ}{E:fF→fJ→Prop}{s:fJ}
theorem Hq{z TI TO i1 i2 l1 l2 T:fG}{bb:Bool}{k1 k2:Nat}{xs ys:Array fF}{x y:fF}{oT:Obj}{Q:Option fF→fJ→Prop}(D:ZipApart z TI TO i1 i2 l1 l2)
  (hz:Ed s.heap z TI TO T bb) (hTI:IsPair s.heap TI (.ref i1) (.ref i2)) (hT:s.heap.get? T=some oT)
  (h1:s.heap.IsListIter i1 l1 k1) (h2:s.heap.IsListIter i2 l2 k2) (hl1:s.heap.IsList l1 xs) (hl2:s.heap.IsList l2 ys) (hx:xs[k1]?=some x) (hy:ys[k2]?=some y)
  (hQ:∀h',Ed h' z TI TO T true→h'.IsListIter i1 l1 (k1+1)→h'.IsListIter i2 l2 (k2+1)→IsPair h' s.heap.objs.size x y→h'.objs.size=s.heap.objs.size+1 →
   (∀c o,c≠z→c≠i1→c≠i2→s.heap.get? c=some o→h'.get? c=some o)→Q (some (.ref s.heap.objs.size)) { s with heap:=h' }) :
  wpAny (model prog w) A (pyNext (.ref z)) Q E s:=by
 have hT':s.TypeIs (.ref z) "zip":=⟨_,hz,rfl⟩
 unfold pyNext
 exact fH (wpAny_attempt (wpAny_callSpecial?_slot (name:=Str.ofString "__next__") hT' F.slot_zip_next
  (wpAny_call_entry F.slot_zip_next hT' F.entry_zip_next
   (Ix D hz hTI hT h1 h2 hl1 hl2 hx hy fun h' a1 a2 a3 a4 a5 a6=>fM (hQ h' a1 a2 a3 a4 a5 a6)) (F.args_zip_next_1 _))))
theorem Ia{z TI TO i1 i2 l1 l2 T:fG}{bb:Bool}{k1:Nat}{xs:Array fF}{oT:Obj}{Q:Option fF→fJ→Prop}(hh:A.handled=none)(D:ZipApart z TI TO i1 i2 l1 l2)
  (hz:Ed s.heap z TI TO T bb) (hTI:IsPair s.heap TI (.ref i1) (.ref i2)) (hT:s.heap.get? T=some oT)
  (h1:s.heap.IsListIter i1 l1 k1) (hl1:s.heap.IsList l1 xs) (hx:xs[k1]?=none)
  (hQ:∀h',(∀c o,c≠z→c≠i1→s.heap.get? c=some o→h'.get? c=some o)→Q none { s with heap:=h' }):wpAny (model prog w) A (pyNext (.ref z)) Q E s:=by
 have hT':s.TypeIs (.ref z) "zip":=⟨_,hz,rfl⟩
 unfold pyNext
 refine fH (wpAny_attempt (wpAny_callSpecial?_slot (name:=Str.ofString "__next__") hT' F.slot_zip_next
  (wpAny_call_entry F.slot_zip_next hT' F.entry_zip_next (J0 hh D hz hTI hT h1 hl1 hx fun h' e hk he=>?_) (F.args_zip_next_1 _))))
 obtain⟨o,ho,hc⟩:=he
 refine fH (wpAny_isInstance (T:="StopIteration") (b:=true) ⟨o,ho,hc⟩ isSubtype_stop ?_)
 exact fM (hQ _ hk)
theorem M4:typeLookup (.type "zip") "__len__" = pure none:=by rw[typeLookup_type,builtinLookup_eq_fast];kernel_rfl
theorem LU:typeLookup (.type "zip") "__length_hint__" = pure none:=by rw[typeLookup_type,builtinLookup_eq_fast];kernel_rfl
end
end PySem
namespace L2
open PySem PySem.Spec PyProof.Rows
section
variable{X:Cx}{pins:List (fG×Obj)}{σ:St}{H:Hp}{s:fJ}
theorem QR{ch:List fG}{h2:Heap}{x y:V}{u v:fF}(I:AR X pins σ H s)(hf:∀b∈ch,HE X pins H b)(hk2:∀b o,b∉ch→s.heap.get? b=some o→h2.get? b=some o)
  (hT:IsPair h2 s.heap.objs.size u v) (ru:Bm x u) (rv:Bm y v):AR X pins σ (upd H s.heap.objs.size (.tup [x,y])) { s with heap:=h2 }:=by
 have hn:H s.heap.objs.size=none:=I.fresh
 have f0:∀b∈ch,H b=none:=fun b hb=>(hf b hb).1
 refine I.step (g':=s.gens) (d':=s.drawn) (t':=s.toks) (ch:=ch) (fun b hb=>?_) (fun b o _ _ hcb q _=>?_) (fun b o _ _ hcb q _=>?_) (fun b o _ q n=>?_) (fun b o hcb q=>?_) (fun b ys q=>?_) (fun b o v q=>?_) (fun b qs q=>?_) (fun m hm=>?_) (fun b v q=>?_) I.bare
 ·obtain⟨_,f1,f2,f3,f4,f5⟩:=hf b hb
  exact⟨f3,f1,f4,f5⟩
 ·exact hk2 b o hcb q
 ·exact⟨o.slots,hk2 b o hcb q⟩
 ·rw[Aj (ba (Heap.lt_size q))];exact n
 ·exact⟨o,hk2 b o hcb q⟩
 ·rw[Aj (Af q hn)];exact q
 ·rw[Aj (Af q hn)];exact q
 ·exact⟨#[],by rw[Aj (Af q hn),q];simp⟩
 ·obtain⟨o,es,ep,ho,r⟩:=hm
  exact⟨o,es,ep,hk2 _ o (fun z=>(hf _ z).2.1 rfl) ho,r⟩
 ·by_cases hb:b=s.heap.objs.size
  ·subst hb
   rw[Ad]at q
   cases q
   exact⟨by show 2≤fL;decide,[u,_],.cons ru (.cons rv .nil),_,hT,rfl,_,rfl⟩
  ·rw[Aj hb]at q
   refine(I.hok b v q).stay (fun c o hc' z=>hk2 c o ?_ z) (fun c z=>by rw[Aj (Af z hn)];exact z) fun c ys z=>by rw[Aj (Af z hn)];exact z
   rcases hc' with y|y
   ·rw[y];exact fun w=>by rw[f0 b w]at q;cases q
   ·exact fun w=>by rw[f0 c w]at y;cases y
theorem inv_ch{ch:List fG}{h2:Heap}(I:AR X pins σ H s)(hf:∀b∈ch,HE X pins H b)(hk2:∀b o,b∉ch→s.heap.get? b=some o→h2.get? b=some o):AR X pins σ H { s with heap:=h2 }:=by
 have f0:∀b∈ch,H b=none:=fun b hb=>(hf b hb).1
 refine I.step (g':=s.gens) (d':=s.drawn) (t':=s.toks) (ch:=ch) (fun b hb=>?_) (fun b o _ _ hcb q _=>?_) (fun b o _ _ hcb q _=>?_) (fun b o _ q n=>n) (fun b o hcb q=>?_) (fun b ys q=>q) (fun b o v q=>q) (fun b qs q=>⟨#[],by rw[q];simp⟩) (fun m hm=>?_) (fun b v q=>?_) I.bare
 ·obtain⟨_,f1,f2,f3,f4,f5⟩:=hf b hb
  exact⟨f3,f1,f4,f5⟩
 ·exact hk2 b o hcb q
 ·exact⟨o.slots,hk2 b o hcb q⟩
 ·exact⟨o,hk2 b o hcb q⟩
 ·obtain⟨o,es,ep,ho,r⟩:=hm
  exact⟨o,es,ep,hk2 _ o (fun z=>(hf _ z).2.1 rfl) ho,r⟩
 ·refine(I.hok b v q).stay (fun c o hc' z=>hk2 c o ?_ z) (fun c z=>z) fun c ys z=>z
  rcases hc' with y|y
  ·rw[y];exact fun w=>by rw[f0 b w]at q;cases q
  ·exact fun w=>by rw[f0 c w]at y;cases y
structure ZipAt(h:Heap)(S z TI TO i1 i2 l1 l2:fG)(i:Nat):Prop where
 z:(i=0∧IsZip h z TI TO .none∧∃a b,IsPair h TO a b)∨∃T bb oT,Ed h z TI TO T bb∧h.get? T=some oT∧T≠z∧T≠i1∧T≠i2∧T≠S
 ti:IsPair h TI (.ref i1) (.ref i2)
 t1:h.IsListIter i1 l1 i
 t2:h.IsListIter i2 l2 i
def Iv(H:Hp)(xs ys:List V)(Ts:List fG):Prop:=∀(j:Nat) T,Ts[j]?=some T→∃x y,xs[j]?=some x∧ys[j]?=some y∧H T=some (.tup [x,y])
theorem PY{A:fQ}{R:Result→fJ→Prop}(hh:A.in1.handled=none){l1 l2 S z TI TO i1 i2:fG}(D:ZipApart z TI TO i1 i2 l1 l2){xs ys:List V}(hxy:xs.length=ys.length)(hn:xs.length≤1000)(res:fF) :
  ∀(k i:Nat) (s:fJ) (H:Hp) (Ts:List fG),xs.length - i=k→i≤xs.length→AR X pins σ H s→AD X.K H l1 xs→AD X.K H l2 ys→H S=some (.lst (Ts.map V.ref))→Ts.length=i→Iv H xs ys Ts→ZipAt s.heap S z TI TO i1 i2 l1 l2 i→(∀b∈[z,TI,TO,i1,i2],HE X pins H b)→(∀b∈[z,TI,TO,i1,i2],b<s.heap.objs.size)→l1≠S→l2≠S →
   (∀s' H' Ts',AR X pins σ H' s'→(∀b o,H b=some o→b≠S→H' b=some o)→H' S=some (.lst (Ts'.map V.ref))→Ts'.length=xs.length→Iv H' xs ys Ts'→R (.ok (.ret res)) s') →
   codeAny (model X.prog X.w) A (.builtin "list.extend.loop" ⟨[.ref S,.ref z,res],[]⟩) R s:=by
 intro k
 induction k with
 | zero=>
  intro i s H Ts hk hi I q1 q2 hS hTl hP hZ hf hlt n1 n2 hR
  have hin:i=xs.length:=by omega
  obtain⟨its,rv,pl,hz⟩:=I.list q1
  obtain⟨its2,rv2,pl2,hz2⟩:=I.list q2
  have hl:=rv.length
  refine codeAny_builtin dy ?_
  rw[fQ.under_plainId ci _]
  show wpAny _ A.in1 (pyNext (.ref z) >>= _) _ _ s
  refine fH ?_
  have fin:∀h',(∀c o,c∉[z,TI,TO,i1,i2]→s.heap.get? c=some o→h'.get? c=some o)→R (.ok (.ret res)) { s with heap:=h' }:=fun h' hk=>hR _ H Ts (inv_ch I hf hk) (fun _ _ e _=>e) hS (by omega) hP
  rcases hZ.z with⟨hi0,hz0,a,b,hTO⟩|⟨T,bb,oT,hz1,hT,_⟩
  ·exact wpAny_pyNext_zip_end hh D hz0 hZ.ti hTO hZ.t1 hZ.t2 pl.isList pl2.isList (.inl (by simp;omega)) fun h' hk'=>fM (fin h' fun c o hc e=>hk' c o (fun y=>hc (by simp[y])) (fun y=>hc (by simp[y])) (fun y=>hc (by simp[y])) (fun y=>hc (by simp[y])) e)
  ·exact Ia hh D hz1 hZ.ti hT hZ.t1 pl.isList (by simp;omega) fun h' hk'=>fM (fin h' fun c o hc e=>hk' c o (fun y=>hc (by simp[y])) (fun y=>hc (by simp[y])) e)
 | succ k ih=>
  intro i s H Ts hk hi I q1 q2 hS hTl hP hZ hf hlt n1 n2 hR
  have hlti:i<xs.length:=by omega
  obtain⟨its,rv,pl,hz⟩:=I.list q1
  obtain⟨its2,rv2,pl2,hz2⟩:=I.list q2
  have hl:=rv.length
  have hl2:=rv2.length
  have hxi:=aa hlti
  have hyi:=aa (show i<ys.length by omega)
  obtain⟨u,hu,ru⟩:=rv.get hxi
  obtain⟨v,hv,rw2⟩:=rv2.get hyi
  refine codeAny_builtin dy ?_
  rw[fQ.under_plainId ci _]
  show wpAny _ A.in1 (pyNext (.ref z) >>= _) _ _ s
  refine fH ?_
  have fz:∀b∈[z,TI,TO,i1,i2],H b=none:=fun b hb=>(hf b hb).1
  have go:∀h',(∃T bb oT,Ed h' z TI TO T bb∧h'.get? T=some oT∧T≠z∧T≠i1∧T≠i2∧T≠S)→h'.IsListIter i1 l1 (i+1)→h'.IsListIter i2 l2 (i+1)→IsPair h' s.heap.objs.size u v→h'.objs.size=s.heap.objs.size+1 →
    (∀c o,c≠z→c≠TO→c≠i1→c≠i2→s.heap.get? c=some o→h'.get? c=some o) →
    wpAny (model X.prog X.w) A.in1 (updateSeq S (·.push (.ref s.heap.objs.size)) >>= fun _=>again (.builtin "list.extend.loop" ⟨[.ref S,.ref z,res],[]⟩)) (fun fin s'=>match fin with|.done f=>R (.ok f) s'|.again c'=>c'.quiet=true∧codeAny (model X.prog X.w) A c' R s') (fun e s'=>R (.error e) s') { s with heap:=h' }:=by
   intro h' hzz ht1 ht2 hTp hsz hkk
   have hn0:H s.heap.objs.size=none:=I.fresh
   have I1:AR X pins σ (upd H s.heap.objs.size (.tup [xs[i],ys[i]'(by omega)])) { s with heap:=h' }:=QR (ch:=[z,TI,TO,i1,i2]) I hf (fun c o hc e=>hkk c o (fun y=>hc (by simp[y])) (fun y=>hc (by simp[y])) (fun y=>hc (by simp[y])) (fun y=>hc (by simp[y])) e) hTp ru rw2
   have up:∀b o,H b=some o→upd H s.heap.objs.size (.tup [xs[i],ys[i]'(by omega)]) b=some o:=fun b o e=>by rw[Aj (Af e hn0)];exact e
   have hS1:=up _ _ hS
   obtain⟨zz,itS,nS,rS,hlS,eS⟩:=I1.lstM hS1
   refine fH ?_
   have hlen:itS.length=i:=by rw[← hlS,ac,hTl]
   have hbig:(1000:Nat)≤fL:=by decide
   refine wpAny_updateSeq eS rfl (fM ⟨plainId_quiet ci _,?_⟩) (by rw[aH];omega) (by show(itS.toArray.push _).size≤_;rw[Array.size_push,aH];omega)
   have I2:=I1.lset (t':=s.toks) (its':=itS++[.ref s.heap.objs.size]) (ys:=Ts.map V.ref++[V.ref s.heap.objs.size]) (f:=fun a=>a.push (.ref s.heap.objs.size)) hS1 eS (by simp) (rS.append (.cons (show Bm (V.ref s.heap.objs.size) (fF.ref s.heap.objs.size) from rfl) .nil)) (by rw[ai,ac,hTl];show i+1≤_;omega)
   have nST:S≠s.heap.objs.size:=Af hS hn0
   have kp:∀b o,H b=some o→b≠S→(upd (upd H s.heap.objs.size (.tup [xs[i],ys[i]'(by omega)])) S (.lst (Ts.map V.ref++[V.ref s.heap.objs.size]))) b=some o:=fun b o e n=>by rw[Aj n];exact up b o e
   have sq:∀{l:fG} {zs:List V},l≠S→AD X.K H l zs→AD X.K (upd (upd H s.heap.objs.size (.tup [xs[i],ys[i]'(by omega)])) S (.lst (Ts.map V.ref++[V.ref s.heap.objs.size]))) l zs:=fun n q=>by
    rcases q with(q|⟨o,q⟩)|q
    ·exact .inl (.inl (kp _ _ q n))
    ·exact .inl (.inr ⟨o,kp _ _ q n⟩)
    ·exact .inr q
   have hoth:∀c,c≠S→(h'.update S (Obj.mapSeq fun a=>a.push (.ref s.heap.objs.size))).get? c=h'.get? c:=fun c n=>Heap.get?_update_other _ _ (Ne.symm n)
   have nS:∀b∈[z,TI,TO,i1,i2],b≠S:=fun b hb y=>by rw[y]at hb;rw[fz S hb]at hS;cases hS
   have hszu:(h'.update S (Obj.mapSeq fun a=>a.push (.ref s.heap.objs.size))).objs.size=h'.objs.size:=(Heap.SameBut.update ..).1
   refine ih (i+1) _ _ (Ts++[s.heap.objs.size]) (by omega) hlti I2 (sq n1 q1) (sq n2 q2) (by rw[Ad,am];rfl) (by rw[ai,hTl];rfl) (fun j T hj=>?_) ⟨?_,?_,?_,?_⟩ (fun b hb=>?_) (fun b hb=>?_) n1 n2 fun s' H' Ts' a1 a2 a3 a4 a5=>hR s' H' Ts' a1 (fun b o e n=>a2 b o (kp b o e n) n) a3 a4 a5
   ·by_cases hjl:j<Ts.length
    ·rw[aO hjl]at hj
     obtain⟨x,y,b1,b2,b3⟩:=hP j T hj
     exact⟨x,y,b1,b2,kp _ _ b3 (fun e=>by rw[e,hS]at b3;cases b3)⟩
    ·rw[aT (by omega)]at hj
     have ej:j=i:=by
      cases e:j - Ts.length with
      | zero=>omega
      | succ m=>rw[e]at hj;cases hj
     subst ej
     rw[show j - Ts.length=0 by omega]at hj
     cases hj
     exact⟨_,_,hxi,hyi,by rw[Aj nST.symm,Ad]⟩
   ·obtain⟨T,bb,oT,g1,g2,g3⟩:=hzz
    exact .inr ⟨T,bb,oT,(hoth _ (nS z (by simp))).trans g1,(hoth _ g3.2.2.2).trans g2,g3⟩
   ·exact(hoth _ (nS TI (by simp))).trans (hkk TI _ D.TIz D.TITO D.TIi1 D.TIi2 hZ.ti)
   ·exact ht1.at fun o e=>(hoth _ (nS i1 (by simp))).trans e
   ·exact ht2.at fun o e=>(hoth _ (nS i2 (by simp))).trans e
   ·obtain⟨f0,f1⟩:=hf b hb
    refine⟨?_,f1⟩
    rw[Aj (nS b hb),Aj (ba (hlt b hb))];exact f0
   ·exact aZ (hlt b hb) (aU (c7 _) (cA (hszu.trans hsz).symm))
  have lt:∀b∈[z,TI,TO,i1,i2],s.heap.objs.size≠b:=fun b hb=>dD (hlt b hb)
  have nSz:S≠s.heap.objs.size:=Af hS I.fresh
  rcases hZ.z with⟨hi0,hz0,a,b,hTO⟩|⟨T,bb,oT,hz1,hT,hTz,hT1,hT2,hTS⟩
  ·refine wpAny_pyNext_zip_item D hz0 hZ.ti hTO hZ.t1 hZ.t2 pl.isList pl2.isList (x:=u) (y:=v) (by simpa using hu) (by simpa using hv) fun h' a1 a2 a3 a4 a5 a6 a7=>?_
   exact go h' ⟨s.heap.objs.size,false,_,a1,a5,lt z (by simp),lt i1 (by simp),lt i2 (by simp),fun e=>nSz (by rw[e])⟩ a3 a4 a5 a6 a7
  ·refine Hq D hz1 hZ.ti hT hZ.t1 hZ.t2 pl.isList pl2.isList (x:=u) (y:=v) (by simpa using hu) (by simpa using hv) fun h' a1 a2 a3 a4 a5 a6=>?_
   exact go h' ⟨T,true,oT,a1,a6 T _ hTz hT1 hT2 hT,hTz,hT1,hT2,hTS⟩ a2 a3 a4 a5 fun c o c1 c2 c3 c4 e=>a6 c o c1 c3 c4 e
theorem J9{z TI TO i1 i2 l1 l2:fG}{xs ys:List V}{Q:VK}(hc:X.calm=true)(I:AR X pins σ H s)(D:ZipApart z TI TO i1 i2 l1 l2)(q1:AD X.K H l1 xs)(q2:AD X.K H l2 ys)(hxy:xs.length=ys.length)(hn:xs.length≤1000)
  (hz:IsZip s.heap z TI TO .none) (hTI:IsPair s.heap TI (.ref i1) (.ref i2)) (hTO:∃a b,IsPair s.heap TO a b) (h1:s.heap.IsListIter i1 l1 0) (h2:s.heap.IsListIter i2 l2 0) (hf:∀b∈[z,TI,TO,i1,i2],HE X pins H b)
  (q:∀(l:fG) (Ts:List fG) (H':Hp),An H H'→H l=none→H' l=some (.lst (Ts.map V.ref))→Ts.length=xs.length→Iv H' xs ys Ts→Q (.ref l) H') :
  wpAny (model X.prog X.w) X.A (call (.type "list") [.ref z]) (EP X pins σ Q) X.xe s:=by
 have hfr:H s.heap.objs.size=none:=I.fresh
 have hlt:∀b∈[z,TI,TO,i1,i2],b<s.heap.objs.size:=fun b hb=>by
  obtain⟨a',b',hTO⟩:=hTO
  rcases aG.mp hb with rfl|hb
  ·exact Heap.lt_size hz
  rcases aG.mp hb with rfl|hb
  ·exact Heap.lt_size hTI
  rcases aG.mp hb with rfl|hb
  ·exact Heap.lt_size hTO
  rcases aG.mp hb with rfl|hb
  ·obtain⟨_,e,_⟩:=h1;exact Heap.lt_size e
  ·have e:b=i2:=by simpa using hb
   subst e;obtain⟨_,e,_⟩:=h2;exact Heap.lt_size e
 have nS:∀b∈[z,TI,TO,i1,i2],b≠s.heap.objs.size:=fun b hb=>ba (hlt b hb)
 refine callType_codes (Q₁:=fun obj s₁=>obj=.ref s.heap.objs.size∧s₁={ s with heap:=s.heap.push { cls:=.type "list",data:=.seq #[] } }) PySem.F.called_list (PySem.F.typeCall_list_1 _) PySem.F.entry_list_init
  (code_list_new _ ⟨rfl,rfl⟩) fun obj s₁ h₁=>?_
 obtain⟨rfl,rfl⟩:=h₁
 have hS:(s.heap.push { cls:=.type "list",data:=.seq #[] }).get? s.heap.objs.size=some { cls:=.type "list",data:=.seq #[] }:=Heap.get?_push_size _ rfl
 have I0:=I.lnew (t':=s.toks) (its:=[]) (ys:=[]) .nil (bw _)
 refine⟨⟨_,hS,rfl⟩,PySem.F.args_list_init_2 _ _,?_⟩
 show wpAny _ X.A.in1.in1 (do let old ← Builtin.List.listItems (.ref s.heap.objs.size);Builtin.List.listUpdate (.ref s.heap.objs.size) (fun _=>#[]);letGo old.toList.reverse;Builtin.List.listExtendWith (.ref s.heap.objs.size) (.ref z) .none) _ _ _
 refine fH ?_
 unfold Builtin.List.listItems
 refine fH (wpAny_seqItems hS rfl (fM ?_))
 show wpAny _ X.A.in1.in1 (updateSeq s.heap.objs.size (fun _=>#[]) >>= fun _=>letGo (#[]:Array fF).toList.reverse >>= fun _=>Builtin.List.listExtendWith (.ref s.heap.objs.size) (.ref z) .none) _ _ _
 refine fH (wpAny_updateSeq hS rfl ?_)
 have I1:=I0.lset (t':=s.toks) (l:=s.heap.objs.size) (its:=[]) (its':=[]) (ys:=[]) (n:=0) (f:=fun _=>(#[]:Array fF)) Ad hS rfl .nil (bw _)
 have hS1:=Heap.get?_update_self (Obj.mapSeq (fun _=>(#[]:Array fF))) hS rfl
 refine fH (wpAny_letGo ?_)
 unfold Builtin.List.listExtendWith
 have hot:∀(f:Obj→Obj) (h:Heap) (b:fG),b≠s.heap.objs.size→(h.update s.heap.objs.size f).get? b=h.get? b:=fun f h b n=>Heap.get?_update_other _ _ (Ne.symm n)
 have hz1:IsZip ((s.heap.push { cls:=.type "list",data:=.seq #[] }).update s.heap.objs.size (Obj.mapSeq (fun _=>(#[]:Array fF)))) z TI TO .none:=(hot _ _ _ (nS z (by simp))).trans (Heap.get?_push_of_some _ hz)
 refine fH (wpAny_typeOf (T:="zip") ⟨_,hz1,rfl⟩ ?_)
 have e1:Builtin.List.listSameRef (.ref s.heap.objs.size) (.ref z)=false:=by simp[Builtin.List.listSameRef,(nS z (by simp)).symm]
 have e2:(fF.type "zip"==fF.type "list")=false:=by decide
 have e3:(fF.type "zip"==fF.type "tuple")=false:=by decide
 simp only[e1,e2,e3,Bool.or_false,bC,if_false]
 refine fH (wpAny_pyIter_zip hz1 ?_)
 refine fH (fU ?_)
 unfold Builtin.List.listLengthHint
 refine fH (wpAny_specialOf (T:="zip") ⟨_,hz1,rfl⟩ M4 ?_)
 show wpAny _ X.A.in1.in1 (specialOf (fF.ref z) (Str.ofString "__length_hint__") >>= _) _ _ _
 refine fH (wpAny_specialOf (T:="zip") ⟨_,hz1,rfl⟩ LU ?_)
 refine fM ?_
 show wpAny _ X.A.in1.in1 (rule "list.extend.makes-room" >>= fun _=>Builtin.List.listTouch (.ref s.heap.objs.size) >>= fun _=>
  again (.builtin "list.extend.loop" ⟨[.ref s.heap.objs.size,.ref z,.none],[]⟩)) _ _ _
 refine fH (wpAny_rule ?_)
 refine fH ?_
 show wpAny _ X.A.in1.in1 (updateSeq s.heap.objs.size (·.push .none) >>= fun _=>updateSeq s.heap.objs.size (·.pop)) _ _ _
 refine fH (wpAny_updateSeq hS1 rfl ?_)
 have I2:=I1.lset (t':=s.toks) (l:=s.heap.objs.size) (its:=[]) (its':=[.none]) (ys:=[.non]) (f:=(·.push fF.none)) Ad hS1 (by simp) (.cons rfl .nil) (by show 1≤fL;decide)
 have hS2:=Heap.get?_update_self (Obj.mapSeq (·.push fF.none)) hS1 rfl
 refine wpAny_updateSeq (hz:=by seq_fits) hS2 rfl ?_
 have I3:=I2.lset (t':=s.toks) (l:=s.heap.objs.size) (its:=[.none]) (its':=[]) (ys:=[]) (f:=(·.pop)) Ad hS2 (by simp) .nil (bw _)
 rw[KY,KY,KY]at I3
 refine fM ⟨plainId_quiet ci _,?_⟩
 have up:∀b o,H b=some o→upd H s.heap.objs.size (.lst []) b=some o:=fun b o e=>by rw[Aj (Af e hfr)];exact e
 have sq:∀{l:fG} {zs:List V},AD X.K H l zs→AD X.K (upd H s.heap.objs.size (.lst [])) l zs:=fun q=>by
  rcases q with(q|⟨o,q⟩)|q
  ·exact .inl (.inl (up _ _ q))
  ·exact .inl (.inr ⟨o,up _ _ q⟩)
  ·exact .inr q
 have nl:∀{l:fG} {zs:List V},AD X.K H l zs→l≠s.heap.objs.size:=fun{l zs} q=>by
  obtain⟨_,_,pl,_⟩:=I.list q
  obtain⟨o,ho,_⟩:=pl.isList
  exact ba (Heap.lt_size ho)
 have keep:∀b o,b≠s.heap.objs.size→s.heap.get? b=some o→((((s.heap.push { cls:=.type "list",data:=.seq #[] }).update s.heap.objs.size (Obj.mapSeq (fun _=>(#[]:Array fF)))).update s.heap.objs.size (Obj.mapSeq (·.push fF.none))).update s.heap.objs.size (Obj.mapSeq (·.pop))).get? b=some o:=fun b o n e=>
  (hot _ _ _ n).trans ((hot _ _ _ n).trans ((hot _ _ _ n).trans (Heap.get?_push_of_some _ e)))
 refine PY (A:=X.A.in1) (by rw[fQ.in1_handled,fQ.in1_handled];exact I.ok.hd hc) D hxy hn .none xs.length 0 _ _ [] rfl (bw _) I3 (sq q1) (sq q2) Ad rfl (fun j T hj=>by cases hj) ⟨.inl ⟨rfl,keep _ _ (nS z (by simp)) hz,?_⟩,keep _ _ (nS TI (by simp)) hTI,h1.at fun o e=>keep _ _ (nS i1 (by simp)) e,h2.at fun o e=>keep _ _ (nS i2 (by simp)) e⟩ (fun b hb=>?_) (fun b hb=>?_) (nl q1) (nl q2) fun s' H' Ts' a1 a2 a3 a4 a5=>?_
 ·obtain⟨a,b,hTO⟩:=hTO
  exact⟨a,b,keep _ _ (nS TO (by simp)) hTO⟩
 ·obtain⟨f0,f1⟩:=hf b hb
  exact⟨by rw[Aj (nS b hb)];exact f0,f1⟩
 ·exact aZ (hlt b hb) (aU (c7 _) (cA (by rw[(Heap.SameBut.update ..).1,(Heap.SameBut.update ..).1,(Heap.SameBut.update ..).1,Heap.size_push])))
 ·exact⟨rfl,.ref s.heap.objs.size,H',a1,rfl,q _ Ts' H' (fun b o e=>a2 b o (up b o e) (Af e hfr)) hfr a3 a4 a5⟩
def P5(K:aj)(ta:TA):TE:=fun σ H Q=>ta σ H fun vs H1=>∃l1 l2 xs ys,vs=[.ref l1,.ref l2]∧AD K H1 l1 xs∧AD K H1 l2 ys∧xs.length=ys.length∧xs.length≤1000 ∧
 ∀(l:fG) (Ts:List fG) (H':Hp),An H1 H'→H1 l=none→H' l=some (.lst (Ts.map V.ref))→Ts.length=xs.length→Iv H' xs ys Ts→Q (.ref l) H'
theorem Nk{a b:Expr}{ta:TA}{p p2 pos pos2:Pos}(hc:X.calm=true)(hgl:Gl X "list")(hml:X.mg "list" = none)(hgz:Gl X "zip")(hmz:X.mg "zip" = none)(ha:PA X [a,b] ta)
  (hs:gj [.Call (.Name "zip" p2) [a,b] [] pos2] X.env=[(false,eval (.Call (.Name "zip" p2) [a,b] [] pos2) X.env)]:=by rfl) (hs2:gj [a,b] X.env=(false,eval a X.env)::gj [b] X.env:=by rfl)
  (hpl:(backTo pos2 (gj [b] X.env)).any (·.1)=false:=by rfl):PE X (.Call (.Name "list" p) [.Call (.Name "zip" p2) [a,b] [] pos2] [] pos) (P5 X.K ta):=by
 intro pins s σ H Q I h
 refine fW (E6 I hgl hml (by decide +kernel:gf "list" = some (.type "list")) ?_)
 refine PyProof.Rows.callWith_type1 ?_ hs rfl
 rw[hs]
 show wpAny _ _ (spliced ((false,eval (.Call (.Name "zip" p2) [a,b] [] pos2) X.env)::backTo pos [])) _ _ s
 refine Calls.spliced_cons ?_
 refine fW (E6 I hgz hmz (by decide +kernel:gf "zip" = some (.type "zip")) ?_)
 refine PyProof.Rows.callWith_type1 (B0 (ha pos2 pins s σ H _ I h) fun us s1 ⟨vs,H1,I1,r1,q1⟩=>?_) hs2 hpl
 obtain⟨l1,l2,xs,ys,rfl,sq1,sq2,hxy,hn,q⟩:=q1
 obtain⟨u,u',rfl,ru,ru'⟩:=r1.two
 cases (show u=fF.ref l1 from ru)
 cases (show u'=fF.ref l2 from ru')
 obtain⟨its,rv,pl,hz⟩:=I1.list sq1
 obtain⟨its2,rv2,pl2,hz2⟩:=I1.list sq2
 refine call_zip_2 pl.isList pl2.isList fun h' hz hTI hTO hi1 hi2 hsz hk=>?_
 have I2:AR X pins σ H1 { s1 with heap:=h' }:=I1.kept (t':=s1.toks) hk
 have o1:l1<s1.heap.objs.size:=by obtain⟨o,ho,_⟩:=pl.isList;exact Heap.lt_size ho
 have o2:l2<s1.heap.objs.size:=by obtain⟨o,ho,_⟩:=pl2.isList;exact Heap.lt_size ho
 have D:ZipApart (s1.heap.objs.size+4) (s1.heap.objs.size+2) (s1.heap.objs.size+3) s1.heap.objs.size (s1.heap.objs.size+1) l1 l2:=PySem.W.ktu_apart _ _ _ o1 o2
 refine Calls.spliced_nil ?_
 refine J9 hc I2 D sq1 sq2 hxy hn hz hTI ⟨_,_,hTO⟩ hi1 hi2 (fun b hb=>?_) q
 have fp:∀b,s1.heap.objs.size≤b→HE X pins H1 b:=fun b hb=>I1.fpOk hb (I1.hok.fresh hb)
 refine fp b ?_
 simp only[aG,List.not_mem_nil,or_false]at hb
 show s1.heap.objs.size≤(b:Nat)
 rcases hb with rfl|rfl|rfl|rfl|rfl<;>first|exact aE _|exact Nat.le_add_right _ _
def tDict1(F:EQ)(tk tv:TE):TE:=fun σ H Q=>∀p,H p=none→tk σ (upd H p (ND p [])) fun x H1=>tv σ H1 fun v H2=>∃a k,x=.ref a∧NQ F H2 p []∧DR H2 k (.ref a)∧F.fit k∧Q (.ref p) (upd H2 p (ND p [(k,a,v)]))
theorem Qn(F:EQ)(hu:X.A.units+64<cLine){k v:Expr}{tk tv:TE}{pos:Pos}(hk:PE X k tk)(hv:PE X v tv):PE X (.Dict [some k] [v] pos) (tDict1 F tk tv):=by
 intro pins s σ H Q I h
 have h0:=h s.heap.objs.size (I.hok.fresh (aE _))
 have g:=Heap.get?_push_size s.heap (o:={ cls:=.type "dict",data:=.dict #[] }) rfl
 have I0:AR X pins σ (upd H s.heap.objs.size (ND s.heap.objs.size [])) { s with heap:=s.heap.push { cls:=.type "dict",data:=.dict #[] } }:=
  I.laid (a:=s.heap.objs.size) (o:=ND s.heap.objs.size []) (t':=s.toks) (fun _ _ q=>Heap.get?_push_of_some _ q) (aE _)
   ⟨⟨beq_eq_false_iff_ne.mpr (Ne.symm (ba (NW I))),_,#[],0,[],g,⟨rfl,rfl,rfl⟩,rfl,.nil,rfl⟩,⟨_,g⟩,fun h1 h2 p k=>GW _ _ h1 h2 p k⟩
 refine wpAny_Dict_any rfl rfl (by intro z;cases z) (by show 1≤15;decide) ?_
 show wpAny _ _ (evalPairs [(eval k X.env,do let x ← eval v X.env;standAt pos;pure x)]) _ _ _
 refine evalPairs_cons ?_
 refine B0 (hk pins _ σ _ _ I0 h0) fun kv s1 ⟨x,H1,I1,r1,q1⟩=>?_
 refine fH (B0 (hv pins s1 σ H1 _ I1 q1) fun vv s2 ⟨y,H2,I2,r2,q2⟩=>?_)
 refine fH (gc (fM ?_))
 refine evalPairs_nil ?_
 obtain⟨a,kk,rfl,hN,ht,hf,q⟩:=q2
 cases r1
 unfold storeAll
 simp only[cx,dY]
 obtain⟨hs,xs,h4,hD⟩:=GX I2 hN
 cases h4
 refine fH (fH (wpAny_dictSet_heap (knd:=FK X.prog X.w F) (by show X.A.units+8<cLine;omega) ⟨ht.tv I2 rfl,hf⟩ hD (fun h' hm' hs'=>fM (fM ?_)) (by show 0≤fL;decide)))
 have est:storedH ([]:List (Tr×fG×fF)) kk a vv=[]++[(kk,a,vv)]:=storedH_new rfl a vv
 rw[est]at hm'
 obtain⟨o',es',ep',g1,g2,g3,g4,g5,g6⟩:=hm'
 refine⟨.ref s.heap.objs.size,_,I2.write (x:=s.heap.objs.size) (e:=s.heap.objs.size) (by rw[hN.ob];exact True.intro) (.inl rfl) (fun b q hb y=>(hs'.2 b hb).trans y) ⟨_,g1⟩ ?_,rfl,q⟩
 exact⟨⟨hs,o',es',ep',_,g1,g2,g3,.cons ⟨rfl,rfl,r2⟩ .nil,g4⟩,⟨_,g1⟩,fun h1 h2 p k=>GW _ _ h1 h2 p k⟩
end
section
variable{X:Cx}
def rCatB(K:aj):R2:=fun x y H Q=>∃a b xs ys,x=.ref a∧y=.ref b∧A2 K H a xs∧A2 K H b ys∧ys≠[]∧xs.length+ys.length≤fL ∧
 (xs=[]→Q (.ref b) H)∧(xs≠[]→∀p,H p=none→Q (.ref p) (upd H p (.tup (xs++ys))))
theorem Lm:G9 X (binaryOp .Add) (rCatB X.K):=by
 intro pins s σ H x y v u Q I rx ry h
 obtain⟨a,b,xs,ys,rfl,rfl,ha,hb,hy,hz,q1,q2⟩:=h
 by_cases hx:xs=[]
 ·cases rx
  cases ry
  obtain⟨its,r1,p1,_⟩:=I.tuple ha
  obtain⟨its2,r2,p2,_⟩:=I.tuple hb
  obtain⟨⟨cls,dd,data,sl⟩,ho,hc,n,hd⟩:=id p1
  obtain⟨⟨cls2,dd2,data2,sl2⟩,ho2,hc2,n2,hd2⟩:=id p2
  simp only at hc hd hc2 hd2
  subst hc hd hc2 hd2
  have hi:its=[]:=r1.nil_iff.mpr hx
  exact concat_meets ⟨_,ho,rfl⟩ ⟨_,ho2,rfl⟩ noFill_tuple_add seq_tuple_add cP cI (cE _ _)
   (tuple_addW0 a b its.toArray its2.toArray n n2 dd dd2 sl sl2 (by simp[hi])) ⟨ho,ho2,⟨.ref b,H,I,rfl,q1 hx⟩⟩
 ·exact RS pins s σ H _ _ v u Q I rx ry ⟨a,b,xs,ys,rfl,rfl,ha,hb,hx,hz,fun z=>absurd z hy,fun _=>q2 hx⟩
end
end L2
set_option maxHeartbeats 4000000
namespace Toy
open PySem L2
seal PySem.wpAny
def CM(i:Nat):Stmt:=PySem.Challenge.pw_chartfold_k17_whole_leaned_machine.main.body.getD i (.Pass ⟨0,0,0,0⟩)
abbrev Og:Stmt:=OE (CM 20) 0
abbrev Cq:Stmt:=CM 21
abbrev B9:Stmt:=CM 22
abbrev CT:Stmt:=CM 23
abbrev Ca:Stmt:=CM 24
abbrev Cr:Stmt:=CM 25
abbrev Kq:Stmt:=CM 26
abbrev BS:Stmt:=CM 27
abbrev B1:Stmt:=CM 28
abbrev GQ:Stmt:=CM 29
abbrev FP:Stmt:=CM 30
abbrev Eh:Stmt:=CM 32
abbrev DC:Stmt:=CM 33
abbrev Ev:Stmt:=CM 34
abbrev CZ:Stmt:=CM 35
abbrev Dj:Stmt:=CM 36
abbrev CS:Stmt:=CM 37
abbrev B3:Stmt:=CM 38
abbrev Fo:Stmt:=CM 39
abbrev Kr:Stmt:=CM 40
abbrev Ei:Stmt:=CM 41
abbrev DD:Stmt:=CM 42
abbrev Ey:Stmt:=CM 43
abbrev DH:Stmt:=CM 44
abbrev FQ:Stmt:=CM 45
abbrev Cp:Stmt:=CM 46
abbrev Hi:Stmt:=CM 47
abbrev GR:Stmt:=CM 67
abbrev Hk:Stmt:=CM 68
abbrev Ex:Stmt:=CM 69
abbrev Ew:Stmt:=CM 70
abbrev FV:Stmt:=CM 71
abbrev EW:Stmt:=CM 72
abbrev IT:Stmt:=CM 73
abbrev Hj:Stmt:=CM 74
abbrev FR:Stmt:=CM 75
abbrev Kt:Stmt:=CM 76
abbrev Fq:Stmt:=CM 77
abbrev Nd:Stmt:=CM 80
abbrev IU:Stmt:=OE (CM 52) 0
abbrev Fp:Stmt:=CM 53
abbrev Ks:Stmt:=CM 54
abbrev DV:Stmt:=CM 78
abbrev FT:Stmt:=CM 79
abbrev Ku:Stmt:=CM 55
abbrev FU:Stmt:=CM 56
abbrev DB:Stmt:=CM 81
abbrev Cy:Stmt:=CM 83
abbrev CU:Stmt:=CM 64
abbrev IS:Stmt:=CM 65
abbrev FW:Stmt:=CM 58
abbrev DI:Stmt:=CM 59
abbrev Fn:Stmt:=CM 60
abbrev Hm:Stmt:=CM 61
abbrev IR:Stmt:=CM 62
abbrev CY:Stmt:=CM 63
abbrev Hl:Stmt:=CM 82
abbrev FB:Stmt:=CM 84
theorem Ag{H:Hp}{p:fG}(h:H p=none)(o:HO):An H (upd H p o):=fun b u q=>by rw[Aj (Af q h)];exact q
theorem AH{H H1:Hp}{p:fG}(h:An H H1)(hp:H p=none)(o:HO):An H (upd H1 p o):=fun b u q=>by rw[Aj (Af q hp)];exact h b u q
theorem GL{n:Nat}(h:n≤1000):n≤fL:=dm (Aw h)
def AL(H:Hp)(ps:List fG)(os:List (List V)):Prop:=ps.length=os.length∧∀(i:Nat) p o,ps[i]?=some p→os[i]?=some o→H p=some (.tup o)
theorem AL.same{H H':Hp}{ps:List fG}{os:List (List V)}(s:An H H')(h:AL H ps os):AL H' ps os:=⟨h.1,fun i p o a b=>s _ _ (h.2 i p o a b)⟩
theorem AL.at{H:Hp}{ps:List fG}{os:List (List V)}(h:AL H ps os){i:Nat}{o:List V}(e:os[i]?=some o):∃p,(ps.map V.ref)[i]?=some (.ref p)∧H p=some (.tup o):=by
 obtain⟨hi,_⟩:=af.mp e
 have hi':i<ps.length:=by rw[h.1];exact hi
 refine⟨ps[i],by rw[av,aa hi'];rfl,h.2 i _ o (aa hi') e⟩
theorem AL.snoc{H:Hp}{ps:List fG}{os:List (List V)}{p:fG}{o:List V}(h:AL H ps os)(hp:H p=some (.tup o)):AL H (ps++[p]) (os++[o]):=by
 refine⟨by simp[h.1],fun i q u a b=>?_⟩
 by_cases hi:i<ps.length
 ·rw[aO hi]at a
  rw[aO (by rw[← h.1];exact hi)]at b
  exact h.2 i q u a b
 ·have hl:=h.1
  rw[aT (by omega)]at a
  rw[aT (by omega)]at b
  have e1:i - ps.length=0:=by
   cases z:i - ps.length with
   | zero=>rfl
   | succ n=>rw[z]at a;simp at a
  have e2:i - os.length=0:=by omega
  rw[e1]at a
  rw[e2]at b
  simp at a b
  subst a b
  exact hp
abbrev Ai:=Int×Str
abbrev Ap:=Int×Int×Int×Int×Int
def rV(r:Ai):List V:=[.int r.1,.str r.2]
def aV(a:Ap):List V:=[.int a.1,.int a.2.1,.int a.2.2.1,.int a.2.2.2.1,.int a.2.2.2.2]
def Ae(R:List Ai):List Int:=R.map (·.1)
theorem Ay(R:List Ai):(Ae R).length=R.length:=by simp[Ae]
theorem Ck{R:List Ai}{i:Nat}{r:Ai}(h:R[i]?=some r):Rm.hold (Ae R) i=r.1:=by
 unfold Rm.hold Ae
 rw[ag,av,h];rfl
theorem kr:¬(("rooms" : Str) = "arrows"):=by decide +kernel
def PD(l m:fG):List (Str×V):=Bu "arrows" (.ref m) (Bu "rooms" (.ref l) [])
theorem Ba(l m:fG):(PD l m).lookup ("rooms" : Str)=some (.ref l):=by
 unfold PD
 rw[Bs,if_neg kr,Bs,if_pos rfl]
theorem Bz(l m:fG):(PD l m).lookup ("arrows" : Str)=some (.ref m):=by
 unfold PD
 rw[Bs,if_pos rfl]
structure A7(C:fG)(H:Hp)(c:fG)(R:List Ai)(A:List Ap):Prop where
 ob:∃dx l m ps qs,H c=some (.ins C dx (PD l m))∧H l=some (.lst (ps.map V.ref))∧AL H ps (R.map rV)∧H m=some (.lst (qs.map V.ref))∧AL H qs (A.map aV)
 rl:R.length≤100
 al:A.length≤100
theorem A7.same{C:fG}{H H':Hp}{c:fG}{R:List Ai}{A:List Ap}(s:An H H')(h:A7 C H c R A):A7 C H' c R A:=by
 obtain⟨dx,l,m,ps,qs,h1,h2,h3,h4,h5⟩:=h.ob
 exact⟨⟨dx,l,m,ps,qs,s _ _ h1,s _ _ h2,h3.same s,s _ _ h4,h5.same s⟩,h.rl,h.al⟩
structure AX(R:List Ai):Prop where
 tree:Rm.Tree (Ae R)
 most:R.length≤16
 kind:∀(i:Nat) r,R[i]?=some r→(r.2 = "plain"∨r.2 = "one"∨r.2 = "all"∨r.2 = "keep")∧(r.2 = "plain"↔Rm.kids (Ae R) i=[])
structure Al(K:aj)(mg:Str→Option fF)(x:Str)(st:Stmt)(ps:List Str)(f:fG)(fd:fO):Prop where
 fn:Fun K x x st f fd
 bd:Fg K fd ps []
 mg:mg x=some (.ref f)
structure DP(K:aj)(mg:Str→Option fF)(C:fG):Prop where
 cl:Rw K C
 nR:CK K C "rooms"
 nA:CK K C "arrows"
 mgC:mg "Chart" = some (.ref C)
 len:mg "len" = none
 range:mg "range" = none
 list:mg "list" = none
 inst:mg "isinstance" = none
 tbool:mg "bool" = none
 tint:mg "int" = none
 tup:mg "tuple" = none
 srt:mg "sorted" = none
 enum:mg "enumerate" = none
 hold:∃t,mg "HOLDER" = some (.int 0 t)
 kind:∃t,mg "KIND" = some (.int 1 t)
 nil:∃t,mg "NONE" = some (.int (-1) t)
 src:∃t,mg "SOURCE" = some (.int 0 t)
 evt:∃t,mg "EVENT" = some (.int 1 t)
 grd:∃t,mg "GUARD" = some (.int 2 t)
 tgt:∃t,mg "TARGET" = some (.int 3 t)
 ded:∃t,mg "DEED" = some (.int 4 t)
 lastE:∃t,mg "LAST_EVENT" = some (.int 3 t)
 lastD:∃t,mg "LAST_DEED" = some (.int 99 t)
 mostR:∃t,mg "MOST_ROOMS" = some (.int 16 t)
 mostA:∃t,mg "MOST_ARROWS" = some (.int 20 t)
 choosing:∃a,mg "CHOOSING" = some (.ref a)∧∀H,A2 K H a [.str "one",.str "keep"]
 kinds:∃a,mg "KINDS" = some (.ref a)∧∀H,A2 K H a [.str "plain",.str "one",.str "all",.str "keep"]
 ll:bu K (.type "list") (.type "list")=some true
 bb:bu K (.type "bool") (.type "bool")=some true
 ii:bu K (.type "int") (.type "int")=some true
 ib:bu K (.type "int") (.type "bool")=some false
 pp:bu K (.type "tuple") (.type "tuple")=some true
theorem AG{X:Cx}{x:Str}{i:Int}{pos:Pos}(h:∃t,X.mg x=some (.int i t))(hg:Gl X x)(hd:(x==("__debug__" : Str))=false:=by decide):PE X (.Name x pos) (tC (.int i)):=by
 obtain⟨t,h⟩:=h
 exact Im hg h ⟨t,rfl⟩ hd
section
variable{P:fP}{w:fS}{K:aj}{mg:Str→Option fF}{base:Heap}
def Ep(C:fG):Sp:=fun vs H Q _=>∃(c:fG) (R:List Ai) (A:List Ap) (k:Int),vs=[.ref c,.int k]∧A7 C H c R A ∧
 ∀(l:fG) (H':Hp),H l=ae→An H H'→H' l=some (.lst ((Rm.kids (Ae R) k).map V.int))→Q (.ref l) H'
theorem Nc:AA ["chart", "room"] ["chart", "room"] (Am BS):=⟨rfl,rfl,rfl,by decide +kernel,rfl,by decide +kernel,by decide +kernel⟩
theorem E3{f C:fG}{fd:fO}(D:Al K mg "children" BS ["chart", "room"] f fd)(T:DP K mg C):AC P w K mg base A6 1 f fd ["chart", "room"] (Ep C):=by
 refine D.fn.ok Nc (fun vs H Q E h=>?_) (fun cdv A outer s H vs Q E hr h=>?_)
 ·obtain⟨c,R,As,k,rfl,_⟩:=h
  rfl
 obtain⟨c,R,As,k,rfl,hC,q⟩:=h
 refine⟨_,Ak (AK (BW ["inner", "chart", "room"] [ae,some 0,some 1] rfl
  (AV rfl T.range (Aa (AF At (by rfl) T.len PySem.boot_len (Aa (A3 (pv 0) rfl) Ab)) Ab))
  (fun _=>Az (i:=0) (show(["inner", "chart", "room"]:List Str).Nodup by decide +kernel) rfl (Or.inl rfl))
  (fun _=>DW (AB B4 (Ao Av (Ao Au (A3 (pv 1) rfl) (pv 0) (fun _ _=>rfl)) (AG T.hold rfl) (fun _ _=>rfl)) (pv 2) (AS _)))
  (fun _=>pv 0) (N:=["chart", "room"]) (ks:=(Am BS).names) rfl rfl (by decide +kernel) (by decide +kernel) (by decide +kernel) (by decide +kernel))),?_⟩
 obtain⟨dx,l,m,ps,qs,h1,h2,h3,h4,h5⟩:=hC.ob
 have hl:(ps.map V.ref).length=R.length:=by rw[ac,h3.1,ac]
 have hrl:=hC.rl
 refine⟨_,rfl,c,C,dx,_,_,rfl,h1,T.cl,T.nR,Ba l m,l,_,rfl,.inl (AD.of h2),_,rfl,by rw[hl];omega,by rw[hl];omega,fun bk D hD=>?_⟩
 rw[hl]
 refine DN (Pv:=fun i ys σ H'=>∃v,σ=[v,some (.ref c),some (.int k)]∧ys=(((ak i).filter fun j=>decide (Rm.hold (Ae R) j=k)).map fun(j:Nat)=>V.int (j:Int))∧An H H') ⟨_,rfl,rfl,Ag hD _⟩ ?_ ?_
 ·rintro i ys σ H1 hi hDi ⟨v,rfl,hys,(s1:An _ _)⟩
  have hi':i<R.length:=by simpa using hi
  have er:(R.map rV)[i]?=some (rV R[i]):=by rw[av,aa hi'];rfl
  obtain⟨p,hp,hp2⟩:=h3.at er
  have ei:(0:Int)+(i:Int)=(i:Int):=by omega
  refine⟨_,rfl,c,C,dx,_,_,rfl,s1 _ _ h1,T.cl,T.nR,Ba l m,_,rfl,l,_,_,_,rfl,rfl,AD.of (s1 _ _ h2),by rw[ei];exact Bo hp,p,_,_,_,rfl,rfl,A2.of (s1 _ _ hp2),rfl,_,rfl,rfl,_,rfl,?_⟩
  have eh:Rm.hold (Ae R) i=R[i].1:=Ck (aa hi')
  refine DT (fun z=>?_) (fun z=>?_)
  ·have z':R[i].1=k:=by simpa using z
   refine⟨_,rfl,hDi,?_,⟨_,rfl,?_,AH s1 hD _⟩⟩
   ·rw[hys,ac]
    have:=aL (fun j=>decide (Rm.hold (Ae R) j=k)) (ak i)
    rw[aF]at this
    exact Aw (by omega)
   ·rw[Rm.range_filter_succ,if_pos (by rw[eh];exact decide_eq_true z'),am,← hys,ei];rfl
  ·have z':¬R[i].1=k:=by simpa using z
   refine⟨hDi,⟨_,rfl,?_,s1⟩⟩
   rw[Rm.range_filter_succ,if_neg (by rw[eh];simpa using z'),bn];exact hys
 ·rintro ys σ H1 hDn ⟨v,rfl,hys,(s1:An _ _)⟩
  refine q D H1 hD s1 ?_
  rw[hDn,hys]
  unfold Rm.kids
  rw[bx,Ay]
  have e:((R.length:Int)).toNat=R.length:=by omega
  rw[e];rfl
def ES(C:fG):Sp:=fun vs H Q _=>∃(c:fG) (R:List Ai) (A:List Ap) (i j:Nat),vs=[.ref c,.int i,.int j]∧A7 C H c R A∧Rm.Tree (Ae R)∧i<R.length ∧
 Q (.bl (Rm.wi (Ae R) i j)) H
theorem IL:AA ["chart", "room", "other", "place"] ["chart", "room", "other"] (Am B1):=⟨rfl,rfl,rfl,by decide +kernel,rfl,by decide +kernel,by decide +kernel⟩
theorem Fu{f C:fG}{fd:fO}(D:Al K mg "within" B1 ["chart", "room", "other"] f fd)(T:DP K mg C):AC P w K mg base A6 1 f fd ["chart", "room", "other"] (ES C):=by
 refine D.fn.ok IL (fun vs H Q E h=>?_) (fun cdv A outer s H vs Q E hr h=>?_)
 ·obtain⟨c,R,As,i,j,rfl,_⟩:=h
  rfl
 obtain⟨c,R,As,i,j,rfl,hC,hT,hi,q⟩:=h
 refine⟨_,Ac (Ar (i:=3) IL.nd rfl (Or.inl rfl) (pv 1))
  (Ac (Ej fR.never (AB Mn (pv 3) (pv 2) (AS _))
   (Ak (Ar (i:=3) IL.nd rfl (Or.inl rfl) (Ao Av (Ao Au (A3 (pv 0) rfl) (pv 3) (fun _ _=>rfl)) (AG T.hold rfl) (fun _ _=>rfl)))))
  (Ak (AK (Fs B4 (pv 3) (pv 2) (AS _))))),?_⟩
 obtain⟨dx,l,m,ps,qs,h1,h2,h3,h4,h5⟩:=hC.ob
 refine⟨_,rfl,fun n σ H1=>∃p:Nat,σ=[some (.ref c),some (.int i),some (.int j),some (.int p)]∧H1=H∧p<R.length∧n=p∧Rm.wi (Ae R) i j=Rm.wi (Ae R) p j,⟨i,i,rfl,rfl,hi,rfl,rfl⟩,?_⟩
 rintro n σ H1 ⟨p,rfl,rfl,hp,rfl,ew⟩
 refine⟨_,rfl,_,rfl,_,_,rfl,rfl,_,rfl,?_⟩
 refine DT (fun z=>?_) (fun z=>?_)
 ·have z':(j:Int)<(n:Int):=by simpa using z
  have er:(R.map rV)[n]?=some (rV R[n]):=by rw[av,aa hp];rfl
  obtain⟨a,ha,ha2⟩:=h3.at er
  have eh:Rm.hold (Ae R) n=R[n].1:=Ck (aa hp)
  have hu:=hT.up n (by omega) (by rw[Ay];exact hp)
  rw[eh]at hu
  refine⟨fun σ' H'=>∃p':Nat,p'<n∧σ'=[some (.ref c),some (.int i),some (.int j),some (.int p')]∧H'=H1∧Rm.wi (Ae R) i j=Rm.wi (Ae R) p' j,?_,?_⟩
  ·rintro σ' H' ⟨p',hlt,rfl,rfl,e'⟩
   exact⟨p',hlt,p',rfl,rfl,by omega,rfl,e'⟩
  ·refine⟨_,rfl,c,C,dx,_,_,rfl,h1,T.cl,T.nR,Ba l m,_,rfl,l,_,_,_,rfl,rfl,AD.of h2,Bo ha,a,_,_,_,rfl,rfl,A2.of ha2,rfl,?_⟩
   refine⟨R[n].1.toNat,by omega,?_,rfl,?_⟩
   ·show [some (V.ref c),some (V.int i),some (V.int j),some (V.int R[n].1)]=_
    have e3:((R[n].1.toNat:Nat):Int)=R[n].1:=by omega
    rw[e3]
   ·rw[ew,Rm.wi_step (by rw[eh];exact hu) (by omega),eh]
 ·have z':¬(j:Int)<(n:Int):=by simpa using z
  refine⟨_,rfl,_,rfl,rfl,?_⟩
  rw[ew,Rm.wi_end (by omega)]at q
  have e:(decide (V.int (n:Int)=V.int (j:Int)))=decide (n=j):=decide_eq_decide.mpr ⟨fun y=>by injection y with y;omega,fun y=>by rw[y]⟩
  rw[e]
  exact q
theorem BE{H:Hp}{ps:List fG}{R:List Ai}(h3:AL H ps (R.map rV)){i:Nat}(hi:i<R.length):∃p,G6 (ps.map V.ref) (i:Int)=some (.ref p)∧H p=some (.tup (rV R[i])):=by
 have er:(R.map rV)[i]?=some (rV R[i]):=by rw[av,aa hi];rfl
 obtain⟨p,hp,hp2⟩:=h3.at er
 exact⟨p,Bo hp,hp2⟩
def GJ(C:fG):Sp:=fun vs H Q _=>∃(c:fG) (R:List Ai) (A:List Ap) (i:Nat),vs=[.ref c,.int i]∧A7 C H c R A∧AX R∧i<R.length∧∀H',An H H'→Q .non H'
theorem FD:AA ["chart", "room", "holder"] ["chart", "room"] (Am B9):=⟨rfl,rfl,rfl,by decide +kernel,rfl,by decide +kernel,by decide +kernel⟩
theorem Ib{f C:fG}{fd:fO}(D:Al K mg "check_holder" B9 ["chart", "room"] f fd)(T:DP K mg C):AC P w K mg base A6 1 f fd ["chart", "room"] (GJ C):=by
 refine D.fn.ok FD (fun vs H Q E h=>?_) (fun cdv A outer s H vs Q E hr h=>?_)
 ·obtain⟨c,R,As,i,rfl,_⟩:=h
  rfl
 obtain⟨c,R,As,i,rfl,hC,hG,hi,q⟩:=h
 refine⟨_,Ac (Ar (i:=2) FD.nd rfl (Or.inl rfl) (Ao Av (Ao Au (A3 (pv 0) rfl) (pv 1) (fun _ _=>rfl)) (AG T.hold rfl) (fun _ _=>rfl)))
  (Ac (A0 (AB B4 (pv 1) Ah (AS _))
   (Ac (A0 (AB E2 (pv 2) (AG T.nil rfl) (AS _)) AZ AJ) (Ak RO)) AJ)
  (Ak (A0 (C8 (GU Ky Om Ah (pv 2) (pv 1))) AZ AJ))),?_⟩
 obtain⟨dx,l,m,ps,qs,h1,h2,h3,h4,h5⟩:=hC.ob
 obtain⟨p,hp,hp2⟩:=BE h3 hi
 have eh:Rm.hold (Ae R) i=R[i].1:=Ck (aa hi)
 refine⟨_,rfl,c,C,dx,_,_,rfl,h1,T.cl,T.nR,Ba l m,_,rfl,l,_,_,_,rfl,rfl,AD.of h2,hp,p,_,_,_,rfl,rfl,A2.of hp2,rfl,?_⟩
 refine⟨_,rfl,rfl,_,rfl,?_⟩
 refine DT (fun z=>?_) (fun z=>?_)
 ·have z':i=0:=by
   have:(i:Int)=0:=by simpa using z
   omega
  have e0:R[i].1=-1:=by rw[← eh,z'];exact hG.tree.root
  refine⟨_,rfl,rfl,_,rfl,?_⟩
  refine Jn (show V.int R[i].1=V.int (-1) by rw[e0]) ?_
  exact q H (An.refl H)
 ·have z':¬i=0:=fun y=>z (by rw[y];rfl)
  have hu:=hG.tree.up i (by omega) (by rw[Ay];exact hi)
  rw[eh]at hu
  refine⟨_,rfl,_,_,rfl,rfl,_,rfl,?_⟩
  rw[decide_eq_true hu.1]
  refine Bw ?_
  refine⟨_,rfl,_,_,rfl,rfl,_,rfl,?_⟩
  rw[decide_eq_true hu.2]
  refine A9 ?_
  exact q H (An.refl H)
theorem ET:AA ["chart", "room", "kind", "inner"] ["chart", "room"] (Am CT):=⟨rfl,rfl,rfl,by decide +kernel,rfl,by decide +kernel,by decide +kernel⟩
theorem QS{x:Str}(h:x = "plain"∨x = "one"∨x = "all"∨x = "keep"):Ie (.str x) [.str "plain",.str "one",.str "all",.str "keep"]=true:=by
 rcases h with h|h|h|h<;>(subst h;decide +kernel)
theorem J4{f C fc:fG}{fd fdc:fO}(D:Al K mg "check_kind" CT ["chart", "room"] f fd)(T:DP K mg C)(Dc:Al K mg "children" BS ["chart", "room"] fc fdc):AC P w K mg base A6 2 f fd ["chart", "room"] (GJ C):=by
 have Gc:AC P w K mg base A6 1 fc fdc ["chart", "room"] (Ep C):=E3 Dc T
 refine D.fn.ok ET (fun vs H Q E h=>?_) (fun cdv A outer s H vs Q E hr h=>?_)
 ·obtain⟨c,R,As,i,rfl,_⟩:=h
  rfl
 obtain⟨c,R,As,i,rfl,hC,hG,hi,q⟩:=h
 obtain⟨aK,hK,sK⟩:=T.kinds
 refine⟨_,Ac (Ar (i:=2) ET.nd rfl (Or.inl rfl) (Ao Av (Ao Au (A3 (pv 0) rfl) (pv 1) (fun _ _=>rfl)) (AG T.kind rfl) (fun _ _=>rfl)))
  (Ac (A0 (AB Dq (pv 2) (Im rfl hK (v:=.ref aK) rfl) (by with_unfolding_all rfl)) AZ AJ)
  (Ac (Ar (i:=3) ET.nd rfl (Or.inl rfl) (Aq Gc hr rfl Dc.mg Dc.fn.kp Dc.bd .nil AE (Aa (pv 0) (Aa (pv 1) Ab))))
  (Ac (A0 (PW.pt (Eb (AB B4 (pv 2) Be (AS _)) (Dn (AB Mn (AF At (by rfl) T.len PySem.boot_len (Aa (pv 3) Ab)) Ah (AS _))))) AZ AJ)
  (Ak (A0 (PW.pt (Eb (AB E2 (pv 2) Be (AS _)) (Dn (AB B4 (AF At (by rfl) T.len PySem.boot_len (Aa (pv 3) Ab)) Ah (AS _))))) AZ AJ))))),?_⟩
 obtain⟨dx,l,m,ps,qs,h1,h2,h3,h4,h5⟩:=hC.ob
 obtain⟨p,hp,hp2⟩:=BE h3 hi
 obtain⟨hk1,hk2⟩:=hG.kind i R[i] (aa hi)
 refine⟨_,rfl,c,C,dx,_,_,rfl,h1,T.cl,T.nR,Ba l m,_,rfl,l,_,_,_,rfl,rfl,AD.of h2,hp,p,_,_,_,rfl,rfl,A2.of hp2,rfl,?_⟩
 refine⟨_,rfl,aK,_,rfl,.inr (sK _),rfl,by decide +kernel,_,rfl,?_⟩
 rw[if_pos rfl,QS hk1]
 refine A9 ?_
 refine⟨_,rfl,_,rfl,c,R,As,i,rfl,hC,fun d H1 hd s1 e1=>?_⟩
 have el:∀b:Bool,(if b=true then False else True)→b=false:=fun b h=>by cases b<;>simp_all
 refine⟨_,rfl,rfl,_,rfl,?_⟩
 by_cases hpl:R[i].2 = "plain"
 ·have e0:Rm.kids (Ae R) i=[]:=hk2.mp hpl
  rw[decide_eq_true (show V.str R[i].2=V.str "plain" by rw[hpl])]
  refine Bw ?_
  refine⟨_,rfl,d,_,rfl,.inl (AD.of e1),_,_,rfl,rfl,_,rfl,?_⟩
  rw[e0]
  refine A9 ?_
  refine⟨_,rfl,rfl,_,rfl,?_⟩
  rw[decide_eq_true (show V.str R[i].2=V.str "plain" by rw[hpl])]
  refine A9 ?_
  refine A9 ?_
  exact q H1 s1
 ·have e0:Rm.kids (Ae R) i≠[]:=fun z=>hpl (hk2.mpr z)
  have ne:¬V.str R[i].2=V.str "plain":=fun z=>hpl (by injection z)
  rw[decide_eq_false ne]
  refine A9 ?_
  refine A9 ?_
  refine⟨_,rfl,rfl,_,rfl,?_⟩
  rw[decide_eq_false ne]
  refine Bw ?_
  refine⟨_,rfl,d,_,rfl,.inl (AD.of e1),rfl,_,rfl,?_⟩
  have nz:¬V.int (((Rm.kids (Ae R) i).map V.int).length:Int)=V.int 0:=fun z=>by
   injection z with z
   rw[ac]at z
   exact e0 (cK.mp (by omega))
  rw[decide_eq_false nz]
  refine A9 ?_
  exact q H1 s1
def GG(C:fG):Sp:=fun vs H Q _=>∃(c:fG) (R:List Ai) (A:List Ap),vs=[.ref c]∧A7 C H c R A∧AX R∧∀H',An H H'→Q .non H'
theorem GO:AA ["chart", "room"] ["chart"] (Am Cq):=⟨rfl,rfl,rfl,by decide +kernel,rfl,by decide +kernel,by decide +kernel⟩
theorem Jg{f C fc fh fk:fG}{fd fdc fdh fdk:fO}(D:Al K mg "check_rooms" Cq ["chart"] f fd)(T:DP K mg C)(Dc:Al K mg "children" BS ["chart", "room"] fc fdc)
  (Dh:Al K mg "check_holder" B9 ["chart", "room"] fh fdh) (Dk:Al K mg "check_kind" CT ["chart", "room"] fk fdk):AC P w K mg base A6 3 f fd ["chart"] (GG C):=by
 have Gh:AC P w K mg base A6 1 fh fdh ["chart", "room"] (GJ C):=Ib Dh T
 have Gk:AC P w K mg base A6 2 fk fdk ["chart", "room"] (GJ C):=J4 Dk T Dc
 refine D.fn.ok GO (fun vs H Q E h=>?_) (fun cdv A outer s H vs Q E hr h=>?_)
 ·obtain⟨c,R,As,rfl,_⟩:=h
  rfl
 obtain⟨c,R,As,rfl,hC,hG,q⟩:=h
 refine⟨_,Ac (A0 (C8 (GU Ky Ky Ah (AF At (by rfl) T.len PySem.boot_len (Aa (A3 (pv 0) rfl) Ab)) (AG T.mostR rfl))) AZ AJ)
  (Ak (Bd fR.never rfl (AV rfl T.range (Aa (AF At (by rfl) T.len PySem.boot_len (Aa (A3 (pv 0) rfl) Ab)) Ab)) (Az (i:=1) GO.nd rfl (Or.inl rfl))
   (Ac (AT (Aq Gh (hr.mono (by decide)) rfl Dh.mg Dh.fn.kp Dh.bd .nil AE (Aa (pv 0) (Aa (pv 1) Ab))))
   (Ak (AT (Aq Gk hr rfl Dk.mg Dk.fn.kp Dk.bd .nil AE (Aa (pv 0) (Aa (pv 1) Ab)))))))),?_⟩
 obtain⟨dx,l,m,ps,qs,h1,h2,h3,h4,h5⟩:=hC.ob
 have hl:(ps.map V.ref).length=R.length:=by rw[ac,h3.1,ac]
 have hm:=hG.most
 have h0:=hG.tree.pos
 rw[Ay]at h0
 refine⟨_,rfl,c,C,dx,_,_,rfl,h1,T.cl,T.nR,Ba l m,l,_,rfl,.inl (AD.of h2),_,_,rfl,rfl,_,rfl,?_⟩
 rw[hl,decide_eq_true (show(1:Int)≤(R.length:Int) by omega)]
 refine Bw ?_
 refine⟨_,_,rfl,rfl,_,rfl,?_⟩
 rw[decide_eq_true (show(R.length:Int)≤(16:Int) by omega)]
 refine A9 ?_
 refine⟨_,rfl,c,C,dx,_,_,rfl,h1,T.cl,T.nR,Ba l m,l,_,rfl,.inl (AD.of h2),_,rfl,by rw[hl];omega,by rw[hl];omega,?_⟩
 rw[hl]
 refine Bh (fun i σ H1=>∃v,σ=[some (.ref c),v]∧An H H1) ⟨_,rfl,An.refl H⟩ ?_ ?_
 ·rintro i σ H1 hi ⟨v,rfl,(s1:An _ _)⟩
  have hi':i<R.length:=by omega
  have ei:(0:Int)+(i:Int)=(i:Int):=by omega
  rw[ei]
  refine⟨_,rfl,_,rfl,c,R,As,i,rfl,hC.same s1,hG,hi',fun H2 s2=>?_⟩
  refine⟨_,rfl,_,rfl,c,R,As,i,rfl,hC.same (s1.trans s2),hG,hi',fun H3 s3=>?_⟩
  exact⟨_,rfl,s1.trans (s2.trans s3)⟩
 ·rintro σ H1 ⟨v,rfl,(s1:An _ _)⟩
  exact q H1 s1
def HK(i:Int):Str:=(["one", "all", "keep", "one"]:List Str).getD i.toNat "one"
def lk(ns:List Int)(m k:Nat):Str:=if(k:Int)∈Rm.holders ns m then HK (Rm.cell ns k / 16 % 4) else "plain"
def CA(ns:List Int)(m:Nat):List Ai:=(ak m).map fun k=>(Rm.lh ns k,lk ns m k)
theorem EB(ns:List Int)(m:Nat):(CA ns m).length=m:=by simp[CA]
theorem HR(ns:List Int)(m:Nat):Ae (CA ns m)=Rm.holders ns m:=by
 unfold Ae CA Rm.holders
 rw[bx];rfl
theorem Lv{ns:List Int}{m i:Nat}{r:Ai}(h:(CA ns m)[i]?=some r):i<m∧r=(Rm.lh ns i,lk ns m i):=by
 have hi:i<m:=by
  have:=(af.mp h).1
  rw[EB]at this;exact this
 refine⟨hi,?_⟩
 unfold CA at h
 rw[av,bv hi]at h
 exact(br.inj h).symm
theorem Qk(i:Int):HK i = "one"∨HK i = "all"∨HK i = "keep":=by
 unfold HK
 rcases Nat.lt_or_ge i.toNat 4 with h|h
 ·have:i.toNat=0∨i.toNat=1∨i.toNat=2∨i.toNat=3:=by omega
  rcases this with e|e|e|e<;>rw[e]
  ·exact .inl rfl
  ·exact .inr (.inl rfl)
  ·exact .inr (.inr rfl)
  ·exact .inl rfl
 ·rw[ag,bA (by simpa using h)]
  exact .inl rfl
theorem J7(ns:List Int){m:Nat}(h0:0<m)(h1:m≤16):AX (CA ns m):=by
 refine⟨by rw[HR];exact Rm.holders_tree ns h0,by rw[EB];exact h1,fun i r hr=>?_⟩
 obtain⟨hi,rfl⟩:=Lv hr
 rw[HR]
 show(lk ns m i = "plain"∨lk ns m i = "one"∨lk ns m i = "all"∨lk ns m i = "keep")∧(lk ns m i = "plain"↔_)
 unfold lk
 by_cases hm:(i:Int)∈Rm.holders ns m
 ·rw[if_pos hm]
  have hp:=Qk (Rm.cell ns i / 16 % 4)
  refine⟨.inr hp,fun z=>?_,fun z=>absurd z (Rm.mem_holders.mp hm)⟩
  rw[z]at hp
  rcases hp with e|e|e
  ·exact absurd e (by decide +kernel)
  ·exact absurd e (by decide +kernel)
  ·exact absurd e (by decide +kernel)
 ·rw[if_neg hm]
  refine⟨.inl rfl,fun _=>?_,fun _=>rfl⟩
  exact Classical.byContradiction fun z=>hm (Rm.mem_holders.mpr z)
theorem Dy(k:Int)(xs:List Int):Ie (.int k) (xs.map V.int)=decide (k∈xs):=by
 unfold Ie
 induction xs with
 | nil=>rfl
 | cons x r ih=>
  rw[aY,cF,ih]
  have e:Sj (V.int x) (V.int k)=decide (x=k):=by
   show(x==k)=decide (x=k)
   by_cases h:x=k<;>simp[h]
  rw[e]
  by_cases h:x=k
  ·subst h;simp
  ·have h':¬k=x:=fun z=>h z.symm
   simp[h,h']
theorem Cd(xs:List Int):(xs.map V.int).all G4=true:=by
 induction xs with
 | nil=>rfl
 | cons x r ih=>rw[aY,eH,ih];rfl
theorem CC{ns:List Int}{k:Nat}(h:k<ns.length):G6 (ns.map V.int) (k:Int)=some (.int ns[k]):=Bo (by rw[av,aa h];rfl)
def IH(K:aj):Sp:=fun vs H Q _=>∃(a:fG) (ns:List Int) (k:Nat),vs=[.ref a,.int k]∧AD K H a (ns.map V.int)∧Q (.int (Rm.cell ns k)) H
theorem scCell:AA ["script", "k"] ["script", "k"] (Am GR):=⟨rfl,rfl,rfl,by decide +kernel,rfl,by decide +kernel,by decide +kernel⟩
theorem Io{f C:fG}{fd:fO}(D:Al K mg "_law_cell_at" GR ["script", "k"] f fd)(T:DP K mg C):AC P w K mg base A6 1 f fd ["script", "k"] (IH K):=by
 refine D.fn.ok scCell (fun vs H Q E h=>?_) (fun cdv A outer s H vs Q E hr h=>?_)
 ·obtain⟨a,ns,k,rfl,_⟩:=h
  rfl
 obtain⟨a,ns,k,rfl,hS,q⟩:=h
 refine⟨_,Ac (A0 (AB Om (pv 1) (AF At (by rfl) T.len PySem.boot_len (Aa (pv 0) Ab)) (AS _)) (Ak (AK (Ao Au (pv 0) (pv 1) (fun _ _=>rfl)))) AJ)
  (Ak (AK Ah)),?_⟩
 refine⟨_,rfl,_,rfl,a,_,rfl,.inl hS,_,_,rfl,rfl,_,rfl,?_⟩
 rw[ac]
 refine DT (fun z=>?_) (fun z=>?_)
 ·have z':k<ns.length:=by
   have:(k:Int)<(ns.length:Int):=by simpa using z
   omega
  refine⟨_,rfl,_,rfl,a,_,_,_,rfl,rfl,hS,CC z',?_⟩
  have e:Rm.cell ns k=ns[k]:=by
   unfold Rm.cell
   rw[ag,aa z'];rfl
  rw[e]at q
  exact q
 ·have z':¬k<ns.length:=fun y=>z (by simpa using y)
  have e:Rm.cell ns k=0:=by
   unfold Rm.cell
   rw[ag,bA (by omega)];rfl
  rw[e]at q
  exact q
def N4(K:aj):Sp:=fun vs H Q _=>∃(a:fG) (ns:List Int) (m:Nat),vs=[.ref a,.int m]∧AD K H a (ns.map V.int)∧0<m∧m≤16 ∧
 ∀(r:fG) (ps:List fG) (H':Hp),H r=ae→An H H'→H' r=some (.lst (ps.map V.ref))→AL H' ps ((CA ns m).map rV)→Q (.ref r) H'
theorem Es:AA ["script", "many", "holders", "k", "rooms", "kind"] ["script", "many"] (Am Hk):=⟨rfl,rfl,rfl,by decide +kernel,rfl,by decide +kernel,by decide +kernel⟩
theorem Qq{f C fc:fG}{fd fdc:fO}(D:Al K mg "_law_rooms" Hk ["script", "many"] f fd)(T:DP K mg C)(Dc:Al K mg "_law_cell_at" GR ["script", "k"] fc fdc):AC P w K mg base A6 2 f fd ["script", "many"] (N4 K):=by
 have Gc:AC P w K mg base A6 1 fc fdc ["script", "k"] (IH K):=Io Dc T
 refine D.fn.ok Es (fun vs H Q E h=>?_) (fun cdv A outer s H vs Q E hr h=>?_)
 ·obtain⟨a,ns,m,rfl,_⟩:=h
  rfl
 obtain⟨a,ns,m,rfl,hS,h0,h16,q⟩:=h
 refine⟨_,Ac (Ar (i:=2) Es.nd rfl (Or.inl rfl) (Bj (Aa (EH C7 Ah) Ab)))
  (Ac (Bd fR.never rfl (Kx rfl T.range (Aa Ah (Aa (pv 1) Ab))) (Az (i:=3) Es.nd rfl (Or.inl rfl))
   (Ak (AT (BF ax aB aD AU (pv 2) (Aa (AO Bx (Aq Gc hr rfl Dc.mg Dc.fn.kp Dc.bd .nil AE (Aa (pv 0) (Aa (pv 3) Ab))) (pv 3)) Ab)))))
  (Ac (Ar (i:=4) Es.nd rfl (Or.inl rfl) (Bj Ab))
  (Ac (Bd fR.never rfl (AV rfl T.range (Aa (pv 1) Ab)) (Az (i:=3) Es.nd rfl (Or.inl rfl))
   (Ac (Ar (i:=5) Es.nd rfl (Or.inl rfl) Be)
   (Ac (A0 (AB BT (pv 3) (pv 2) (by with_unfolding_all rfl))
    (Ak (Ar (i:=5) Es.nd rfl (Or.inl rfl) (Ao Au (Bj (Aa Be (Aa Be (Aa Be (Aa Be Ab)))))
     (AO Bx (AO Cb (Aq Gc hr rfl Dc.mg Dc.fn.kp Dc.bd .nil AE (Aa (pv 0) (Aa (pv 3) Ab))) Ah) Ah) (fun _ _=>rfl)))) AJ)
   (Ak (AT (BF ax aB aD AU (pv 4) (Aa (AY (Aa (Ao Au (pv 2) (pv 3) (fun _ _=>rfl)) (Aa (pv 5) Ab))) Ab)))))))
  (Ak (AK (pv 4)))))),?_⟩
 refine⟨1,rfl,(by show 1≤fL;decide),fun hd hhd=>?_⟩
 refine⟨_,rfl,1,m,rfl,⟨by decide,by decide,by omega,by omega⟩,?_⟩
 have em:((m:Int) - 1).toNat=m - 1:=by omega
 rw[em]
 refine Bh (fun i σ H1=>∃v,σ=[some (.ref a),some (.int m),some (.ref hd),v,ae,ae]∧An H H1∧H1 hd=some (.lst ((Rm.holders ns (i+1)).map V.int))) ⟨_,rfl,Ag hhd _,?_⟩ ?_ ?_
 ·rw[Ad];rfl
 ·rintro i σ H1 hi ⟨v,rfl,s1,e1⟩
  have ek:(1:Int)+(i:Int)=((i+1:Nat):Int):=by omega
  rw[ek]
  refine⟨_,rfl,.inl ⟨rfl,_,AD.of e1⟩,_,rfl,_,rfl,a,ns,i+1,rfl,s1.seq hS,_,rfl,_,_,rfl,rfl,by omega,hd,_,_,rfl,rfl,e1,?_,?_⟩
  ·rw[ac,Rm.holders_len];exact Aw (by omega)
  ·refine⟨_,rfl,AH s1 hhd _,?_⟩
   rw[Ad,Rm.holders_succ ns (i+1),am]
   have:Rm.lh ns (i+1)=Rm.cell ns (i+1) % ((i+1:Nat):Int):=by
    unfold Rm.lh;rw[if_neg (by omega)]
   rw[this];rfl
 rintro σ H1 ⟨v,rfl,s1,e1⟩
 have em1:m - 1+1=m:=by omega
 rw[em1]at e1
 refine⟨(by show 0≤fL;decide),fun rd hrd=>?_⟩
 refine⟨_,rfl,m,rfl,by omega,by omega,?_⟩
 have hrd0:H rd=ae:=s1.free hrd
 have nhr:hd≠rd:=Af e1 hrd
 have em2:((m:Int)).toNat=m:=by omega
 rw[em2]
 refine Bh (fun i σ H2=>∃v v' ps,σ=[some (.ref a),some (.int m),some (.ref hd),v,some (.ref rd),v']∧An H H2∧H2 hd=some (.lst ((Rm.holders ns m).map V.int))∧H2 rd=some (.lst (ps.map V.ref))∧AL H2 ps (((ak i).map fun k=>((Rm.lh ns k,lk ns m k):Ai)).map rV))
  ⟨_,_,[],rfl,s1.trans (Ag hrd _),by rw[Aj nhr];exact e1,Ad,⟨rfl,fun i p o e=>by simp at e⟩⟩ ?_ ?_
 ·rintro i σ H2 hi ⟨v,v',ps,rfl,s2,e2,e3,hI⟩
  have ek:(0:Int)+(i:Int)=(i:Int):=by omega
  rw[ek]
  have hil:i<(Rm.holders ns m).length:=by rw[Rm.holders_len];exact hi
  have hg:G6 ((Rm.holders ns m).map V.int) (i:Int)=some (.int (Rm.lh ns i)):=by
   rw[CC hil]
   have:=Rm.hold_get hil
   rw[Rm.holders_hold hi,aa hil]at this
   rw[br.inj this]
  have last:∀(x:Str) (H3:Hp),x=lk ns m i→An H2 H3→(NV (tBM K "list" GT (GC 4) (HG (tTup (HG (tOp (rIxL K) (GC 2) (GC 3)) (HG (GC 5) O3))) O3)))
    { nx:=fun σ H2=>∃v v' ps,σ=[some (.ref a),some (.int m),some (.ref hd),v,some (.ref rd),v']∧An H H2∧H2 hd=some (.lst ((Rm.holders ns m).map V.int))∧H2 rd=some (.lst (ps.map V.ref))∧AL H2 ps (((ak (i+1)).map fun k=>((Rm.lh ns k,lk ns m k):Ai)).map rV),rt:=Q }
    [some (.ref a),some (.int m),some (.ref hd),some (.int i),some (.ref rd),some (.str x)] H3:=by
   rintro x H3 rfl s3
   refine⟨_,rfl,.inl ⟨rfl,_,AD.of (s3 _ _ e3)⟩,_,rfl,_,rfl,hd,_,_,_,rfl,rfl,AD.of (s3 _ _ e2),hg,_,rfl,(by show 2≤fL;decide),fun t ht=>?_⟩
   have nrt:rd≠t:=Af (s3 _ _ e3) ht
   have ndt:hd≠t:=Af (s3 _ _ e2) ht
   refine⟨rd,_,_,rfl,rfl,(by rw[Aj nrt];exact s3 _ _ e3),?_,?_⟩
   ·rw[ac,hI.1,ac,ac,aF];exact Aw (by omega)
   ·have st:An H2 (upd H3 t (.tup [.int (Rm.lh ns i),.str (lk ns m i)])):=s3.trans (Ag ht _)
    have ne:∀b u,H2 b=some u→b≠rd→(upd (upd H3 t (.tup [.int (Rm.lh ns i),.str (lk ns m i)])) rd (.lst (ps.map V.ref++[V.ref t]))) b=some u:=fun b u e n=>by
     rw[Aj n];exact st _ _ e
    refine⟨_,_,ps++[t],rfl,fun b u e=>ne b u (s2 _ _ e) (Af e hrd0),ne _ _ e2 nhr,?_,?_⟩
    ·rw[Ad,am];rfl
    ·rw[bh,am,am]
     refine AL.snoc ⟨hI.1,fun j p o a1 a2=>ne _ _ (hI.2 j p o a1 a2) (CP (hI.2 j p o a1 a2) e3 (by intro z;cases z))⟩ ?_
     rw[Aj nrt.symm,Ad];rfl
  refine⟨_,rfl,_,rfl,hd,_,rfl,.inl (AD.of e2),rfl,Cd _,_,rfl,?_⟩
  show if Ie (V.int i) ((Rm.holders ns m).map V.int)=true then _ else _
  rw[Dy]
  refine DT (fun z=>?_) (fun z=>?_)
  ·have z':(i:Int)∈Rm.holders ns m:=by simpa using z
   refine⟨(by show 4≤fL;decide),fun t ht=>?_⟩
   have c1:=cw (Rm.cell ns i / 16) (show(4:Int)≠0 by decide)
   have c2:=cq (Rm.cell ns i / 16) (show(0:Int)<4 by decide)
   refine⟨_,rfl,_,rfl,a,ns,i,rfl,(s2.trans (Ag ht _)).seq hS,_,_,rfl,rfl,⟨by decide,by decide⟩,_,_,rfl,rfl,(by show(0:Int)<_;decide),t,_,_,.str (HK (Rm.cell ns i / 16 % 4)),rfl,rfl,AD.of Ad,?_,?_⟩
   ·have e:Rm.cell ns i / 16 % 4=(((Rm.cell ns i / 16 % 4).toNat:Nat):Int):=by omega
    have hlt:(Rm.cell ns i / 16 % 4).toNat<4:=by omega
    rw[show HK (Rm.cell ns i / 16 % 4)=HK (((Rm.cell ns i / 16 % 4).toNat:Nat):Int) from by rw[← e],e]
    refine Bo ?_
    generalize (Rm.cell ns i / 16 % 4).toNat=n at hlt
    match n,hlt with
    | 0,_=>rfl
    | 1,_=>rfl
    | 2,_=>rfl
    | 3,_=>rfl
   ·exact last _ _ (by unfold lk;rw[if_pos z']) (Ag ht _)
  ·have z':¬(i:Int)∈Rm.holders ns m:=by simpa using z
   exact last _ _ (by unfold lk;rw[if_neg z']) (An.refl _)
 ·rintro σ H2 ⟨v,v',ps,rfl,s2,e2,e3,hI⟩
  refine⟨_,rfl,?_⟩
  exact q rd ps H2 hrd0 s2 e3 hI
theorem JN(hs:List Int)(i:Nat):Rm.chain hs i=i::(Rm.chain hs i).tail:=by
 rw[Rm.chain];split<;>rfl
theorem KL{hs:List Int}:∀i:Nat,(Rm.chain hs i).length≤i+1:=by
 intro i
 induction i using bz with
 | ind i ih=>
  by_cases z:0≤Rm.hold hs i∧Rm.hold hs i<(i:Int)
  ·rw[Rm.chain_up z,bf]
   have:=ih (Rm.hold hs i).toNat (by omega)
   omega
  ·rw[Rm.chain,dif_neg z,dR];omega
def cV(l:List Nat):List V:=(l.map fun(j:Nat)=>(j:Int)).map V.int
theorem Bl(l:List Nat):(cV l).length=l.length:=by unfold cV;rw[ac,ac]
theorem Cn{l:List Nat}{i:Nat}{x:V}(h:(cV l)[i]?=some x):∃k:Nat,l[i]?=some k∧x=.int k:=by
 unfold cV at h
 rw[av,av]at h
 cases e:l[i]? with
 | none=>rw[e]at h;cases h
 | some k=>rw[e]at h;exact⟨k,rfl,(br.inj h).symm⟩
theorem DO(l m:List Nat):cV (l++m)=cV l++cV m:=by unfold cV;rw[am,am]
def Ih:Sp:=fun vs H Q _=>∃(r:fG) (ps:List fG) (R:List Ai) (k:Nat),vs=[.ref r,.int k]∧H r=some (.lst (ps.map V.ref))∧AL H ps (R.map rV)∧Rm.Tree (Ae R)∧R.length≤100∧k<R.length ∧
 ∀(l:fG) (H':Hp),H l=ae→An H H'→H' l=some (.lst (cV (Rm.chain (Ae R) k)))→Q (.ref l) H'
theorem Lf:AA ["rooms", "k", "chain"] ["rooms", "k"] (Am Ex):=⟨rfl,rfl,rfl,by decide +kernel,rfl,by decide +kernel,by decide +kernel⟩
theorem Ji{f C:fG}{fd:fO}(D:Al K mg "_law_chain" Ex ["rooms", "k"] f fd)(T:DP K mg C):AC P w K mg base A6 1 f fd ["rooms", "k"] Ih:=by
 refine D.fn.ok Lf (fun vs H Q E h=>?_) (fun cdv A outer s H vs Q E hr h=>?_)
 ·obtain⟨r,ps,R,k,rfl,_⟩:=h
  rfl
 obtain⟨r,ps,R,k,rfl,h2,h3,hT,hl,hk,q⟩:=h
 refine⟨_,Ac (Ar (i:=2) Lf.nd rfl (Or.inl rfl) (Bj (Aa (pv 1) Ab)))
  (Ac (Ej fR.never (AB op_ge (Ao Av (Ao Au (pv 0) (pv 1) (fun _ _=>rfl)) Ah (fun _ _=>rfl)) Ah (AS _))
   (Ac (Ar (i:=1) Lf.nd rfl (Or.inl rfl) (Ao Av (Ao Au (pv 0) (pv 1) (fun _ _=>rfl)) Ah (fun _ _=>rfl)))
   (Ak (AT (BF ax aB aD AU (pv 2) (Aa (pv 1) Ab))))))
  (Ak (AK (pv 2)))),?_⟩
 refine⟨_,rfl,(by show 1≤fL;decide),fun l hl0=>?_⟩
 refine⟨fun n σ H1=>∃(p:Nat) (pre:List Nat),σ=[some (.ref r),some (.int p),some (.ref l)]∧p<R.length∧n=p∧An H H1∧H1 l=some (.lst (cV pre))∧Rm.chain (Ae R) k=pre++(Rm.chain (Ae R) p).tail,
  ⟨k,k,[k],rfl,hk,rfl,Ag hl0 _,Ad,JN _ _⟩,?_⟩
 rintro n σ H1 ⟨p,pre,rfl,hp,rfl,s1,e1,ec⟩
 obtain⟨a,ha,ha2⟩:=BE h3 hp
 have eh:Rm.hold (Ae R) n=R[n].1:=Ck (aa hp)
 have hlt:=Rm.hold_lt hT (i:=n) (by rw[Ay];exact hp)
 rw[eh]at hlt
 refine⟨_,rfl,_,rfl,r,_,_,_,rfl,rfl,AD.of (s1 _ _ h2),ha,a,_,_,_,rfl,rfl,A2.of (s1 _ _ ha2),rfl,_,_,rfl,rfl,_,rfl,?_⟩
 refine DT (fun z=>?_) (fun z=>?_)
 ·have z':0≤R[n].1:=by simpa using z
  have e3:((R[n].1.toNat:Nat):Int)=R[n].1:=by omega
  have ech:(Rm.chain (Ae R) n).tail=Rm.chain (Ae R) R[n].1.toNat:=by
   rw[Rm.chain_up (by rw[eh];exact⟨z',hlt⟩),eh];rfl
  have hpl:pre.length≤R.length:=by
   have c1:=KL (hs:=Ae R) k
   rw[ec,ai]at c1
   omega
  refine⟨fun σ' H'=>∃(p':Nat) (pre':List Nat),p'<n∧σ'=[some (.ref r),some (.int p'),some (.ref l)]∧An H H'∧H' l=some (.lst (cV pre'))∧Rm.chain (Ae R) k=pre'++(Rm.chain (Ae R) p').tail,?_,?_⟩
  ·rintro σ' H' ⟨p',pre',hlt',rfl,s',e',c'⟩
   exact⟨p',hlt',p',pre',rfl,by omega,rfl,s',e',c'⟩
  ·refine⟨_,rfl,_,rfl,r,_,_,_,rfl,rfl,AD.of (s1 _ _ h2),ha,a,_,_,_,rfl,rfl,A2.of (s1 _ _ ha2),rfl,?_⟩
   refine⟨_,rfl,.inl ⟨rfl,_,AD.of e1⟩,_,rfl,l,_,_,rfl,rfl,e1,?_,?_⟩
   ·unfold cV;rw[ac,ac];exact Aw (by omega)
   ·refine⟨R[n].1.toNat,pre++[R[n].1.toNat],by omega,?_,AH s1 hl0 _,?_,?_⟩
    ·show [some (V.ref r),some (V.int R[n].1),some (V.ref l)]=_
     rw[e3]
    ·rw[Ad]
     unfold cV
     rw[am,am]
     show some (HO.lst (_++[V.int R[n].1]))=some (HO.lst (_++[V.int ((R[n].1.toNat:Nat):Int)]))
     rw[e3]
    ·rw[ec,ech,bZ]
     exact congrArg (pre++·) (JN _ _)
 ·have z':¬0≤R[n].1:=by simpa using z
  refine⟨_,rfl,?_⟩
  refine q l H1 hl0 s1 ?_
  rw[e1,ec,Rm.chain_top (by rw[eh];exact z')]
  simp
def choosing(R:List Ai)(p:Nat):Bool:=match R[p]? with
 | some r=>decide (r.2 = "one"∨r.2 = "keep")
 | ae=>false
def Bp(R:List Ai)(s t:Nat):Option Nat:=(Rm.chain (Ae R) s).tail.find? fun p=>choosing R p&&Rm.li (Ae R) t p
def optV:Option Nat→V
 | some p=>.int p
 | ae=>.non
theorem Lz(x:Str):Ie (.str x) [.str "one",.str "keep"]=decide (x = "one"∨x = "keep"):=by
 show((("one" : Str)==x)||((("keep" : Str)==x)||false))=_
 by_cases h1:x = "one"
 ·subst h1;decide +kernel
 ·by_cases h2:x = "keep"
  ·subst h2;decide +kernel
  ·have e1:(("one" : Str)==x)=false:=beq_eq_false_iff_ne.mpr fun z=>h1 z.symm
   have e2:(("keep" : Str)==x)=false:=beq_eq_false_iff_ne.mpr fun z=>h2 z.symm
   rw[e1,e2,decide_eq_false fun z=>z.elim h1 h2];rfl
def M7(C:fG):Sp:=fun vs H Q _=>∃(c:fG) (R:List Ai) (A:List Ap) (i j:Nat),vs=[.ref c,.int i,.int j]∧A7 C H c R A∧Rm.Tree (Ae R)∧i<R.length∧Q (.bl (Rm.li (Ae R) i j)) H
theorem scLies:AA ["chart", "room", "other"] ["chart", "room", "other"] (Am GQ):=⟨rfl,rfl,rfl,by decide +kernel,rfl,by decide +kernel,by decide +kernel⟩
theorem On{f C fw:fG}{fd fdw:fO}(D:Al K mg "lies_in" GQ ["chart", "room", "other"] f fd)(T:DP K mg C)(Dw:Al K mg "within" B1 ["chart", "room", "other"] fw fdw):AC P w K mg base A6 2 f fd ["chart", "room", "other"] (M7 C):=by
 have Gw:AC P w K mg base A6 1 fw fdw ["chart", "room", "other"] (ES C):=Fu Dw T
 refine D.fn.ok scLies (fun vs H Q E h=>?_) (fun cdv A outer s H vs Q E hr h=>?_)
 ·obtain⟨c,R,As,i,j,rfl,_⟩:=h
  rfl
 obtain⟨c,R,As,i,j,rfl,hC,hT,hi,q⟩:=h
 refine⟨_,Ak (AK (pe_and (Fs E2 (pv 1) (pv 2) (AS _)) (Nj (Aq Gw hr rfl Dw.mg Dw.fn.kp Dw.bd .nil AE (Aa (pv 0) (Aa (pv 1) (Aa (pv 2) Ab))))))),?_⟩
 refine⟨_,rfl,_,rfl,rfl,_,rfl,?_⟩
 rw[Rm.li_eq]at q
 have e:(decide (V.int (i:Int)=V.int (j:Int)))=decide (i=j):=decide_eq_decide.mpr ⟨fun y=>by injection y with y;omega,fun y=>by rw[y]⟩
 rw[e]
 by_cases z:i=j
 ·rw[decide_eq_true z]at q ⊢
  exact A9 q
 ·rw[decide_eq_false z]at q ⊢
  refine Bw ?_
  exact⟨_,rfl,_,rfl,_,rfl,c,R,As,i,j,rfl,hC,hT,hi,q⟩
def K4(C:fG):Sp:=fun vs H Q _=>∃(c:fG) (R:List Ai) (A:List Ap) (i j:Nat),vs=[.ref c,.int i,.int j]∧A7 C H c R A∧Rm.Tree (Ae R)∧i<R.length∧j<R.length∧Q (optV (Bp R i j)) H
theorem La:AA ["chart", "source", "target", "place"] ["chart", "source", "target"] (Am FP):=⟨rfl,rfl,rfl,by decide +kernel,rfl,by decide +kernel,by decide +kernel⟩
theorem Mp{f C fl fw:fG}{fd fdl fdw:fO}(D:Al K mg "scope" FP ["chart", "source", "target"] f fd)(T:DP K mg C)(Dl:Al K mg "lies_in" GQ ["chart", "room", "other"] fl fdl)(Dw:Al K mg "within" B1 ["chart", "room", "other"] fw fdw) :
  AC P w K mg base A6 3 f fd ["chart", "source", "target"] (K4 C):=by
 have Gl:AC P w K mg base A6 2 fl fdl ["chart", "room", "other"] (M7 C):=On Dl T Dw
 refine D.fn.ok La (fun vs H Q E h=>?_) (fun cdv A outer s H vs Q E hr h=>?_)
 ·obtain⟨c,R,As,i,j,rfl,_⟩:=h
  rfl
 obtain⟨c,R,As,i,j,rfl,hC,hT,hi,hj,q⟩:=h
 obtain⟨aK,hK,sK⟩:=T.choosing
 refine⟨_,Ac (Ar (i:=3) La.nd rfl (Or.inl rfl) (Ao Av (Ao Au (A3 (pv 0) rfl) (pv 1) (fun _ _=>rfl)) (AG T.hold rfl) (fun _ _=>rfl)))
  (Ac (Ej fR.never (AB E2 (pv 3) (AG T.nil rfl) (AS _))
   (Ac (A0 (PW.pt (Eb (AB BT (Ao Av (Ao Au (A3 (pv 0) rfl) (pv 3) (fun _ _=>rfl)) (AG T.kind rfl) (fun _ _=>rfl)) (Im rfl hK (v:=.ref aK) rfl) (by with_unfolding_all rfl))
     (Dn (Cf (Aq Gl hr rfl Dl.mg Dl.fn.kp Dl.bd .nil AE (Aa (pv 0) (Aa (pv 2) (Aa (pv 3) Ab)))))))) (Ak (AK (pv 3))) AJ)
   (Ak (Ar (i:=3) La.nd rfl (Or.inl rfl) (Ao Av (Ao Au (A3 (pv 0) rfl) (pv 3) (fun _ _=>rfl)) (AG T.hold rfl) (fun _ _=>rfl))))))
  (Ak (AK Hs))),?_⟩
 obtain⟨dx,l,m,ps,qs,h1,h2,h3,h4,h5⟩:=hC.ob
 have hok:∀{n:Nat},n<R.length→Rm.hold (Ae R) n=-1∨(0≤Rm.hold (Ae R) n∧Rm.hold (Ae R) n<(n:Int)):=fun{n} hn=>by
  by_cases z:n=0
  ·subst z;exact .inl hT.root
  ·exact .inr (hT.up n (by omega) (by rw[Ay];exact hn))
 obtain⟨p,hp,hp2⟩:=BE h3 hi
 have eh:Rm.hold (Ae R) i=R[i].1:=Ck (aa hi)
 refine⟨_,rfl,c,C,dx,_,_,rfl,h1,T.cl,T.nR,Ba l m,_,rfl,l,_,_,_,rfl,rfl,AD.of h2,hp,p,_,_,_,rfl,rfl,A2.of hp2,rfl,?_⟩
 refine⟨fun n σ H1=>∃pl:Int,σ=[some (.ref c),some (.int i),some (.int j),some (.int pl)]∧H1=H∧(pl=-1∨(0≤pl∧pl<(R.length:Int)))∧n=(pl+1).toNat∧Bp R i j=(Rm.upper (Ae R) pl).find? fun p=>choosing R p&&Rm.li (Ae R) j p,
  ⟨_,R[i].1,rfl,rfl,by rw[← eh];rcases hok hi with z|z<;>omega,rfl,by unfold Bp;rw[Rm.tail_upper hT (by rw[Ay];exact hi),eh]⟩,?_⟩
 rintro n σ H1 ⟨pl,rfl,rfl,hpl,rfl,es⟩
 refine⟨_,rfl,rfl,_,rfl,?_⟩
 by_cases z:pl=-1
 ·subst z
  refine Jn rfl ?_
  rw[es,Rm.upper_neg]at q
  exact q
 ·have z0:0≤pl∧pl<(R.length:Int):=hpl.resolve_left z
  obtain⟨k,rfl⟩:∃k:Nat,pl=(k:Int):=⟨pl.toNat,by omega⟩
  have hk:k<R.length:=by omega
  have ne:¬V.int (k:Int)=V.int (-1):=fun y=>by injection y with y;omega
  rw[decide_eq_false ne]
  refine Bw ?_
  obtain⟨a,ha,ha2⟩:=BE h3 hk
  have ehk:Rm.hold (Ae R) k=R[k].1:=Ck (aa hk)
  have ech:choosing R k=decide (R[k].2 = "one"∨R[k].2 = "keep"):=by
   unfold choosing;rw[aa hk]
  rw[Rm.upper_step hT (by rw[Ay];exact hk),ce,ehk]at es
  refine⟨fun σ' H'=>∃pl':Int,σ'=[some (.ref c),some (.int i),some (.int j),some (.int pl')]∧H'=H1∧(pl'=-1∨(0≤pl'∧pl'<(k:Int)))∧Bp R i j=(Rm.upper (Ae R) pl').find? fun p=>choosing R p&&Rm.li (Ae R) j p,?_,?_⟩
  ·rintro σ' H' ⟨pl',rfl,rfl,h',e'⟩
   exact⟨(pl'+1).toNat,by omega,pl',rfl,rfl,by omega,rfl,e'⟩
  ·refine⟨_,rfl,c,C,dx,_,_,rfl,h1,T.cl,T.nR,Ba l m,_,rfl,l,_,_,_,rfl,rfl,AD.of h2,ha,a,_,_,_,rfl,rfl,A2.of ha2,rfl,aK,_,rfl,.inr (sK _),rfl,by decide +kernel,_,rfl,?_⟩
   have stepOn:Bp R i j=(Rm.upper (Ae R) R[k].1).find? (fun p=>choosing R p&&Rm.li (Ae R) j p) →
     (Rz (tOp (rIxT K) (tOp (rIxL K) (tFld K (GC 0) "rooms") (GC 3)) (tC (.int 0))) (Jw 3)) { nx:=fun σ' H'=>∃pl':Int,σ'=[some (.ref c),some (.int i),some (.int j),some (.int pl')]∧H'=H1∧(pl'=-1∨(0≤pl'∧pl'<(k:Int)))∧Bp R i j=(Rm.upper (Ae R) pl').find? fun p=>choosing R p&&Rm.li (Ae R) j p,rt:=Q }
      [some (.ref c),some (.int i),some (.int j),some (.int k)] H1:=fun e'=>by
    refine⟨_,rfl,c,C,dx,_,_,rfl,h1,T.cl,T.nR,Ba l m,_,rfl,l,_,_,_,rfl,rfl,AD.of h2,ha,a,_,_,_,rfl,rfl,A2.of ha2,rfl,?_⟩
    exact⟨R[k].1,rfl,rfl,by rw[← ehk];exact hok hk,e'⟩
   show if Ie (V.str R[k].2) [V.str "one",V.str "keep"]=true then _ else _
   rw[Lz,← ech]
   cases hc:choosing R k with
   | false=>
    rw[hc]at es
    refine A9 ?_
    refine A9 ?_
    exact stepOn es
   | true=>
    rw[hc]at es
    refine Bw ?_
    refine⟨_,rfl,_,rfl,_,rfl,c,R,As,j,k,rfl,hC,hT,hj,_,rfl,?_⟩
    cases hb:Rm.li (Ae R) j k with
    | false=>
     rw[hb]at es
     refine A9 ?_
     exact stepOn es
    | true=>
     rw[hb]at es
     refine Bw ?_
     have es':Bp R i j=some k:=es
     rw[es']at q
     exact⟨_,rfl,q⟩
theorem So(xs:List V):Cm xs (some 1) ae=xs.tail:=by
 unfold Cm
 have e1:HT.sIx xs.length 0 (some 1)=min 1 xs.length:=HT.sIx_nat xs.length 0 1
 rw[e1,HT.sIx_none]
 cases xs with
 | nil=>rfl
 | cons x r=>
  have e:min 1 (x::r).length=1:=by simp[bf]
  rw[e]
  show r.take (r.length+1 - 1)=r
  simp
theorem Iu(l:List Nat):(cV l).tail=cV l.tail:=by cases l<;>rfl
def ID:Sp:=fun vs H Q _=>∃(r:fG) (ps:List fG) (R:List Ai) (i j:Nat),vs=[.ref r,.int i,.int j]∧H r=some (.lst (ps.map V.ref))∧AL H ps (R.map rV)∧Rm.Tree (Ae R)∧R.length≤100∧i<R.length∧j<R.length ∧
 ∀(H':Hp),An H H'→Q (optV (Bp R i j)) H'
theorem IP:AA ["rooms", "source", "target", "around", "k"] ["rooms", "source", "target"] (Am Ew):=⟨rfl,rfl,rfl,by decide +kernel,rfl,by decide +kernel,by decide +kernel⟩
theorem KA{f C fh:fG}{fd fdh:fO}(D:Al K mg "_law_scope" Ew ["rooms", "source", "target"] f fd)(T:DP K mg C)(Dh:Al K mg "_law_chain" Ex ["rooms", "k"] fh fdh):AC P w K mg base A6 2 f fd ["rooms", "source", "target"] ID:=by
 have Gh:AC P w K mg base A6 1 fh fdh ["rooms", "k"] Ih:=Ji Dh T
 refine D.fn.ok IP (fun vs H Q E h=>?_) (fun cdv A outer s H vs Q E hr h=>?_)
 ·obtain⟨r,ps,R,i,j,rfl,_⟩:=h
  rfl
 obtain⟨r,ps,R,i,j,rfl,h2,h3,hT,hl,hi,hj,q⟩:=h
 refine⟨_,Ac (Ar (i:=3) IP.nd rfl (Or.inl rfl) (DJ Er (Aq Gh hr rfl Dh.mg Dh.fn.kp Dh.bd .nil AE (Aa (pv 0) (Aa (pv 2) Ab))) (Ez Ah) EA))
  (Ac (Bd fR.never rfl (Bi (DJ Er (Aq Gh hr rfl Dh.mg Dh.fn.kp Dh.bd .nil AE (Aa (pv 0) (Aa (pv 1) Ab))) (Ez Ah) EA)) (Az (i:=4) IP.nd rfl (Or.inl rfl))
   (Ak (A0 (PW.pt (Eb (AB BT (pv 4) (pv 3) (by with_unfolding_all rfl))
    (Dn (AB BT (Ao Av (Ao Au (pv 0) (pv 4) (fun _ _=>rfl)) Ah (fun _ _=>rfl)) (AY (Aa Be (Aa Be Ab))) (by with_unfolding_all rfl))))) (Ak (AK (pv 4))) AJ)))
  (Ak (AK Hs))),?_⟩
 refine⟨_,rfl,_,rfl,r,ps,R,j,rfl,h2,h3,hT,hl,hj,fun l1 H1 hl1 s1 e1=>?_⟩
 refine⟨1,rfl,l1,_,rfl,AD.of e1,fun l2 hl2=>?_⟩
 have s2:=s1.trans (Ag hl2 (.lst (Cm (cV (Rm.chain (Ae R) j)) (some 1) ae)))
 have e2:(upd H1 l2 (.lst (Cm (cV (Rm.chain (Ae R) j)) (some 1) ae))) l2=some (.lst (cV (Rm.chain (Ae R) j).tail)):=by rw[Ad,So,Iu]
 generalize upd H1 l2 (.lst (Cm (cV (Rm.chain (Ae R) j)) (some 1) ae))=H2 at s2 e2 ⊢
 refine⟨_,rfl,_,rfl,r,ps,R,i,rfl,s2 _ _ h2,h3.same s2,hT,hl,hi,fun l3 H3 hl3 s3 e3=>?_⟩
 refine⟨1,rfl,l3,_,rfl,AD.of e3,fun l4 hl4=>?_⟩
 have s4:=s3.trans (Ag hl4 (.lst (Cm (cV (Rm.chain (Ae R) i)) (some 1) ae)))
 have e4:(upd H3 l4 (.lst (Cm (cV (Rm.chain (Ae R) i)) (some 1) ae))) l4=some (.lst (cV (Rm.chain (Ae R) i).tail)):=by rw[Ad,So,Iu]
 generalize upd H3 l4 (.lst (Cm (cV (Rm.chain (Ae R) i)) (some 1) ae))=H4 at s4 e4 ⊢
 refine⟨l4,rfl,⟨_,AD.of e4⟩,?_⟩
 refine Cl (xs:=cV (Rm.chain (Ae R) i).tail) (fun n σ H5=>∃v,σ=[some (.ref r),some (.int i),some (.int j),some (.ref l2),v]∧An H4 H5∧Bp R i j=((Rm.chain (Ae R) i).tail.drop n).find? fun p=>choosing R p&&Rm.li (Ae R) j p)
  ⟨_,rfl,An.refl _,rfl⟩ (fun n σ H5 _ ⟨v,_,s5,_⟩=>AD.of (s5 _ _ e4)) ?_ ?_
 ·rintro n x σ H5 hx ⟨v,rfl,s5,es⟩
  obtain⟨k,hk,rfl⟩:∃k:Nat,(Rm.chain (Ae R) i).tail[n]?=some k∧x=.int k:=by
   unfold cV at hx
   rw[av,av]at hx
   cases e:(Rm.chain (Ae R) i).tail[n]? with
   | none=>rw[e]at hx;cases hx
   | some k=>rw[e]at hx;exact⟨k,rfl,(br.inj hx).symm⟩
  have hkm:k∈(Rm.chain (Ae R) i).tail:=ay hk
  have hkl:k<R.length:=cB (Rm.tail_lt hkm) hi
  have hd:(Rm.chain (Ae R) i).tail.drop n=k::(Rm.chain (Ae R) i).tail.drop (n+1):=by
   obtain⟨hn,e⟩:=af.mp hk
   rw[bF hn,e]
  rw[hd,ce]at es
  have s45:An H H5:=s2.trans (s4.trans s5)
  obtain⟨a,ha,ha2⟩:=BE h3 hkl
  have ech:choosing R k=decide (R[k].2 = "one"∨R[k].2 = "keep"):=by
   unfold choosing;rw[aa hkl]
  have ein:Ie (V.int k) (cV (Rm.chain (Ae R) j).tail)=Rm.li (Ae R) j k:=by
   unfold cV Rm.li
   rw[Dy]
   refine decide_eq_decide.mpr ⟨fun z=>?_,fun z=>aJ.mpr ⟨k,z,rfl⟩⟩
   obtain⟨y,hy,e⟩:=aJ.mp z
   have:y=k:=by omega
   rw[← this];exact hy
  refine⟨_,rfl,_,rfl,l2,_,rfl,.inl (AD.of (s5 _ _ (s4 _ _ e2))),rfl,Cd _,_,rfl,?_⟩
  show if Ie (V.int k) (cV (Rm.chain (Ae R) j).tail)=true then _ else _
  rw[ein]
  cases hb:Rm.li (Ae R) j k with
  | false=>
   rw[hb,du]at es
   refine A9 ?_
   refine A9 ?_
   exact⟨_,rfl,s5,es⟩
  | true=>
   rw[hb,bO]at es
   refine Bw ?_
   refine⟨_,rfl,_,rfl,r,_,_,_,rfl,rfl,AD.of (s45 _ _ h2),ha,a,_,_,_,rfl,rfl,A2.of (s45 _ _ ha2),rfl,(by show 2≤fL;decide),fun t ht=>?_⟩
   refine⟨t,_,rfl,.inr (A2.of Ad),rfl,by decide +kernel,_,rfl,?_⟩
   show if Ie (V.str R[k].2) [V.str "one",V.str "keep"]=true then _ else _
   rw[Lz,← ech]
   cases hc:choosing R k with
   | false=>
    rw[hc]at es
    refine A9 ?_
    exact⟨_,rfl,s5.trans (Ag ht _),es⟩
   | true=>
    rw[hc]at es
    refine Bw ?_
    have es':Bp R i j=some k:=es
    refine⟨_,rfl,?_⟩
    have:=q _ (s45.trans (Ag ht (.tup [.str "one",.str "keep"])))
    rw[es']at this
    exact this
 ·rintro σ H5 ⟨v,rfl,s5,es⟩
  have hlen:(cV (Rm.chain (Ae R) i).tail).length=(Rm.chain (Ae R) i).tail.length:=by unfold cV;rw[ac,ac]
  rw[hlen,cC]at es
  have es':Bp R i j=ae:=es
  have:=q H5 (s2.trans (s4.trans s5))
  rw[es']at this
  exact this
structure AW(R:List Ai)(a:Ap):Prop where
 src:∃s:Nat,a.1=(s:Int)∧s<R.length
 evt:0≤a.2.1∧a.2.1≤3
 grd:-1≤a.2.2.1∧a.2.2.1<(R.length:Int)
 tgt:∃t:Nat,a.2.2.2.1=(t:Int)∧t<R.length
 ded:0≤a.2.2.2.2∧a.2.2.2.2≤99
 sc:∃p:Nat,Bp R a.1.toNat a.2.2.2.1.toNat=some p
theorem BY{H:Hp}{qs:List fG}{A:List Ap}(h5:AL H qs (A.map aV)){i:Nat}(hi:i<A.length):∃p,G6 (qs.map V.ref) (i:Int)=some (.ref p)∧H p=some (.tup (aV A[i])):=by
 have er:(A.map aV)[i]?=some (aV A[i]):=by rw[av,aa hi];rfl
 obtain⟨p,hp,hp2⟩:=h5.at er
 exact⟨p,Bo hp,hp2⟩
def P7:Sp:=fun vs H Q _=>∃(n:Int) (nm:Str) (p l m:Int),vs=[.int n,.str nm,.int p,.int l,.int m]∧l≤p∧p≤m∧Q .non H
theorem scPart:AA ["number", "name", "part", "least", "most"] ["number", "name", "part", "least", "most"] (Am Kq):=⟨rfl,rfl,rfl,by decide +kernel,rfl,by decide +kernel,by decide +kernel⟩
theorem RV{f:fG}{fd:fO}(D:Al K mg "check_part" Kq ["number", "name", "part", "least", "most"] f fd):AC P w K mg base A6 1 f fd ["number", "name", "part", "least", "most"] P7:=by
 refine D.fn.ok scPart (fun vs H Q E h=>?_) (fun cdv A outer s H vs Q E hr h=>?_)
 ·obtain⟨n,nm,p,l,m,rfl,_⟩:=h
  rfl
 obtain⟨n,nm,p,l,m,rfl,h1,h2,q⟩:=h
 refine⟨_,Ak (A0 (C8 (GU Ky Ky (pv 3) (pv 2) (pv 4))) AZ AJ),?_⟩
 refine⟨_,rfl,_,rfl,_,_,rfl,rfl,_,rfl,?_⟩
 rw[decide_eq_true h1]
 refine Bw ?_
 refine⟨_,rfl,_,_,rfl,rfl,_,rfl,?_⟩
 rw[decide_eq_true h2]
 refine A9 ?_
 exact q
def GH(C:fG):Sp:=fun vs H Q _=>∃(c:fG) (R:List Ai) (A:List Ap) (i:Nat) (a:Ap),vs=[.ref c,.int i]∧A7 C H c R A∧AX R∧A[i]?=some a∧AW R a∧Q .non H
theorem Eu:AA ["chart", "number", "arrow", "last_room"] ["chart", "number"] (Am Cr):=⟨rfl,rfl,rfl,by decide +kernel,rfl,by decide +kernel,by decide +kernel⟩
theorem Jh{f C fp fs fl fw:fG}{fd fdp fds fdl fdw:fO}(D:Al K mg "check_arrow" Cr ["chart", "number"] f fd)(T:DP K mg C)(Dp:Al K mg "check_part" Kq ["number", "name", "part", "least", "most"] fp fdp)
  (Ds:Al K mg "scope" FP ["chart", "source", "target"] fs fds) (Dl:Al K mg "lies_in" GQ ["chart", "room", "other"] fl fdl) (Dw:Al K mg "within" B1 ["chart", "room", "other"] fw fdw):AC P w K mg base A6 4 f fd ["chart", "number"] (GH C):=by
 have Gp:AC P w K mg base A6 1 fp fdp ["number", "name", "part", "least", "most"] P7:=RV Dp
 have Gs:AC P w K mg base A6 3 fs fds ["chart", "source", "target"] (K4 C):=Mp Ds T Dl Dw
 refine D.fn.ok Eu (fun vs H Q E h=>?_) (fun cdv A outer s H vs Q E hr h=>?_)
 ·obtain⟨c,R,As,i,a,rfl,_⟩:=h
  rfl
 obtain⟨c,R,As,i,a,rfl,hC,hG,hia,hA,q⟩:=h
 have hr1:CO 1 _:=hr.mono (by decide)
 refine⟨_,Ac (Ar (i:=2) Eu.nd rfl (Or.inl rfl) (Ao Au (A3 (pv 0) rfl) (pv 1) (fun _ _=>rfl)))
  (Ac (Ar (i:=3) Eu.nd rfl (Or.inl rfl) (AO Nm (AF At (by rfl) T.len PySem.boot_len (Aa (A3 (pv 0) rfl) Ab)) Ah))
  (Ac (AT (Aq Gp hr1 rfl Dp.mg Dp.fn.kp Dp.bd .nil AE (Aa (pv 1) (Aa Be (Aa (Ao Av (pv 2) (AG T.src rfl) (fun _ _=>rfl)) (Aa Ah (Aa (pv 3) Ab)))))))
  (Ac (AT (Aq Gp hr1 rfl Dp.mg Dp.fn.kp Dp.bd .nil AE (Aa (pv 1) (Aa Be (Aa (Ao Av (pv 2) (AG T.evt rfl) (fun _ _=>rfl)) (Aa Ah (Aa (AG T.lastE rfl) Ab)))))))
  (Ac (AT (Aq Gp hr1 rfl Dp.mg Dp.fn.kp Dp.bd .nil AE (Aa (pv 1) (Aa Be (Aa (Ao Av (pv 2) (AG T.grd rfl) (fun _ _=>rfl)) (Aa (AG T.nil rfl) (Aa (pv 3) Ab)))))))
  (Ac (AT (Aq Gp hr1 rfl Dp.mg Dp.fn.kp Dp.bd .nil AE (Aa (pv 1) (Aa Be (Aa (Ao Av (pv 2) (AG T.tgt rfl) (fun _ _=>rfl)) (Aa Ah (Aa (pv 3) Ab)))))))
  (Ac (AT (Aq Gp hr1 rfl Dp.mg Dp.fn.kp Dp.bd .nil AE (Aa (pv 1) (Aa Be (Aa (Ao Av (pv 2) (AG T.ded rfl) (fun _ _=>rfl)) (Aa Ah (Aa (AG T.lastD rfl) Ab)))))))
  (Ak (A0 (Ng (pc_isN (Aq Gs hr rfl Ds.mg Ds.fn.kp Ds.bd .nil AE (Aa (pv 0) (Aa (Ao Av (pv 2) (AG T.src rfl) (fun _ _=>rfl)) (Aa (Ao Av (pv 2) (AG T.tgt rfl) (fun _ _=>rfl)) Ab)))))) AZ AJ)))))))),?_⟩
 obtain⟨hi,rfl⟩:=af.mp hia
 obtain⟨dx,l,m,ps,qs,h1,h2,h3,h4,h5⟩:=hC.ob
 obtain⟨p,hp,hp2⟩:=BY h5 hi
 have hl:(ps.map V.ref).length=R.length:=by rw[ac,h3.1,ac]
 obtain⟨sn,es,hs⟩:=hA.src
 obtain⟨tn,et,ht⟩:=hA.tgt
 obtain⟨g1,g2⟩:=hA.grd
 refine⟨_,rfl,c,C,dx,_,_,rfl,h1,T.cl,T.nA,Bz l m,_,rfl,m,_,_,_,rfl,rfl,AD.of h4,hp,?_⟩
 refine⟨_,rfl,c,C,dx,_,_,rfl,h1,T.cl,T.nR,Ba l m,l,_,rfl,.inl (AD.of h2),_,_,rfl,rfl,?_⟩
 rw[hl]
 refine⟨_,rfl,_,rfl,p,_,_,_,rfl,rfl,A2.of hp2,rfl,_,rfl,_,_,_,_,_,rfl,by rw[es];omega,by rw[es];omega,?_⟩
 refine⟨_,rfl,_,rfl,p,_,_,_,rfl,rfl,A2.of hp2,rfl,_,_,_,_,_,rfl,hA.evt.1,hA.evt.2,?_⟩
 refine⟨_,rfl,_,rfl,p,_,_,_,rfl,rfl,A2.of hp2,rfl,_,rfl,_,_,_,_,_,rfl,g1,by omega,?_⟩
 refine⟨_,rfl,_,rfl,p,_,_,_,rfl,rfl,A2.of hp2,rfl,_,rfl,_,_,_,_,_,rfl,by rw[et];omega,by rw[et];omega,?_⟩
 refine⟨_,rfl,_,rfl,p,_,_,_,rfl,rfl,A2.of hp2,rfl,_,_,_,_,_,rfl,hA.ded.1,hA.ded.2,?_⟩
 refine⟨_,rfl,_,rfl,p,_,_,_,rfl,rfl,A2.of hp2,rfl,_,rfl,p,_,_,_,rfl,rfl,A2.of hp2,rfl,c,R,As,sn,tn,(by rw[es,et];rfl),hC,hG.tree,hs,ht,_,rfl,?_⟩
 obtain⟨pp,hsc⟩:=hA.sc
 rw[es,et,aA,aA]at hsc
 rw[hsc]
 refine A9 ?_
 exact q
def FC(C:fG):Sp:=fun vs H Q _=>∃(c:fG) (R:List Ai) (A:List Ap),vs=[.ref c]∧A7 C H c R A∧AX R∧A.length≤20∧(∀a∈A,AW R a)∧Q .non H
theorem EU:AA ["chart", "number"] ["chart"] (Am Ca):=⟨rfl,rfl,rfl,by decide +kernel,rfl,by decide +kernel,by decide +kernel⟩
theorem Ic{f C fa:fG}{fd fda:fO}(D:Al K mg "check_arrows" Ca ["chart"] f fd)(T:DP K mg C)(Da:Al K mg "check_arrow" Cr ["chart", "number"] fa fda)(Ga:AC P w K mg base A6 4 fa fda ["chart", "number"] (GH C)) :
  AC P w K mg base A6 5 f fd ["chart"] (FC C):=by
 refine D.fn.ok EU (fun vs H Q E h=>?_) (fun cdv A outer s H vs Q E hr h=>?_)
 ·obtain⟨c,R,As,rfl,_⟩:=h
  rfl
 obtain⟨c,R,As,rfl,hC,hG,h20,hA,q⟩:=h
 refine⟨_,Ac (A0 (AB Mn (AF At (by rfl) T.len PySem.boot_len (Aa (A3 (pv 0) rfl) Ab)) (AG T.mostA rfl) (AS _)) AZ AJ)
  (Ak (Bd fR.never rfl (AV rfl T.range (Aa (AF At (by rfl) T.len PySem.boot_len (Aa (A3 (pv 0) rfl) Ab)) Ab)) (Az (i:=1) EU.nd rfl (Or.inl rfl))
   (Ak (AT (Aq Ga hr rfl Da.mg Da.fn.kp Da.bd .nil AE (Aa (pv 0) (Aa (pv 1) Ab))))))),?_⟩
 obtain⟨dx,l,m,ps,qs,h1,h2,h3,h4,h5⟩:=hC.ob
 have hl:(qs.map V.ref).length=As.length:=by rw[ac,h5.1,ac]
 refine⟨_,rfl,c,C,dx,_,_,rfl,h1,T.cl,T.nA,Bz l m,m,_,rfl,.inl (AD.of h4),_,_,rfl,rfl,_,rfl,?_⟩
 rw[hl,decide_eq_false (show ¬(20:Int)<(As.length:Int) by omega)]
 refine A9 ?_
 refine⟨_,rfl,c,C,dx,_,_,rfl,h1,T.cl,T.nA,Bz l m,m,_,rfl,.inl (AD.of h4),_,rfl,by rw[hl];omega,by rw[hl];omega,?_⟩
 rw[hl]
 refine Bh (fun i σ H1=>∃v,σ=[some (.ref c),v]∧H1=H) ⟨_,rfl,rfl⟩ ?_ ?_
 ·rintro i σ H1 hi ⟨v,rfl,rfl⟩
  have hi':i<As.length:=by omega
  have ei:(0:Int)+(i:Int)=(i:Int):=by omega
  rw[ei]
  refine⟨_,rfl,_,rfl,c,R,As,i,As[i],rfl,hC,hG,aa hi',hA _ (aI hi'),?_⟩
  exact⟨_,rfl,rfl⟩
 ·rintro σ H1 ⟨v,rfl,rfl⟩
  exact q
def Qc(C:fG):Sp:=fun vs H Q _=>∃(c dx a b:fG) (ps qs:List fG) (R:List Ai) (As:List Ap),vs=[.ref c,.ref a,.ref b]∧H c=some (.ins C dx [])∧H a=some (.lst (ps.map V.ref))∧AL H ps (R.map rV)∧H b=some (.lst (qs.map V.ref))∧AL H qs (As.map aV)∧AX R∧As.length≤20∧(∀x∈As,AW R x) ∧
 ∀H',(∀x o,H x=some o→x≠c→H' x=some o)→(∀H'',(∀x o,H' x=some o→x≠a→x≠b→H'' x=some o)→A7 C H'' c R As)→Q .non H'
theorem RE:AA ["self", "rooms", "arrows"] ["self", "rooms", "arrows"] (Am Og):=⟨rfl,rfl,rfl,by decide +kernel,rfl,by decide +kernel,by decide +kernel⟩
theorem RZ{f C fr fa:fG}{fd fdr fda:fO}(F:Fun K "__init__" "Chart.__init__" Og f fd)(T:DP K mg C)(Dr:Al K mg "check_rooms" Cq ["chart"] fr fdr)(Da:Al K mg "check_arrows" Ca ["chart"] fa fda)
  (Gr:AC P w K mg base A6 3 fr fdr ["chart"] (GG C)) (Ga:AC P w K mg base A6 5 fa fda ["chart"] (FC C)):AC P w K mg base A6 6 f fd ["self", "rooms", "arrows"] (Qc C):=by
 refine F.ok RE (fun vs H Q E h=>?_) (fun cdv A outer s H vs Q E hr h=>?_)
 ·obtain⟨c,dx,a,b,ps,qs,R,As,rfl,_⟩:=h
  rfl
 obtain⟨c,dx,a,b,ps,qs,R,As,rfl,hc,ha,hI,hb,hJ,hG,h20,hA,q⟩:=h
 refine⟨_,Ac (Jb (pv 0) (Bc Bq (by rfl) T.list (by decide +kernel) (Aa (pv 1) Ab)) rfl)
  (Ac (Jb (pv 0) (Bc Bq (by rfl) T.list (by decide +kernel) (Aa (pv 2) Ab)) rfl)
  (Ac (AT (Aq Gr (hr.mono (by decide)) rfl Dr.mg Dr.fn.kp Dr.bd .nil AE (Aa (pv 0) Ab)))
  (Ak (AT (Aq Ga hr rfl Da.mg Da.fn.kp Da.bd .nil AE (Aa (pv 0) Ab)))))),?_⟩
 refine⟨_,rfl,a,_,rfl,.inl (AD.of ha),fun l hl=>?_⟩
 have ncl:c≠l:=Af hc hl
 refine⟨_,rfl,c,C,dx,_,rfl,(by rw[Aj ncl];exact hc),T.cl,T.nR,(by show 0<1000;decide),?_⟩
 have nbl:b≠l:=Af hb hl
 have nbc:b≠c:=CP hb hc (by intro z;cases z)
 have nac:a≠c:=CP ha hc (by intro z;cases z)
 have nal:a≠l:=Af ha hl
 refine⟨_,rfl,b,_,rfl,.inl (AD.of (by rw[Aj nbc,Aj nbl];exact hb)),fun m hm=>?_⟩
 have ncm:c≠m:=Af Ad hm
 have hm':H m=ae:=by
  have z:=hm
  rw[Aj ncm.symm]at z
  by_cases e:m=l
  ·rw[e,Ad]at z;cases z
  ·rw[Aj e]at z;exact z
 have nml:m≠l:=fun e=>by
  rw[e,Aj ncl.symm,Ad]at hm
  cases hm
 refine⟨_,rfl,c,C,dx,_,rfl,(by rw[Aj ncm];exact Ad),T.cl,T.nA,(by show 1<1000;decide),?_⟩
 have keep:∀x o,H x=some o→x≠c→(upd (upd (upd (upd H l (.lst (ps.map V.ref))) c (.ins C dx (Bu "rooms" (.ref l) []))) m (.lst (qs.map V.ref))) c (.ins C dx (Bu "arrows" (.ref m) (Bu "rooms" (.ref l) [])))) x=some o:=fun x o e n=>by
  rw[Aj n,Aj (Af e hm'),Aj n,Aj (Af e hl)];exact e
 have hcl:(upd (upd (upd (upd H l (.lst (ps.map V.ref))) c (.ins C dx (Bu "rooms" (.ref l) []))) m (.lst (qs.map V.ref))) c (.ins C dx (Bu "arrows" (.ref m) (Bu "rooms" (.ref l) [])))) l=some (.lst (ps.map V.ref)):=by
  rw[Aj ncl.symm,Aj nml.symm,Aj ncl.symm,Ad]
 have hcm:(upd (upd (upd (upd H l (.lst (ps.map V.ref))) c (.ins C dx (Bu "rooms" (.ref l) []))) m (.lst (qs.map V.ref))) c (.ins C dx (Bu "arrows" (.ref m) (Bu "rooms" (.ref l) [])))) m=some (.lst (qs.map V.ref)):=by
  rw[Aj ncm.symm,Ad]
 have ntc:∀p o,H p=some (.tup o)→p≠c:=fun p o e=>CP e hc (by intro z;cases z)
 generalize hH2:(upd (upd (upd (upd H l (.lst (ps.map V.ref))) c (.ins C dx (Bu "rooms" (.ref l) []))) m (.lst (qs.map V.ref))) c (.ins C dx (Bu "arrows" (.ref m) (Bu "rooms" (.ref l) []))))=H2 at keep hcl hcm ⊢
 have hcc:H2 c=some (.ins C dx (PD l m)):=by rw[← hH2];exact Ad
 have hI2:AL H2 ps (R.map rV):=⟨hI.1,fun i p o e1 e2=>keep _ _ (hI.2 i p o e1 e2) (ntc _ _ (hI.2 i p o e1 e2))⟩
 have hJ2:AL H2 qs (As.map aV):=⟨hJ.1,fun i p o e1 e2=>keep _ _ (hJ.2 i p o e1 e2) (ntc _ _ (hJ.2 i p o e1 e2))⟩
 have hC2:A7 C H2 c R As:=⟨⟨dx,l,m,ps,qs,hcc,hcl,hI2,hcm,hJ2⟩,aU hG.most (by decide),by omega⟩
 refine⟨_,rfl,c,R,As,rfl,hC2,hG,fun H3 s3=>?_⟩
 refine⟨_,rfl,c,R,As,rfl,hC2.same s3,hG,h20,hA,?_⟩
 refine q H3 (fun x o e n=>s3 _ _ (keep x o e n)) (fun H4 k4=>?_)
 have nma:m≠a:=fun e=>by rw[e,ha]at hm';cases hm'
 have nmb:m≠b:=fun e=>by rw[e,hb]at hm';cases hm'
 have nta:∀p o,H p=some (.tup o)→p≠a:=fun p o e=>CP e ha (by intro z;cases z)
 have ntb:∀p o,H p=some (.tup o)→p≠b:=fun p o e=>CP e hb (by intro z;cases z)
 refine⟨⟨dx,l,m,ps,qs,k4 _ _ (s3 _ _ hcc) nac.symm nbc.symm,k4 _ _ (s3 _ _ hcl) nal.symm nbl.symm,⟨hI.1,fun i p o e1 e2=>k4 _ _ (s3 _ _ (hI2.2 i p o e1 e2)) (nta _ _ (hI.2 i p o e1 e2)) (ntb _ _ (hI.2 i p o e1 e2))⟩,
  k4 _ _ (s3 _ _ hcm) nma nmb,⟨hJ.1,fun i p o e1 e2=>k4 _ _ (s3 _ _ (hJ2.2 i p o e1 e2)) (nta _ _ (hJ.2 i p o e1 e2)) (ntb _ _ (hJ.2 i p o e1 e2))⟩⟩,aU hG.most (by decide),by omega⟩
def Ax(R:List Ai)(p:Nat):Str:=match R[p]? with
 | some r=>r.2
 | ae=>""
theorem A1{R:List Ai}{p:Nat}(h:p<R.length):Ax R p=R[p].2:=by
 unfold Ax;rw[aa h]
theorem BP{R:List Ai}{p:Nat}(h:p<R.length):choosing R p=decide (Ax R p = "one"∨Ax R p = "keep"):=by
 rw[A1 h];unfold choosing;rw[aa h]
def Ce(R:List Ai)(mem:List Int)(goal r:Nat):List Nat:=
 if choosing R r=true then
  (
   if((Rm.kidsN (Ae R) r).filter fun p=>Rm.wi (Ae R) goal p)≠[] then(Rm.kidsN (Ae R) r).filter fun p=>Rm.wi (Ae R) goal p
   else if Ax R r = "keep" then [(mem.getD r (-1)).toNat] else [(Rm.kidsN (Ae R) r).headD 0])
 else Rm.kidsN (Ae R) r
structure Ff(R:List Ai)(mem:List Int):Prop where
 len:mem.length=R.length
 keep:∀r,r<R.length→Ax R r = "keep"→∃k∈Rm.kidsN (Ae R) r,mem.getD r (-1)=(k:Int)
theorem DE{R:List Ai}(hG:AX R){r:Nat}(hr:r<R.length)(hc:choosing R r=true):Rm.kidsN (Ae R) r≠[]:=by
 intro z
 have h1:=(hG.kind r R[r] (aa hr)).2
 rw[Rm.kids_kidsN,z]at h1
 have h2:R[r].2 = "plain":=h1.mpr rfl
 rw[BP hr,A1 hr,h2]at hc
 exact absurd hc (by decide +kernel)
theorem Jp{l:List Nat}(h:l≠[]):l.headD 0∈l:=by
 cases l with
 | nil=>exact absurd rfl h
 | cons x r=>exact aw
theorem HW{R:List Ai}{r:Nat}(h:choosing R r=true):r<R.length:=by
 unfold choosing at h
 cases e:R[r]? with
 | none=>rw[e]at h;cases h
 | some x=>exact(af.mp e).1
theorem DF{R:List Ai}{mem:List Int}(hG:AX R)(hM:Ff R mem)(goal:Nat):Rm.Pick (Ae R) (Ce R mem goal):=by
 refine⟨fun r c hc=>?_,fun r=>?_⟩
 ·unfold Ce at hc
  by_cases h1:choosing R r=true
  ·rw[if_pos h1]at hc
   by_cases h2:((Rm.kidsN (Ae R) r).filter fun p=>Rm.wi (Ae R) goal p)≠[]
   ·rw[if_pos h2]at hc;exact(aR.mp hc).1
   ·rw[if_neg h2]at hc
    by_cases h3:Ax R r = "keep"
    ·rw[if_pos h3]at hc
     obtain⟨k,hk,e⟩:=hM.keep r (HW h1) h3
     rw[au.mp hc,e,aA];exact hk
    ·rw[if_neg h3]at hc
     rw[au.mp hc]
     exact Jp (DE hG (HW h1) h1)
  ·rw[if_neg h1]at hc;exact hc
 ·unfold Ce
  have n1:=Rm.kidsN_nodup (Ae R) r
  by_cases h1:choosing R r=true
  ·rw[if_pos h1]
   by_cases h2:((Rm.kidsN (Ae R) r).filter fun p=>Rm.wi (Ae R) goal p)≠[]
   ·rw[if_pos h2];exact bp.filter _ n1
   ·rw[if_neg h2]
    by_cases h3:Ax R r = "keep"
    ·rw[if_pos h3];simp
    ·rw[if_neg h3];simp
  ·rw[if_neg h1];exact n1
theorem QN(R:List Ai)(r:Nat):(Rm.kidsN (Ae R) r).length≤R.length:=by
 unfold Rm.kidsN
 rw[Ay]
 have:=aL (fun j=>decide (Rm.hold (Ae R) j=(r:Int))) (ak R.length)
 rw[aF]at this
 exact this
theorem OA(hs:List Int)(r:Nat):(Rm.kids hs (r:Int)).map V.int=cV (Rm.kidsN hs r):=rfl
def IG(C:fG):Sp:=fun vs H Q _=>∃(c mt:fG) (R:List Ai) (A:List Ap) (mem:List Int) (r goal:Nat),vs=[.ref c,.int r,.int goal,.ref mt]∧A7 C H c R A∧AX R∧r<R.length∧goal<R.length∧H mt=some (.tup (mem.map V.int))∧Ff R mem ∧
 ∀(l:fG) (H':Hp),H l=ae→An H H'→H' l=some (.lst (cV (Ce R mem goal r)))→Q (.ref l) H'
theorem GN:AA ["chart", "room", "goal", "memory", "inner", "kind", "towards"] ["chart", "room", "goal", "memory"] (Am Dj):=⟨rfl,rfl,rfl,by decide +kernel,rfl,by decide +kernel,by decide +kernel⟩
theorem KB{f C fc fw:fG}{fd fdc fdw:fO}(D:Al K mg "chosen" Dj ["chart", "room", "goal", "memory"] f fd)(T:DP K mg C)(Dc:Al K mg "children" BS ["chart", "room"] fc fdc)(Dw:Al K mg "within" B1 ["chart", "room", "other"] fw fdw) :
  AC P w K mg base A6 2 f fd ["chart", "room", "goal", "memory"] (IG C):=by
 have Gc:AC P w K mg base A6 1 fc fdc ["chart", "room"] (Ep C):=E3 Dc T
 have Gw:AC P w K mg base A6 1 fw fdw ["chart", "room", "other"] (ES C):=Fu Dw T
 refine D.fn.ok GN (fun vs H Q E h=>?_) (fun cdv A outer s H vs Q E hr h=>?_)
 ·obtain⟨c,mt,R,As,mem,r,goal,rfl,_⟩:=h
  rfl
 obtain⟨c,mt,R,As,mem,r,goal,rfl,hC,hG,hr',hg,hm,hM,q⟩:=h
 obtain⟨aK,hK,sK⟩:=T.choosing
 refine⟨_,Ac (Ar (i:=4) GN.nd rfl (Or.inl rfl) (Aq Gc hr rfl Dc.mg Dc.fn.kp Dc.bd .nil AE (Aa (pv 0) (Aa (pv 1) Ab))))
  (Ac (Ar (i:=5) GN.nd rfl (Or.inl rfl) (Ao Av (Ao Au (A3 (pv 0) rfl) (pv 1) (fun _ _=>rfl)) (AG T.kind rfl) (fun _ _=>rfl)))
  (Ac (A0 (AB Dq (pv 5) (Im rfl hK (v:=.ref aK) rfl) (by with_unfolding_all rfl)) (Ak (AK (pv 4))) AJ)
  (Ac (CV (i:=6) ["place", "chart", "goal"] [ae,some 0,some 2] rfl GN.nd rfl rfl (Bi (pv 4)) (fun _=>Az (i:=0) (show(["place", "chart", "goal"]:List Str).Nodup by decide +kernel) rfl (Or.inl rfl))
    (fun _=>DW (Cf (Aq Gw hr rfl Dw.mg Dw.fn.kp Dw.bd .nil AE (Aa (pv 1) (Aa (pv 2) (Aa (pv 0) Ab)))))) (fun _=>pv 0)
    (N:=["chart", "room", "goal", "memory", "inner", "kind", "towards"]) (ks:=(Am Dj).names) rfl rfl (by decide +kernel) (by decide +kernel) (by decide +kernel) (by decide +kernel))
  (Ac (A0 (AB Mn (AF At (by rfl) T.len PySem.boot_len (Aa (pv 6) Ab)) Ah (AS _)) (Ak (AK (pv 6))) AJ)
  (Ac (A0 (AB B4 (pv 5) Be (AS _)) (Ak (AK (Bj (Aa (Ao Av (pv 3) (pv 1) (fun _ _=>rfl)) Ab)))) AJ)
  (Ak (AK (Bj (Aa (Ao Au (pv 4) Ah (fun _ _=>rfl)) Ab))))))))),?_⟩
 have hlen:=QN R r
 have hrl:=hC.rl
 refine⟨_,rfl,_,rfl,c,R,As,r,rfl,hC,fun l H1 hl s1 e1=>?_⟩
 rw[OA]at e1
 obtain⟨dx,la,ma,ps,qs,h1,h2,h3,h4,h5⟩:=(hC.same s1).ob
 obtain⟨p,hp,hp2⟩:=BE h3 hr'
 refine⟨_,rfl,c,C,dx,_,_,rfl,h1,T.cl,T.nR,Ba la ma,_,rfl,la,_,_,_,rfl,rfl,AD.of h2,hp,p,_,_,_,rfl,rfl,A2.of hp2,rfl,?_⟩
 refine⟨_,rfl,aK,_,rfl,.inr (sK _),rfl,by decide +kernel,_,rfl,?_⟩
 show if(!Ie (V.str R[r].2) [V.str "one",V.str "keep"])=true then _ else _
 have ech:choosing R r=decide (R[r].2 = "one"∨R[r].2 = "keep"):=by
  unfold choosing;rw[aa hr']
 rw[Lz,← ech]
 cases hc:choosing R r with
 | false=>
  refine Bw ?_
  refine⟨_,rfl,?_⟩
  refine q l H1 hl s1 ?_
  rw[e1];unfold Ce
  rw[if_neg (by rw[hc];decide)]
 | true=>
  refine A9 ?_
  refine⟨_,rfl,l,rfl,⟨_,AD.of e1⟩,fun bk d hd=>?_⟩
  refine Fz (xs:=cV (Rm.kidsN (Ae R) r)) (Pv:=fun i ys σ H'=>∃v,σ=[v,some (.ref c),some (.int goal)]∧ys=cV (((Rm.kidsN (Ae R) r).take i).filter fun p=>Rm.wi (Ae R) goal p)∧An H1 H')
   ⟨_,rfl,rfl,Ag hd _⟩ (fun i ys σ H2 _ _ ⟨_,_,_,s2⟩=>AD.of (s2 _ _ e1)) ?_ ?_
  ·rintro i x ys σ H2 hx hDi ⟨v,rfl,hys,(s2:An _ _)⟩
   obtain⟨k,hk,rfl⟩:=Cn hx
   have htk:(Rm.kidsN (Ae R) r).take (i+1)=(Rm.kidsN (Ae R) r).take i++[k]:=by rw[bj,hk];rfl
   refine⟨_,rfl,_,rfl,_,rfl,c,R,As,goal,k,rfl,hC.same (s1.trans s2),hG.tree,hg,_,rfl,?_⟩
   cases hw:Rm.wi (Ae R) goal k with
   | true=>
    refine Bw ?_
    refine⟨_,rfl,hDi,?_,_,rfl,?_,AH s2 hd _⟩
    ·rw[hys,Bl]
     have a1:=aL (fun p=>Rm.wi (Ae R) goal p) ((Rm.kidsN (Ae R) r).take i)
     have a2:=List.length_take_le i (Rm.kidsN (Ae R) r)
     have a3:((Rm.kidsN (Ae R) r).take i).length≤(Rm.kidsN (Ae R) r).length:=by rw[bc];omega
     exact Aw (by omega)
    ·rw[htk,bq,DO,← hys]
     have:([k].filter fun p=>Rm.wi (Ae R) goal p)=[k]:=by simp[hw]
     rw[this];rfl
   | false=>
    refine A9 ?_
    refine⟨hDi,_,rfl,?_,s2⟩
    rw[htk,bq]
    have:([k].filter fun p=>Rm.wi (Ae R) goal p)=[]:=by simp[hw]
    rw[this,bn];exact hys
  rintro ys σ H2 hDn ⟨v,rfl,hys,(s2:An _ _)⟩
  rw[Bl,aN]at hys
  have s12:=s1.trans s2
  have hd0:H d=ae:=s1.free hd
  have chE:Ce R mem goal r=(if((Rm.kidsN (Ae R) r).filter fun p=>Rm.wi (Ae R) goal p)≠[] then(Rm.kidsN (Ae R) r).filter fun p=>Rm.wi (Ae R) goal p
    else if Ax R r = "keep" then [(mem.getD r (-1)).toNat] else [(Rm.kidsN (Ae R) r).headD 0]):=by unfold Ce;rw[if_pos hc]
  refine⟨_,rfl,d,_,rfl,.inl (AD.of hDn),_,_,rfl,rfl,_,rfl,?_⟩
  rw[hys,Bl]
  by_cases hne:((Rm.kidsN (Ae R) r).filter fun p=>Rm.wi (Ae R) goal p)=[]
  ·rw[hne]
   refine A9 ?_
   rw[if_neg (by rw[hne];simp)]at chE
   refine⟨_,rfl,rfl,_,rfl,?_⟩
   by_cases hkp:R[r].2 = "keep"
   ·rw[decide_eq_true (show V.str R[r].2=V.str "keep" by rw[hkp])]
    refine Bw ?_
    have hkk:Ax R r = "keep":=by rw[A1 hr'];exact hkp
    obtain⟨k,hk,ek⟩:=hM.keep r hr' hkk
    have hml:r<mem.length:=by rw[hM.len];exact hr'
    have em:G6 (mem.map V.int) (r:Int)=some (.int (k:Int)):=by
     rw[CC hml]
     rw[ag,aa hml]at ek
     have ek':mem[r]=(k:Int):=ek
     rw[ek']
    refine⟨_,rfl,_,rfl,mt,_,_,_,rfl,rfl,A2.of (s12 _ _ hm),em,(by show 1≤fL;decide),fun t ht=>?_⟩
    refine q t _ (s12.free ht) (s12.trans (Ag ht _)) ?_
    rw[Ad,chE,if_pos hkk,ek,aA];rfl
   ·rw[decide_eq_false (show ¬V.str R[r].2=V.str "keep" from fun z=>hkp (by injection z))]
    refine A9 ?_
    have hkk:¬Ax R r = "keep":=by rw[A1 hr'];exact hkp
    have hne2:=DE hG hr' hc
    have e0:(cV (Rm.kidsN (Ae R) r))[0]?=some (.int ((Rm.kidsN (Ae R) r).headD 0:Nat)):=by
     cases hz:Rm.kidsN (Ae R) r with
     | nil=>exact absurd hz hne2
     | cons x t=>rfl
    refine⟨_,rfl,l,_,_,_,rfl,rfl,AD.of (s2 _ _ e1),Bo (j:=0) e0,(by show 1≤fL;decide),fun t ht=>?_⟩
    refine q t _ (s12.free ht) (s12.trans (Ag ht _)) ?_
    rw[Ad,chE,if_neg hkk];rfl
  ·have hpos:0<((Rm.kidsN (Ae R) r).filter fun p=>Rm.wi (Ae R) goal p).length:=List.length_pos_iff.mpr hne
   rw[decide_eq_true (show(0:Int)<(((Rm.kidsN (Ae R) r).filter fun p=>Rm.wi (Ae R) goal p).length:Int) by omega)]
   refine Bw ?_
   refine⟨_,rfl,?_⟩
   refine q d H2 hd0 s12 ?_
   rw[hDn,hys,chE,if_pos hne]
theorem O2(f:Nat→List Nat)(l:List Nat)(i:Nat):((l.take i).flatMap f).length≤(l.flatMap f).length:=by
 conv=>rhs;rw[← dS i l,eF,ai]
 omega
def But(p:fG)(H H1:Hp):Prop:=∀b o,H b=some o→b≠p→H1 b=some o
def Km(C:fG)(n:Nat):Sp:=fun vs H Q _=>∃(c mt:fG) (R:List Ai) (A:List Ap) (mem:List Int) (r goal:Nat),vs=[.ref c,.int r,.int goal,.ref mt]∧A7 C H c R A∧AX R∧r<R.length∧goal<R.length∧H mt=some (.tup (mem.map V.int))∧Ff R mem∧R.length≤n+r ∧
 ∀(l:fG) (H':Hp),H l=ae→An H H'→H' l=some (.lst (cV (Rm.ent (Ce R mem goal) n r)))→Q (.ref l) H'
theorem Hh:AA ["chart", "room", "goal", "memory", "kept", "inner"] ["chart", "room", "goal", "memory"] (Am CZ):=⟨rfl,rfl,rfl,by decide +kernel,rfl,by decide +kernel,by decide +kernel⟩
theorem Mr{f C fh:fG}{fd fdh:fO}{n:Nat}(D:Al K mg "entered" CZ ["chart", "room", "goal", "memory"] f fd)(T:DP K mg C)(Dh:Al K mg "chosen" Dj ["chart", "room", "goal", "memory"] fh fdh)
  (Gh:AC P w K mg base A6 2 fh fdh ["chart", "room", "goal", "memory"] (IG C)) (G:AC P w K mg base A6 (n+3) f fd ["chart", "room", "goal", "memory"] (Km C n)):AC P w K mg base A6 (n+4) f fd ["chart", "room", "goal", "memory"] (Km C (n+1)):=by
 refine D.fn.ok Hh (fun vs H Q E h=>?_) (fun cdv A outer s H vs Q E hr h=>?_)
 ·obtain⟨c,mt,R,As,mem,r,goal,rfl,_⟩:=h
  rfl
 obtain⟨c,mt,R,As,mem,r,goal,rfl,hC,hG,hr',hg,hm,hM,hn,q⟩:=h
 refine⟨_,Ac (Ar (i:=4) Hh.nd rfl (Or.inl rfl) (Bj (Aa (pv 1) Ab)))
  (Ac (Bd fR.never rfl (Bi (Aq Gh (hr.mono (by omega)) rfl Dh.mg Dh.fn.kp Dh.bd .nil AE (Aa (pv 0) (Aa (pv 1) (Aa (pv 2) (Aa (pv 3) Ab)))))) (Az (i:=5) Hh.nd rfl (Or.inl rfl))
   (Ak (AT (BF ax PySem.F.slot_list_extend PySem.F.type_list_extend Pn (pv 4) (Aa (Aq G hr rfl D.mg D.fn.kp D.bd .nil AE (Aa (pv 0) (Aa (pv 5) (Aa (pv 2) (Aa (pv 3) Ab))))) Ab)))))
  (Ak (AK (pv 4)))),?_⟩
 refine⟨_,rfl,(by show 1≤fL;decide),fun kd hkd=>?_⟩
 have s1:An H (upd H kd (.lst [.int r])):=Ag hkd _
 have ek:(upd H kd (.lst [.int r])) kd=some (.lst (cV [r])):=Ad
 generalize upd H kd (.lst [.int r])=H1 at s1 ek ⊢
 refine⟨_,rfl,_,rfl,_,rfl,_,rfl,c,mt,R,As,mem,r,goal,rfl,hC.same s1,hG,hr',hg,s1 _ _ hm,hM,fun cl H2 hcl s2 ecl=>?_⟩
 have s12:=s1.trans s2
 have nkc:cl≠kd:=fun z=>by rw[z,ek]at hcl;cases hcl
 have P:=DF hG hM goal
 have hrl:=hG.most
 have hr2:r<(Ae R).length:=by rw[Ay];exact hr'
 refine⟨cl,rfl,⟨_,AD.of ecl⟩,?_⟩
 refine Cl (xs:=cV (Ce R mem goal r)) (fun i σ H3=>∃v,σ=[some (.ref c),some (.int r),some (.int goal),some (.ref mt),some (.ref kd),v]∧But kd H2 H3∧H3 kd=some (.lst (cV (r::((Ce R mem goal r).take i).flatMap (Rm.ent (Ce R mem goal) n)))))
  ⟨_,rfl,fun b o e _=>e,s2 _ _ ek⟩ (fun i σ H3 _ ⟨_,_,k3,_⟩=>AD.of (k3 _ _ ecl nkc)) ?_ ?_
 ·rintro i x σ H3 hx ⟨v,rfl,k3,e3⟩
  obtain⟨k,hk,rfl⟩:=Cn hx
  have hkm:k∈Ce R mem goal r:=ay hk
  have hkk:=P.sub r k hkm
  have hkl:=(Rm.mem_kidsN.mp hkk).1
  rw[Ay]at hkl
  have hgt:=Rm.kid_gt hG.tree hkk
  have s3:An H H3:=fun b o e=>k3 _ _ (s12 _ _ e) (Af e hkd)
  have htk:(Ce R mem goal r).take (i+1)=(Ce R mem goal r).take i++[k]:=by rw[bj,hk];rfl
  refine⟨_,rfl,.inl ⟨rfl,_,AD.of e3⟩,_,rfl,_,rfl,_,rfl,_,rfl,c,mt,R,As,mem,k,goal,rfl,hC.same s3,hG,hkl,hg,s3 _ _ hm,hM,by omega,fun el H4 hel s4 e4=>?_⟩
  have nke:kd≠el:=Af e3 hel
  have ent1:=Rm.ent_len hG.tree P (n+1) r hr2
  have tf:=O2 (Rm.ent (Ce R mem goal) n) (Ce R mem goal r) (i+1)
  have efl:((Ce R mem goal r).take (i+1)).flatMap (Rm.ent (Ce R mem goal) n)=((Ce R mem goal r).take i).flatMap (Rm.ent (Ce R mem goal) n)++Rm.ent (Ce R mem goal) n k:=by
   rw[htk,eF];simp
  refine⟨kd,el,_,_,rfl,rfl,s4 _ _ e3,e4,?_,?_⟩
  ·rw[Bl,Bl]
   have e5:(Rm.ent (Ce R mem goal) (n+1) r).length=((Ce R mem goal r).flatMap (Rm.ent (Ce R mem goal) n)).length+1:=rfl
   rw[Ay,e5]at ent1
   rw[efl,ai]at tf
   rw[bf]
   exact GL (by omega)
  ·refine⟨_,rfl,fun b o e n'=>?_,?_⟩
   ·rw[Aj n'];exact s4 _ _ (k3 _ _ e n')
   ·rw[Ad,efl,← DO];rfl
 ·rintro σ H3 ⟨v,rfl,k3,e3⟩
  rw[Bl,aN]at e3
  refine⟨_,rfl,?_⟩
  exact q kd H3 hkd (fun b o e=>k3 _ _ (s12 _ _ e) (Af e hkd)) e3
theorem Gd{f C fh:fG}{fd fdh:fO}(D:Al K mg "entered" CZ ["chart", "room", "goal", "memory"] f fd)(T:DP K mg C)(Dh:Al K mg "chosen" Dj ["chart", "room", "goal", "memory"] fh fdh)
  (Gh:AC P w K mg base A6 2 fh fdh ["chart", "room", "goal", "memory"] (IG C)):∀n:Nat,AC P w K mg base A6 (n+3) f fd ["chart", "room", "goal", "memory"] (Km C n)
 | 0=>by
  have no:∀vs H Q E,¬Km C 0 vs H Q E:=fun vs H Q E h=>by
   obtain⟨c,mt,R,As,mem,r,goal,_,_,_,h1,_,_,_,h2,_⟩:=h
   omega
  exact⟨fun vs H Q E h=>absurd h (no vs H Q E),fun A outer s H args us vs Q E _ _ _ _ h=>absurd h (no vs H Q E)⟩
 | n+1=>Mr D T Dh Gh (Gd D T Dh Gh n)
def Ht(R:List Ai):List Int:=(ak R.length).map fun k=>if Ax R k = "keep" then(((Rm.kidsN (Ae R) k).headD 0:Nat):Int) else -1
theorem Mw{R:List Ai}{k:Nat}(h:k<R.length):(Ht R).getD k (-1)=if Ax R k = "keep" then(((Rm.kidsN (Ae R) k).headD 0:Nat):Int) else -1:=by
 unfold Ht
 rw[ag,av,bv h];rfl
theorem Cj{R:List Ai}{k:Nat}(h:k<R.length)(hk:Ax R k = "keep"):choosing R k=true:=by
 rw[BP h];exact decide_eq_true (.inr hk)
theorem Ov{R:List Ai}(hG:AX R):Ff R (Ht R):=by
 refine⟨by simp[Ht],fun r hr hk=>⟨_,Jp (DE hG hr (Cj hr hk)),?_⟩⟩
 rw[Mw hr,if_pos hk]
def IE(C:fG):Sp:=fun vs H Q _=>∃(c:fG) (R:List Ai) (A:List Ap),vs=[.ref c]∧A7 C H c R A∧AX R ∧
 ∀(t:fG) (H':Hp),An H H'→H' t=some (.tup ((Ht R).map V.int))→Q (.ref t) H'
theorem FN:AA ["chart", "memory", "room"] ["chart"] (Am DC):=⟨rfl,rfl,rfl,by decide +kernel,rfl,by decide +kernel,by decide +kernel⟩
theorem Lo{f C fc:fG}{fd fdc:fO}(D:Al K mg "first_memory" DC ["chart"] f fd)(T:DP K mg C)(Dc:Al K mg "children" BS ["chart", "room"] fc fdc):AC P w K mg base A6 2 f fd ["chart"] (IE C):=by
 have Gc:AC P w K mg base A6 1 fc fdc ["chart", "room"] (Ep C):=E3 Dc T
 refine D.fn.ok FN (fun vs H Q E h=>?_) (fun cdv A outer s H vs Q E hr h=>?_)
 ·obtain⟨c,R,As,rfl,_⟩:=h
  rfl
 obtain⟨c,R,As,rfl,hC,hG,q⟩:=h
 refine⟨_,Ac (Ar (i:=1) FN.nd rfl (Or.inl rfl) (Bj Ab))
  (Ac (Bd fR.never rfl (AV rfl T.range (Aa (AF At (by rfl) T.len PySem.boot_len (Aa (A3 (pv 0) rfl) Ab)) Ab)) (Az (i:=2) FN.nd rfl (Or.inl rfl))
   (Ak (A0 (AB B4 (Ao Av (Ao Au (A3 (pv 0) rfl) (pv 2) (fun _ _=>rfl)) (AG T.kind rfl) (fun _ _=>rfl)) Be (AS _))
    (Ak (AT (BF ax aB aD AU (pv 1) (Aa (Ao Au (Aq Gc hr rfl Dc.mg Dc.fn.kp Dc.bd .nil AE (Aa (pv 0) (Aa (pv 2) Ab))) Ah (fun _ _=>rfl)) Ab))))
    (Ak (AT (BF ax aB aD AU (pv 1) (Aa (AG T.nil rfl) Ab)))))))
  (Ak (AK (Bc BA (by rfl) T.tup (by decide +kernel) (Aa (pv 1) Ab))))),?_⟩
 refine⟨(by show 0≤fL;decide),fun md hmd=>?_⟩
 have s1:An H (upd H md (.lst [])):=Ag hmd _
 have em:(upd H md (.lst [])) md=some (.lst []):=Ad
 generalize upd H md (.lst [])=H1 at s1 em ⊢
 obtain⟨dx,la,ma,ps,qs,h1,h2,h3,h4,h5⟩:=hC.ob
 have hl:(ps.map V.ref).length=R.length:=by rw[ac,h3.1,ac]
 have hrl:=hC.rl
 refine⟨_,rfl,c,C,dx,_,_,rfl,s1 _ _ h1,T.cl,T.nR,Ba la ma,la,_,rfl,.inl (AD.of (s1 _ _ h2)),_,rfl,by rw[hl];omega,by rw[hl];omega,?_⟩
 rw[hl]
 refine Bh (fun i σ H2=>∃v,σ=[some (.ref c),some (.ref md),v]∧An H H2∧H2 md=some (.lst (((ak i).map fun k=>if Ax R k = "keep" then(((Rm.kidsN (Ae R) k).headD 0:Nat):Int) else -1).map V.int)))
  ⟨_,rfl,s1,em⟩ ?_ ?_
 ·rintro i σ H2 hi ⟨v,rfl,s2,e2⟩
  have hi':i<R.length:=by omega
  have ei:(0:Int)+(i:Int)=(i:Int):=by omega
  rw[ei]
  obtain⟨p,hp,hp2⟩:=BE h3 hi'
  refine⟨_,rfl,c,C,dx,_,_,rfl,s2 _ _ h1,T.cl,T.nR,Ba la ma,_,rfl,la,_,_,_,rfl,rfl,AD.of (s2 _ _ h2),hp,p,_,_,_,rfl,rfl,A2.of (s2 _ _ hp2),rfl,rfl,_,rfl,?_⟩
  have lenOk:(((ak i).map fun k=>if Ax R k = "keep" then(((Rm.kidsN (Ae R) k).headD 0:Nat):Int) else -1).map V.int).length<fL:=by
   rw[ac,ac,aF];exact Aw (by omega)
  by_cases hkp:R[i].2 = "keep"
  ·rw[decide_eq_true (show V.str R[i].2=V.str "keep" by rw[hkp])]
   refine Bw ?_
   have hkk:Ax R i = "keep":=by rw[A1 hi'];exact hkp
   have hne:=DE hG hi' (Cj hi' hkk)
   refine⟨_,rfl,.inl ⟨rfl,_,AD.of e2⟩,_,rfl,_,rfl,c,R,As,i,rfl,hC.same s2,fun kl H3 hkl s3 e3=>?_⟩
   rw[OA]at e3
   have e0:(cV (Rm.kidsN (Ae R) i))[0]?=some (.int ((Rm.kidsN (Ae R) i).headD 0:Nat)):=by
    cases hz:Rm.kidsN (Ae R) i with
    | nil=>exact absurd hz hne
    | cons x t=>rfl
   refine⟨kl,_,_,_,rfl,rfl,AD.of e3,Bo (j:=0) e0,md,_,_,rfl,rfl,s3 _ _ e2,lenOk,?_⟩
   refine⟨_,rfl,AH (s2.trans s3) hmd _,?_⟩
   rw[Ad,bh,am,am]
   show _=some (HO.lst (_++[V.int (if Ax R i = "keep" then _ else _)]))
   rw[if_pos hkk]
  ·rw[decide_eq_false (show ¬V.str R[i].2=V.str "keep" from fun z=>hkp (by injection z))]
   refine A9 ?_
   have hkk:¬Ax R i = "keep":=by rw[A1 hi'];exact hkp
   refine⟨_,rfl,.inl ⟨rfl,_,AD.of e2⟩,md,_,_,rfl,rfl,e2,lenOk,?_⟩
   refine⟨_,rfl,AH s2 hmd _,?_⟩
   rw[Ad,bh,am,am]
   show _=some (HO.lst (_++[V.int (if Ax R i = "keep" then _ else _)]))
   rw[if_neg hkk]
 ·rintro σ H2 ⟨v,rfl,s2,e2⟩
  refine⟨_,rfl,md,_,rfl,.inl ⟨AD.of e2,fun t ht=>?_⟩⟩
  refine q t _ (s2.trans (Ag ht _)) ?_
  rw[Ad]
  have e:((R.length:Int)).toNat=R.length:=by omega
  rw[e];rfl
def IC(K:aj):Sp:=fun vs H Q _=>∃(p:fG) (ns:List Int),vs=[.ref p]∧AD K H p (ns.map V.int)∧ns.length<64 ∧
 ∀(t:fG) (ns':List Int) (H':Hp),An H H'→ns'.Perm ns→ns'.Pairwise (·≤·)→H' t=some (.tup (ns'.map V.int))→Q (.ref t) H'
theorem Qg:AA ["rooms"] ["rooms"] (Am Ev):=⟨rfl,rfl,rfl,by decide +kernel,rfl,by decide +kernel,by decide +kernel⟩
theorem Kz{f C:fG}{fd:fO}(D:Al K mg "rising" Ev ["rooms"] f fd)(T:DP K mg C):AC P w K mg base A6 1 f fd ["rooms"] (IC K):=by
 refine D.fn.ok Qg (fun vs H Q E h=>?_) (fun cdv A outer s H vs Q E hr h=>?_)
 ·obtain⟨p,ns,rfl,_⟩:=h
  rfl
 obtain⟨p,ns,rfl,hS,h64,q⟩:=h
 refine⟨_,Ak (AK (Bc BA (by rfl) T.tup (by decide +kernel) (Aa (AF MZ (by rfl) T.srt (by decide +kernel) (Aa (pv 0) Ab)) Ab))),?_⟩
 refine⟨_,rfl,p,ns,rfl,hS,h64,fun l ns' hl hp hs=>?_⟩
 refine⟨l,_,rfl,.inl ⟨AD.of Ad,fun t ht=>?_⟩⟩
 exact q t ns' _ ((Ag hl _).trans (Ag ht _)) hp hs Ad
def iN(l:List Nat):List Int:=l.map fun(j:Nat)=>(j:Int)
def Kk(C:fG):Sp:=fun vs H Q _=>∃(c:fG) (R:List Ai) (A:List Ap),vs=[.ref c]∧A7 C H c R A∧AX R ∧
 ∀(t k m:fG) (ns:List Int) (H':Hp),An H H'→H' t=some (.tup [.ref k,.ref m])→H' k=some (.tup (ns.map V.int))→H' m=some (.tup ((Ht R).map V.int))→ns.Perm (iN (Rm.ent (Ce R (Ht R) 0) 16 0))→ns.Pairwise (·≤·)→Q (.ref t) H'
theorem Kp:AA ["chart", "memory"] ["chart"] (Am Eh):=⟨rfl,rfl,rfl,by decide +kernel,rfl,by decide +kernel,by decide +kernel⟩
theorem Np{f C ff fr fe fh fc fw:fG}{fd fdf fdr fde fdh fdc fdw:fO}(D:Al K mg "started" Eh ["chart"] f fd)(T:DP K mg C)(Df:Al K mg "first_memory" DC ["chart"] ff fdf)(Dr:Al K mg "rising" Ev ["rooms"] fr fdr)
  (De:Al K mg "entered" CZ ["chart", "room", "goal", "memory"] fe fde) (Dh:Al K mg "chosen" Dj ["chart", "room", "goal", "memory"] fh fdh) (Dc:Al K mg "children" BS ["chart", "room"] fc fdc) (Dw:Al K mg "within" B1 ["chart", "room", "other"] fw fdw) :
  AC P w K mg base A6 20 f fd ["chart"] (Kk C):=by
 have Gf:AC P w K mg base A6 2 ff fdf ["chart"] (IE C):=Lo Df T Dc
 have Gr:AC P w K mg base A6 1 fr fdr ["rooms"] (IC K):=Kz Dr T
 have Ge:AC P w K mg base A6 19 fe fde ["chart", "room", "goal", "memory"] (Km C 16):=Gd De T Dh (KB Dh T Dc Dw) 16
 refine D.fn.ok Kp (fun vs H Q E h=>?_) (fun cdv A outer s H vs Q E hr h=>?_)
 ·obtain⟨c,R,As,rfl,_⟩:=h
  rfl
 obtain⟨c,R,As,rfl,hC,hG,q⟩:=h
 refine⟨_,Ac (Ar (i:=1) Kp.nd rfl (Or.inl rfl) (Aq Gf (hr.mono (by decide)) rfl Df.mg Df.fn.kp Df.bd .nil AE (Aa (pv 0) Ab)))
  (Ak (AK (AY (Aa (Aq Gr (hr.mono (by decide)) rfl Dr.mg Dr.fn.kp Dr.bd .nil AE (Aa (Aq Ge hr rfl De.mg De.fn.kp De.bd .nil AE (Aa (pv 0) (Aa Ah (Aa Ah (Aa (pv 1) Ab))))) Ab)) (Aa (pv 1) Ab))))),?_⟩
 refine⟨_,rfl,c,R,As,rfl,hC,hG,fun mt H1 s1 e1=>?_⟩
 have hpos:=hG.tree.pos
 rw[Ay]at hpos
 have hM:=Ov hG
 refine⟨_,rfl,_,rfl,c,mt,R,As,Ht R,0,0,rfl,hC.same s1,hG,hpos,hpos,e1,hM,by have:=hG.most;omega,fun el H2 hel s2 e2=>?_⟩
 have hlen:=Rm.ent_len hG.tree (DF hG hM 0) 16 0 hG.tree.pos
 rw[Ay]at hlen
 have hmost:=hG.most
 refine⟨el,iN (Rm.ent (Ce R (Ht R) 0) 16 0),rfl,AD.of e2,by unfold iN;rw[ac];omega,fun kt ns H3 s3 hp hs e3=>?_⟩
 refine⟨_,rfl,(by show 2≤fL;decide),fun t ht=>?_⟩
 have s4:=Ag ht (.tup [.ref kt,.ref mt])
 exact q t kt mt ns _ (s1.trans (s2.trans (s3.trans s4))) Ad (s4 _ _ e3) (s4 _ _ (s3 _ _ (s2 _ _ e1))) hp hs
def A8(R:List Ai)(a:Ap):Nat:=(Bp R a.1.toNat a.2.2.2.1.toNat).getD 0
theorem GM{R:List Ai}{s t p:Nat}(h:Bp R s t=some p):p∈(Rm.chain (Ae R) s).tail∧choosing R p=true∧Rm.li (Ae R) t p=true:=by
 have h1:=cg h
 have h2:=dg h
 rw[be]at h2
 exact⟨h1,h2.1,h2.2⟩
theorem EV{R:List Ai}{a:Ap}(h:AW R a):A8 R a<R.length:=by
 obtain⟨p,hp⟩:=h.sc
 obtain⟨s,es,hs⟩:=h.src
 unfold A8
 rw[hp]
 have:=Rm.tail_lt (GM hp).1
 rw[es,aA]at this
 exact cB this hs
def Ss(R:List Ai)(a b:Ap):Bool:=Rm.wi (Ae R) (A8 R a) (A8 R b)||Rm.wi (Ae R) (A8 R b) (A8 R a)
def Br(cl:Nat→Nat→Bool):List Nat→Option (Nat×Nat)
 | []=>ae
 | x::r=>match r.find? (cl x) with
  | some y=>some (x,y)
  | ae=>Br cl r
def EO(R:List Ai)(A:List Ap)(i j:Nat):Bool:=match A[i]?,A[j]? with
 | some a,some b=>Ss R a b
 | _,_=>false
theorem OP{R:List Ai}{A:List Ap}{i j:Nat}{a b:Ap}(hi:A[i]?=some a)(hj:A[j]?=some b):EO R A i j=Ss R a b:=by
 unfold EO;rw[hi,hj]
def pairV(Q:VK)(H:Hp):Option (Nat×Nat)→Prop
 | ae=>∀H',An H H'→Q .non H'
 | some (x,y)=>∀t H',An H H'→H' t=some (.tup [.int x,.int y])→Q (.ref t) H'
theorem cutN(xs:List V)(k:Nat):Cm xs (some (k:Int)) ae=xs.drop k:=by
 unfold Cm
 rw[HT.sIx_nat,HT.sIx_none]
 by_cases h:k≤xs.length
 ·rw[Nat.min_eq_left h]
  exact dH (by rw[bV];exact aE _)
 ·rw[Nat.min_eq_right (by omega),cC,dI (by omega)]
  simp
theorem Sv(l:List Nat)(k:Nat):(cV l).drop k=cV (l.drop k):=by unfold cV;rw[eJ,eJ]
def II(C:fG):Sp:=fun vs H Q _=>∃(c:fG) (R:List Ai) (A:List Ap) (i:Nat) (a:Ap),vs=[.ref c,.int i]∧A7 C H c R A∧AX R∧A[i]?=some a∧AW R a∧Q (.int (A8 R a)) H
theorem Md:AA ["chart", "number", "arrow"] ["chart", "number"] (Am Ey):=⟨rfl,rfl,rfl,by decide +kernel,rfl,by decide +kernel,by decide +kernel⟩
theorem Pj{f C fs fl fw:fG}{fd fds fdl fdw:fO}(D:Al K mg "arrow_scope" Ey ["chart", "number"] f fd)(T:DP K mg C)(Ds:Al K mg "scope" FP ["chart", "source", "target"] fs fds)(Dl:Al K mg "lies_in" GQ ["chart", "room", "other"] fl fdl)(Dw:Al K mg "within" B1 ["chart", "room", "other"] fw fdw) :
  AC P w K mg base A6 4 f fd ["chart", "number"] (II C):=by
 have Gs:AC P w K mg base A6 3 fs fds ["chart", "source", "target"] (K4 C):=Mp Ds T Dl Dw
 refine D.fn.ok Md (fun vs H Q E h=>?_) (fun cdv A outer s H vs Q E hr h=>?_)
 ·obtain⟨c,R,As,i,a,rfl,_⟩:=h
  rfl
 obtain⟨c,R,As,i,a,rfl,hC,hG,hia,hA,q⟩:=h
 refine⟨_,Ac (Ar (i:=2) Md.nd rfl (Or.inl rfl) (Ao Au (A3 (pv 0) rfl) (pv 1) (fun _ _=>rfl)))
  (Ak (AK (Aq Gs hr rfl Ds.mg Ds.fn.kp Ds.bd .nil AE (Aa (pv 0) (Aa (Ao Av (pv 2) (AG T.src rfl) (fun _ _=>rfl)) (Aa (Ao Av (pv 2) (AG T.tgt rfl) (fun _ _=>rfl)) Ab)))))),?_⟩
 obtain⟨hi,rfl⟩:=af.mp hia
 obtain⟨dx,l,m,ps,qs,h1,h2,h3,h4,h5⟩:=hC.ob
 obtain⟨p,hp,hp2⟩:=BY h5 hi
 obtain⟨sn,es,hs⟩:=hA.src
 obtain⟨tn,et,ht⟩:=hA.tgt
 refine⟨_,rfl,c,C,dx,_,_,rfl,h1,T.cl,T.nA,Bz l m,_,rfl,m,_,_,_,rfl,rfl,AD.of h4,hp,?_⟩
 refine⟨_,rfl,_,rfl,p,_,_,_,rfl,rfl,A2.of hp2,rfl,_,rfl,p,_,_,_,rfl,rfl,A2.of hp2,rfl,c,R,As,sn,tn,(by rw[es,et];rfl),hC,hG.tree,hs,ht,?_⟩
 obtain⟨pp,hsc⟩:=hA.sc
 unfold A8 at q
 rw[hsc]at q
 rw[es,et,aA,aA]at hsc
 rw[hsc]
 exact q
def IF(C:fG):Sp:=fun vs H Q _=>∃(c:fG) (R:List Ai) (A:List Ap) (i j:Nat) (a b:Ap),vs=[.ref c,.int i,.int j]∧A7 C H c R A∧AX R∧A[i]?=some a∧A[j]?=some b∧AW R a∧AW R b∧Q (.bl (Ss R a b)) H
theorem FO:AA ["chart", "first", "second", "one", "other"] ["chart", "first", "second"] (Am DD):=⟨rfl,rfl,rfl,by decide +kernel,rfl,by decide +kernel,by decide +kernel⟩
theorem Ms{f C fa fw:fG}{fd fda fdw:fO}(D:Al K mg "clashing" DD ["chart", "first", "second"] f fd)(T:DP K mg C)(Da:Al K mg "arrow_scope" Ey ["chart", "number"] fa fda)(Ga:AC P w K mg base A6 4 fa fda ["chart", "number"] (II C))(Dw:Al K mg "within" B1 ["chart", "room", "other"] fw fdw) :
  AC P w K mg base A6 5 f fd ["chart", "first", "second"] (IF C):=by
 have Gw:AC P w K mg base A6 1 fw fdw ["chart", "room", "other"] (ES C):=Fu Dw T
 refine D.fn.ok FO (fun vs H Q E h=>?_) (fun cdv A outer s H vs Q E hr h=>?_)
 ·obtain⟨c,R,As,i,j,a,b,rfl,_⟩:=h
  rfl
 obtain⟨c,R,As,i,j,a,b,rfl,hC,hG,hi,hj,ha,hb,q⟩:=h
 refine⟨_,Ac (Ar (i:=3) FO.nd rfl (Or.inl rfl) (Aq Ga hr rfl Da.mg Da.fn.kp Da.bd .nil AE (Aa (pv 0) (Aa (pv 1) Ab))))
  (Ac (Ar (i:=4) FO.nd rfl (Or.inl rfl) (Aq Ga hr rfl Da.mg Da.fn.kp Da.bd .nil AE (Aa (pv 0) (Aa (pv 2) Ab))))
  (Ak (AK (pe_or (Aq Gw (hr.mono (by decide)) rfl Dw.mg Dw.fn.kp Dw.bd .nil AE (Aa (pv 0) (Aa (pv 3) (Aa (pv 4) Ab))))
   (Nj (Aq Gw (hr.mono (by decide)) rfl Dw.mg Dw.fn.kp Dw.bd .nil AE (Aa (pv 0) (Aa (pv 4) (Aa (pv 3) Ab))))))))),?_⟩
 refine⟨_,rfl,_,rfl,c,R,As,i,a,rfl,hC,hG,hi,ha,?_⟩
 refine⟨_,rfl,_,rfl,c,R,As,j,b,rfl,hC,hG,hj,hb,?_⟩
 refine⟨_,rfl,_,rfl,_,rfl,c,R,As,A8 R a,A8 R b,rfl,hC,hG.tree,EV ha,_,rfl,?_⟩
 unfold Ss at q
 cases e:Rm.wi (Ae R) (A8 R a) (A8 R b) with
 | true=>
  rw[e,cr]at q
  exact Bw q
 | false=>
  rw[e,bP]at q
  refine A9 ?_
  exact⟨_,rfl,_,rfl,_,rfl,c,R,As,A8 R b,A8 R a,rfl,hC,hG.tree,EV hb,q⟩
def Kn(C:fG):Sp:=fun vs H Q _=>∃(c n:fG) (R:List Ai) (A:List Ap) (l:List Nat),vs=[.ref c,.ref n]∧A7 C H c R A∧AX R∧(∀a∈A,AW R a)∧H n=some (.lst (cV l))∧l.length≤100∧(∀i∈l,i<A.length)∧pairV Q H (Br (EO R A) l)
theorem Fl:AA ["chart", "numbers", "place", "first", "second"] ["chart", "numbers"] (Am Ei):=⟨rfl,rfl,rfl,by decide +kernel,rfl,by decide +kernel,by decide +kernel⟩
theorem Mt{f C fl:fG}{fd fdl:fO}(D:Al K mg "clash_of" Ei ["chart", "numbers"] f fd)(T:DP K mg C)(Dl:Al K mg "clashing" DD ["chart", "first", "second"] fl fdl)(Gl:AC P w K mg base A6 5 fl fdl ["chart", "first", "second"] (IF C)) :
  AC P w K mg base A6 6 f fd ["chart", "numbers"] (Kn C):=by
 refine D.fn.ok Fl (fun vs H Q E h=>?_) (fun cdv A outer s H vs Q E hr h=>?_)
 ·obtain⟨c,n,R,As,l,rfl,_⟩:=h
  rfl
 obtain⟨c,n,R,As,l,rfl,hC,hG,hA,hn,hl,hlt,q⟩:=h
 refine⟨_,Ac (Bd fR.never rfl (Ik rfl T.enum (Aa (pv 1) Ab)) (Lh (n:=2) rfl (C1 (Az (i:=2) Fl.nd rfl (Or.inl rfl)) (C1 (Az (i:=3) Fl.nd rfl (Or.inl rfl)) Il)))
   (Ak (Bd fR.never rfl (Bi (DJ Er (pv 1) (Ez (AO BN (pv 2) Ah)) EA)) (Az (i:=4) Fl.nd rfl (Or.inl rfl))
    (Ak (A0 (Cf (Aq Gl hr rfl Dl.mg Dl.fn.kp Dl.bd .nil AE (Aa (pv 0) (Aa (pv 3) (Aa (pv 4) Ab))))) (Ak (AK (AY (Aa (pv 3) (Aa (pv 4) Ab))))) AJ)))))
  (Ak (AK Hs)),?_⟩
 refine⟨_,rfl,n,rfl,⟨_,AD.of hn⟩,?_⟩
 refine G3 (xs:=cV l) (fun i σ H1=>∃v2 v3 v4,σ=[some (.ref c),some (.ref n),v2,v3,v4]∧An H H1∧Br (EO R As) l=Br (EO R As) (l.drop i)) ⟨_,_,_,rfl,An.refl _,rfl⟩ (fun i σ H1 _ ⟨_,_,_,_,s1,_⟩=>AD.of (s1 _ _ hn)) ?_ ?_
 ·rintro i x t σ H1 hx ht ⟨v2,v3,v4,rfl,s1,ep⟩
  obtain⟨k,hk,rfl⟩:=Cn hx
  have hkm:=ay hk
  have hkb:=hlt k hkm
  have hka:As[k]?=some As[k]:=aa hkb
  have hd:l.drop i=k::l.drop (i+1):=by
   obtain⟨hi,e⟩:=af.mp hk
   rw[bF hi,e]
  rw[hd]at ep
  have s2:An H (upd H1 t (.tup [.int i,.int k])):=s1.trans (Ag ht _)
  have et:(upd H1 t (.tup [.int i,.int k])) t=some (.tup [.int i,.int k]):=Ad
  generalize upd H1 t (.tup [.int i,.int k])=H2 at s2 et ⊢
  refine⟨t,_,rfl,A2.of et,rfl,_,_,rfl,_,_,rfl,rfl,?_⟩
  refine⟨_,rfl,_,rfl,_,_,rfl,rfl,_,rfl,n,_,rfl,AD.of (s2 _ _ hn),fun cl hcl=>?_⟩
  have ei:(i:Int)+1=((i+1:Nat):Int):=by omega
  have s3:=s2.trans (Ag hcl (.lst (Cm (cV l) (some ((i:Int)+1)) ae)))
  have e3:(upd H2 cl (.lst (Cm (cV l) (some ((i:Int)+1)) ae))) cl=some (.lst (cV (l.drop (i+1)))):=by rw[Ad,ei,cutN,Sv]
  generalize upd H2 cl (.lst (Cm (cV l) (some ((i:Int)+1)) ae))=H3 at s3 e3 ⊢
  refine⟨cl,rfl,⟨_,AD.of e3⟩,?_⟩
  refine Cl (xs:=cV (l.drop (i+1))) (fun m σ H4=>∃v4,σ=[some (.ref c),some (.ref n),some (.int i),some (.int k),v4]∧An H3 H4∧(l.drop (i+1)).find? (EO R As k)=((l.drop (i+1)).drop m).find? (EO R As k)) ⟨_,rfl,An.refl _,rfl⟩ (fun m σ H4 _ ⟨_,_,s4,_⟩=>AD.of (s4 _ _ e3)) ?_ ?_
  ·rintro m y σ H4 hy ⟨v4,rfl,s4,ef⟩
   obtain⟨j,hj,rfl⟩:=Cn hy
   have hjm:j∈l:=dZ (ay hj)
   have hjb:=hlt j hjm
   have hja:As[j]?=some As[j]:=aa hjb
   have hd2:(l.drop (i+1)).drop m=j::(l.drop (i+1)).drop (m+1):=by
    obtain⟨hm,e⟩:=af.mp hj
    rw[bF hm,e]
   rw[hd2,ce,OP hka hja]at ef
   have s34:=s3.trans s4
   refine⟨_,rfl,_,rfl,_,rfl,c,R,As,k,j,As[k],As[j],rfl,hC.same s34,hG,hka,hja,hA _ (aI _),hA _ (aI _),_,rfl,?_⟩
   cases hb:Ss R As[k] As[j] with
   | true=>
    rw[hb]at ef
    refine Bw ?_
    refine⟨_,rfl,_,rfl,(by show 2≤fL;decide),fun u hu=>?_⟩
    have ef':(l.drop (i+1)).find? (EO R As k)=some j:=ef
    rw[ep]at q
    have:Br (EO R As) (k::l.drop (i+1))=some (k,j):=by
     show(match (l.drop (i+1)).find? (EO R As k) with|some y=>some (k,y)|ae=>Br (EO R As) (l.drop (i+1)))=_
     rw[ef']
    rw[this]at q
    exact q u _ (s34.trans (Ag hu _)) Ad
   | false=>
    rw[hb]at ef
    refine A9 ?_
    exact⟨_,rfl,s4,ef⟩
  ·rintro σ H4 ⟨v4,rfl,s4,ef⟩
   rw[Bl,cC]at ef
   refine⟨_,_,_,rfl,s3.trans s4,?_⟩
   rw[ep]
   show(match (l.drop (i+1)).find? (EO R As k) with|some y=>some (k,y)|ae=>Br (EO R As) (l.drop (i+1)))=_
   rw[ef];rfl
 ·rintro σ H1 ⟨v2,v3,v4,rfl,s1,ep⟩
  rw[Bl,cC]at ep
  rw[ep]at q
  exact q H1 s1
theorem Rk{K:aj}{a:fG}{xs:List V}{g:TG}{tt:TT}{te:TE}{D:fG}{Q:VK}{σ:St}{H:Hp}(Pv:Nat→List V→St→Hp→Prop)(h0:Pv 0 [] σ (upd H D (.lst [])))
  (hl:∀i ys σ H,i≤xs.length→H D=some (.lst ys)→Pv i ys σ H→A2 K H a xs)
  (hs:∀i x ys σ H,xs[i]?=some x→H D=some (.lst ys)→Pv i ys σ H→g x σ H fun σ2 H2=>tt σ2 H2 fun b H3=>
   if b=true then te σ2 H3 fun y H4=>H4 D=some (.lst ys)∧ys.length<fL∧Pv (i+1) (ys++[y]) σ2 (upd H4 D (.lst (ys++[y]))) else H3 D=some (.lst ys)∧Pv (i+1) ys σ2 H3)
  (hd:∀ys σ H,H D=some (.lst ys)→Pv xs.length ys σ H→Q (.ref D) H) :
  GD (Itt K a) g tt te D Q σ (upd H D (.lst [])):=by
 refine⟨fun i m σ H=>m=xs.length - i∧i≤xs.length∧∃ys,H D=some (.lst ys)∧Pv i ys σ H,⟨xs.length,by simp,bw _,[],Ad,h0⟩,?_⟩
 rintro i m σ H ⟨rfl,hi,ys,hD,p⟩
 have hq:=hl i ys σ H hi hD p
 by_cases hlt:i<xs.length
 ·refine .inr ⟨⟨xs,xs[i],hq,by simp[hlt]⟩,fun y σ' H'=>H' D=some (.lst ys)∧ys.length<fL∧Pv (i+1) (ys++[y]) σ' (upd H' D (.lst (ys++[y]))),fun σ' H'=>H' D=some (.lst ys)∧Pv (i+1) ys σ' H',
   fun y σ' H' q=>⟨ys,q.1,q.2.1,xs.length - (i+1),by omega,rfl,hlt,_,Ad,q.2.2⟩,fun σ' H' q=>⟨xs.length - (i+1),by omega,rfl,hlt,ys,q⟩,fun x H' y=>?_⟩
  obtain⟨e,y⟩:=y
  subst e
  exact hs i x ys σ _ (y xs hq) hD p
 ·have e:i=xs.length:=by omega
  subst e
  exact .inl ⟨⟨xs,hq,aE _⟩,hd ys σ H hD p⟩
def Kg(R:List Ai)(a:Ap)(ks:List Nat):List Nat:=ks.filter fun k=>!Rm.wi (Ae R) k (A8 R a)
def J5(R:List Ai)(mem:List Int)(a:Ap)(ks:List Nat):List Nat:=Kg R a ks++Rm.ent (Ce R mem a.2.2.2.1.toNat) 16 (A8 R a)
def N6(C:fG):Sp:=fun vs H Q _=>∃(c kt mt:fG) (R:List Ai) (A:List Ap) (mem:List Int) (ks:List Nat) (i:Nat) (a:Ap),vs=[.ref c,.ref kt,.ref mt,.int i]∧A7 C H c R A∧AX R∧A[i]?=some a∧AW R a ∧
 H kt=some (.tup (cV ks))∧(∀k∈ks,k<R.length)∧ks.length≤40∧H mt=some (.tup (mem.map V.int))∧Ff R mem ∧
 ∀(t:fG) (ns:List Int) (H':Hp),An H H'→ns.Perm (iN (J5 R mem a ks))→ns.Pairwise (·≤·)→H' t=some (.tup (ns.map V.int))→Q (.ref t) H'
theorem Lc:AA ["chart", "kept", "memory", "number", "outer", "staying"] ["chart", "kept", "memory", "number"] (Am FQ):=⟨rfl,rfl,rfl,by decide +kernel,rfl,by decide +kernel,by decide +kernel⟩
theorem Qs{f C fa fw fr fe fh:fG}{fd fda fdw fdr fde fdh:fO}(D:Al K mg "moved" FQ ["chart", "kept", "memory", "number"] f fd)(T:DP K mg C)(Da:Al K mg "arrow_scope" Ey ["chart", "number"] fa fda)(Ga:AC P w K mg base A6 4 fa fda ["chart", "number"] (II C))
  (Dw:Al K mg "within" B1 ["chart", "room", "other"] fw fdw) (Dr:Al K mg "rising" Ev ["rooms"] fr fdr) (De:Al K mg "entered" CZ ["chart", "room", "goal", "memory"] fe fde) (Ge:AC P w K mg base A6 19 fe fde ["chart", "room", "goal", "memory"] (Km C 16)) :
  AC P w K mg base A6 20 f fd ["chart", "kept", "memory", "number"] (N6 C):=by
 have Gw:AC P w K mg base A6 1 fw fdw ["chart", "room", "other"] (ES C):=Fu Dw T
 have Gr:AC P w K mg base A6 1 fr fdr ["rooms"] (IC K):=Kz Dr T
 refine D.fn.ok Lc (fun vs H Q E h=>?_) (fun cdv A outer s H vs Q E hr h=>?_)
 ·obtain⟨c,kt,mt,R,As,mem,ks,i,a,rfl,_⟩:=h
  rfl
 obtain⟨c,kt,mt,R,As,mem,ks,i,a,rfl,hC,hG,hia,hA,hk,hks,hk4,hm,hM,q⟩:=h
 refine⟨_,Ac (Ar (i:=4) Lc.nd rfl (Or.inr rfl) (Aq Ga (hr.mono (by decide)) rfl Da.mg Da.fn.kp Da.bd .nil AE (Aa (pv 0) (Aa (pv 3) Ab))))
  (Ac (CV (i:=5) ["room", "chart", "outer"] [ae,some 0,some 4] rfl Lc.nd rfl rfl (Ql (pv 1))
   (fun _=>Az (i:=0) (show(["room", "chart", "outer"]:List Str).Nodup by decide +kernel) rfl (Or.inl rfl))
   (fun _=>DW (C8 (Cf (Aq Gw (hr.mono (by decide)) rfl Dw.mg Dw.fn.kp Dw.bd .nil AE (Aa (pv 1) (Aa (pv 0) (Aa (pv 2) Ab)))))))
   (fun _=>pv 0) (N:=["chart", "kept", "memory", "number", "outer", "staying"]) (ks:=(Am FQ).names) rfl rfl (by decide +kernel) (by decide +kernel) (by decide +kernel) (by decide +kernel))
  (Ak (AK (Aq Gr (hr.mono (by decide)) rfl Dr.mg Dr.fn.kp Dr.bd .nil AE (Aa (AO Jd (pv 5) (Aq Ge hr rfl De.mg De.fn.kp De.bd .nil AE
   (Aa (pv 0) (Aa (pv 4) (Aa (Ao Av (Ao Au (A3 (pv 0) rfl) (pv 3) (fun _ _=>rfl)) (AG T.tgt rfl) (fun _ _=>rfl)) (Aa (pv 2) Ab)))))) Ab))))),?_⟩
 refine⟨_,rfl,_,rfl,c,R,As,i,a,rfl,hC,hG,hia,hA,?_⟩
 refine⟨_,rfl,kt,rfl,⟨_,A2.of hk⟩,fun bk d hd=>?_⟩
 refine Rk (xs:=cV ks) (Pv:=fun j ys σ H'=>∃v,σ=[v,some (.ref c),some (.int (A8 R a))]∧ys=cV ((ks.take j).filter fun k=>!Rm.wi (Ae R) k (A8 R a))∧An H H')
  ⟨_,rfl,rfl,Ag hd _⟩ (fun i ys σ H2 _ _ ⟨_,_,_,s2⟩=>A2.of (s2 _ _ hk)) ?_ ?_
 ·rintro j x ys σ H2 hx hDi ⟨v,rfl,hys,(s2:An _ _)⟩
  obtain⟨k,hk2,rfl⟩:=Cn hx
  have hkb:=hks k (ay hk2)
  have htk:ks.take (j+1)=ks.take j++[k]:=by rw[bj,hk2];rfl
  refine⟨_,rfl,_,rfl,_,rfl,c,R,As,k,A8 R a,rfl,hC.same s2,hG.tree,hkb,_,rfl,?_⟩
  cases hb:Rm.wi (Ae R) k (A8 R a) with
  | false=>
   refine Bw ?_
   refine⟨_,rfl,hDi,?_,_,rfl,?_,AH s2 hd _⟩
   ·rw[hys,Bl]
    have a1:=aL (fun k=>!Rm.wi (Ae R) k (A8 R a)) (ks.take j)
    have a3:(ks.take j).length≤ks.length:=by rw[bc];omega
    exact Aw (by omega)
   ·rw[htk,bq,DO,← hys]
    have:([k].filter fun k=>!Rm.wi (Ae R) k (A8 R a))=[k]:=by simp[hb]
    rw[this];rfl
  | true=>
   refine A9 ?_
   refine⟨hDi,_,rfl,?_,s2⟩
   rw[htk,bq]
   have:([k].filter fun k=>!Rm.wi (Ae R) k (A8 R a))=[]:=by simp[hb]
   rw[this,bn];exact hys
 ·rintro ys σ H2 hD2 ⟨v,_,hys,(s2:An _ _)⟩
  rw[Bl,aN]at hys
  obtain⟨hi,rfl⟩:=af.mp hia
  obtain⟨dx,l,m,ps,qs,h1,h2,h3,h4,h5⟩:=(hC.same s2).ob
  obtain⟨p,hp,hp2⟩:=BY h5 hi
  obtain⟨tn,et,ht⟩:=hA.tgt
  have hsl:=EV hA
  have hmost:=hG.most
  refine⟨_,rfl,_,rfl,_,rfl,_,rfl,c,C,dx,_,_,rfl,h1,T.cl,T.nA,Bz l m,_,rfl,m,_,_,_,rfl,rfl,AD.of h4,hp,p,_,_,_,rfl,rfl,A2.of hp2,rfl,?_⟩
  refine⟨_,rfl,c,mt,R,As,mem,A8 R As[i],tn,(by rw[et];rfl),hC.same s2,hG,hsl,ht,s2 _ _ hm,hM,(by omega),fun el H3 hel s3 e3=>?_⟩
  have hlen:=Rm.ent_len hG.tree (DF hG hM tn) 16 (A8 R As[i]) (by rw[Ay];exact hsl)
  rw[Ay]at hlen
  have hst:(Kg R As[i] ks).length≤ks.length:=aL _ _
  refine⟨d,el,_,_,rfl,rfl,s3 _ _ hD2,e3,?_,fun pl hpl=>?_⟩
  ·rw[hys,Bl,Bl]
   exact GL (by have:=hst;unfold Kg at this;omega)
  refine⟨pl,iN (J5 R mem As[i] ks),rfl,AD.of (by
   rw[Ad,hys,← DO]
   unfold J5 Kg iN cV
   rw[et,aA,bx]),?_,fun kt' ns H4 s4 hpm hso e4=>?_⟩
  ·unfold iN J5
   rw[ac,ai,et,aA]
   omega
  exact q kt' ns H4 (s2.trans (s3.trans ((Ag hpl _).trans s4))) hpm hso e4
def J3(R:List Ai)(m:List Int)(k:Nat):List Int:=if 0≤Rm.hold (Ae R) k∧Ax R (Rm.hold (Ae R) k).toNat = "keep" then m.set (Rm.hold (Ae R) k).toNat (k:Int) else m
def HZ(R:List Ai)(ks:List Nat)(mem:List Int):List Int:=ks.foldl (J3 R) mem
theorem Mf(R:List Ai)(m:List Int)(k:Nat):(J3 R m k).length=m.length:=by unfold J3;split<;>simp
theorem IW(R:List Ai)(ks:List Nat):∀mem:List Int,(HZ R ks mem).length=mem.length:=by
 induction ks with
 | nil=>intro mem;rfl
 | cons k ks ih=>intro mem;show(HZ R ks (J3 R mem k)).length=_;rw[ih,Mf]
theorem ixN_at{n k:Nat}(h:k<n):QQ n (k:Int)=some k:=by
 unfold QQ
 rw[if_pos (by omega),if_pos (by omega),aA]
def spRem(C:fG):Sp:=fun vs H Q _=>∃(c kt mt:fG) (R:List Ai) (A:List Ap) (mem:List Int) (ks:List Nat),vs=[.ref c,.ref kt,.ref mt]∧A7 C H c R A∧AX R ∧
 H kt=some (.tup (cV ks))∧(∀k∈ks,k<R.length)∧H mt=some (.tup (mem.map V.int))∧mem.length=R.length ∧
 ∀(t:fG) (H':Hp),An H H'→H' t=some (.tup ((HZ R ks mem).map V.int))→Q (.ref t) H'
theorem Oe:AA ["chart", "kept", "memory", "behind", "room", "holder"] ["chart", "kept", "memory"] (Am Cp):=⟨rfl,rfl,rfl,by decide +kernel,rfl,by decide +kernel,by decide +kernel⟩
theorem ok_rem{f C:fG}{fd:fO}(D:Al K mg "remembered" Cp ["chart", "kept", "memory"] f fd)(T:DP K mg C):AC P w K mg base A6 1 f fd ["chart", "kept", "memory"] (spRem C):=by
 refine D.fn.ok Oe (fun vs H Q E h=>?_) (fun cdv A outer s H vs Q E hr h=>?_)
 ·obtain⟨c,kt,mt,R,As,mem,ks,rfl,_⟩:=h
  rfl
 obtain⟨c,kt,mt,R,As,mem,ks,rfl,hC,hG,hk,hks,hm,hml,q⟩:=h
 refine⟨_,Ac (Ar (i:=3) Oe.nd rfl (Or.inl rfl) (Bc Bq (by rfl) T.list (by decide +kernel) (Aa (pv 2) Ab)))
  (Ac (Bd fR.never rfl (Ql (pv 1)) (Az (i:=4) Oe.nd rfl (Or.inl rfl))
   (Ac (Ar (i:=5) Oe.nd rfl (Or.inl rfl) (Ao Av (Ao Au (A3 (pv 0) rfl) (pv 4) (fun _ _=>rfl)) (AG T.hold rfl) (fun _ _=>rfl)))
   (Ak (A0 (PW.pt (Eb (AB E2 (pv 5) (AG T.nil rfl) (AS _))
     (Dn (AB B4 (Ao Av (Ao Au (A3 (pv 0) rfl) (pv 5) (fun _ _=>rfl)) (AG T.kind rfl) (fun _ _=>rfl)) Be (AS _)))))
    (Ak (Lg (pv 4) (Li (pv 3) (pv 5) IK))) AJ))))
  (Ak (AK (Bc BA (by rfl) T.tup (by decide +kernel) (Aa (pv 3) Ab))))),?_⟩
 obtain⟨dx,l,m,ps,qs,h1,h2,h3,h4,h5⟩:=hC.ob
 have hmost:=hG.most
 refine⟨_,rfl,mt,_,rfl,.inr (A2.of hm),fun bd hbd=>?_⟩
 have s0:=Ag hbd (.lst (mem.map V.int))
 have e0:(upd H bd (.lst (mem.map V.int))) bd=some (.lst (mem.map V.int)):=Ad
 generalize upd H bd (.lst (mem.map V.int))=H0 at s0 e0 ⊢
 refine⟨_,rfl,kt,rfl,⟨_,A2.of (s0 _ _ hk)⟩,?_⟩
 refine Sg (xs:=cV ks) (fun i σ H4=>∃v4 v5,σ=[some (.ref c),some (.ref kt),some (.ref mt),some (.ref bd),v4,v5]∧An H H4∧H4 bd=some (.lst ((HZ R (ks.take i) mem).map V.int)))
  ⟨_,_,rfl,s0,e0⟩ (fun i σ H4 _ ⟨_,_,_,s4,_⟩=>A2.of (s4 _ _ hk)) ?_ ?_
 ·rintro i x σ H4 hx ⟨v4,v5,rfl,(s4:An _ _),e4⟩
  obtain⟨k,hk2,rfl⟩:=Cn hx
  have hkb:=hks k (ay hk2)
  have htk:ks.take (i+1)=ks.take i++[k]:=by rw[bj,hk2];rfl
  have hfold:HZ R (ks.take (i+1)) mem=J3 R (HZ R (ks.take i) mem) k:=by rw[htk];unfold HZ;rw[bI];rfl
  obtain⟨p,hp,hp2⟩:=BE h3 hkb
  have eh:Rm.hold (Ae R) k=R[k].1:=Ck (aa hkb)
  refine⟨_,rfl,c,C,dx,_,_,rfl,s4 _ _ h1,T.cl,T.nR,Ba l m,_,rfl,l,_,_,_,rfl,rfl,AD.of (s4 _ _ h2),hp,p,_,_,_,rfl,rfl,A2.of (s4 _ _ hp2),rfl,?_⟩
  refine⟨_,rfl,rfl,_,rfl,?_⟩
  have hup:Rm.hold (Ae R) k=-1∨(0≤Rm.hold (Ae R) k∧Rm.hold (Ae R) k<(k:Int)):=by
   by_cases z:k=0
   ·subst z;exact .inl hG.tree.root
   ·exact .inr (hG.tree.up k (by omega) (by rw[Ay];exact hkb))
  have no:¬(0≤Rm.hold (Ae R) k∧Ax R (Rm.hold (Ae R) k).toNat = "keep")→H4 bd=some (.lst ((HZ R (ks.take (i+1)) mem).map V.int)):=fun y=>by
   rw[hfold]
   unfold J3
   rw[if_neg y]
   exact e4
  by_cases z:R[k].1=-1
  ·rw[decide_eq_true (show V.int R[k].1=V.int (-1) by rw[z])]
   refine A9 ?_
   refine A9 ?_
   exact⟨_,_,rfl,s4,no (by rw[eh,z];intro y;exact absurd y.1 (by decide))⟩
  ·rw[decide_eq_false (show ¬V.int R[k].1=V.int (-1) from fun y=>z (by injection y))]
   refine Bw ?_
   rw[eh]at hup
   have z0:0≤R[k].1∧R[k].1<(k:Int):=hup.resolve_left z
   obtain⟨hn,en⟩:∃hn:Nat,R[k].1=(hn:Int):=⟨R[k].1.toNat,by omega⟩
   have hnl:hn<R.length:=by omega
   obtain⟨pr,hpr,hpr2⟩:=BE h3 hnl
   rw[en]
   have e2:(Rm.hold (Ae R) k).toNat=hn:=by rw[eh,en];omega
   refine⟨_,rfl,c,C,dx,_,_,rfl,s4 _ _ h1,T.cl,T.nR,Ba l m,_,rfl,l,_,_,_,rfl,rfl,AD.of (s4 _ _ h2),hpr,pr,_,_,_,rfl,rfl,A2.of (s4 _ _ hpr2),rfl,rfl,_,rfl,?_⟩
   by_cases hkp:R[hn].2 = "keep"
   ·rw[decide_eq_true (show V.str R[hn].2=V.str "keep" by rw[hkp])]
    refine Bw ?_
    have hl2:(HZ R (ks.take i) mem).length=R.length:=by rw[IW];exact hml
    refine⟨_,rfl,_,rfl,_,rfl,bd,_,(hn:Int),hn,rfl,rfl,e4,ixN_at (by rw[ac,hl2];exact hnl),?_⟩
    refine⟨_,_,rfl,AH s4 hbd _,?_⟩
    rw[Ad,hfold,← eV]
    unfold J3
    rw[if_pos ⟨by rw[eh,en];omega,by rw[e2,A1 hnl];exact hkp⟩,e2]
   ·rw[decide_eq_false (show ¬V.str R[hn].2=V.str "keep" from fun y=>hkp (by injection y))]
    refine A9 ?_
    exact⟨_,_,rfl,s4,no (by rw[e2,A1 hnl];intro y;exact hkp y.2)⟩
 ·rintro σ H4 ⟨v4,v5,rfl,(s4:An _ _),e4⟩
  rw[Bl,aN]at e4
  refine⟨_,rfl,bd,_,rfl,.inl ⟨AD.of e4,fun t ht=>?_⟩⟩
  exact q t _ (s4.trans (Ag ht _)) Ad
def EI(a:Ap)(ks:List Int)(ev:Int):Bool:=(decide (a.2.1=ev)&&decide (a.1∈ks))&&(decide (a.2.2.1=-1)||decide (a.2.2.1∈ks))
def L8(K:aj):Sp:=fun vs H Q _=>∃(p kt:fG) (a:Ap) (ks:List Int) (ev:Int),vs=[.ref p,.ref kt,.int ev]∧H p=some (.tup (aV a))∧A2 K H kt (ks.map V.int)∧Q (.bl (EI a ks ev)) H
theorem Qh:AA ["arrow", "kept", "event"] ["arrow", "kept", "event"] (Am Fo):=⟨rfl,rfl,rfl,by decide +kernel,rfl,by decide +kernel,by decide +kernel⟩
theorem Nr{f C:fG}{fd:fO}(D:Al K mg "is_open" Fo ["arrow", "kept", "event"] f fd)(T:DP K mg C):AC P w K mg base A6 1 f fd ["arrow", "kept", "event"] (L8 K):=by
 refine D.fn.ok Qh (fun vs H Q E h=>?_) (fun cdv A outer s H vs Q E hr h=>?_)
 ·obtain⟨p,kt,a,ks,ev,rfl,_⟩:=h
  rfl
 obtain⟨p,kt,a,ks,ev,rfl,hp,hk,q⟩:=h
 refine⟨_,Ac (A0 (PW.pt (HJ (AB E2 (Ao Av (pv 0) (AG T.evt rfl) (fun _ _=>rfl)) (pv 2) (AS _)) (FY (AB Dq (Ao Av (pv 0) (AG T.src rfl) (fun _ _=>rfl)) (pv 1) (by with_unfolding_all rfl))))) (Ak (AK HL)) AJ)
  (Ak (AK (pe_or (Fs B4 (Ao Av (pv 0) (AG T.grd rfl) (fun _ _=>rfl)) (AG T.nil rfl) (AS _)) (Nj (Fs BT (Ao Av (pv 0) (AG T.grd rfl) (fun _ _=>rfl)) (pv 1) (by with_unfolding_all rfl)))))),?_⟩
 unfold EI at q
 refine⟨_,rfl,p,_,_,_,rfl,rfl,A2.of hp,rfl,_,rfl,rfl,_,rfl,?_⟩
 by_cases h1:a.2.1=ev
 ·refine Jn (show V.int a.2.1=V.int ev by rw[h1]) ?_
  rw[decide_eq_true h1,bQ]at q
  refine⟨_,rfl,p,_,_,_,rfl,rfl,A2.of hp,rfl,_,rfl,kt,_,rfl,.inr hk,rfl,Cd _,_,rfl,?_⟩
  show if(!Ie (V.int a.1) (ks.map V.int))=true then _ else _
  rw[Dy]
  by_cases h2:a.1∈ks
  ·rw[decide_eq_true h2]at q ⊢
   rw[bQ]at q
   refine A9 ?_
   refine⟨_,rfl,p,_,_,_,rfl,rfl,A2.of hp,rfl,rfl,_,rfl,?_⟩
   by_cases h3:a.2.2.1=-1
   ·rw[decide_eq_true (show V.int a.2.2.1=V.int (-1) by rw[h3])]
    rw[decide_eq_true h3,cr]at q
    exact Bw q
   ·rw[decide_eq_false (show ¬V.int a.2.2.1=V.int (-1) from fun z=>h3 (by injection z))]
    rw[decide_eq_false h3,bP]at q
    refine A9 ?_
    refine⟨_,rfl,p,_,_,_,rfl,rfl,A2.of hp,rfl,_,rfl,kt,_,rfl,.inr hk,rfl,Cd _,?_⟩
    show Q (.bl (Ie (V.int a.2.2.1) (ks.map V.int))) H
    rw[Dy];exact q
  ·rw[decide_eq_false h2]at q ⊢
   rw[bR]at q
   exact Bw q
 ·rw[decide_eq_false (show ¬V.int a.2.1=V.int ev from fun z=>h1 (by injection z))]
  rw[decide_eq_false h1,bR,bR]at q
  refine Bw ?_
  exact Bw q
def Cg(A:List Ap)(ks:List Int)(ev:Int)(k:Nat):Bool:=match A[k]? with
 | some a=>EI a ks ev
 | ae=>false
def AI(A:List Ap)(ks:List Int)(ev:Int):List Nat:=(ak A.length).filter (Cg A ks ev)
theorem EX{A:List Ap}{ks:List Int}{ev:Int}:∀i∈AI A ks ev,i<A.length:=fun i hi=>az.mp (aR.mp hi).1
theorem Ho(A:List Ap)(ks:List Int)(ev:Int):(AI A ks ev).length≤A.length:=by
 unfold AI
 have:=aL (Cg A ks ev) (ak A.length)
 rwa [aF]at this
def GF(K:aj)(C:fG):Sp:=fun vs H Q _=>∃(c kt:fG) (R:List Ai) (A:List Ap) (ks:List Int) (ev:Int),vs=[.ref c,.ref kt,.int ev]∧A7 C H c R A∧A2 K H kt (ks.map V.int) ∧
 ∀(l:fG) (H':Hp),H l=ae→An H H'→H' l=some (.lst (cV (AI A ks ev)))→Q (.ref l) H'
theorem An.sqt{K:aj}{H H':Hp}{a:fG}{xs:List V}(e:An H H')(h:A2 K H a xs):A2 K H' a xs:=by
 rcases h with(h|⟨o,h⟩)|h
 ·exact .inl (.inl (e _ _ h))
 ·exact .inl (.inr ⟨o,e _ _ h⟩)
 ·exact .inr h
theorem Lb:AA ["chart", "kept", "event"] ["chart", "kept", "event"] (Am B3):=⟨rfl,rfl,rfl,by decide +kernel,rfl,by decide +kernel,by decide +kernel⟩
theorem Je{f C fo:fG}{fd fdo:fO}(D:Al K mg "open_arrows" B3 ["chart", "kept", "event"] f fd)(T:DP K mg C)(Do:Al K mg "is_open" Fo ["arrow", "kept", "event"] fo fdo):AC P w K mg base A6 2 f fd ["chart", "kept", "event"] (GF K C):=by
 have Go:AC P w K mg base A6 1 fo fdo ["arrow", "kept", "event"] (L8 K):=Nr Do T
 refine D.fn.ok Lb (fun vs H Q E h=>?_) (fun cdv A outer s H vs Q E hr h=>?_)
 ·obtain⟨c,kt,R,As,ks,ev,rfl,_⟩:=h
  rfl
 obtain⟨c,kt,R,As,ks,ev,rfl,hC,hk,q⟩:=h
 refine⟨_,Ak (AK (BW ["number", "chart", "event", "kept"] [ae,some 0,some 2,some 1] rfl
  (AV rfl T.range (Aa (AF At (by rfl) T.len PySem.boot_len (Aa (A3 (pv 0) rfl) Ab)) Ab))
  (fun _=>Az (i:=0) (show(["number", "chart", "event", "kept"]:List Str).Nodup by decide +kernel) rfl (Or.inl rfl))
  (fun _=>DW (Cf (Aq Go hr rfl Do.mg Do.fn.kp Do.bd .nil AE (Aa (Ao Au (A3 (pv 1) rfl) (pv 0) (fun _ _=>rfl)) (Aa (pv 3) (Aa (pv 2) Ab))))))
  (fun _=>pv 0) (N:=["chart", "kept", "event"]) (ks:=(Am B3).names) rfl rfl (by decide +kernel) (by decide +kernel) (by decide +kernel) (by decide +kernel))),?_⟩
 obtain⟨dx,l,m,ps,qs,h1,h2,h3,h4,h5⟩:=hC.ob
 have hl:(qs.map V.ref).length=As.length:=by rw[ac,h5.1,ac]
 have hal:=hC.al
 refine⟨_,rfl,c,C,dx,_,_,rfl,h1,T.cl,T.nA,Bz l m,m,_,rfl,.inl (AD.of h4),_,rfl,by rw[hl];omega,by rw[hl];omega,fun bk d hd=>?_⟩
 rw[hl]
 refine DN (Pv:=fun i ys σ H'=>∃v,σ=[v,some (.ref c),some (.int ev),some (.ref kt)]∧ys=cV ((ak i).filter (Cg As ks ev))∧An H H') ⟨_,rfl,rfl,Ag hd _⟩ ?_ ?_
 ·rintro i ys σ H1 hi hDi ⟨v,rfl,hys,(s1:An _ _)⟩
  have hi':i<As.length:=by omega
  obtain⟨p,hp,hp2⟩:=BY h5 hi'
  have ei:(0:Int)+(i:Int)=(i:Int):=by omega
  rw[ei]
  have eo:Cg As ks ev i=EI As[i] ks ev:=by unfold Cg;rw[aa hi']
  refine⟨_,rfl,c,C,dx,_,_,rfl,s1 _ _ h1,T.cl,T.nA,Bz l m,_,rfl,m,_,_,_,rfl,rfl,AD.of (s1 _ _ h4),hp,_,rfl,_,rfl,p,kt,As[i],ks,ev,rfl,s1 _ _ hp2,An.sqt s1 hk,_,rfl,?_⟩
  rw[← eo]
  refine DT (fun z=>?_) (fun z=>?_)
  ·refine⟨_,rfl,hDi,?_,_,rfl,?_,AH s1 hd _⟩
   ·rw[hys,Bl]
    have:=aL (Cg As ks ev) (ak i)
    rw[aF]at this
    exact Aw (by omega)
   ·rw[Rm.range_filter_succ,if_pos z,DO,← hys];rfl
  ·refine⟨hDi,_,rfl,?_,s1⟩
   rw[Rm.range_filter_succ,if_neg z,bn];exact hys
 ·rintro ys σ H1 hDn ⟨v,rfl,hys,(s1:An _ _)⟩
  refine q d H1 hd s1 ?_
  rw[hDn,hys]
  have e:((As.length:Int)).toNat=As.length:=by omega
  rw[e];rfl
def BM(A:List Ap)(k:Nat):Nat:=match A[k]? with
 | some a=>a.1.toNat
 | ae=>0
def Di(R:List Ai)(A:List Ap)(rd:List Nat)(k:Nat):Bool:=rd.any fun o=>Rm.li (Ae R) (BM A o) (BM A k)
theorem Ig{R:List Ai}{A:List Ap}(hA:∀a∈A,AW R a){k:Nat}(hk:k<A.length):A[k].1=((BM A k:Nat):Int)∧BM A k<R.length:=by
 obtain⟨s,es,hs⟩:=(hA _ (aI hk)).src
 unfold BM
 rw[aa hk]
 simp only
 rw[es,aA]
 exact⟨rfl,hs⟩
def P9(C:fG):Sp:=fun vs H Q _=>∃(c n:fG) (R:List Ai) (A:List Ap) (k:Nat) (rd:List Nat),vs=[.ref c,.int k,.ref n]∧A7 C H c R A∧AX R∧(∀a∈A,AW R a)∧k<A.length∧H n=some (.lst (cV rd))∧(∀i∈rd,i<A.length)∧Q (.bl (Di R A rd k)) H
theorem Nb:AA ["chart", "number", "ready", "source", "other"] ["chart", "number", "ready"] (Am Kr):=⟨rfl,rfl,rfl,by decide +kernel,rfl,by decide +kernel,by decide +kernel⟩
theorem RW{f C fl fw:fG}{fd fdl fdw:fO}(D:Al K mg "overruled" Kr ["chart", "number", "ready"] f fd)(T:DP K mg C)(Dl:Al K mg "lies_in" GQ ["chart", "room", "other"] fl fdl)(Dw:Al K mg "within" B1 ["chart", "room", "other"] fw fdw):AC P w K mg base A6 3 f fd ["chart", "number", "ready"] (P9 C):=by
 have Gl:AC P w K mg base A6 2 fl fdl ["chart", "room", "other"] (M7 C):=On Dl T Dw
 refine D.fn.ok Nb (fun vs H Q E h=>?_) (fun cdv A outer s H vs Q E hr h=>?_)
 ·obtain⟨c,n,R,As,k,rd,rfl,_⟩:=h
  rfl
 obtain⟨c,n,R,As,k,rd,rfl,hC,hG,hA,hk,hn,hlt,q⟩:=h
 refine⟨_,Ac (Ar (i:=3) Nb.nd rfl (Or.inl rfl) (Ao Av (Ao Au (A3 (pv 0) rfl) (pv 1) (fun _ _=>rfl)) (AG T.src rfl) (fun _ _=>rfl)))
  (Ac (Bd fR.never rfl (Bi (pv 2)) (Az (i:=4) Nb.nd rfl (Or.inl rfl))
   (Ak (A0 (Cf (Aq Gl hr rfl Dl.mg Dl.fn.kp Dl.bd .nil AE (Aa (pv 0) (Aa (Ao Av (Ao Au (A3 (pv 0) rfl) (pv 4) (fun _ _=>rfl)) (AG T.src rfl) (fun _ _=>rfl)) (Aa (pv 3) Ab))))) (Ak (AK HL)) AJ)))
  (Ak (AK HL))),?_⟩
 obtain⟨dx,l,m,ps,qs,h1,h2,h3,h4,h5⟩:=hC.ob
 obtain⟨p,hp,hp2⟩:=BY h5 hk
 obtain⟨ek,hkl⟩:=Ig hA hk
 refine⟨_,rfl,c,C,dx,_,_,rfl,h1,T.cl,T.nA,Bz l m,_,rfl,m,_,_,_,rfl,rfl,AD.of h4,hp,p,_,_,_,rfl,rfl,A2.of hp2,rfl,?_⟩
 refine⟨_,rfl,n,rfl,⟨_,AD.of hn⟩,?_⟩
 refine Cl (xs:=cV rd) (fun i σ H1=>∃v,σ=[some (.ref c),some (.int k),some (.ref n),some (.int As[k].1),v]∧H1=H∧Di R As rd k=(rd.drop i).any fun o=>Rm.li (Ae R) (BM As o) (BM As k)) ⟨_,rfl,rfl,rfl⟩ (fun i σ H1 _ ⟨_,_,e1,_⟩=>by rw[e1];exact AD.of hn) ?_ ?_
 ·rintro i x σ H1 hx ⟨v,rfl,rfl,eo⟩
  obtain⟨o,ho,rfl⟩:=Cn hx
  have hob:=hlt o (ay ho)
  obtain⟨eo2,hol⟩:=Ig hA hob
  obtain⟨p',hp',hp2'⟩:=BY h5 hob
  have hd:rd.drop i=o::rd.drop (i+1):=by
   obtain⟨hi,e⟩:=af.mp ho
   rw[bF hi,e]
  rw[hd,cF]at eo
  refine⟨_,rfl,_,rfl,c,C,dx,_,_,rfl,h1,T.cl,T.nA,Bz l m,_,rfl,m,_,_,_,rfl,rfl,AD.of h4,hp',p',_,_,_,rfl,rfl,A2.of hp2',rfl,_,rfl,c,R,As,BM As o,BM As k,(by rw[eo2,ek];rfl),hC,hG.tree,hol,_,rfl,?_⟩
  cases hb:Rm.li (Ae R) (BM As o) (BM As k) with
  | true=>
   rw[hb,cr]at eo
   rw[eo]at q
   exact Bw q
  | false=>
   rw[hb,bP]at eo
   refine A9 ?_
   exact⟨_,rfl,rfl,eo⟩
 ·rintro σ H1 ⟨v,rfl,rfl,eo⟩
  rw[Bl,cC]at eo
  rw[eo]at q
  exact q
def ER(R:List Ai)(A:List Ap)(ks:List Int)(ev:Int):List Nat:=(AI A ks ev).filter fun k=>!Di R A (AI A ks ev) k
theorem Fh{R:List Ai}{A:List Ap}{ks:List Int}{ev:Int}:∀i∈ER R A ks ev,i<A.length:=fun i hi=>EX i (aR.mp hi).1
theorem GB(R:List Ai)(A:List Ap)(ks:List Int)(ev:Int):(ER R A ks ev).length≤A.length:=
 aU (aL _ _) (Ho A ks ev)
theorem LY(R:List Ai)(A:List Ap)(ks:List Int)(ev:Int):(ER R A ks ev).Pairwise (·<·):=bp.filter _ (bp.filter _ bS)
def Iy(K:aj)(C:fG):Sp:=fun vs H Q _=>∃(c kt:fG) (R:List Ai) (A:List Ap) (ks:List Int) (ev:Int),vs=[.ref c,.ref kt,.int ev]∧A7 C H c R A∧AX R∧(∀a∈A,AW R a)∧A2 K H kt (ks.map V.int) ∧
 ∀(l:fG) (H':Hp),H l=ae→An H H'→H' l=some (.lst (cV (ER R A ks ev)))→Q (.ref l) H'
theorem IM:AA ["chart", "kept", "event", "ready"] ["chart", "kept", "event"] (Am CS):=⟨rfl,rfl,rfl,by decide +kernel,rfl,by decide +kernel,by decide +kernel⟩
theorem Mo{f C fa fv:fG}{fd fda fdv:fO}(D:Al K mg "takeable" CS ["chart", "kept", "event"] f fd)(T:DP K mg C)(Da:Al K mg "open_arrows" B3 ["chart", "kept", "event"] fa fda)(Ga:AC P w K mg base A6 2 fa fda ["chart", "kept", "event"] (GF K C))
  (Dv:Al K mg "overruled" Kr ["chart", "number", "ready"] fv fdv) (Gv:AC P w K mg base A6 3 fv fdv ["chart", "number", "ready"] (P9 C)):AC P w K mg base A6 4 f fd ["chart", "kept", "event"] (Iy K C):=by
 refine D.fn.ok IM (fun vs H Q E h=>?_) (fun cdv A outer s H vs Q E hr h=>?_)
 ·obtain⟨c,kt,R,As,ks,ev,rfl,_⟩:=h
  rfl
 obtain⟨c,kt,R,As,ks,ev,rfl,hC,hG,hA,hk,q⟩:=h
 refine⟨_,Ac (Ar (i:=3) IM.nd rfl (Or.inr rfl) (Aq Ga (hr.mono (by decide)) rfl Da.mg Da.fn.kp Da.bd .nil AE (Aa (pv 0) (Aa (pv 1) (Aa (pv 2) Ab)))))
  (Ak (AK (BW ["number", "chart", "ready"] [ae,some 0,some 3] rfl (Bi (pv 3))
   (fun _=>Az (i:=0) (show(["number", "chart", "ready"]:List Str).Nodup by decide +kernel) rfl (Or.inl rfl))
   (fun _=>DW (C8 (Cf (Aq Gv hr rfl Dv.mg Dv.fn.kp Dv.bd .nil AE (Aa (pv 1) (Aa (pv 0) (Aa (pv 2) Ab)))))))
   (fun _=>pv 0) (N:=["chart", "kept", "event", "ready"]) (ks:=(Am CS).names) rfl rfl (by decide +kernel) (by decide +kernel) (by decide +kernel) (by decide +kernel)))),?_⟩
 have hal:=hC.al
 refine⟨_,rfl,_,rfl,_,rfl,c,kt,R,As,ks,ev,rfl,hC,hk,fun rl H1 hrl s1 e1=>?_⟩
 refine⟨_,rfl,rl,rfl,⟨_,AD.of e1⟩,fun bk d hd=>?_⟩
 have hrd:=Ho As ks ev
 refine Fz (xs:=cV (AI As ks ev)) (Pv:=fun i ys σ H'=>∃v,σ=[v,some (.ref c),some (.ref rl)]∧ys=cV (((AI As ks ev).take i).filter fun k=>!Di R As (AI As ks ev) k)∧An H1 H')
  ⟨_,rfl,rfl,Ag hd _⟩ (fun i ys σ H2 _ _ ⟨_,_,_,s2⟩=>AD.of (s2 _ _ e1)) ?_ ?_
 ·rintro i x ys σ H2 hx hDi ⟨v,rfl,hys,(s2:An _ _)⟩
  obtain⟨k,hk2,rfl⟩:=Cn hx
  have hkb:=EX k (ay hk2)
  have htk:(AI As ks ev).take (i+1)=(AI As ks ev).take i++[k]:=by rw[bj,hk2];rfl
  refine⟨_,rfl,_,rfl,_,rfl,c,rl,R,As,k,AI As ks ev,rfl,hC.same (s1.trans s2),hG,hA,hkb,s2 _ _ e1,EX,_,rfl,?_⟩
  cases hb:Di R As (AI As ks ev) k with
  | false=>
   refine Bw ?_
   refine⟨_,rfl,hDi,?_,_,rfl,?_,AH s2 hd _⟩
   ·rw[hys,Bl]
    have a1:=aL (fun k=>!Di R As (AI As ks ev) k) ((AI As ks ev).take i)
    have a3:((AI As ks ev).take i).length≤(AI As ks ev).length:=by rw[bc];omega
    exact Aw (by omega)
   ·rw[htk,bq,DO,← hys]
    have:([k].filter fun k=>!Di R As (AI As ks ev) k)=[k]:=by simp[hb]
    rw[this];rfl
  | true=>
   refine A9 ?_
   refine⟨hDi,_,rfl,?_,s2⟩
   rw[htk,bq]
   have:([k].filter fun k=>!Di R As (AI As ks ev) k)=[]:=by simp[hb]
   rw[this,bn];exact hys
 ·rintro ys σ H2 hDn ⟨v,rfl,hys,(s2:An _ _)⟩
  rw[Bl,aN]at hys
  exact q d H2 (s1.free hd) (s1.trans s2) (by rw[hDn,hys];rfl)
structure By(H:Hp)(r:fG)(R:List Ai):Prop where
 ob:∃ps,H r=some (.lst (ps.map V.ref))∧AL H ps (R.map rV)
theorem By.same{H H':Hp}{r:fG}{R:List Ai}(s:An H H')(h:By H r R):By H' r R:=by
 obtain⟨ps,a,b⟩:=h.ob
 exact⟨ps,s _ _ a,b.same s⟩
theorem By.len{H:Hp}{R:List Ai}{ps:List fG}(h:AL H ps (R.map rV)):(ps.map V.ref).length=R.length:=by rw[ac,h.1,ac]
def Fd(ns:List Int)(st m:Nat):List Int:=(ak m).map fun k=>Rm.cell ns (st+k)
theorem NO(ns:List Int)(st m:Nat):(Fd ns st m).length=m:=by simp[Fd]
def Oc(K:aj):Sp:=fun vs H Q _=>∃(a:fG) (ns:List Int) (st m:Nat),vs=[.ref a,.int st,.int m]∧AD K H a (ns.map V.int)∧m≤100 ∧
 ∀(l:fG) (H':Hp),H l=ae→An H H'→H' l=some (.lst ((Fd ns st m).map V.int))→Q (.ref l) H'
theorem RG:AA ["script", "start", "many"] ["script", "start", "many"] (Am FV):=⟨rfl,rfl,rfl,by decide +kernel,rfl,by decide +kernel,by decide +kernel⟩
theorem Qy{f C fc:fG}{fd fdc:fO}(D:Al K mg "_law_cells" FV ["script", "start", "many"] f fd)(T:DP K mg C)(Dc:Al K mg "_law_cell_at" GR ["script", "k"] fc fdc):AC P w K mg base A6 2 f fd ["script", "start", "many"] (Oc K):=by
 have Gc:AC P w K mg base A6 1 fc fdc ["script", "k"] (IH K):=Io Dc T
 refine D.fn.ok RG (fun vs H Q E h=>?_) (fun cdv A outer s H vs Q E hr h=>?_)
 ·obtain⟨a,ns,st,m,rfl,_⟩:=h
  rfl
 obtain⟨a,ns,st,m,rfl,hS,hm,q⟩:=h
 refine⟨_,Ak (AK (BW ["k", "script", "start"] [ae,some 0,some 1] rfl (AV rfl T.range (Aa (pv 2) Ab)) (fun _=>Az (i:=0) (show(["k", "script", "start"]:List Str).Nodup by decide +kernel) rfl (Or.inl rfl)) (fun _=>BJ)
  (fun _=>Aq Gc hr rfl Dc.mg Dc.fn.kp Dc.bd .nil AE (Aa (pv 1) (Aa (AO BN (pv 2) (pv 0)) Ab))) (N:=["script", "start", "many"]) (ks:=(Am FV).names) rfl rfl (by decide +kernel) (by decide +kernel) (by decide +kernel) (by decide +kernel))),?_⟩
 refine⟨_,rfl,(m:Int),rfl,by omega,by omega,fun bk d hd=>?_⟩
 have em:((m:Int)).toNat=m:=by omega
 rw[em]
 refine Fc (Pv:=fun i ys σ H'=>(∃v,σ=[v,some (.ref a),some (.int st)])∧ys=((ak i).map fun k=>Rm.cell ns (st+k)).map V.int∧An H H') ⟨⟨_,rfl⟩,rfl,Ag hd _⟩ ?_ ?_
 ·rintro i ys σ H1 hi hDi ⟨⟨v,rfl⟩,hys,(s1:An _ _)⟩
  have ei:(st:Int)+((0:Int)+(i:Int))=((st+i:Nat):Int):=by omega
  refine⟨_,rfl,_,rfl,_,rfl,_,_,rfl,rfl,a,ns,st+i,(by show [V.ref a,V.int ((st:Int)+((0:Int)+(i:Int)))]=_;rw[ei]),s1.seq hS,hDi,?_,⟨_,rfl⟩,?_,AH s1 hd _⟩
  ·rw[hys,ac,ac,aF];exact Aw (by omega)
  ·rw[hys,bh,am,am];rfl
 ·rintro ys σ H1 hDn ⟨⟨v,rfl⟩,hys,(s1:An _ _)⟩
  exact q d H1 hd s1 (by rw[hDn,hys];rfl)
def Sb(n:Nat)(two:Int):Int:=if(n:Int)≤two / (n:Int) % (2*(n:Int)) - 1 then -1 else two / (n:Int) % (2*(n:Int)) - 1
def Jq(R:List Ai)(a:Ap):Bool:=(Bp R a.1.toNat a.2.2.2.1.toNat).isSome
theorem Ip{x:Int}{n:Nat}(hn:0<n):∃s:Nat,x % (n:Int)=(s:Int)∧s<n:=by
 have h1:=cw x (show(n:Int)≠0 by omega)
 have h2:=cq x (show(0:Int)<(n:Int) by omega)
 exact⟨(x % (n:Int)).toNat,by omega,by omega⟩
theorem Hv{cells:List Int}{k:Nat}(h:k<cells.length):G6 (cells.map V.int) (k:Int)=some (.int (cells.getD k 0)):=by
 rw[CC h,ag,aa h];rfl
structure DS(H:Hp)(a:fG)(A:List Ap):Prop where
 ob:∃qs,H a=some (.lst (qs.map V.ref))∧AL H qs (A.map aV)
theorem DS.same{H H':Hp}{a:fG}{A:List Ap}(s:An H H')(h:DS H a A):DS H' a A:=by
 obtain⟨ps,x,y⟩:=h.ob
 exact⟨ps,s _ _ x,y.same s⟩
theorem RP{R:List Ai}{a:Ap}(hA:AW R a){s t:Nat}(es:a.1=(s:Int))(et:a.2.2.2.1=(t:Int)):optV (Bp R s t)=.int (A8 R a):=by
 obtain⟨p,hp⟩:=hA.sc
 unfold A8
 rw[hp]
 rw[es,et,aA,aA]at hp
 rw[hp];rfl
def HS(xs:List Int):fN:=.list (xs.map fN.int)
theorem Fw{K:aj}{H:Hp}:∀xs:List Int,GA K H (xs.map V.int) (xs.map fN.int)
 | []=>.nil
 | x::r=>.cons (.int x) (Fw r)
theorem MH:∀xs:List Int,fN.canLayAll0 (xs.map fN.int)=true∧fN.depthAll (xs.map fN.int)=0∧fN.eqvAll (xs.map fN.int) (xs.map fN.int)=true
 | []=>⟨rfl,rfl,rfl⟩
 | x::r=>by
  obtain⟨a,b,c⟩:=MH r
  refine⟨?_,?_,?_⟩
  ·simp only[aY,fN.canLayAll0,fN.canLay0,a,bO]
  ·simp only[aY,fN.depthAll,fN.depth,b];rfl
  ·simp only[aY,fN.eqvAll,fN.eqv,beq_self_eq_true,c,bO]
theorem MG(xs:List Int):SeqAt.shaped (HS xs)=true∧fN.eqv (HS xs) (HS xs)=true:=by
 obtain⟨a,b,c⟩:=MH xs
 refine⟨?_,by unfold HS;simpa only[fN.eqv] using c⟩
 unfold SeqAt.shaped HS
 rw[be]
 refine⟨by simpa only[fN.canLay0] using a,decide_eq_true ?_⟩
 simp only[fN.depth,b];decide
def N8(K:aj):Sp:=fun vs H Q _=>∃(r a kd:fG) (R:List Ai) (A:List Ap) (ks:List Int) (ev:Int),vs=[.ref r,.ref a,.ref kd,.int ev]∧By H r R∧DS H a A∧AX R∧(∀x∈A,AW R x)∧A.length≤100∧AD K H kd (ks.map V.int) ∧
 ∀(l:fG) (H':Hp),H l=ae→An H H'→H' l=some (.lst (cV (ER R A ks ev)))→Q (.ref l) H'
theorem Et:AA ["rooms", "arrows", "kept", "event", "ready", "k", "arrow", "found", "further"] ["rooms", "arrows", "kept", "event"] (Am FR):=⟨rfl,rfl,rfl,by decide +kernel,rfl,by decide +kernel,by decide +kernel⟩
theorem Px(xs:List Int):fN.eqv (HS xs) (.list [])=xs.isEmpty:=by
 unfold HS
 cases xs<;>simp[fN.eqv,fN.eqvAll]
theorem Ml(R:List Ai)(A:List Ap)(rd:List Nat)(k:Nat):(rd.filter fun j=>Rm.li (Ae R) (BM A j) (BM A k)).isEmpty=!Di R A rd k:=by
 unfold Di
 induction rd with
 | nil=>rfl
 | cons x r ih=>
  rw[fA,cF]
  cases h:Rm.li (Ae R) (BM A x) (BM A k) with
  | true=>rfl
  | false=>simpa [h] using ih
theorem Qt{f C fh:fG}{fd fdh:fO}(D:Al K mg "_law_takeable" FR ["rooms", "arrows", "kept", "event"] f fd)(T:DP K mg C)(Dh:Al K mg "_law_chain" Ex ["rooms", "k"] fh fdh):AC P w K mg base A6 2 f fd ["rooms", "arrows", "kept", "event"] (N8 K):=by
 have Gh:AC P w K mg base A6 1 fh fdh ["rooms", "k"] Ih:=Ji Dh T
 refine D.fn.ok Et (fun vs H Q E h=>?_) (fun cdv A outer s H vs Q E hr h=>?_)
 ·obtain⟨r,a,kd,R,As,ks,ev,rfl,_⟩:=h
  rfl
 obtain⟨r,a,kd,R,As,ks,ev,rfl,hR,hAt,hG,hA,hal,hk,q⟩:=h
 refine⟨_,Ac (Ar (i:=4) Et.nd rfl (Or.inl rfl) (Bj Ab))
  (Ac (Bd fR.never rfl (AV rfl T.range (Aa (AF At (by rfl) T.len PySem.boot_len (Aa (pv 1) Ab)) Ab)) (Az (i:=5) Et.nd rfl (Or.inr rfl))
   (Ac (Ar (i:=6) Et.nd rfl (Or.inl rfl) (Ao Au (pv 1) (pv 5) (fun _ _=>rfl)))
   (Ak (A0 (PW.pt (Eb (AB BT (Ao Av (pv 6) Ah (fun _ _=>rfl)) (pv 2) (by with_unfolding_all rfl)) (Eb (AB B4 (Ao Av (pv 6) Ah (fun _ _=>rfl)) (pv 3) (AS _))
     (Dn (PW.pt (HJ (AB B4 (Ao Av (pv 6) Ah (fun _ _=>rfl)) (EH C7 Ah) (AS _)) (FY (AB BT (Ao Av (pv 6) Ah (fun _ _=>rfl)) (pv 2) (by with_unfolding_all rfl)))))))))
    (Ak (AT (BF ax aB aD AU (pv 4) (Aa (pv 5) Ab)))) AJ))))
  (Ac (Ar (i:=7) Et.nd rfl (Or.inl rfl) (Bj Ab))
  (Ac (Bd fR.never rfl (Bi (pv 4)) (Az (i:=5) Et.nd rfl (Or.inr rfl))
   (Ac (CV (i:=8) ["j", "arrows", "k", "rooms"] [ae,some 1,some 5,some 0] rfl Et.nd rfl rfl (Bi (pv 4)) (fun _=>Az (i:=0) (show(["j", "arrows", "k", "rooms"]:List Str).Nodup by decide +kernel) rfl (Or.inl rfl))
     (fun _=>DW (AB BT (Ao Av (Ao Au (pv 1) (pv 2) (fun _ _=>rfl)) Ah (fun _ _=>rfl)) (DJ Er (Aq Gh hr rfl Dh.mg Dh.fn.kp Dh.bd .nil AE (Aa (pv 3) (Aa (Ao Av (Ao Au (pv 1) (pv 0) (fun _ _=>rfl)) Ah (fun _ _=>rfl)) Ab))) (Ez Ah) EA) (by with_unfolding_all rfl))) (fun _=>pv 0)
     (N:=["rooms", "arrows", "kept", "event", "ready", "k", "arrow", "found", "further"]) (ks:=(Am FR).names) rfl rfl (by decide +kernel) (by decide +kernel) (by decide +kernel) (by decide +kernel))
   (Ak (A0 (AB (op_eqD hr.units) (pv 8) (Bj Ab) (AS _)) (Ak (AT (BF ax aB aD AU (pv 7) (Aa (pv 5) Ab)))) AJ))))
  (Ak (AK (pv 7)))))),?_⟩
 obtain⟨ps,hrr,hI⟩:=hR.ob
 obtain⟨qs,haa,hJ⟩:=hAt.ob
 have hmost:=hG.most
 have hlq:(qs.map V.ref).length=As.length:=by rw[ac,hJ.1,ac]
 refine⟨(by show 0≤fL;decide),fun rd hrd=>?_⟩
 have s1:An H (upd H rd (.lst [])):=Ag hrd _
 have e1:(upd H rd (.lst [])) rd=some (.lst []):=Ad
 generalize upd H rd (.lst [])=H1 at s1 e1 ⊢
 refine⟨_,rfl,a,_,rfl,.inl (AD.of (s1 _ _ haa)),_,rfl,by rw[hlq];omega,by rw[hlq];omega,?_⟩
 rw[hlq]
 have en:((As.length:Int)).toNat=As.length:=by omega
 rw[en]
 refine Bh (fun i σ H2=>∃v5 v6,σ=[some (.ref r),some (.ref a),some (.ref kd),some (.int ev),some (.ref rd),v5,v6,ae,ae]∧An H H2∧H2 rd=some (.lst (cV ((ak i).filter (Cg As ks ev))))) ⟨_,_,rfl,s1,e1⟩ ?_ ?_
 ·rintro i σ H2 hi ⟨v5,v6,rfl,s2,e2⟩
  have ei:(0:Int)+(i:Int)=(i:Int):=by omega
  rw[ei]
  obtain⟨p,hp,hp2⟩:=BY hJ hi
  have hp3:=s2 _ _ hp2
  have eo:Cg As ks ev i=EI As[i] ks ev:=by unfold Cg;rw[aa hi]
  have lenOk:(cV ((ak i).filter (Cg As ks ev))).length<fL:=by
   rw[Bl]
   have:=aL (Cg As ks ev) (ak i)
   rw[aF]at this
   exact Aw (by omega)
  have yes:EI As[i] ks ev=true→(NV (tBM K "list" GT (GC 4) (HG (GC 5) O3)))
    { nx:=fun σ H2=>∃v5 v6,σ=[some (.ref r),some (.ref a),some (.ref kd),some (.int ev),some (.ref rd),v5,v6,ae,ae]∧An H H2∧H2 rd=some (.lst (cV ((ak (i+1)).filter (Cg As ks ev)))),rt:=Q }
    [some (.ref r),some (.ref a),some (.ref kd),some (.int ev),some (.ref rd),some (.int i),some (.ref p),ae,ae] H2:=fun hb=>by
   refine⟨_,rfl,.inl ⟨rfl,_,AD.of e2⟩,_,rfl,rd,_,_,rfl,rfl,e2,lenOk,?_⟩
   refine⟨_,_,rfl,AH s2 hrd _,?_⟩
   rw[Ad,Rm.range_filter_succ,if_pos (by rw[eo];exact hb),DO];rfl
  have no:EI As[i] ks ev=false→∃v5 v6,[some (V.ref r),some (.ref a),some (.ref kd),some (.int ev),some (.ref rd),some (.int i),some (.ref p),ae,ae]=[some (V.ref r),some (.ref a),some (.ref kd),some (.int ev),some (.ref rd),v5,v6,ae,ae]∧An H H2∧H2 rd=some (.lst (cV ((ak (i+1)).filter (Cg As ks ev)))):=fun hb=>by
   refine⟨_,_,rfl,s2,?_⟩
   rw[Rm.range_filter_succ,if_neg (by rw[eo,hb];decide),bn];exact e2
  unfold EI at yes no
  refine⟨_,rfl,_,rfl,a,_,_,_,rfl,rfl,AD.of (s2 _ _ haa),hp,?_⟩
  refine⟨_,rfl,p,_,_,_,rfl,rfl,A2.of hp3,rfl,_,rfl,kd,_,rfl,.inl (s2.seq hk),rfl,Cd _,_,rfl,?_⟩
  show if Ie (V.int As[i].1) (ks.map V.int)=true then _ else _
  rw[Dy]
  by_cases h2:As[i].1∈ks
  ·rw[decide_eq_true h2]
   rw[decide_eq_true h2,bO]at yes no
   refine Bw ?_
   refine⟨_,rfl,p,_,_,_,rfl,rfl,A2.of hp3,rfl,_,rfl,rfl,_,rfl,?_⟩
   by_cases h1:As[i].2.1=ev
   ·rw[decide_eq_true (show V.int As[i].2.1=V.int ev by rw[h1])]
    rw[decide_eq_true h1,bQ]at yes no
    refine Bw ?_
    refine⟨_,rfl,p,_,_,_,rfl,rfl,A2.of hp3,rfl,1,rfl,rfl,_,rfl,?_⟩
    by_cases h3:As[i].2.2.1=-1
    ·rw[decide_eq_true (show V.int As[i].2.2.1=V.int (-1) by rw[h3])]
     rw[decide_eq_true h3,cr]at yes no
     refine Bw ?_
     refine Bw ?_
     exact yes rfl
    ·rw[decide_eq_false (show ¬V.int As[i].2.2.1=V.int (-1) from fun z=>h3 (by injection z))]
     rw[decide_eq_false h3,bP]at yes no
     refine A9 ?_
     refine⟨_,rfl,p,_,_,_,rfl,rfl,A2.of hp3,rfl,_,rfl,kd,_,rfl,.inl (s2.seq hk),rfl,Cd _,_,rfl,?_⟩
     show if Ie (V.int As[i].2.2.1) (ks.map V.int)=true then _ else _
     rw[Dy]
     by_cases h4:As[i].2.2.1∈ks
     ·rw[decide_eq_true h4]at yes ⊢
      refine Bw ?_
      exact yes rfl
     ·rw[decide_eq_false h4]at no ⊢
      refine A9 ?_
      exact no rfl
   ·rw[decide_eq_false (show ¬V.int As[i].2.1=V.int ev from fun z=>h1 (by injection z))]
    rw[decide_eq_false h1,bR]at no
    refine A9 ?_
    refine A9 ?_
    exact no rfl
  ·rw[decide_eq_false h2]
   rw[decide_eq_false h2,du,bR]at no
   refine A9 ?_
   refine A9 ?_
   exact no rfl
 rintro σ H2 ⟨v5,v6,rfl,s2,e2⟩
 have e2':H2 rd=some (.lst (cV (AI As ks ev))):=e2
 have hrdl:=Ho As ks ev
 refine⟨(by show 0≤fL;decide),fun fd' hfd=>?_⟩
 have nrf:rd≠fd':=Af e2' hfd
 have hfd0:H fd'=ae:=s2.free hfd
 have s3:=s2.trans (Ag hfd (.lst []))
 have e3:(upd H2 fd' (.lst [])) fd'=some (.lst []):=Ad
 have er3:(upd H2 fd' (.lst [])) rd=some (.lst (cV (AI As ks ev))):=by rw[Aj nrf];exact e2'
 generalize upd H2 fd' (.lst [])=H3 at s3 e3 er3 ⊢
 refine⟨_,rfl,rd,rfl,⟨_,AD.of er3⟩,?_⟩
 refine Cl (xs:=cV (AI As ks ev)) (fun i σ H4=>∃v5 v6 v8,σ=[some (.ref r),some (.ref a),some (.ref kd),some (.int ev),some (.ref rd),v5,v6,some (.ref fd'),v8]∧An H H4∧H4 rd=some (.lst (cV (AI As ks ev)))∧H4 fd'=some (.lst (cV (((AI As ks ev).take i).filter fun k=>!Di R As (AI As ks ev) k))))
  ⟨_,_,_,rfl,s3,er3,e3⟩ (fun i σ H4 _ ⟨_,_,_,_,_,e4,_⟩=>AD.of e4) ?_ ?_
 ·rintro i x σ H4 hx ⟨v5',v6',v8,rfl,s4,er4,e4⟩
  obtain⟨k,hk2,rfl⟩:=Cn hx
  have hkb:=EX k (ay hk2)
  obtain⟨ek,hkl⟩:=Ig hA hkb
  obtain⟨p,hp,hp2⟩:=BY hJ hkb
  have htk:(AI As ks ev).take (i+1)=(AI As ks ev).take i++[k]:=by rw[bj,hk2];rfl
  refine⟨_,rfl,rd,rfl,⟨_,AD.of er4⟩,fun bk d hd=>?_⟩
  refine Fz (xs:=cV (AI As ks ev)) (Pv:=fun m ys σ H'=>∃v,σ=[v,some (.ref a),some (.int k),some (.ref r)]∧ys=cV (((AI As ks ev).take m).filter fun j=>Rm.li (Ae R) (BM As j) (BM As k))∧An H4 H')
   ⟨_,rfl,rfl,Ag hd _⟩ (fun m ys σ H5 _ _ ⟨_,_,_,s5⟩=>AD.of (s5 _ _ er4)) ?_ ?_
  ·rintro m y ys σ H5 hy hDi ⟨v,rfl,hys,(s5:An _ _)⟩
   obtain⟨j,hj,rfl⟩:=Cn hy
   have hjb:=EX j (ay hj)
   obtain⟨ej,hjl⟩:=Ig hA hjb
   obtain⟨p',hp',hp2'⟩:=BY hJ hjb
   have s45:=s4.trans s5
   have htm:(AI As ks ev).take (m+1)=(AI As ks ev).take m++[j]:=by rw[bj,hj];rfl
   refine⟨_,rfl,_,rfl,a,_,_,_,rfl,rfl,AD.of (s45 _ _ haa),hp,p,_,_,_,rfl,rfl,A2.of (s45 _ _ hp2),rfl,?_⟩
   refine⟨_,rfl,_,rfl,_,rfl,a,_,_,_,rfl,rfl,AD.of (s45 _ _ haa),hp',p',_,_,_,rfl,rfl,A2.of (s45 _ _ hp2'),rfl,r,ps,R,BM As j,(by rw[ej];rfl),s45 _ _ hrr,hI.same s45,hG.tree,by omega,hjl,fun c1 H6 hc1 s6 e6=>?_⟩
   refine⟨1,rfl,c1,_,rfl,AD.of e6,fun c2 hc2=>?_⟩
   have s7:=s6.trans (Ag hc2 (.lst (Cm (cV (Rm.chain (Ae R) (BM As j))) (some 1) ae)))
   have e7:(upd H6 c2 (.lst (Cm (cV (Rm.chain (Ae R) (BM As j))) (some 1) ae))) c2=some (.lst (cV (Rm.chain (Ae R) (BM As j)).tail)):=by rw[Ad,So,Iu]
   have hD7:(upd H6 c2 (.lst (Cm (cV (Rm.chain (Ae R) (BM As j))) (some 1) ae))) d=some (.lst ys):=s7 _ _ hDi
   generalize upd H6 c2 (.lst (Cm (cV (Rm.chain (Ae R) (BM As j))) (some 1) ae))=H7 at s7 e7 hD7 ⊢
   refine⟨c2,_,rfl,.inl (AD.of e7),rfl,Cd _,_,rfl,?_⟩
   show if Ie (V.int As[k].1) (cV (Rm.chain (Ae R) (BM As j)).tail)=true then _ else _
   have ein:Ie (V.int As[k].1) (cV (Rm.chain (Ae R) (BM As j)).tail)=Rm.li (Ae R) (BM As j) (BM As k):=by
    rw[ek]
    unfold cV Rm.li
    rw[Dy]
    refine decide_eq_decide.mpr ⟨fun z=>?_,fun z=>aJ.mpr ⟨_,z,rfl⟩⟩
    obtain⟨y,hy,e⟩:=aJ.mp z
    have:y=BM As k:=by omega
    rw[← this];exact hy
   rw[ein]
   have s57:An H4 H7:=s5.trans s7
   cases hb:Rm.li (Ae R) (BM As j) (BM As k) with
   | true=>
    refine Bw ?_
    refine⟨_,rfl,hD7,?_,_,rfl,?_,AH s57 hd _⟩
    ·rw[hys,Bl]
     have a1:=aL (fun j=>Rm.li (Ae R) (BM As j) (BM As k)) ((AI As ks ev).take m)
     have a3:((AI As ks ev).take m).length≤(AI As ks ev).length:=by rw[bc];omega
     exact Aw (by omega)
    ·rw[htm,bq,DO,← hys]
     have:([j].filter fun j=>Rm.li (Ae R) (BM As j) (BM As k))=[j]:=by simp[hb]
     rw[this];rfl
   | false=>
    refine A9 ?_
    refine⟨hD7,_,rfl,?_,s57⟩
    rw[htm,bq]
    have:([j].filter fun j=>Rm.li (Ae R) (BM As j) (BM As k))=[]:=by simp[hb]
    rw[this,bn];exact hys
  rintro ys σ H5 hDn ⟨v,rfl,hys,(s5:An _ _)⟩
  rw[Bl,aN]at hys
  have e5:=s5 _ _ e4
  have er5:=s5 _ _ er4
  have s45:=s4.trans s5
  have hDn':H5 d=some (.lst (cV ((AI As ks ev).filter fun j=>Rm.li (Ae R) (BM As j) (BM As k)))):=by rw[hDn,hys]
  refine⟨_,rfl,(by show 0≤fL;decide),fun ne hne=>?_⟩
  have s6:=Ag hne (.lst [])
  refine⟨_,_,.lst (AD.of (s6 _ _ hDn')) (Fw _),.lst (AD.of Ad) .nil,(MG _).1,(by decide +kernel),_,rfl,?_⟩
  show if fN.eqv (HS (((AI As ks ev).filter fun j=>Rm.li (Ae R) (BM As j) (BM As k)).map fun(j:Nat)=>(j:Int))) (.list [])=true then _ else _
  rw[Px,List.isEmpty_map,Ml]
  have e6:=s6 _ _ e5
  have er6:=s6 _ _ er5
  have s46:=s45.trans s6
  generalize upd H5 ne (.lst [])=H6 at e6 er6 s46 ⊢
  cases hb:Di R As (AI As ks ev) k with
  | false=>
   refine Bw ?_
   refine⟨_,rfl,.inl ⟨rfl,_,AD.of e6⟩,_,rfl,fd',_,_,rfl,rfl,e6,?_,?_⟩
   ·rw[Bl]
    have a1:=aL (fun k=>!Di R As (AI As ks ev) k) ((AI As ks ev).take i)
    have a3:((AI As ks ev).take i).length≤(AI As ks ev).length:=by rw[bc];omega
    exact Aw (by omega)
   ·refine⟨_,_,_,rfl,AH s46 hfd0 _,by rw[Aj nrf];exact er6,?_⟩
    rw[Ad,htk,bq,DO]
    have:([k].filter fun k=>!Di R As (AI As ks ev) k)=[k]:=by simp[hb]
    rw[this];rfl
  | true=>
   refine A9 ?_
   refine⟨_,_,_,rfl,s46,er6,?_⟩
   rw[htk,bq]
   have:([k].filter fun k=>!Di R As (AI As ks ev) k)=[]:=by simp[hb]
   rw[this,bn];exact e6
 ·rintro σ H4 ⟨v5',v6',v8,rfl,s4,er4,e4⟩
  rw[Bl,aN]at e4
  refine⟨_,rfl,?_⟩
  exact q fd' H4 hfd0 s4 e4
def Bt(R:List Ai):List Int:=(ak R.length).map fun k=>if choosing R k=true then(((Rm.kidsN (Ae R) k).headD 0:Nat):Int) else -1
theorem JC(R:List Ai):(Bt R).length=R.length:=by simp[Bt]
theorem DM{R:List Ai}{k:Nat}(h:k<R.length):(Bt R).getD k (-1)=if choosing R k=true then(((Rm.kidsN (Ae R) k).headD 0:Nat):Int) else -1:=by
 unfold Bt
 rw[ag,av,bv h];rfl
def K5:Sp:=fun vs H Q _=>∃(r:fG) (R:List Ai),vs=[.ref r]∧By H r R∧AX R ∧
 ∀(l:fG) (H':Hp),H l=ae→An H H'→H' l=some (.lst ((Bt R).map V.int))→Q (.ref l) H'
theorem Ii:AA ["rooms", "choice", "k", "inside"] ["rooms"] (Am EW):=⟨rfl,rfl,rfl,by decide +kernel,rfl,by decide +kernel,by decide +kernel⟩
theorem Mq{f C:fG}{fd:fO}(D:Al K mg "_law_first" EW ["rooms"] f fd)(T:DP K mg C):AC P w K mg base A6 1 f fd ["rooms"] K5:=by
 refine D.fn.ok Ii (fun vs H Q E h=>?_) (fun cdv A outer s H vs Q E hr h=>?_)
 ·obtain⟨r,R,rfl,_⟩:=h
  rfl
 obtain⟨r,R,rfl,hR,hG,q⟩:=h
 refine⟨_,Ac (Ar (i:=1) Ii.nd rfl (Or.inl rfl) (Bj Ab))
  (Ac (Bd fR.never rfl (AV rfl T.range (Aa (AF At (by rfl) T.len PySem.boot_len (Aa (pv 0) Ab)) Ab)) (Az (i:=2) Ii.nd rfl (Or.inr rfl))
   (Ac (CV (i:=3) ["j", "k", "rooms"] [ae,some 2,some 0] rfl Ii.nd rfl rfl
     (AV rfl T.range (Aa (AF At (by rfl) T.len PySem.boot_len (Aa (pv 0) Ab)) Ab))
     (fun _=>Az (i:=0) (show(["j", "k", "rooms"]:List Str).Nodup by decide +kernel) rfl (Or.inl rfl))
     (fun _=>DW (AB B4 (Ao Av (Ao Au (pv 2) (pv 0) (fun _ _=>rfl)) Ah (fun _ _=>rfl)) (pv 1) (AS _)))
     (fun _=>pv 0) (N:=["rooms", "choice", "k", "inside"]) (ks:=(Am EW).names) rfl rfl (by decide +kernel) (by decide +kernel) (by decide +kernel) (by decide +kernel))
   (Ak (A0 (AB BT (Ao Av (Ao Au (pv 0) (pv 2) (fun _ _=>rfl)) Ah (fun _ _=>rfl)) (AY (Aa Be (Aa Be Ab))) (by with_unfolding_all rfl))
    (Ak (AT (BF ax aB aD AU (pv 1) (Aa (Ao Au (pv 3) Ah (fun _ _=>rfl)) Ab))))
    (Ak (AT (BF ax aB aD AU (pv 1) (Aa (EH C7 Ah) Ab))))))))
  (Ak (AK (pv 1)))),?_⟩
 obtain⟨ps,hrr,hI⟩:=hR.ob
 have hl:(ps.map V.ref).length=R.length:=By.len hI
 have hrl:=hG.most
 refine⟨(by show 0≤fL;decide),fun cd hcd=>?_⟩
 have s1:An H (upd H cd (.lst [])):=Ag hcd _
 have ec:(upd H cd (.lst [])) cd=some (.lst []):=Ad
 generalize upd H cd (.lst [])=H1 at s1 ec ⊢
 refine⟨_,rfl,r,_,rfl,.inl (AD.of (s1 _ _ hrr)),_,rfl,by rw[hl];omega,by rw[hl];omega,?_⟩
 rw[hl]
 refine Bh (fun i σ H2=>∃v v',σ=[some (.ref r),some (.ref cd),v,v']∧An H H2∧H2 cd=some (.lst (((ak i).map fun k=>if choosing R k=true then(((Rm.kidsN (Ae R) k).headD 0:Nat):Int) else -1).map V.int)))
  ⟨_,_,rfl,s1,ec⟩ ?_ ?_
 ·rintro i σ H2 hi ⟨v,v',rfl,s2,e2⟩
  have hi':i<R.length:=by omega
  have ei:(0:Int)+(i:Int)=(i:Int):=by omega
  rw[ei]
  refine⟨_,rfl,r,_,rfl,.inl (AD.of (s2 _ _ hrr)),_,rfl,by rw[hl];omega,by rw[hl];omega,fun bk d hd=>?_⟩
  rw[hl]
  refine DN (Pv:=fun n ys σ H'=>∃v,σ=[v,some (.int i),some (.ref r)]∧ys=cV ((ak n).filter fun j=>decide (Rm.hold (Ae R) j=i))∧An H2 H') ⟨_,rfl,rfl,Ag hd _⟩ ?_ ?_
  ·rintro n ys σ H3 hn hDn ⟨v,rfl,hys,(s3:An _ _)⟩
   have hn':n<R.length:=by omega
   obtain⟨p,hp,hp2⟩:=BE hI hn'
   have en:(0:Int)+(n:Int)=(n:Int):=by omega
   have eh:Rm.hold (Ae R) n=R[n].1:=Ck (aa hn')
   have s23:=s2.trans s3
   refine⟨_,rfl,_,rfl,r,_,_,_,rfl,rfl,AD.of (s23 _ _ hrr),by rw[en];exact hp,p,_,_,_,rfl,rfl,A2.of (s23 _ _ hp2),rfl,_,rfl,rfl,_,rfl,?_⟩
   refine DT (fun z=>?_) (fun z=>?_)
   ·have z':R[n].1=i:=by simpa using z
    refine⟨_,rfl,hDn,?_,⟨_,rfl,?_,AH s3 hd _⟩⟩
    ·rw[hys,Bl]
     have:=aL (fun j=>decide (Rm.hold (Ae R) j=(i:Int))) (ak n)
     rw[aF]at this
     exact Aw (by omega)
    ·rw[Rm.range_filter_succ,if_pos (by rw[eh];exact decide_eq_true z'),DO,← hys,en];rfl
   ·have z':¬R[n].1=i:=by simpa using z
    refine⟨hDn,⟨_,rfl,?_,s3⟩⟩
    rw[Rm.range_filter_succ,if_neg (by rw[eh];simpa using z'),bn];exact hys
  rintro ys σ H3 hDn ⟨v,rfl,hys,(s3:An _ _)⟩
  have ein:H3 d=some (.lst (cV (Rm.kidsN (Ae R) i))):=by
   rw[hDn,hys]
   unfold Rm.kidsN
   rw[Ay]
   have e:((R.length:Int)).toNat=R.length:=by omega
   rw[e]
  have s23:=s2.trans s3
  obtain⟨p,hp,hp2⟩:=BE hI hi'
  have lenOk:(((ak i).map fun k=>if choosing R k=true then(((Rm.kidsN (Ae R) k).headD 0:Nat):Int) else -1).map V.int).length<fL:=by
   rw[ac,ac,aF];exact Aw (by omega)
  refine⟨_,rfl,_,rfl,r,_,_,_,rfl,rfl,AD.of (s23 _ _ hrr),hp,p,_,_,_,rfl,rfl,A2.of (s23 _ _ hp2),rfl,(by show 2≤fL;decide),fun t ht=>?_⟩
  refine⟨t,_,rfl,.inr (A2.of Ad),rfl,by decide +kernel,_,rfl,?_⟩
  have s4:=Ag ht (.tup [.str "one",.str "keep"])
  have e4:(upd H3 t (.tup [.str "one",.str "keep"])) cd=some (.lst (((ak i).map fun k=>if choosing R k=true then(((Rm.kidsN (Ae R) k).headD 0:Nat):Int) else -1).map V.int)):=s4 _ _ (s3 _ _ e2)
  have s24:=s23.trans s4
  have ein4:=s4 _ _ ein
  generalize upd H3 t (.tup [.str "one",.str "keep"])=H4 at e4 s24 ein4 ⊢
  show if Ie (V.str R[i].2) [V.str "one",V.str "keep"]=true then _ else _
  have ech:choosing R i=decide (R[i].2 = "one"∨R[i].2 = "keep"):=by
   unfold choosing;rw[aa hi']
  rw[Lz,← ech]
  cases hc:choosing R i with
  | true=>
   refine Bw ?_
   have hne:=DE hG hi' hc
   have e0:(cV (Rm.kidsN (Ae R) i))[0]?=some (.int ((Rm.kidsN (Ae R) i).headD 0:Nat)):=by
    cases hz:Rm.kidsN (Ae R) i with
    | nil=>exact absurd hz hne
    | cons x t=>rfl
   refine⟨_,rfl,.inl ⟨rfl,_,AD.of e4⟩,_,rfl,d,_,_,_,rfl,rfl,AD.of ein4,Bo (j:=0) e0,cd,_,_,rfl,rfl,e4,lenOk,?_⟩
   refine⟨_,_,rfl,AH s24 hcd _,?_⟩
   rw[Ad,bh,am,am]
   show _=some (HO.lst (_++[V.int (if choosing R i=true then _ else _)]))
   rw[if_pos hc]
  | false=>
   refine A9 ?_
   refine⟨_,rfl,.inl ⟨rfl,_,AD.of e4⟩,1,rfl,cd,_,_,rfl,rfl,e4,lenOk,?_⟩
   refine⟨_,_,rfl,AH s24 hcd _,?_⟩
   rw[Ad,bh,am,am]
   show _=some (HO.lst (_++[V.int (if choosing R i=true then _ else _)]))
   rw[if_neg (by rw[hc];decide)]
 ·rintro σ H2 ⟨v,v',rfl,s2,e2⟩
  refine⟨_,rfl,?_⟩
  refine q cd H2 hcd s2 ?_
  rw[e2]
  have e:((R.length:Int)).toNat=R.length:=by omega
  rw[e];rfl
def CN(R:List Ai)(chs:List Int)(p k:Nat):Bool:=decide (Ax R p = "all")||decide (chs.getD p (-1)=(k:Int))
def Ci(R:List Ai)(chs:List Int):List Nat:=(ak R.length).filter (Rm.kb (CN R chs) (Ae R))
def M8:Sp:=fun vs H Q _=>∃(r c:fG) (R:List Ai) (chs:List Int),vs=[.ref r,.ref c]∧By H r R∧AX R∧H c=some (.lst (chs.map V.int))∧chs.length=R.length ∧
 ∀(l:fG) (H':Hp),H l=ae→An H H'→H' l=some (.lst (cV (Ci R chs)))→Q (.ref l) H'
theorem Ld:AA ["rooms", "choice", "kept", "k", "holder"] ["rooms", "choice"] (Am IT):=⟨rfl,rfl,rfl,by decide +kernel,rfl,by decide +kernel,by decide +kernel⟩
theorem Jv{chs:List Int}{p:Nat}(h:p<chs.length):G6 (chs.map V.int) (p:Int)=some (.int (chs.getD p (-1))):=by
 rw[CC h,ag,aa h];rfl
theorem Oo{f C:fG}{fd:fO}(D:Al K mg "_law_kept" IT ["rooms", "choice"] f fd)(T:DP K mg C):AC P w K mg base A6 1 f fd ["rooms", "choice"] M8:=by
 refine D.fn.ok Ld (fun vs H Q E h=>?_) (fun cdv A outer s H vs Q E hr h=>?_)
 ·obtain⟨r,c,R,chs,rfl,_⟩:=h
  rfl
 obtain⟨r,c,R,chs,rfl,hR,hG,hc,hcl,q⟩:=h
 refine⟨_,Ac (Ar (i:=2) Ld.nd rfl (Or.inl rfl) (Bj (Aa Ah Ab)))
  (Ac (Bd fR.never rfl (Kx rfl T.range (Aa Ah (Aa (AF At (by rfl) T.len PySem.boot_len (Aa (pv 0) Ab)) Ab))) (Az (i:=3) Ld.nd rfl (Or.inl rfl))
   (Ac (Ar (i:=4) Ld.nd rfl (Or.inl rfl) (Ao Av (Ao Au (pv 0) (pv 3) (fun _ _=>rfl)) Ah (fun _ _=>rfl)))
   (Ak (A0 (PW.pt (Eb (AB BT (pv 4) (pv 2) (by with_unfolding_all rfl)) (Dn (PW.pt (HJ (AB B4 (Ao Av (Ao Au (pv 0) (pv 4) (fun _ _=>rfl)) Ah (fun _ _=>rfl)) Be (AS _))
     (FY (AB B4 (Ao Au (pv 1) (pv 4) (fun _ _=>rfl)) (pv 3) (AS _))))))))
    (Ak (AT (BF ax aB aD AU (pv 2) (Aa (pv 3) Ab)))) AJ))))
  (Ak (AK (pv 2)))),?_⟩
 obtain⟨ps,hrr,hI⟩:=hR.ob
 have hl:(ps.map V.ref).length=R.length:=By.len hI
 have hrl:=hG.most
 have hpos:=hG.tree.pos
 rw[Ay]at hpos
 refine⟨(by show 1≤fL;decide),fun kd hkd=>?_⟩
 have s1:An H (upd H kd (.lst [.int 0])):=Ag hkd _
 have ek:(upd H kd (.lst [.int 0])) kd=some (.lst (cV [0])):=Ad
 generalize upd H kd (.lst [.int 0])=H1 at s1 ek ⊢
 refine⟨_,rfl,r,_,rfl,.inl (AD.of (s1 _ _ hrr)),1,(R.length:Int),(by rw[hl]),⟨by decide,by decide,by omega,by omega⟩,?_⟩
 have em:((R.length:Int) - 1).toNat=R.length - 1:=by omega
 rw[em]
 have kb0:(ak 1).filter (Rm.kb (CN R chs) (Ae R))=[0]:=by
  rw[Rm.range_filter_succ _ 0,if_pos (Rm.kb_root hG.tree)];rfl
 refine Bh (fun i σ H2=>∃v v',σ=[some (.ref r),some (.ref c),some (.ref kd),v,v']∧An H H2∧H2 kd=some (.lst (cV ((ak (i+1)).filter (Rm.kb (CN R chs) (Ae R))))))
  ⟨_,_,rfl,s1,by rw[ek,kb0]⟩ ?_ ?_
 ·rintro i σ H2 hi ⟨v,v',rfl,s2,e2⟩
  have hi':i+1<R.length:=by omega
  have ei:(1:Int)+(i:Int)=((i+1:Nat):Int):=by omega
  rw[ei]
  obtain⟨p,hp,hp2⟩:=BE hI hi'
  have eh:Rm.hold (Ae R) (i+1)=R[i+1].1:=Ck (aa hi')
  have hu:=hG.tree.up (i+1) (by omega) (by rw[Ay];exact hi')
  have hkb:=Rm.kb_up (ok:=CN R chs) hG.tree (k:=i+1) (by omega) (by rw[Ay];exact hi')
  rw[eh]at hu hkb
  obtain⟨h0,eh0⟩:∃h0:Nat,R[i+1].1=(h0:Int):=⟨R[i+1].1.toNat,by omega⟩
  have hlt:h0<i+1:=by omega
  have hltR:h0<R.length:=by omega
  rw[eh0,aA]at hkb
  obtain⟨p3,hp3,hp4⟩:=BE hI hltR
  have ein:Ie (V.int (h0:Int)) (cV ((ak (i+1)).filter (Rm.kb (CN R chs) (Ae R))))=Rm.kb (CN R chs) (Ae R) h0:=by
   unfold cV
   rw[Dy]
   by_cases hb:Rm.kb (CN R chs) (Ae R) h0=true
   ·rw[hb]
    exact decide_eq_true (aJ.mpr ⟨h0,aR.mpr ⟨az.mpr hlt,hb⟩,rfl⟩)
   ·rw[Bool.not_eq_true]at hb
    rw[hb]
    refine decide_eq_false fun z=>?_
    obtain⟨y,hy,e⟩:=aJ.mp z
    have:y=h0:=by omega
    rw[this]at hy
    have:=(aR.mp hy).2
    rw[hb]at this;cases this
  have lenOk:(cV ((ak (i+1)).filter (Rm.kb (CN R chs) (Ae R)))).length<fL:=by
   rw[Bl]
   have:=aL (Rm.kb (CN R chs) (Ae R)) (ak (i+1))
   rw[aF]at this
   exact Aw (by omega)
  have yes:Rm.kb (CN R chs) (Ae R) (i+1)=true→(NV (tBM K "list" GT (GC 2) (HG (GC 3) O3)))
    { nx:=fun σ H2=>∃v v',σ=[some (.ref r),some (.ref c),some (.ref kd),v,v']∧An H H2∧H2 kd=some (.lst (cV ((ak (i+1+1)).filter (Rm.kb (CN R chs) (Ae R))))),rt:=Q } [some (.ref r),some (.ref c),some (.ref kd),some (.int ((i+1:Nat):Int)),some (.int R[i+1].1)] H2:=fun hb=>by
   refine⟨_,rfl,.inl ⟨rfl,_,AD.of e2⟩,_,rfl,kd,_,_,rfl,rfl,e2,lenOk,?_⟩
   refine⟨_,_,rfl,AH s2 hkd _,?_⟩
   rw[Ad,Rm.range_filter_succ _ (i+1),if_pos hb,DO];rfl
  have no:Rm.kb (CN R chs) (Ae R) (i+1)=false→∃v v',[some (.ref r),some (.ref c),some (.ref kd),some (.int ((i+1:Nat):Int)),some (.int R[i+1].1)]=[some (V.ref r),some (.ref c),some (.ref kd),v,v']∧An H H2∧H2 kd=some (.lst (cV ((ak (i+1+1)).filter (Rm.kb (CN R chs) (Ae R))))):=fun hb=>by
   refine⟨_,_,rfl,s2,?_⟩
   rw[Rm.range_filter_succ _ (i+1),if_neg (by rw[hb];decide),bn];exact e2
  refine⟨_,rfl,_,rfl,r,_,_,_,rfl,rfl,AD.of (s2 _ _ hrr),hp,p,_,_,_,rfl,rfl,A2.of (s2 _ _ hp2),rfl,?_⟩
  refine⟨_,rfl,_,rfl,kd,_,rfl,.inl (AD.of e2),rfl,Cd _,_,rfl,?_⟩
  show if Ie (V.int R[i+1].1) (cV ((ak (i+1)).filter (Rm.kb (CN R chs) (Ae R))))=true then _ else _
  rw[eh0,ein]
  rw[eh0]at yes no
  cases hb0:Rm.kb (CN R chs) (Ae R) h0 with
  | false=>
   rw[hb0,bR]at hkb
   refine A9 ?_
   refine A9 ?_
   exact no hkb
  | true=>
   rw[hb0,bQ]at hkb
   refine Bw ?_
   refine⟨_,rfl,_,rfl,r,_,_,_,rfl,rfl,AD.of (s2 _ _ hrr),hp3,p3,_,_,_,rfl,rfl,A2.of (s2 _ _ hp4),rfl,rfl,_,rfl,?_⟩
   have eok:CN R chs h0 (i+1)=(decide (R[h0].2 = "all")||decide (chs.getD h0 (-1)=((i+1:Nat):Int))):=by unfold CN;rw[A1 hltR]
   rw[eok]at hkb
   by_cases hall:R[h0].2 = "all"
   ·rw[decide_eq_true (show V.str R[h0].2=V.str "all" by rw[hall])]
    refine Bw ?_
    refine Bw ?_
    rw[decide_eq_true hall,cr]at hkb
    exact yes hkb
   ·rw[decide_eq_false (show ¬V.str R[h0].2=V.str "all" from fun z=>hall (by injection z))]
    refine A9 ?_
    rw[decide_eq_false hall,bP]at hkb
    refine⟨_,rfl,_,rfl,c,_,_,_,rfl,rfl,AD.of (s2 _ _ hc),Jv (by rw[hcl];exact hltR),_,rfl,rfl,_,rfl,?_⟩
    by_cases hch:chs.getD h0 (-1)=((i+1:Nat):Int)
    ·rw[decide_eq_true (show V.int (chs.getD h0 (-1))=V.int ((i+1:Nat):Int) by rw[hch])]
     refine Bw ?_
     rw[decide_eq_true hch]at hkb
     exact yes hkb
    ·rw[decide_eq_false (show ¬V.int (chs.getD h0 (-1))=V.int ((i+1:Nat):Int) from fun z=>hch (by injection z))]
     refine A9 ?_
     rw[decide_eq_false hch]at hkb
     exact no hkb
 ·rintro σ H2 ⟨v,v',rfl,s2,e2⟩
  refine⟨_,rfl,?_⟩
  refine q kd H2 hkd s2 ?_
  have e:R.length - 1+1=R.length:=by omega
  rw[e2,e];rfl
theorem JO{hs:List Int}:∀i:Nat,(Rm.chain hs i).Pairwise (· > ·):=by
 intro i
 induction i using bz with
 | ind i ih=>
  by_cases z:0≤Rm.hold hs i∧Rm.hold hs i<(i:Int)
  ·rw[Rm.chain_up z,eQ]
   refine⟨fun y hy=>?_,ih _ (by omega)⟩
   have:=Rm.chain_le _ hy
   omega
  ·rw[Rm.chain,dif_neg z];simp
def EG(hs:List Int)(t g:Nat):List Nat:=(Rm.chain hs t).take (((Rm.chain hs t).map fun(j:Nat)=>(j:Int)).idxOf (g:Int))
theorem Oi{hs:List Int}{t g k:Nat}(hg:g∈Rm.chain hs t)(hk:k∈EG hs t g):k∈Rm.chain hs t∧g<k:=by
 unfold EG at hk
 refine⟨c8 hk,?_⟩
 obtain⟨i,hi,e⟩:=dz.mp hk
 have hm:(g:Int)∈(Rm.chain hs t).map fun(j:Nat)=>(j:Int):=aJ.mpr ⟨g,hg,rfl⟩
 have hj:=bo.mpr hm
 have hj2:=hj
 rw[ac]at hj2
 have eg:=cu hj
 rw[cX]at eg
 have hlt:i<((Rm.chain hs t).map fun(j:Nat)=>(j:Int)).idxOf (g:Int):=by omega
 have:=bG.mp (JO (hs:=hs) t) i _ (by omega) hj2 hlt
 omega
def LQ(R:List Ai)(g:Nat)(l:List Int)(k:Nat):List Int:=if(decide (Ax R k = "one")&&Rm.li (Ae R) k g)=true then l.set k ((Bt R).getD k (-1)) else l
def PV(R:List Ai)(l:List Int)(k:Nat):List Int:=if Ax R (Rm.hold (Ae R) k).toNat = "all" then l else l.set (Rm.hold (Ae R) k).toNat (k:Int)
def BI(a:Ap):Nat:=a.2.2.2.1.toNat
def BG(R:List Ai)(chs:List Int)(a:Ap):List Int:=(EG (Ae R) (BI a) (A8 R a)).foldl (PV R) ((ak R.length).foldl (LQ R (A8 R a)) chs)
theorem NZ{R:List Ai}{g k:Nat}(l:List Int)(h:(decide (Ax R k = "one")&&Rm.li (Ae R) k g)=true):LQ R g l k=l.set k ((Bt R).getD k (-1)):=by unfold LQ;rw[if_pos h]
theorem stA_no{R:List Ai}{g k:Nat}(l:List Int)(h:(decide (Ax R k = "one")&&Rm.li (Ae R) k g)=false):LQ R g l k=l:=by unfold LQ;rw[if_neg (by rw[h];decide)]
theorem RA{R:List Ai}{k:Nat}(l:List Int)(h:Ax R (Rm.hold (Ae R) k).toNat = "all"):PV R l k=l:=by unfold PV;rw[if_pos h]
theorem NY{R:List Ai}{k:Nat}(l:List Int)(h:¬Ax R (Rm.hold (Ae R) k).toNat = "all"):PV R l k=l.set (Rm.hold (Ae R) k).toNat (k:Int):=by unfold PV;rw[if_neg h]
theorem DU(R:List Ai)(g:Nat)(l:List Int)(k:Nat):(LQ R g l k).length=l.length:=by unfold LQ;split<;>simp
theorem GE(R:List Ai)(l:List Int)(k:Nat):(PV R l k).length=l.length:=by unfold PV;split<;>simp
theorem CG{f:List Int→Nat→List Int}(hf:∀l k,(f l k).length=l.length):∀(ks:List Nat) (l:List Int),(ks.foldl f l).length=l.length
 | [],_=>rfl
 | k::r,l=>by rw[dP,CG hf r,hf]
theorem KG(R:List Ai)(chs:List Int)(a:Ap):(BG R chs a).length=chs.length:=by
 unfold BG
 rw[CG (GE R),CG (DU R _)]
theorem JA(f:List Int→Nat→List Int)(l:List Int)(i:Nat):(ak (i+1)).foldl f l=f ((ak i).foldl f l) i:=by
 rw[bh,bI];rfl
theorem KH{f:List Int→Nat→List Int}{l:List Int}{ks:List Nat}{i k:Nat}(hk:ks[i]?=some k):(ks.take (i+1)).foldl f l=f ((ks.take i).foldl f l) k:=by
 have:ks.take (i+1)=ks.take i++[k]:=by rw[bj,hk];rfl
 rw[this,bI];rfl
theorem OC{n k:Nat}(h:k<n):QQ n (k:Int)=some k:=by
 unfold QQ
 rw[if_pos (by omega),if_pos (by omega),aA]
theorem K1{R:List Ai}{a:Ap}(h:AW R a):a.2.2.2.1=((BI a:Nat):Int)∧BI a<R.length:=by
 obtain⟨t,et,ht⟩:=h.tgt
 unfold BI
 rw[et,aA]
 exact⟨rfl,ht⟩
theorem Dz{R:List Ai}{a:Ap}(h:AW R a):A8 R a∈Rm.chain (Ae R) (BI a):=by
 obtain⟨p,hp⟩:=h.sc
 unfold A8
 rw[hp]
 have:=(GM hp).2.2
 unfold Rm.li at this
 have:=of_decide_eq_true this
 exact eu this
def Qd:Sp:=fun vs H Q _=>∃(r c p:fG) (R:List Ai) (chs:List Int) (a:Ap),vs=[.ref r,.ref c,.ref p]∧By H r R∧AX R∧H c=some (.lst (chs.map V.int))∧chs.length=R.length∧H p=some (.tup (aV a))∧AW R a ∧
 ∀(l:fG) (H':Hp),H l=ae→An H H'→H' l=some (.lst ((BG R chs a).map V.int))→Q (.ref l) H'
theorem FM:AA ["rooms", "choice", "arrow", "ring", "first", "turned", "k", "chain"] ["rooms", "choice", "arrow"] (Am Kt):=⟨rfl,rfl,rfl,by decide +kernel,rfl,by decide +kernel,by decide +kernel⟩
theorem cutTo(xs:List V)(k:Nat):Cm xs ae (some (k:Int))=xs.take k:=by
 unfold Cm
 rw[HT.sIx_nat,HT.sIx_none,List.drop_zero,Nat.sub_zero]
 by_cases h:k≤xs.length
 ·rw[Nat.min_eq_left h]
 ·rw[Nat.min_eq_right (by omega),aN,dH (by omega)]
theorem Su(l:List Nat)(k:Nat):(cV l).take k=cV (l.take k):=by unfold cV;rw[eK,eK]
theorem R0{f C fs fh ff:fG}{fd fds fdh fdf:fO}(D:Al K mg "_law_gone" Kt ["rooms", "choice", "arrow"] f fd)(T:DP K mg C)(Ds:Al K mg "_law_scope" Ew ["rooms", "source", "target"] fs fds)(Dh:Al K mg "_law_chain" Ex ["rooms", "k"] fh fdh)(Df:Al K mg "_law_first" EW ["rooms"] ff fdf) :
  AC P w K mg base A6 3 f fd ["rooms", "choice", "arrow"] Qd:=by
 have Gs:AC P w K mg base A6 2 fs fds ["rooms", "source", "target"] ID:=KA Ds T Dh
 have Gh:AC P w K mg base A6 1 fh fdh ["rooms", "k"] Ih:=Ji Dh T
 have Gf:AC P w K mg base A6 1 ff fdf ["rooms"] K5:=Mq Df T
 refine D.fn.ok FM (fun vs H Q E h=>?_) (fun cdv A outer s H vs Q E hr h=>?_)
 ·obtain⟨r,c,p,R,chs,a,rfl,_⟩:=h
  rfl
 obtain⟨r,c,p,R,chs,a,rfl,hR,hG,hc,hcl,hp,hA,q⟩:=h
 have hr1:CO 1 _:=hr.mono (by decide)
 refine⟨_,Ac (Ar (i:=3) FM.nd rfl (Or.inl rfl) (Aq Gs hr rfl Ds.mg Ds.fn.kp Ds.bd .nil AE (Aa (pv 0) (Aa (Ao Av (pv 2) Ah (fun _ _=>rfl)) (Aa (Ao Av (pv 2) Ah (fun _ _=>rfl)) Ab)))))
  (Ac (Ar (i:=4) FM.nd rfl (Or.inl rfl) (Aq Gf hr1 rfl Df.mg Df.fn.kp Df.bd .nil AE (Aa (pv 0) Ab)))
  (Ac (Ar (i:=5) FM.nd rfl (Or.inl rfl) (Bc Bq (by rfl) T.list (by decide +kernel) (Aa (pv 1) Ab)))
  (Ac (Bd fR.never rfl (AV rfl T.range (Aa (AF At (by rfl) T.len PySem.boot_len (Aa (pv 0) Ab)) Ab)) (Az (i:=6) FM.nd rfl (Or.inl rfl))
   (Ak (A0 (PW.pt (Eb (AB B4 (Ao Av (Ao Au (pv 0) (pv 6) (fun _ _=>rfl)) Ah (fun _ _=>rfl)) Be (AS _))
     (Dn (AB BT (pv 3) (DJ Er (Aq Gh hr1 rfl Dh.mg Dh.fn.kp Dh.bd .nil AE (Aa (pv 0) (Aa (pv 6) Ab))) (Ez Ah) EA) (by with_unfolding_all rfl)))))
    (Ak (Lg (Ao Au (pv 4) (pv 6) (fun _ _=>rfl)) (Li (pv 5) (pv 6) IK))) AJ)))
  (Ac (Ar (i:=7) FM.nd rfl (Or.inl rfl) (Aq Gh hr1 rfl Dh.mg Dh.fn.kp Dh.bd .nil AE (Aa (pv 0) (Aa (Ao Av (pv 2) Ah (fun _ _=>rfl)) Ab))))
  (Ac (Bd fR.never rfl (Bi (DJ Er (pv 7) EA (Ez (BF ax cL cM Mv (pv 7) (Aa (pv 3) Ab))))) (Az (i:=6) FM.nd rfl (Or.inl rfl))
   (Ak (A0 (AB E2 (Ao Av (Ao Au (pv 0) (Ao Av (Ao Au (pv 0) (pv 6) (fun _ _=>rfl)) Ah (fun _ _=>rfl)) (fun _ _=>rfl)) Ah (fun _ _=>rfl)) Be (AS _))
    (Ak (Lg (pv 6) (Li (pv 5) (Ao Av (Ao Au (pv 0) (pv 6) (fun _ _=>rfl)) Ah (fun _ _=>rfl)) IK))) AJ)))
  (Ak (AK (pv 5)))))))),?_⟩
 obtain⟨ps,hrr,hI⟩:=hR.ob
 have hl:(ps.map V.ref).length=R.length:=By.len hI
 have hmost:=hG.most
 obtain⟨sn,es,hs⟩:=hA.src
 obtain⟨et,htl⟩:=K1 hA
 refine⟨_,rfl,_,rfl,p,_,_,_,rfl,rfl,A2.of hp,rfl,_,rfl,p,_,_,_,rfl,rfl,A2.of hp,rfl,r,ps,R,sn,BI a,(by rw[es,et];rfl),hrr,hI,hG.tree,by omega,hs,htl,fun H1 s1=>?_⟩
 rw[RP hA es et]
 refine⟨_,rfl,r,R,rfl,hR.same s1,hG,fun fl H2 hfl s2 e2=>?_⟩
 have s12:=s1.trans s2
 refine⟨_,rfl,c,_,rfl,.inl (AD.of (s12 _ _ hc)),fun td htd=>?_⟩
 have htd0:H td=ae:=s12.free htd
 have nft:fl≠td:=Af e2 htd
 have s3:=s12.trans (Ag htd (.lst (chs.map V.int)))
 have e3:(upd H2 td (.lst (chs.map V.int))) td=some (.lst (chs.map V.int)):=Ad
 have ef3:(upd H2 td (.lst (chs.map V.int))) fl=some (.lst ((Bt R).map V.int)):=by rw[Aj nft];exact e2
 generalize upd H2 td (.lst (chs.map V.int))=H3 at s3 e3 ef3 ⊢
 refine⟨_,rfl,r,_,rfl,.inl (AD.of (s3 _ _ hrr)),_,rfl,by rw[hl];omega,by rw[hl];omega,?_⟩
 rw[hl]
 have en:((R.length:Int)).toNat=R.length:=by omega
 rw[en]
 refine Bh (fun i σ H4=>∃v6,σ=[some (.ref r),some (.ref c),some (.ref p),some (.int (A8 R a)),some (.ref fl),some (.ref td),v6,ae]∧An H H4∧H4 fl=some (.lst ((Bt R).map V.int))∧H4 td=some (.lst (((ak i).foldl (LQ R (A8 R a)) chs).map V.int)))
  ⟨_,rfl,s3,ef3,e3⟩ ?_ ?_
 ·rintro i σ H4 hi ⟨v6,rfl,s4,ef4,e4⟩
  have ei:(0:Int)+(i:Int)=(i:Int):=by omega
  rw[ei]
  obtain⟨pr,hpr,hpr2⟩:=BE hI hi
  have hcl2:((ak i).foldl (LQ R (A8 R a)) chs).length=R.length:=by rw[CG (DU R _)];exact hcl
  refine⟨_,rfl,_,rfl,r,_,_,_,rfl,rfl,AD.of (s4 _ _ hrr),hpr,pr,_,_,_,rfl,rfl,A2.of (s4 _ _ hpr2),rfl,rfl,_,rfl,?_⟩
  have keep:(decide (Ax R i = "one")&&Rm.li (Ae R) i (A8 R a))=false→∀H5,An H H5→H5 fl=some (.lst ((Bt R).map V.int))→H5 td=some (.lst (((ak i).foldl (LQ R (A8 R a)) chs).map V.int)) →
    ∃v6,[some (V.ref r),some (.ref c),some (.ref p),some (.int (A8 R a)),some (.ref fl),some (.ref td),some (.int (i:Int)),ae]=[some (V.ref r),some (.ref c),some (.ref p),some (.int (A8 R a)),some (.ref fl),some (.ref td),v6,ae]∧An H H5∧H5 fl=some (.lst ((Bt R).map V.int))∧H5 td=some (.lst (((ak (i+1)).foldl (LQ R (A8 R a)) chs).map V.int)):=fun hb H5 s5 ef5 e5=>by
   refine⟨_,rfl,s5,ef5,?_⟩
   rw[JA,stA_no _ hb,e5]
  by_cases hone:R[i].2 = "one"
  ·rw[decide_eq_true (show V.str R[i].2=V.str "one" by rw[hone])]
   have hk1:Ax R i = "one":=by rw[A1 hi];exact hone
   refine Bw ?_
   refine⟨_,rfl,_,rfl,_,rfl,r,ps,R,i,rfl,s4 _ _ hrr,hI.same s4,hG.tree,by omega,hi,fun c1 H5 hc1 s5 e5=>?_⟩
   refine⟨1,rfl,c1,_,rfl,AD.of e5,fun c2 hc2=>?_⟩
   have s6:=s5.trans (Ag hc2 (.lst (Cm (cV (Rm.chain (Ae R) i)) (some 1) ae)))
   have e6:(upd H5 c2 (.lst (Cm (cV (Rm.chain (Ae R) i)) (some 1) ae))) c2=some (.lst (cV (Rm.chain (Ae R) i).tail)):=by rw[Ad,So,Iu]
   generalize upd H5 c2 (.lst (Cm (cV (Rm.chain (Ae R) i)) (some 1) ae))=H6 at s6 e6 ⊢
   refine⟨c2,_,rfl,.inl (AD.of e6),rfl,Cd _,_,rfl,?_⟩
   show if Ie (V.int (A8 R a:Nat)) (cV (Rm.chain (Ae R) i).tail)=true then _ else _
   have ein:Ie (V.int (A8 R a:Nat)) (cV (Rm.chain (Ae R) i).tail)=Rm.li (Ae R) i (A8 R a):=by
    unfold cV Rm.li
    rw[Dy]
    refine decide_eq_decide.mpr ⟨fun z=>?_,fun z=>aJ.mpr ⟨_,z,rfl⟩⟩
    obtain⟨y,hy,e⟩:=aJ.mp z
    have:y=A8 R a:=by omega
    rw[← this];exact hy
   rw[ein]
   cases hb:Rm.li (Ae R) i (A8 R a) with
   | true=>
    refine Bw ?_
    refine⟨_,rfl,_,rfl,fl,_,_,_,rfl,rfl,AD.of (s6 _ _ ef4),Jv (by rw[JC];exact hi),?_⟩
    refine⟨_,rfl,_,rfl,td,_,(i:Int),i,rfl,rfl,s6 _ _ e4,OC (by rw[ac,hcl2];exact hi),?_⟩
    refine⟨_,rfl,AH (s4.trans s6) htd0 _,by rw[Aj nft];exact s6 _ _ ef4,?_⟩
    rw[Ad,JA,← eV,NZ _ (by rw[hk1,hb];decide +kernel)]
   | false=>
    refine A9 ?_
    exact keep (by rw[hb,du]) H6 (s4.trans s6) (s6 _ _ ef4) (s6 _ _ e4)
  ·rw[decide_eq_false (show ¬V.str R[i].2=V.str "one" from fun z=>hone (by injection z))]
   have hk1:¬Ax R i = "one":=by rw[A1 hi];exact hone
   refine A9 ?_
   refine A9 ?_
   exact keep (by rw[decide_eq_false hk1,bR]) H4 s4 ef4 e4
 rintro σ H4 ⟨v6,rfl,s4,ef4,e4⟩
 refine⟨_,rfl,_,rfl,p,_,_,_,rfl,rfl,A2.of (s4 _ _ hp),rfl,r,ps,R,BI a,(by rw[et];rfl),s4 _ _ hrr,hI.same s4,hG.tree,by omega,htl,fun cd H5 hcd s5 e5=>?_⟩
 have s45:=s4.trans s5
 have ntc:td≠cd:=Af e4 hcd
 have hin:=Dz hA
 have hchl:=KL (hs:=Ae R) (BI a)
 have hsm:∀y∈(Rm.chain (Ae R) (BI a)).map (fun(j:Nat)=>(j:Int)),0≤y∧y<65536:=fun y hy=>by
  obtain⟨x,hx,rfl⟩:=aJ.mp hy
  have:=Rm.chain_le _ hx
  omega
 refine⟨_,rfl,_,rfl,.inl ⟨rfl,_,AD.of e5⟩,_,rfl,cd,(Rm.chain (Ae R) (BI a)).map (fun(j:Nat)=>(j:Int)),_,rfl,rfl,AD.of e5,hsm,by rw[ac];omega,aJ.mpr ⟨_,hin,rfl⟩,_,rfl,cd,_,rfl,AD.of e5,fun sl hsl=>?_⟩
 have nts:td≠sl:=Af (s5 _ _ e4) hsl
 have s6:=s45.trans (Ag hsl (.lst (Cm (cV (Rm.chain (Ae R) (BI a))) ae (some ((((Rm.chain (Ae R) (BI a)).map fun(j:Nat)=>(j:Int)).idxOf (A8 R a:Int):Nat):Int)))))
 have e6:(upd H5 sl (.lst (Cm (cV (Rm.chain (Ae R) (BI a))) ae (some ((((Rm.chain (Ae R) (BI a)).map fun(j:Nat)=>(j:Int)).idxOf (A8 R a:Int):Nat):Int))))) sl=some (.lst (cV (EG (Ae R) (BI a) (A8 R a)))):=by
  rw[Ad,cutTo,Su];rfl
 have et6:(upd H5 sl (.lst (Cm (cV (Rm.chain (Ae R) (BI a))) ae (some ((((Rm.chain (Ae R) (BI a)).map fun(j:Nat)=>(j:Int)).idxOf (A8 R a:Int):Nat):Int))))) td=some (.lst (((ak R.length).foldl (LQ R (A8 R a)) chs).map V.int)):=by
  rw[Aj nts];exact s5 _ _ e4
 generalize upd H5 sl (.lst (Cm (cV (Rm.chain (Ae R) (BI a))) ae (some ((((Rm.chain (Ae R) (BI a)).map fun(j:Nat)=>(j:Int)).idxOf (A8 R a:Int):Nat):Int))))=H6 at s6 e6 et6 ⊢
 refine⟨sl,rfl,⟨_,AD.of e6⟩,?_⟩
 have hclA:((ak R.length).foldl (LQ R (A8 R a)) chs).length=R.length:=by rw[CG (DU R _)];exact hcl
 generalize hchA:(ak R.length).foldl (LQ R (A8 R a)) chs=chA at hclA et6
 refine Cl (xs:=cV (EG (Ae R) (BI a) (A8 R a))) (fun i σ H7=>∃v6,σ=[some (.ref r),some (.ref c),some (.ref p),some (.int (A8 R a)),some (.ref fl),some (.ref td),v6,some (.ref cd)]∧An H H7∧H7 sl=some (.lst (cV (EG (Ae R) (BI a) (A8 R a))))∧H7 td=some (.lst ((((EG (Ae R) (BI a) (A8 R a)).take i).foldl (PV R) chA).map V.int)))
  ⟨_,rfl,s6,e6,et6⟩ (fun i σ H7 _ ⟨_,_,_,e7,_⟩=>AD.of e7) ?_ ?_
 ·rintro i x σ H7 hx ⟨v6',rfl,s7,e7,et7⟩
  obtain⟨k,hk,rfl⟩:=Cn hx
  obtain⟨hk1,hk2⟩:=Oi hin (ay hk)
  have hkl:k<R.length:=by
   have:=Rm.chain_le _ hk1
   omega
  have hu:=hG.tree.up k (by omega) (by rw[Ay];exact hkl)
  have eh:Rm.hold (Ae R) k=R[k].1:=Ck (aa hkl)
  obtain⟨h0,eh0⟩:∃h0:Nat,R[k].1=(h0:Int):=⟨R[k].1.toNat,by rw[eh]at hu;omega⟩
  have hh:(Rm.hold (Ae R) k).toNat=h0:=by rw[eh,eh0,aA]
  have h0l:h0<R.length:=by rw[eh,eh0]at hu;omega
  have hclB:(((EG (Ae R) (BI a) (A8 R a)).take i).foldl (PV R) chA).length=R.length:=by rw[CG (GE R)];exact hclA
  obtain⟨p1,hp1,hp1'⟩:=BE hI hkl
  obtain⟨p2,hp2,hp2'⟩:=BE hI h0l
  refine⟨_,rfl,_,rfl,_,rfl,r,_,_,_,rfl,rfl,AD.of (s7 _ _ hrr),hp1,p1,_,_,_,rfl,rfl,A2.of (s7 _ _ hp1'),rfl,r,_,_,_,rfl,rfl,AD.of (s7 _ _ hrr),(by show G6 _ R[k].1=_;rw[eh0];exact hp2),p2,_,_,_,rfl,rfl,A2.of (s7 _ _ hp2'),rfl,rfl,_,rfl,?_⟩
  by_cases hall:R[h0].2 = "all"
  ·refine Jn (show V.str R[h0].2=V.str "all" by rw[hall]) ?_
   refine⟨_,rfl,s7,e7,?_⟩
   rw[KH hk,et7,RA _ (by rw[hh,A1 h0l];exact hall)]
  ·rw[decide_eq_false (show ¬V.str R[h0].2=V.str "all" from fun z=>hall (by injection z))]
   refine Bw ?_
   refine⟨_,rfl,_,rfl,_,rfl,_,rfl,r,_,_,_,rfl,rfl,AD.of (s7 _ _ hrr),hp1,p1,_,_,_,rfl,rfl,A2.of (s7 _ _ hp1'),rfl,td,_,(h0:Int),h0,rfl,(by show V.int R[k].1=_;rw[eh0]),et7,OC (by rw[ac,hclB];exact h0l),?_⟩
   have nst:sl≠td:=nts.symm
   refine⟨_,rfl,AH s7 htd0 _,by rw[Aj nst];exact e7,?_⟩
   rw[Ad,KH hk,← eV,NY _ (by rw[hh,A1 h0l];exact hall),hh]
 ·rintro σ H7 ⟨v6',rfl,s7,e7,et7⟩
  rw[Bl,aN]at et7
  refine⟨_,rfl,?_⟩
  refine q td H7 htd0 s7 ?_
  rw[et7];unfold BG;rw[hchA]
def JQ(A:List Ap)(k:Nat):Ap:=(A[k]?).getD (0,0,0,0,0)
theorem CJ{A:List Ap}{k:Nat}(h:k<A.length):JQ A k=A[k]:=by unfold JQ;rw[aa h];rfl
def Bb(R:List Ai)(A:List Ap)(chs:List Int)(l:List Nat):List Int:=l.foldl (fun ch k=>BG R ch (JQ A k)) chs
theorem Fe(R:List Ai)(A:List Ap):∀(l:List Nat) (chs:List Int),(Bb R A chs l).length=chs.length
 | [],_=>rfl
 | k::r,chs=>by
  show(Bb R A (BG R chs (JQ A k)) r).length=_
  rw[Fe R A r,KG]
def Mb:Sp:=fun vs H Q _=>∃(r a c t:fG) (R:List Ai) (A:List Ap) (chs:List Int) (l:List Nat),vs=[.ref r,.ref a,.ref c,.ref t]∧By H r R∧DS H a A∧AX R∧(∀x∈A,AW R x)∧H c=some (.lst (chs.map V.int))∧chs.length=R.length∧H t=some (.lst (cV l))∧(∀i∈l,i<A.length) ∧
 ∀(d:fG) (H':Hp),An H H'→H' d=some (.lst ((Bb R A chs l).map V.int))→Q (.ref d) H'
theorem IQ:AA ["rooms", "arrows", "choice", "taken", "k"] ["rooms", "arrows", "choice", "taken"] (Am Fq):=⟨rfl,rfl,rfl,by decide +kernel,rfl,by decide +kernel,by decide +kernel⟩
theorem Pi{f fg:fG}{fd fdg:fO}(D:Al K mg "_law_behind" Fq ["rooms", "arrows", "choice", "taken"] f fd)(Dg:Al K mg "_law_gone" Kt ["rooms", "choice", "arrow"] fg fdg)(Gg:AC P w K mg base A6 3 fg fdg ["rooms", "choice", "arrow"] Qd) :
  AC P w K mg base A6 4 f fd ["rooms", "arrows", "choice", "taken"] Mb:=by
 refine D.fn.ok IQ (fun vs H Q E h=>?_) (fun cdv A outer s H vs Q E hr h=>?_)
 ·obtain⟨r,a,c,t,R,As,chs,l,rfl,_⟩:=h
  rfl
 obtain⟨r,a,c,t,R,As,chs,l,rfl,hR,hAt,hG,hA,hc,hcl,ht,hlt,q⟩:=h
 refine⟨_,Ac (Bd fR.never rfl (Bi (pv 3)) (Az (i:=4) IQ.nd rfl (Or.inl rfl))
   (Ak (Ar (i:=2) IQ.nd rfl (Or.inl rfl) (Aq Gg hr rfl Dg.mg Dg.fn.kp Dg.bd .nil AE (Aa (pv 0) (Aa (pv 2) (Aa (Ao Au (pv 1) (pv 4) (fun _ _=>rfl)) Ab)))))))
  (Ak (AK (pv 2))),?_⟩
 obtain⟨qs,haa,hJ⟩:=hAt.ob
 refine⟨_,rfl,t,rfl,⟨_,AD.of ht⟩,?_⟩
 refine Cl (xs:=cV l) (fun i σ H1=>∃d v,σ=[some (.ref r),some (.ref a),some (.ref d),some (.ref t),v]∧An H H1∧H1 d=some (.lst ((Bb R As chs (l.take i)).map V.int))) ⟨_,_,rfl,An.refl _,hc⟩ (fun i σ H1 _ ⟨_,_,_,s1,_⟩=>AD.of (s1 _ _ ht)) ?_ ?_
 ·rintro i x σ H1 hx ⟨d,v,rfl,s1,e1⟩
  obtain⟨k,hk,rfl⟩:=Cn hx
  have hkb:=hlt k (ay hk)
  obtain⟨p,hp,hp2⟩:=BY hJ hkb
  refine⟨_,rfl,_,rfl,_,rfl,_,rfl,a,_,_,_,rfl,rfl,AD.of (s1 _ _ haa),hp,r,d,p,R,_,As[k],rfl,hR.same s1,hG,e1,by rw[Fe];exact hcl,s1 _ _ hp2,hA _ (aI hkb),fun d2 H2 hd2 s2 e2=>?_⟩
  refine⟨d2,_,rfl,s1.trans s2,?_⟩
  have:Bb R As chs (l.take (i+1))=BG R (Bb R As chs (l.take i)) As[k]:=by
   unfold Bb
   have ht':l.take (i+1)=l.take i++[k]:=by rw[bj,hk];rfl
   rw[ht',bI]
   show BG R _ (JQ As k)=_
   rw[CJ hkb]
  rw[this];exact e2
 ·rintro σ H1 ⟨d,v,rfl,s1,e1⟩
  rw[Bl,aN]at e1
  refine⟨_,rfl,?_⟩
  exact q d H1 s1 e1
def kI(R:List Ai)(chs:List Int):List Int:=(Ci R chs).map fun(j:Nat)=>(j:Int)
def Ct(R:List Ai)(chs:List Int):List Int:=(ak R.length).map fun k=>if Ax R k = "keep" then chs.getD k (-1) else -1
def N3:Sp:=fun vs H Q _=>∃(r c:fG) (R:List Ai) (chs:List Int),vs=[.ref r,.ref c]∧By H r R∧AX R∧H c=some (.lst (chs.map V.int))∧chs.length=R.length ∧
 ∀(t k m:fG) (H':Hp),An H H'→H' t=some (.tup [.ref k,.ref m])→H' k=some (.tup (cV (Ci R chs)))→H' m=some (.tup ((Ct R chs).map V.int))→Q (.ref t) H'
theorem K9:AA ["rooms", "choice", "memory", "k"] ["rooms", "choice"] (Am Hj):=⟨rfl,rfl,rfl,by decide +kernel,rfl,by decide +kernel,by decide +kernel⟩
theorem Qp{f C fk:fG}{fd fdk:fO}(D:Al K mg "_law_state" Hj ["rooms", "choice"] f fd)(T:DP K mg C)(Dk:Al K mg "_law_kept" IT ["rooms", "choice"] fk fdk):AC P w K mg base A6 2 f fd ["rooms", "choice"] N3:=by
 have Gk:AC P w K mg base A6 1 fk fdk ["rooms", "choice"] M8:=Oo Dk T
 refine D.fn.ok K9 (fun vs H Q E h=>?_) (fun cdv A outer s H vs Q E hr h=>?_)
 ·obtain⟨r,c,R,chs,rfl,_⟩:=h
  rfl
 obtain⟨r,c,R,chs,rfl,hR,hG,hc,hcl,q⟩:=h
 refine⟨_,Ac (Ar (i:=2) K9.nd rfl (Or.inl rfl) (Bj Ab))
  (Ac (Bd fR.never rfl (AV rfl T.range (Aa (AF At (by rfl) T.len PySem.boot_len (Aa (pv 0) Ab)) Ab)) (Az (i:=3) K9.nd rfl (Or.inl rfl))
   (Ak (A0 (AB B4 (Ao Av (Ao Au (pv 0) (pv 3) (fun _ _=>rfl)) Ah (fun _ _=>rfl)) Be (AS _))
    (Ak (AT (BF ax aB aD AU (pv 2) (Aa (Ao Au (pv 1) (pv 3) (fun _ _=>rfl)) Ab))))
    (Ak (AT (BF ax aB aD AU (pv 2) (Aa (EH C7 Ah) Ab)))))))
  (Ak (AK (AY (Aa (Bc BA (by rfl) T.tup (by decide +kernel) (Aa (Aq Gk hr rfl Dk.mg Dk.fn.kp Dk.bd .nil AE (Aa (pv 0) (Aa (pv 1) Ab))) Ab))
   (Aa (Bc BA (by rfl) T.tup (by decide +kernel) (Aa (pv 2) Ab)) Ab)))))),?_⟩
 obtain⟨ps,hrr,hI⟩:=hR.ob
 have hl:(ps.map V.ref).length=R.length:=By.len hI
 have hrl:=hG.most
 refine⟨(by show 0≤fL;decide),fun md hmd=>?_⟩
 have s1:An H (upd H md (.lst [])):=Ag hmd _
 have em:(upd H md (.lst [])) md=some (.lst []):=Ad
 generalize upd H md (.lst [])=H1 at s1 em ⊢
 refine⟨_,rfl,r,_,rfl,.inl (AD.of (s1 _ _ hrr)),_,rfl,by rw[hl];omega,by rw[hl];omega,?_⟩
 rw[hl]
 refine Bh (fun i σ H2=>∃v,σ=[some (.ref r),some (.ref c),some (.ref md),v]∧An H H2∧H2 md=some (.lst (((ak i).map fun k=>if Ax R k = "keep" then chs.getD k (-1) else -1).map V.int)))
  ⟨_,rfl,s1,em⟩ ?_ ?_
 ·rintro i σ H2 hi ⟨v,rfl,s2,e2⟩
  have hi':i<R.length:=by omega
  have ei:(0:Int)+(i:Int)=(i:Int):=by omega
  rw[ei]
  obtain⟨p,hp,hp2⟩:=BE hI hi'
  have lenOk:(((ak i).map fun k=>if Ax R k = "keep" then chs.getD k (-1) else -1).map V.int).length<fL:=by
   rw[ac,ac,aF];exact Aw (by omega)
  refine⟨_,rfl,_,rfl,r,_,_,_,rfl,rfl,AD.of (s2 _ _ hrr),hp,p,_,_,_,rfl,rfl,A2.of (s2 _ _ hp2),rfl,rfl,_,rfl,?_⟩
  by_cases hkp:R[i].2 = "keep"
  ·rw[decide_eq_true (show V.str R[i].2=V.str "keep" by rw[hkp])]
   refine Bw ?_
   have hkk:Ax R i = "keep":=by rw[A1 hi'];exact hkp
   refine⟨_,rfl,.inl ⟨rfl,_,AD.of e2⟩,_,rfl,_,rfl,c,_,_,_,rfl,rfl,AD.of (s2 _ _ hc),Jv (by rw[hcl];exact hi'),md,_,_,rfl,rfl,e2,lenOk,?_⟩
   refine⟨_,rfl,AH s2 hmd _,?_⟩
   rw[Ad,bh,am,am]
   show _=some (HO.lst (_++[V.int (if Ax R i = "keep" then _ else _)]))
   rw[if_pos hkk]
  ·rw[decide_eq_false (show ¬V.str R[i].2=V.str "keep" from fun z=>hkp (by injection z))]
   refine A9 ?_
   have hkk:¬Ax R i = "keep":=by rw[A1 hi'];exact hkp
   refine⟨_,rfl,.inl ⟨rfl,_,AD.of e2⟩,1,rfl,md,_,_,rfl,rfl,e2,lenOk,?_⟩
   refine⟨_,rfl,AH s2 hmd _,?_⟩
   rw[Ad,bh,am,am]
   show _=some (HO.lst (_++[V.int (if Ax R i = "keep" then _ else _)]))
   rw[if_neg hkk]
 ·rintro σ H2 ⟨v,rfl,s2,e2⟩
  refine⟨_,rfl,_,rfl,r,c,R,chs,rfl,hR.same s2,hG,s2 _ _ hc,hcl,fun kl H3 hkl s3 e3=>?_⟩
  refine⟨kl,_,rfl,.inl ⟨AD.of e3,fun t1 ht1=>?_⟩⟩
  have s4:=Ag ht1 (.tup (cV (Ci R chs)))
  refine⟨_,rfl,md,_,rfl,.inl ⟨AD.of (s4 _ _ (s3 _ _ e2)),fun t2 ht2=>?_⟩⟩
  refine⟨(by show 2≤fL;decide),fun t ht=>?_⟩
  have s5:=Ag ht2 (.tup (((ak ((R.length:Int)).toNat).map fun k=>if Ax R k = "keep" then chs.getD k (-1) else -1).map V.int))
  have s6:=Ag ht (.tup [.ref t1,.ref t2])
  refine q t t1 t2 _ (s2.trans (s3.trans (s4.trans (s5.trans s6)))) Ad (s6 _ _ (s5 _ _ Ad)) ?_
  rw[s6 _ _ Ad]
  have e:((R.length:Int)).toNat=R.length:=by omega
  rw[e];rfl
def spRow:Sp:=fun vs H Q _=>∃(f d:fG) (xs:List Int),vs=[.ref f,.ref d]∧H f=some (.tup (xs.map V.int))∧H d=some (.tup (xs.map V.int))∧xs.length≤100∧Q (.bl true) H
theorem scRow:AA ["found", "due", "k"] ["found", "due"] (Am Nd):=⟨rfl,rfl,rfl,by decide +kernel,rfl,by decide +kernel,by decide +kernel⟩
theorem ok_row{f C:fG}{fd:fO}(D:Al K mg "_law_row" Nd ["found", "due"] f fd)(T:DP K mg C):AC P w K mg base A6 1 f fd ["found", "due"] spRow:=by
 refine D.fn.ok scRow (fun vs H Q E h=>?_) (fun cdv A outer s H vs Q E hr h=>?_)
 ·obtain⟨a,d,xs,rfl,_⟩:=h
  rfl
 obtain⟨a,d,xs,rfl,ha,hd,hx,q⟩:=h
 refine⟨_,Ac (A0 (PW.pt (HJ (C8 (Cf (AF C4 (by rfl) T.inst (by decide +kernel) (Aa (pv 0) (Aa (GV (by rfl) T.tup (by decide +kernel) (v:=.ty "tuple") rfl) Ab)))))
   (FY (AB E2 (AF At (by rfl) T.len PySem.boot_len (Aa (pv 0) Ab)) (AF At (by rfl) T.len PySem.boot_len (Aa (pv 1) Ab)) (AS _))))) AZ AJ)
  (Ac (Bd fR.never rfl (AV rfl T.range (Aa (AF At (by rfl) T.len PySem.boot_len (Aa (pv 1) Ab)) Ab)) (Az (i:=2) scRow.nd rfl (Or.inl rfl))
   (Ak (A0 (PW.pt (HJ (Cf (AF C4 (by rfl) T.inst (by decide +kernel) (Aa (Ao Av (pv 0) (pv 2) (fun _ _=>rfl)) (Aa (GV (by rfl) T.tbool (by decide +kernel) (v:=.ty "bool") rfl) Ab))))
    (HJ (C8 (Cf (AF C4 (by rfl) T.inst (by decide +kernel) (Aa (Ao Av (pv 0) (pv 2) (fun _ _=>rfl)) (Aa (GV (by rfl) T.tint (by decide +kernel) (v:=.ty "int") rfl) Ab)))))
    (FY (AB E2 (Ao Av (pv 0) (pv 2) (fun _ _=>rfl)) (Ao Av (pv 1) (pv 2) (fun _ _=>rfl)) (AS _)))))) AZ AJ)))
  (Ak (AK HL))),?_⟩
 refine⟨_,rfl,_,_,_,_,rfl,.tup ha,T.pp,_,rfl,?_⟩
 refine A9 ?_
 refine⟨_,rfl,a,_,rfl,.inr (A2.of ha),_,rfl,d,_,rfl,.inr (A2.of hd),rfl,_,rfl,?_⟩
 refine Jn rfl ?_
 refine⟨_,rfl,d,_,rfl,.inr (A2.of hd),_,rfl,by rw[ac];omega,by rw[ac];omega,?_⟩
 rw[ac]
 refine Bh (fun i σ H1=>∃v,σ=[some (.ref a),some (.ref d),v]∧H1=H) ⟨_,rfl,rfl⟩ ?_ ?_
 ·rintro i σ H1 hi ⟨v,rfl,rfl⟩
  have hi':i<xs.length:=by omega
  have ek:(0:Int)+(i:Int)=(i:Int):=by omega
  rw[ek]
  refine⟨_,rfl,_,rfl,a,_,_,_,rfl,rfl,A2.of ha,CC hi',_,_,_,_,rfl,.int _,T.ib,_,rfl,?_⟩
  refine A9 ?_
  refine⟨_,rfl,_,rfl,a,_,_,_,rfl,rfl,A2.of ha,CC hi',_,_,_,_,rfl,.int _,T.ii,_,rfl,?_⟩
  refine A9 ?_
  refine⟨_,rfl,_,rfl,a,_,_,_,rfl,rfl,A2.of ha,CC hi',_,rfl,_,rfl,d,_,_,_,rfl,rfl,A2.of hd,CC hi',rfl,_,rfl,?_⟩
  refine Jn rfl ?_
  exact⟨_,rfl,rfl⟩
 ·rintro σ H1 ⟨v,rfl,rfl⟩
  exact q
end
end Toy
namespace Toy
open PySem L2
seal PySem.wpAny
section
variable{P:fP}{w:fS}{K:aj}{mg:Str→Option fF}{base:Heap}
theorem Nv{R:List Ai}:Ct R (Bt R)=Ht R:=by
 unfold Ct Ht
 refine bT fun k hk=>?_
 have hk':=az.mp hk
 by_cases h:Ax R k = "keep"
 ·rw[if_pos h,if_pos h,DM hk',if_pos (Cj hk' h)]
 ·rw[if_neg h,if_neg h]
theorem NB{R:List Ai}(hG:AX R){p:Nat}(hp:p<R.length):Ax R p = "plain"∨Ax R p = "one"∨Ax R p = "all"∨Ax R p = "keep":=by
 rw[A1 hp];exact(hG.kind p R[p] (aa hp)).1
theorem E8{R:List Ai}(hG:AX R){p k:Nat}(hk:k∈Rm.kidsN (Ae R) p):(Ax R p = "all"∧choosing R p=false)∨(¬Ax R p = "all"∧choosing R p=true):=by
 have hlt:p<R.length:=by
  have a:=(Rm.mem_kidsN.mp hk).1
  rw[Ay]at a
  exact cB (Rm.kid_gt hG.tree hk) a
 rw[BP hlt]
 rcases NB hG hlt with e|e|e|e
 ·exfalso
  rw[A1 hlt]at e
  have h1:=((hG.kind p R[p] (aa hlt)).2).mp e
  rw[Rm.kids_kidsN]at h1
  rw[dk.mp h1]at hk
  cases hk
 ·right;rw[e];exact⟨by decide +kernel,by decide +kernel⟩
 ·left;rw[e];exact⟨rfl,by decide +kernel⟩
 ·right;rw[e];exact⟨by decide +kernel,by decide +kernel⟩
theorem P6{R:List Ai}(hG:AX R):∀k,0<k→k<(Ae R).length→(CN R (Bt R) (Rm.hold (Ae R) k).toNat k=true↔k∈Ce R (Ht R) 0 (Rm.hold (Ae R) k).toNat):=by
 intro k h0 hk
 have hu:=hG.tree.up k h0 hk
 have hkl:=hk
 rw[Ay]at hkl
 obtain⟨p,ep⟩:∃p:Nat,Rm.hold (Ae R) k=(p:Int):=⟨(Rm.hold (Ae R) k).toNat,by omega⟩
 rw[ep,aA]
 have hkid:k∈Rm.kidsN (Ae R) p:=Rm.mem_kidsN.mpr ⟨hk,ep⟩
 have hp:p<R.length:=by omega
 unfold CN Ce
 rw[DM hp]
 rcases E8 hG hkid with⟨a,b⟩|⟨a,b⟩
 ·rw[decide_eq_true a,cr,if_neg (by rw[b];decide)]
  exact⟨fun _=>hkid,fun _=>rfl⟩
 ·rw[decide_eq_false a,bP,if_pos b,if_pos b]
  have tw:((Rm.kidsN (Ae R) p).filter fun q=>Rm.wi (Ae R) 0 q)=[]:=by
   rw[cQ]
   intro q hq z
   have:=Rm.kid_gt hG.tree hq
   rw[Rm.wi_end (bw q)]at z
   have:=of_decide_eq_true z
   omega
  rw[if_neg (by rw[tw];simp)]
  rw[decide_eq_true_eq]
  by_cases hkp:Ax R p = "keep"
  ·rw[if_pos hkp,Mw hp,if_pos hkp,aA,au]
   omega
  ·rw[if_neg hkp,au]
   omega
theorem Cv{l:List Int}{i j:Nat}{x:Int}(h:i<l.length):(l.set i x).getD j (-1)=if j=i then x else l.getD j (-1):=by
 rw[ag,ag]
 by_cases z:j=i
 ·subst z
  rw[cN h,if_pos rfl];rfl
 ·rw[cY (fun y=>z y.symm),if_neg z]
theorem EC{f:List Int→Nat→List Int}{n p:Nat}{v:Int}(hlen:∀l k,(f l k).length=l.length){yes:Nat→Prop}:∀(ks:List Nat) (l:List Int),l.length=n→(∀k∈ks,yes k→∀l:List Int,l.length=n→(f l k).getD p (-1)=v)→(∀k∈ks,¬yes k→∀l:List Int,(f l k).getD p (-1)=l.getD p (-1)) →
  ((∃k∈ks,yes k)→(ks.foldl f l).getD p (-1)=v)∧((∀k∈ks,¬yes k)→(ks.foldl f l).getD p (-1)=l.getD p (-1))
 | [],l,_,_,_=>⟨fun⟨k,hk,_⟩=>by simp at hk,fun _=>rfl⟩
 | k::ks,l,hl,hy,hn=>by
  obtain⟨i1,i2⟩:=EC hlen ks (f l k) ((hlen l k).trans hl) (fun x hx=>hy x (aq _ hx)) (fun x hx=>hn x (aq _ hx))
  rw[dP]
  refine⟨fun⟨x,hx,hyx⟩=>?_,fun h=>?_⟩
  ·by_cases z:∃k∈ks,yes k
   ·exact i1 z
   ·have no:∀y∈ks,¬yes y:=fun y hy hyy=>z ⟨y,hy,hyy⟩
    rw[i2 no]
    rcases aG.mp hx with e|e
    ·subst e;exact hy x aw hyx l hl
    ·exact absurd hyx (no x e)
  ·rw[i2 fun y hy=>h y (aq _ hy)]
   exact hn k aw (h k aw) l
structure Eo(R:List Ai)(chs:List Int):Prop where
 len:chs.length=R.length
 pick:∀p,p<R.length→choosing R p=true→∃k∈Rm.kidsN (Ae R) p,chs.getD p (-1)=(k:Int)
theorem JB{R:List Ai}(hG:AX R):Eo R (Bt R):=by
 refine⟨JC R,fun p hp hc=>⟨_,Jp (DE hG hp hc),?_⟩⟩
 rw[DM hp,if_pos hc]
def FH(R:List Ai)(a:Ap)(p k:Nat):Prop:=k∈Rm.chain (Ae R) (BI a)∧Rm.hold (Ae R) k=(p:Int)∧A8 R a<k
theorem Ij{hs:List Int}{t g k:Nat}(hg:g∈Rm.chain hs t):k∈EG hs t g↔k∈Rm.chain hs t∧g<k:=by
 refine⟨Oi hg,fun⟨hk,hgk⟩=>?_⟩
 unfold EG
 have hm:(g:Int)∈(Rm.chain hs t).map fun(j:Nat)=>(j:Int):=aJ.mpr ⟨g,hg,rfl⟩
 have hj:=bo.mpr hm
 have hj2:=hj
 rw[ac]at hj2
 have eg:=cu hj
 rw[cX]at eg
 obtain⟨i,hi,e⟩:=ez.mp hk
 refine dz.mpr ⟨i,?_,e⟩
 have hlt:i<((Rm.chain hs t).map fun(j:Nat)=>(j:Int)).idxOf (g:Int):=by
  rcases cS i (((Rm.chain hs t).map fun(j:Nat)=>(j:Int)).idxOf (g:Int)) with y|y|y
  ·exact y
  ·have eg':((Rm.chain hs t)[i]:Int)=(g:Int):=by
    simp only[y];exact eg
   omega
  ·have:=bG.mp (JO (hs:=hs) t) _ i hj2 hi y
   omega
 omega
theorem JM{hs:List Int}:∀(t:Nat) {k k':Nat},k∈Rm.chain hs t→k'∈Rm.chain hs t→Rm.hold hs k=Rm.hold hs k'→0≤Rm.hold hs k→Rm.hold hs k<(k:Int)→Rm.hold hs k'<(k':Int)→k=k':=by
 intro t k k' hk hk' e h0 h1 h2
 rcases cS k k' with z|z|z
 ·have:=Rm.chain_mono t hk hk' (by omega)
  rw[Rm.chain_up ⟨by omega,h2⟩]at this
  rcases aG.mp this with y|y
  ·exact y
  ·have:=Rm.chain_le _ y
   omega
 ·exact z
 ·have:=Rm.chain_mono t hk' hk (by omega)
  rw[Rm.chain_up ⟨by omega,h1⟩]at this
  rcases aG.mp this with y|y
  ·exact y.symm
  ·have:=Rm.chain_le _ y
   omega
theorem P3{R:List Ai}(hG:AX R):∀{t:Nat} {g:Nat},t<R.length→g∈(Rm.chain (Ae R) t).tail→∃k,k∈Rm.chain (Ae R) t∧Rm.hold (Ae R) k=(g:Int)∧g<k:=by
 intro t
 induction t using bz with
 | ind t ih=>
  intro g ht hg
  by_cases z:0≤Rm.hold (Ae R) t∧Rm.hold (Ae R) t<(t:Int)
  ·rw[Rm.chain_up z]at hg ⊢
   have hg':g∈Rm.chain (Ae R) (Rm.hold (Ae R) t).toNat:=hg
   by_cases e:g=(Rm.hold (Ae R) t).toNat
   ·exact⟨t,aw,by omega,by omega⟩
   ·have hc:Rm.chain (Ae R) (Rm.hold (Ae R) t).toNat=(Rm.hold (Ae R) t).toNat::(Rm.chain (Ae R) (Rm.hold (Ae R) t).toNat).tail:=by rw[Rm.chain];split<;>rfl
    rw[hc]at hg'
    rcases aG.mp hg' with y|y
    ·exact absurd y e
    ·obtain⟨k,k1,k2,k3⟩:=ih _ (by omega) (by omega) y
     exact⟨k,aq _ k1,k2,k3⟩
  ·rw[Rm.chain,dif_neg z]at hg
   simp at hg
section
variable{R:List Ai}{a:Ap}{chs:List Int}
theorem Rl{R:List Ai}(hG:AX R){t k:Nat}(ht:t<R.length)(hk:k∈Rm.chain (Ae R) t):k<R.length:=bK (Rm.chain_le _ hk) ht
theorem Cu(hG:AX R)(hA:AW R a){k:Nat}(hk:k∈EG (Ae R) (BI a) (A8 R a)):k∈Rm.chain (Ae R) (BI a)∧A8 R a<k∧0≤Rm.hold (Ae R) k∧Rm.hold (Ae R) k<(k:Int)∧k<R.length:=by
 obtain⟨h1,h2⟩:=(Ij (Dz hA)).mp hk
 have hl:=Rl hG (K1 hA).2 h1
 have:=hG.tree.up k (by omega) (by rw[Ay];exact hl)
 exact⟨h1,h2,this.1,this.2,hl⟩
theorem G2(hG:AX R)(hA:AW R a)(hc:chs.length=R.length){p k:Nat}(hw:FH R a p k)(hp:p<R.length)(hn:¬Ax R p = "all"):(BG R chs a).getD p (-1)=(k:Int):=by
 obtain⟨w1,w2,w3⟩:=hw
 have hkp:k∈EG (Ae R) (BI a) (A8 R a):=(Ij (Dz hA)).mpr ⟨w1,w3⟩
 obtain⟨_,_,q3,q4,_⟩:=Cu hG hA hkp
 unfold BG
 refine(EC (n:=R.length) (yes:=fun x=>Rm.hold (Ae R) x=(p:Int)) (GE R) _ _ (by rw[CG (DU R _)];exact hc) (fun x hx hy l hl=>?_) (fun x hx hy l=>?_)).1 ⟨k,hkp,w2⟩
 ·obtain⟨c1,c2,c3,c4,_⟩:=Cu hG hA hx
  have hy':Rm.hold (Ae R) x=(p:Int):=hy
  have e:x=k:=JM (BI a) c1 w1 (by rw[hy',w2]) c3 c4 q4
  subst e
  have e2:(Rm.hold (Ae R) x).toNat=p:=by omega
  rw[NY l (by rw[e2];exact hn),e2,Cv (by omega),if_pos rfl]
 ·obtain⟨c1,c2,c3,c4,_⟩:=Cu hG hA hx
  have hy':¬Rm.hold (Ae R) x=(p:Int):=hy
  unfold PV
  split
  ·rfl
  ·by_cases hlen:(Rm.hold (Ae R) x).toNat<l.length
   ·rw[Cv hlen,if_neg (by omega)]
   ·rw[bJ (by omega)]
theorem Em(hG:AX R)(hA:AW R a)(hc:chs.length=R.length){p:Nat}(hw:∀k,¬FH R a p k)(hp:p<R.length) :
  (BG R chs a).getD p (-1)=if(decide (Ax R p = "one")&&Rm.li (Ae R) p (A8 R a))=true then(Bt R).getD p (-1) else chs.getD p (-1):=by
 unfold BG
 rw[(EC (n:=R.length) (v:=0) (yes:=fun x=>Rm.hold (Ae R) x=(p:Int)) (GE R) _ _ (by rw[CG (DU R _)];exact hc) (fun x hx hy l hl=>?_) (fun x hx hy l=>?_)).2 fun x hx hy=>?_]
 ·obtain⟨f1,f2⟩:=EC (f:=LQ R (A8 R a)) (n:=R.length) (p:=p) (v:=(Bt R).getD p (-1)) (yes:=fun x=>x=p∧(decide (Ax R p = "one")&&Rm.li (Ae R) p (A8 R a))=true) (DU R _) (ak R.length) chs hc (fun x hx hy l hl=>by
    obtain⟨e,hy⟩:=hy
    subst e
    rw[NZ l hy,Cv (by omega),if_pos rfl]) (fun x hx hy l=>by
    unfold LQ
    split
    ·rename_i hz
     have nx:¬p=x:=fun e=>hy ⟨e.symm,by rw[e];exact hz⟩
     by_cases hlen:x<l.length
     ·rw[Cv hlen,if_neg nx]
     ·rw[bJ (by omega)]
    ·rfl)
  by_cases z:(decide (Ax R p = "one")&&Rm.li (Ae R) p (A8 R a))=true
  ·rw[if_pos z];exact f1 ⟨p,az.mpr hp,rfl,z⟩
  ·rw[if_neg z];exact f2 fun x _ hy=>z hy.2
 ·obtain⟨c1,c2,_⟩:=Cu hG hA hx
  exact absurd ⟨c1,hy,c2⟩ (hw x)
 ·obtain⟨c1,c2,c3,c4,_⟩:=Cu hG hA hx
  have hy':¬Rm.hold (Ae R) x=(p:Int):=hy
  unfold PV
  split
  ·rfl
  ·by_cases hlen:(Rm.hold (Ae R) x).toNat<l.length
   ·rw[Cv hlen,if_neg (by omega)]
   ·rw[bJ (by omega)]
 ·obtain⟨c1,c2,_⟩:=Cu hG hA hx
  exact hw x ⟨c1,hy,c2⟩
theorem Hc(hG:AX R)(hA:AW R a){p k:Nat}(hw:FH R a p k):p<R.length∧k∈Rm.kidsN (Ae R) p∧Rm.wi (Ae R) p (A8 R a)=true∧Rm.wi (Ae R) (BI a) k=true:=by
 obtain⟨w1,w2,w3⟩:=hw
 obtain⟨c1,c2,c3,c4,c5⟩:=Cu hG hA ((Ij (Dz hA)).mpr ⟨w1,w3⟩)
 have hk:k∈Rm.kidsN (Ae R) p:=Rm.mem_kidsN.mpr ⟨by rw[Ay];exact c5,w2⟩
 have hm:=Rm.chain_mono (BI a) (Dz hA) w1 (by omega)
 rw[Rm.chain_kid hG.tree hk]at hm
 refine⟨by omega,hk,?_,decide_eq_true w1⟩
 rcases aG.mp hm with y|y
 ·omega
 ·exact decide_eq_true y
theorem LC(hG:AX R)(hA:AW R a)(hc:Eo R chs):Eo R (BG R chs a):=by
 refine⟨by rw[KG];exact hc.len,fun p hp hch=>?_⟩
 have hna:¬Ax R p = "all":=fun z=>by
  rw[BP hp,z]at hch
  revert hch;decide +kernel
 by_cases hw:∃k,FH R a p k
 ·obtain⟨k,hw⟩:=hw
  exact⟨k,(Hc hG hA hw).2.1,G2 hG hA hc.len hw hp hna⟩
 ·rw[Em hG hA hc.len (fun k z=>hw ⟨k,z⟩) hp]
  split
  ·exact(JB hG).pick p hp hch
  ·exact hc.pick p hp hch
theorem KS(hG:AX R){A:List Ap}(hA:∀x∈A,AW R x):∀(l:List Nat) (chs:List Int),(∀i∈l,i<A.length)→Eo R chs→Eo R (Bb R A chs l)
 | [],_,_,h=>h
 | k::l,chs,hl,h=>by
  have hk:=hl k aw
  exact KS hG hA l _ (fun i hi=>hl i (aq _ hi)) (LC hG (by rw[CJ hk];exact hA _ (aI hk)) h)
theorem Js(hG:AX R)(hA:AW R a)(hc:chs.length=R.length){p:Nat}(hp:p<R.length)(hw:Rm.wi (Ae R) p (A8 R a)=false):(BG R chs a).getD p (-1)=chs.getD p (-1):=by
 rw[Em hG hA hc (fun k z=>by rw[(Hc hG hA z).2.2.1]at hw;cases hw) hp,if_neg]
 rw[Rm.li_eq,hw]
 simp
theorem E7(hG:AX R)(hA:AW R a)(hc:chs.length=R.length):∀k,k<R.length→(Rm.wi (Ae R) k (A8 R a)=false∨k=A8 R a)→Rm.kb (CN R (BG R chs a)) (Ae R) k=Rm.kb (CN R chs) (Ae R) k:=by
 intro k
 induction k using bz with
 | ind k ih=>
  intro hk hw
  by_cases z:k=0
  ·subst z;rw[Rm.kb_root hG.tree,Rm.kb_root hG.tree]
  ·have hl:k<(Ae R).length:=by rw[Ay];exact hk
   have hu:=hG.tree.up k (by omega) hl
   rw[Rm.kb_up hG.tree (by omega) hl,Rm.kb_up hG.tree (by omega) hl]
   have hpl:(Rm.hold (Ae R) k).toNat<R.length:=by omega
   have hpw:Rm.wi (Ae R) (Rm.hold (Ae R) k).toNat (A8 R a)=false:=by
    cases y:Rm.wi (Ae R) (Rm.hold (Ae R) k).toNat (A8 R a) with
    | false=>rfl
    | true=>
     have y1:A8 R a∈Rm.chain (Ae R) (Rm.hold (Ae R) k).toNat:=of_decide_eq_true y
     have le:=Rm.chain_le _ y1
     rcases hw with hw|hw
     ·have:Rm.wi (Ae R) k (A8 R a)=true:=decide_eq_true (by rw[Rm.chain_up hu];exact aq _ y1)
      rw[this]at hw;cases hw
     ·omega
   rw[ih _ (by omega) hpl (.inl hpw)]
   congr 1
   unfold CN
   rw[Js hG hA hc hpl hpw]
theorem ok_in(hG:AX R)(hA:AW R a)(hc:Eo R chs){mem:List Int}(hm:∀p,p<R.length→Ax R p = "keep"→Rm.wi (Ae R) p (A8 R a)=true→mem.getD p (-1)=chs.getD p (-1)){p k:Nat}(hk:k∈Rm.kidsN (Ae R) p)(hp:p<R.length)(hw:Rm.wi (Ae R) p (A8 R a)=true) :
  CN R (BG R chs a) p k=true↔k∈Ce R mem (BI a) p:=by
 unfold CN Ce
 rcases E8 hG hk with⟨h1,h2⟩|⟨h1,h2⟩
 ·rw[if_neg (by rw[h2];decide),decide_eq_true h1]
  simp[hk]
 ·rw[if_pos h2,decide_eq_false h1,bP,decide_eq_true_eq]
  have gi:A8 R a∈Rm.chain (Ae R) p:=of_decide_eq_true hw
  have gle:=Rm.chain_le _ gi
  have kid_way:∀x∈Rm.kidsN (Ae R) p,Rm.wi (Ae R) (BI a) x=true→FH R a p x:=fun x hx hy=>by
   have:=Rm.kid_gt hG.tree hx
   exact⟨of_decide_eq_true hy,(Rm.mem_kidsN.mp hx).2,by omega⟩
  by_cases hex:∃x,FH R a p x
  ·obtain⟨x,hx⟩:=hex
   obtain⟨_,wx2,_,wx4⟩:=Hc hG hA hx
   rw[G2 hG hA hc.len hx hp h1]
   have hmemx:x∈(Rm.kidsN (Ae R) p).filter fun y=>Rm.wi (Ae R) (BI a) y:=aR.mpr ⟨wx2,wx4⟩
   rw[if_pos (fun z=>by rw[z]at hmemx;simp at hmemx),aR]
   have key:∀y∈Rm.kidsN (Ae R) p,Rm.wi (Ae R) (BI a) y=true→y=x:=fun y hy hyw=>by
    have wy:=kid_way y hy hyw
    have g1:=Rm.kid_gt hG.tree hy
    have g2:=Rm.kid_gt hG.tree wx2
    exact JM (BI a) wy.1 hx.1 (by rw[wy.2.1,hx.2.1]) (by rw[wy.2.1];omega) (by rw[wy.2.1];omega) (by rw[hx.2.1];omega)
   constructor
   ·intro z
    have:k=x:=by omega
    rw[this];exact⟨wx2,wx4⟩
   ·rintro⟨z1,z2⟩
    rw[key k z1 z2]
  ·have none:((Rm.kidsN (Ae R) p).filter fun y=>Rm.wi (Ae R) (BI a) y)=[]:=cQ.mpr fun x hx hy=>hex ⟨x,kid_way x hx hy⟩
   rw[none,if_neg (fun z=>z rfl),Em hG hA hc.len (fun x z=>hex ⟨x,z⟩) hp]
   have hkk:=BP hp
   rw[h2]at hkk
   have hkk':Ax R p = "one"∨Ax R p = "keep":=of_decide_eq_true hkk.symm
   by_cases hkeep:Ax R p = "keep"
   ·rw[if_pos hkeep,decide_eq_false (show ¬Ax R p = "one" by rw[hkeep];decide +kernel),bR,if_neg (by decide),hm p hp hkeep hw]
    obtain⟨y,hy,ey⟩:=hc.pick p hp h2
    rw[ey,aA]
    simp
    omega
   ·have hone:Ax R p = "one":=hkk'.resolve_right hkeep
    have hpg:p≠A8 R a:=fun e=>by
     obtain⟨q,hq⟩:=hA.sc
     have hli:=(GM hq).2.2
     have hsc:A8 R a=q:=by unfold A8;rw[hq];rfl
     have hli':A8 R a∈(Rm.chain (Ae R) (BI a)).tail:=by rw[hsc];exact of_decide_eq_true hli
     exact hex (by rw[e];exact P3 hG (K1 hA).2 hli')
    rw[if_neg hkeep,decide_eq_true hone,bQ,Rm.li_eq,hw,decide_eq_false hpg]
    rw[if_pos (by decide),DM hp,if_pos h2]
    simp
    omega
end
theorem Ch{R:List Ai}{chs:List Int}{k:Nat}:k∈Ci R chs↔k<R.length∧Rm.kb (CN R chs) (Ae R) k=true:=by
 unfold Ci
 rw[aR,az]
theorem Jm(R:List Ai)(chs:List Int):(Ci R chs).Nodup:=bp.filter _ dB
theorem QO(R:List Ai)(chs:List Int):(Ci R chs).length≤R.length:=by
 have:=aL (Rm.kb (CN R chs) (Ae R)) (ak R.length)
 rw[aF]at this
 exact this
theorem G1{R:List Ai}(hG:AX R){ok:Nat→Nat→Bool}{k:Nat}(h0:0<k)(hk:k<R.length)(h:Rm.kb ok (Ae R) k=true):Rm.kb ok (Ae R) (Rm.hold (Ae R) k).toNat=true∧ok (Rm.hold (Ae R) k).toNat k=true:=by
 rw[Rm.kb_up hG.tree h0 (by rw[Ay];exact hk),be]at h
 exact h
theorem QP{R:List Ai}(hG:AX R){ok:Nat→Nat→Bool}:∀{k g:Nat},k<R.length→g∈Rm.chain (Ae R) k→Rm.kb ok (Ae R) k=true→Rm.kb ok (Ae R) g=true:=by
 intro k
 induction k using bz with
 | ind k ih=>
  intro g hk hg h
  by_cases z:0≤Rm.hold (Ae R) k∧Rm.hold (Ae R) k<(k:Int)
  ·rw[Rm.chain_up z]at hg
   rcases aG.mp hg with e|e
   ·rw[e];exact h
   ·have h0:0<k:=by omega
    exact ih _ (by omega) (by omega) e (G1 hG h0 hk h).1
  ·rw[Rm.chain,dif_neg z]at hg
   rw[au.mp hg];exact h
section
variable{R:List Ai}{a:Ap}{chs mem:List Int}
theorem Re(hG:AX R)(hA:AW R a)(hc:Eo R chs)(hM:Ff R mem)(hm:∀p,p<R.length→Ax R p = "keep"→Rm.wi (Ae R) p (A8 R a)=true→mem.getD p (-1)=chs.getD p (-1))(hk:Rm.kb (CN R chs) (Ae R) (A8 R a)=true) :
  ∀k,k∈Rm.ent (Ce R mem (BI a)) 16 (A8 R a)↔k<R.length∧Rm.wi (Ae R) k (A8 R a)=true∧Rm.kb (CN R (BG R chs a)) (Ae R) k=true:=by
 have P:=DF hG hM (BI a)
 have hs:=EV hA
 have hsl:A8 R a<(Ae R).length:=by rw[Ay];exact hs
 have hself:Rm.wi (Ae R) (A8 R a) (A8 R a)=true:=decide_eq_true (Rm.chain_self _ _)
 have hkg:Rm.kb (CN R (BG R chs a)) (Ae R) (A8 R a)=true:=by rw[E7 hG hA hc.len _ hs (.inr rfl)];exact hk
 intro k
 induction k using bz with
 | ind k ih=>
  constructor
  ·intro h
   obtain⟨h1,h2⟩:=Rm.ent_sub hG.tree P 16 _ k hsl h
   rw[Ay]at h1
   refine⟨h1,decide_eq_true h2,?_⟩
   rcases Rm.ent_back hG.tree P 16 _ k hsl h with e|⟨b1,b2,b3⟩
   ·rw[e];exact hkg
   ·have hu:=hG.tree.up k b3 (by rw[Ay];exact h1)
    obtain⟨i1,i2,i3⟩:=(ih _ (by omega)).mp b2
    rw[Rm.kb_up hG.tree b3 (by rw[Ay];exact h1),i3,bQ]
    have hkid:k∈Rm.kidsN (Ae R) (Rm.hold (Ae R) k).toNat:=Rm.mem_kidsN.mpr ⟨by rw[Ay];exact h1,by omega⟩
    exact(ok_in hG hA hc hm hkid i1 i2).mpr b1
  ·rintro⟨h1,h2,h3⟩
   by_cases e:k=A8 R a
   ·rw[e]
    exact aw
   ·have hg:A8 R a∈Rm.chain (Ae R) k:=of_decide_eq_true h2
    have hle:=Rm.chain_le _ hg
    have h0:0<k:=by omega
    have hl:k<(Ae R).length:=by rw[Ay];exact h1
    have hu:=hG.tree.up k h0 hl
    rw[Rm.chain_up hu]at hg
    have hg':A8 R a∈Rm.chain (Ae R) (Rm.hold (Ae R) k).toNat:=by
     rcases aG.mp hg with y|y
     ·exact absurd y.symm e
     ·exact y
    obtain⟨j1,j2⟩:=G1 hG h0 h1 h3
    have hpl:(Rm.hold (Ae R) k).toNat<R.length:=by omega
    have hw:=decide_eq_true hg'
    have hp:=(ih _ (by omega)).mpr ⟨hpl,hw,j1⟩
    have hkid:k∈Rm.kidsN (Ae R) (Rm.hold (Ae R) k).toNat:=Rm.mem_kidsN.mpr ⟨hl,by omega⟩
    exact Rm.ent_next hG.tree P 16 _ _ k hsl (by rw[Ay];have:=hG.most;omega) hp ((ok_in hG hA hc hm hkid hpl hw).mp j2)
theorem R5(hG:AX R)(hA:AW R a)(hc:Eo R chs)(hM:Ff R mem)(hm:∀p,p<R.length→Ax R p = "keep"→Rm.wi (Ae R) p (A8 R a)=true→mem.getD p (-1)=chs.getD p (-1))(hk:Rm.kb (CN R chs) (Ae R) (A8 R a)=true) :
  ∀k,k∈J5 R mem a (Ci R chs)↔k∈Ci R (BG R chs a):=by
 intro k
 unfold J5 Kg
 rw[aP,aR,Ch,Ch]
 have he:=Re hG hA hc hM hm hk k
 have e1:k∈Rm.ent (Ce R mem a.2.2.2.1.toNat) 16 (A8 R a)↔k<R.length∧Rm.wi (Ae R) k (A8 R a)=true∧Rm.kb (CN R (BG R chs a)) (Ae R) k=true:=he
 rw[e1]
 cases hw:Rm.wi (Ae R) k (A8 R a) with
 | true=>simp
 | false=>
  constructor
  ·rintro(⟨⟨x1,x2⟩,_⟩|⟨_,x,_⟩)
   ·exact⟨x1,by rw[E7 hG hA hc.len k x1 (.inl hw)];exact x2⟩
   ·cases x
  ·rintro⟨x1,x2⟩
   exact .inl ⟨⟨x1,by rw[← E7 hG hA hc.len k x1 (.inl hw)];exact x2⟩,by rfl⟩
theorem Po(hG:AX R)(hA:AW R a)(hM:Ff R mem):(J5 R mem a (Ci R chs)).Nodup:=by
 have hsl:A8 R a<(Ae R).length:=by rw[Ay];exact EV hA
 have P:=DF hG hM a.2.2.2.1.toNat
 unfold J5 Kg
 rw[bB]
 refine⟨bp.filter _ (Jm R chs),Rm.ent_nodup hG.tree P 16 _ hsl,fun x hx y hy e=>?_⟩
 subst e
 have h1:=(aR.mp hx).2
 have h2:=(Rm.ent_sub hG.tree P 16 _ x hsl hy).2
 rw[show Rm.wi (Ae R) x (A8 R a)=true from decide_eq_true h2]at h1
 cases h1
theorem Nu(hG:AX R)(hA:AW R a)(hc:Eo R chs)(hM:Ff R mem)(hm:∀p,p<R.length→Ax R p = "keep"→Rm.wi (Ae R) p (A8 R a)=true→mem.getD p (-1)=chs.getD p (-1))(hk:Rm.kb (CN R chs) (Ae R) (A8 R a)=true)
  {ns:List Int} (hp:ns.Perm (iN (J5 R mem a (Ci R chs)))) (hs:ns.Pairwise (·≤·)):ns=kI R (BG R chs a):=by
 have hq:(J5 R mem a (Ci R chs)).Perm (Ci R (BG R chs a)):=(dv (Po hG hA hM) (Jm R _)).mpr (R5 hG hA hc hM hm hk)
 refine(hp.trans (hq.map _)).eq_of_pairwise (fun a b _ _ h1 h2=>Int.le_antisymm h1 h2) hs ?_
 unfold kI
 rw[d5]
 exact(bp.filter _ bS).imp fun h=>by omega
end
theorem El{R:List Ai}{chs:List Int}{p:Nat}(hp:p<R.length):(Ct R chs).getD p (-1)=if Ax R p = "keep" then chs.getD p (-1) else -1:=by
 unfold Ct
 rw[ag,av,bv hp];rfl
theorem R6{R:List Ai}{chs:List Int}(hc:Eo R chs):Ff R (Ct R chs):=by
 refine⟨by simp[Ct],fun r hr hk=>?_⟩
 rw[El hr,if_pos hk]
 exact hc.pick r hr (Cj hr hk)
def OX(R:List Ai)(A:List Ap)(l:List Nat):Prop:=l.Pairwise fun i j=>Ss R (JQ A i) (JQ A j)=false
theorem JR{R:List Ai}{A:List Ap}:∀{l:List Nat},(∀i∈l,i<A.length)→Br (EO R A) l=ae→OX R A l
 | [],_,_=>bp.nil
 | x::l,hl,h=>by
  have h':(match l.find? (EO R A x) with|some y=>some (x,y)|ae=>Br (EO R A) l)=ae:=h
  cases z:l.find? (EO R A x) with
  | some y=>rw[z]at h';cases h'
  | none=>
   rw[z]at h'
   refine bp.cons (fun y hy=>?_) (JR (fun i hi=>hl i (aq _ hi)) h')
   have q:=bL.mp z y hy
   have hx:=hl x aw
   have hyl:=hl y (aq _ hy)
   rw[OP (aa hx) (aa hyl)]at q
   rw[CJ hx,CJ hyl]
   simpa using q
theorem OO{R:List Ai}{a b:Ap}(h:Ss R a b=false):Rm.wi (Ae R) (A8 R a) (A8 R b)=false∧Rm.wi (Ae R) (A8 R b) (A8 R a)=false:=by
 unfold Ss at h
 rwa [Bool.or_eq_false_iff]at h
theorem Rn{R:List Ai}{a b:Ap}(h:Ss R a b=false){p:Nat}(ha:Rm.wi (Ae R) p (A8 R a)=true)(hb:Rm.wi (Ae R) p (A8 R b)=true):False:=by
 obtain⟨h1,h2⟩:=OO h
 have ga:A8 R a∈Rm.chain (Ae R) p:=of_decide_eq_true ha
 have gb:A8 R b∈Rm.chain (Ae R) p:=of_decide_eq_true hb
 rcases cR (A8 R a) (A8 R b) with z|z
 ·have:=Rm.chain_mono p ga gb z
  rw[show Rm.wi (Ae R) (A8 R b) (A8 R a)=true from decide_eq_true this]at h2;cases h2
 ·have:=Rm.chain_mono p gb ga z
  rw[show Rm.wi (Ae R) (A8 R a) (A8 R b)=true from decide_eq_true this]at h1;cases h1
structure M3(R:List Ai)(A:List Ap)(chs0 chs:List Int)(l:List Nat):Prop where
 ch:Eo R chs
 same:∀k∈l,∀p,p<R.length→Rm.wi (Ae R) p (A8 R (JQ A k))=true→chs.getD p (-1)=chs0.getD p (-1)
 kept:∀k∈l,Rm.kb (CN R chs) (Ae R) (A8 R (JQ A k))=true
theorem M3.next{R:List Ai}(hG:AX R){A:List Ap}(hA:∀x∈A,AW R x){chs0 chs:List Int}{k:Nat}{l:List Nat}(h:M3 R A chs0 chs (k::l))(hl:∀i∈k::l,i<A.length)(ap:OX R A (k::l)):M3 R A chs0 (BG R chs (JQ A k)) l:=by
 have ga:∀i∈k::l,AW R (JQ A i):=fun i hi=>by rw[CJ (hl i hi)];exact hA _ (aI _)
 have gk:=ga k aw
 refine⟨LC hG gk h.ch,fun j hj p hp hw=>?_,fun j hj=>?_⟩
 ·have hc:=d0 ap hj
  have hn:Rm.wi (Ae R) p (A8 R (JQ A k))=false:=by
   cases z:Rm.wi (Ae R) p (A8 R (JQ A k)) with
   | false=>rfl
   | true=>exact(Rn hc z hw).elim
  rw[Js hG gk h.ch.len hp hn]
  exact h.same j (aq _ hj) p hp hw
 ·have hc:=d0 ap hj
  rw[E7 hG gk h.ch.len _ (EV (ga j (aq _ hj))) (.inl (OO hc).2)]
  exact h.kept j (aq _ hj)
theorem RJ{R:List Ai}(hG:AX R){chs mem:List Int}(hm:mem.length=R.length){p:Nat}(hp:p<R.length) :
  (HZ R (Ci R chs) mem).getD p (-1)=if Ax R p = "keep"∧Rm.kb (CN R chs) (Ae R) p=true∧(∃k,k<R.length∧Rm.hold (Ae R) k=(p:Int)∧chs.getD p (-1)=(k:Int)) then chs.getD p (-1) else mem.getD p (-1):=by
 unfold HZ
 have hf:=EC (f:=J3 R) (n:=R.length) (p:=p) (v:=chs.getD p (-1)) (yes:=fun x=>Rm.hold (Ae R) x=(p:Int)∧Ax R p = "keep") (Mf R) (Ci R chs) mem hm (fun x hx hy l hl=>by
   obtain⟨y1,y2⟩:=hy
   obtain⟨k1,k2⟩:=Ch.mp hx
   have h0:0<x:=by
    rcases cG x with z|z
    ·rw[z,hG.tree.root]at y1;omega
    ·exact z
   have e2:(Rm.hold (Ae R) x).toNat=p:=by omega
   obtain⟨_,j2⟩:=G1 hG h0 k1 k2
   rw[e2]at j2
   unfold CN at j2
   rw[decide_eq_false (show ¬Ax R p = "all" by rw[y2];decide +kernel),bP,decide_eq_true_eq]at j2
   unfold J3
   rw[if_pos ⟨by omega,by rw[e2];exact y2⟩,e2,Cv (by omega),if_pos rfl,j2]) (fun x hx hy l=>by
   unfold J3
   split
   ·rename_i hz
    have ne:¬p=(Rm.hold (Ae R) x).toNat:=fun e=>hy ⟨by omega,by rw[e];exact hz.2⟩
    by_cases hlen:(Rm.hold (Ae R) x).toNat<l.length
    ·rw[Cv hlen,if_neg ne]
    ·rw[bJ (by omega)]
   ·rfl)
 by_cases z:Ax R p = "keep"∧Rm.kb (CN R chs) (Ae R) p=true∧(∃k,k<R.length∧Rm.hold (Ae R) k=(p:Int)∧chs.getD p (-1)=(k:Int))
 ·rw[if_pos z]
  obtain⟨z1,z2,k,k1,k2,k3⟩:=z
  refine hf.1 ⟨k,Ch.mpr ⟨k1,?_⟩,k2,z1⟩
  have h0:0<k:=by
   rcases cG k with y|y
   ·rw[y,hG.tree.root]at k2;omega
   ·exact y
  rw[Rm.kb_up hG.tree h0 (by rw[Ay];exact k1),k2,aA,z2,bQ]
  unfold CN
  rw[k3,decide_eq_true rfl,dJ]
 ·rw[if_neg z]
  refine hf.2 fun x hx hy=>z ?_
  obtain⟨y1,y2⟩:=hy
  obtain⟨k1,k2⟩:=Ch.mp hx
  have h0:0<x:=by
   rcases cG x with q|q
   ·rw[q,hG.tree.root]at y1;omega
   ·exact q
  obtain⟨j1,j2⟩:=G1 hG h0 k1 k2
  have e2:(Rm.hold (Ae R) x).toNat=p:=by omega
  rw[e2]at j1 j2
  unfold CN at j2
  rw[decide_eq_false (show ¬Ax R p = "all" by rw[y2];decide +kernel),bP,decide_eq_true_eq]at j2
  exact⟨y2,j1,x,k1,y1,j2⟩
def JW(R:List Ai)(chs0 chs:List Int):Prop:=∀p,p<R.length→Ax R p = "keep"→Rm.kb (CN R chs) (Ae R) p=false→chs.getD p (-1)=chs0.getD p (-1)
theorem RI{R:List Ai}(hG:AX R){chs0 chs:List Int}(hc:Eo R chs)(h0:chs0.length=R.length)(hs:JW R chs0 chs):HZ R (Ci R chs) (Ct R chs0)=Ct R chs:=by
 have hl0:(Ct R chs0).length=R.length:=by simp[Ct]
 refine d6 fun p=>?_
 by_cases hp:p<R.length
 ·have e:∀l:List Int,l.length=R.length→l[p]?=some (l.getD p (-1)):=fun l hl=>by rw[ag,aa (by omega)];rfl
  rw[e _ (by rw[IW];exact hl0),e (Ct R chs) (by simp[Ct]),RJ hG hl0 hp,El hp,El hp]
  by_cases hk:Ax R p = "keep"
  ·rw[if_pos hk,if_pos hk]
   cases z:Rm.kb (CN R chs) (Ae R) p with
   | true=>
    obtain⟨k,k1,k2⟩:=hc.pick p hp (Cj hp hk)
    obtain⟨m1,m2⟩:=Rm.mem_kidsN.mp k1
    rw[if_pos ⟨hk,rfl,k,by rw[Ay]at m1;exact m1,m2,k2⟩]
   | false=>
    rw[if_neg (fun y=>by cases y.2.1),hs p hp hk z]
  ·rw[if_neg hk,if_neg (fun y=>hk y.1),if_neg hk]
 ·rw[bA (by rw[IW];omega),bA (by simp[Ct];omega)]
theorem JW.next{R:List Ai}(hG:AX R){a:Ap}(hA:AW R a){chs0 chs mem:List Int}(hc:Eo R chs)(h:JW R chs0 chs)(hsame:∀p,p<R.length→Rm.wi (Ae R) p (A8 R a)=true→chs.getD p (-1)=chs0.getD p (-1))
  (hk:Rm.kb (CN R chs) (Ae R) (A8 R a)=true) (hM:Ff R mem) (hm:∀p,p<R.length→Ax R p = "keep"→Rm.wi (Ae R) p (A8 R a)=true→mem.getD p (-1)=chs.getD p (-1)):JW R chs0 (BG R chs a):=by
 intro p hp hkeep hnk
 cases hw:Rm.wi (Ae R) p (A8 R a) with
 | false=>
  rw[Js hG hA hc.len hp hw]
  refine h p hp hkeep ?_
  rw[← E7 hG hA hc.len p hp (.inl hw)];exact hnk
 | true=>
  by_cases hway:∃k,FH R a p k
  ·
   exfalso
   obtain⟨k,hway⟩:=hway
   have hself:∀q,q∈Rm.chain (Ae R) (BI a)→Rm.wi (Ae R) q (A8 R a)=true→q<R.length→Rm.kb (CN R (BG R chs a)) (Ae R) q=true:=by
    intro q
    induction q using bz with
    | ind q ih=>
     intro hq hqw hql
     by_cases e:q=A8 R a
     ·rw[e,E7 hG hA hc.len _ (EV hA) (.inr rfl)];exact hk
     ·have gq:A8 R a∈Rm.chain (Ae R) q:=of_decide_eq_true hqw
      have hle:=Rm.chain_le _ gq
      have h0:0<q:=by omega
      have hl:q<(Ae R).length:=by rw[Ay];exact hql
      have hu:=hG.tree.up q h0 hl
      have gq':A8 R a∈Rm.chain (Ae R) (Rm.hold (Ae R) q).toNat:=by
       rw[Rm.chain_up hu]at gq
       rcases aG.mp gq with y|y
       ·exact absurd y.symm e
       ·exact y
      have hpt:(Rm.hold (Ae R) q).toNat∈Rm.chain (Ae R) (BI a):=Rm.chain_trans _ (show(Rm.hold (Ae R) q).toNat∈Rm.chain (Ae R) q by rw[Rm.chain_up hu];exact aq _ (Rm.chain_self _ _)) hq
      have hpl:(Rm.hold (Ae R) q).toNat<R.length:=by omega
      rw[Rm.kb_up hG.tree h0 hl,ih _ (by omega) hpt (decide_eq_true gq') hpl,bQ]
      have ow:FH R a (Rm.hold (Ae R) q).toNat q:=⟨hq,by omega,by omega⟩
      unfold CN
      by_cases hall:Ax R (Rm.hold (Ae R) q).toNat = "all"
      ·rw[decide_eq_true hall,cr]
      ·rw[G2 hG hA hc.len ow hpl hall,decide_eq_true rfl,dJ]
   obtain⟨_,w2,w3,_⟩:=Hc hG hA hway
   have hpt:p∈Rm.chain (Ae R) (BI a):=Rm.chain_trans _ (show p∈Rm.chain (Ae R) k by rw[Rm.chain_kid hG.tree w2];exact aq _ (Rm.chain_self _ _)) hway.1
   rw[hself p hpt w3 hp]at hnk
   cases hnk
  ·rw[Em hG hA hc.len (fun k z=>hway ⟨k,z⟩) hp,decide_eq_false (show ¬Ax R p = "one" by rw[hkeep];decide +kernel),bR,if_neg (by decide)]
   exact hsame p hp hw
def BO(A:List Ap)(l:List Nat):List Int:=l.map fun k=>(JQ A k).2.2.2.2
def tkL(R:List Ai)(A:List Ap)(chs:List Int)(ev:Int):List Nat:=ER R A (kI R chs) ev
def Kj(C:fG):Sp:=fun vs H Q _=>∃(c st kt mt:fG) (R:List Ai) (A:List Ap) (chs:List Int) (ev:Int),vs=[.ref c,.ref st,.int ev]∧A7 C H c R A∧AX R∧(∀a∈A,AW R a) ∧
 H st=some (.tup [.ref kt,.ref mt])∧H kt=some (.tup ((kI R chs).map V.int))∧H mt=some (.tup ((Ct R chs).map V.int))∧Eo R chs∧Br (EO R A) (tkL R A chs ev)=ae ∧
 ∀(t s' kt' mt' dd:fG) (H':Hp),An H H'→H' t=some (.tup [.ref s',.ref dd])→H' s'=some (.tup [.ref kt',.ref mt'])→H' kt'=some (.tup ((kI R (Bb R A chs (tkL R A chs ev))).map V.int)) →
  H' mt'=some (.tup ((Ct R (Bb R A chs (tkL R A chs ev))).map V.int))→H' dd=some (.tup ((BO A (tkL R A chs ev)).map V.int))→Q (.ref t) H'
theorem Ke{R:List Ai}(hG:AX R){A:List Ap}(hA:∀x∈A,AW R x){chs:List Int}{ev:Int}:∀k∈tkL R A chs ev,Rm.kb (CN R chs) (Ae R) (A8 R (JQ A k))=true:=by
 intro k hk
 have hlt:=Fh k hk
 have h1:=(aR.mp (aR.mp hk).1).2
 unfold Cg at h1
 rw[aa hlt]at h1
 have h2:EI A[k] (kI R chs) ev=true:=h1
 unfold EI at h2
 rw[be,be]at h2
 have hs:A[k].1∈kI R chs:=of_decide_eq_true h2.1.2
 obtain⟨s,hs1,hs2⟩:=aJ.mp hs
 obtain⟨k1,k2⟩:=Ch.mp hs1
 rw[CJ hlt]
 have ga:=hA _ (aI hlt)
 obtain⟨q,hq⟩:=ga.sc
 have hsc:A8 R A[k]=q:=by unfold A8;rw[hq];rfl
 have hm:=(GM hq).1
 have es:A[k].1.toNat=s:=by rw[← hs2];simp
 rw[es]at hm
 rw[hsc]
 exact QP hG k1 (eu hm) k2
theorem M0(R:List Ai)(A:List Ap)(chs:List Int){l:List Nat}{i k:Nat}(hk:l[i]?=some k):Bb R A chs (l.take (i+1))=BG R (Bb R A chs (l.take i)) (JQ A k):=by
 unfold Bb
 rw[bj,hk,bI];rfl
theorem Co:AA ["chart", "state", "event", "kept", "memory", "taken", "pair", "number", "deeds"] ["chart", "state", "event"] (Am DH):=⟨rfl,rfl,rfl,by decide +kernel,rfl,by decide +kernel,by decide +kernel⟩
theorem No{f C ft fc fm fr:fG}{fd fdt fdc fdm fdr:fO}(D:Al K mg "stepped" DH ["chart", "state", "event"] f fd)(T:DP K mg C)
  (Dt:Al K mg "takeable" CS ["chart", "kept", "event"] ft fdt) (Gt:AC P w K mg base A6 4 ft fdt ["chart", "kept", "event"] (Iy K C)) (Dc:Al K mg "clash_of" Ei ["chart", "numbers"] fc fdc) (Gc:AC P w K mg base A6 6 fc fdc ["chart", "numbers"] (Kn C))
  (Dm:Al K mg "moved" FQ ["chart", "kept", "memory", "number"] fm fdm) (Gm:AC P w K mg base A6 20 fm fdm ["chart", "kept", "memory", "number"] (N6 C)) (Dr:Al K mg "remembered" Cp ["chart", "kept", "memory"] fr fdr) :
  AC P w K mg base A6 21 f fd ["chart", "state", "event"] (Kj C):=by
 have Gr:AC P w K mg base A6 1 fr fdr ["chart", "kept", "memory"] (spRem C):=ok_rem Dr T
 refine D.fn.ok Co (fun vs H Q E h=>?_) (fun cdv A outer s H vs Q E hr h=>?_)
 ·obtain⟨c,st,kt,mt,R,As,chs,ev,rfl,_⟩:=h
  rfl
 obtain⟨c,st,kt,mt,R,As,chs,ev,rfl,hC,hG,hA,hst,hkt,hmt,hch,hpn,qQ⟩:=h
 refine⟨_,Ac (Ar (i:=3) Co.nd rfl (Or.inl rfl) (Ao Av (pv 1) Ah (fun _ _=>rfl)))
  (Ac (Ar (i:=4) Co.nd rfl (Or.inl rfl) (Ao Av (pv 1) Ah (fun _ _=>rfl)))
  (Ac (Ar (i:=5) Co.nd rfl (Or.inl rfl) (Aq Gt (hr.mono (by decide)) rfl Dt.mg Dt.fn.kp Dt.bd .nil AE (Aa (pv 0) (Aa (pv 3) (Aa (pv 2) Ab)))))
  (Ac (Ar (i:=6) Co.nd rfl (Or.inl rfl) (Aq Gc (hr.mono (by decide)) rfl Dc.mg Dc.fn.kp Dc.bd .nil AE (Aa (pv 0) (Aa (pv 5) Ab))))
  (Ac (A0 (AB RQ (pv 6) Hs (AS _)) AZ AJ)
  (Ac (Bd fR.never rfl (Bi (pv 5)) (Az (i:=7) Co.nd rfl (Or.inl rfl))
   (Ak (Ar (i:=3) Co.nd rfl (Or.inl rfl) (Aq Gm hr rfl Dm.mg Dm.fn.kp Dm.bd .nil AE (Aa (pv 0) (Aa (pv 3) (Aa (pv 4) (Aa (pv 7) Ab))))))))
  (Ac (Ar (i:=8) Co.nd rfl (Or.inl rfl) (Bc BA (by rfl) T.tup (by decide +kernel) (Aa (BW ["number", "chart"] [ae,some 0] rfl (Bi (pv 5)) (fun _=>Az (i:=0) (show(["number", "chart"]:List Str).Nodup by decide +kernel) rfl (Or.inl rfl)) (fun _=>BJ)
   (fun _=>Ao Av (Ao Au (A3 (pv 1) rfl) (pv 0) (fun _ _=>rfl)) (AG T.ded rfl) (fun _ _=>rfl))
   (N:=["chart", "state", "event", "kept", "memory", "taken", "pair", "number", "deeds"]) (ks:=(Am DH).names) rfl rfl (by decide +kernel) (by decide +kernel) (by decide +kernel) (by decide +kernel)) Ab)))
  (Ak (AK (AY (Aa (AY (Aa (pv 3) (Aa (Aq Gr (hr.mono (by decide)) rfl Dr.mg Dr.fn.kp Dr.bd .nil AE (Aa (pv 0) (Aa (pv 3) (Aa (pv 4) Ab)))) Ab))) (Aa (pv 8) Ab))))))))))),?_⟩
 have hal:=hC.al
 have hrl:=hG.most
 refine⟨_,rfl,st,_,_,_,rfl,rfl,A2.of hst,rfl,?_⟩
 refine⟨_,rfl,st,_,_,_,rfl,rfl,A2.of hst,rfl,?_⟩
 refine⟨_,rfl,_,rfl,_,rfl,c,kt,R,As,kI R chs,ev,rfl,hC,hG,hA,A2.of hkt,fun tk H1 htk s1 e1=>?_⟩
 have e1':H1 tk=some (.lst (cV (tkL R As chs ev))):=e1
 have hlt:∀i∈tkL R As chs ev,i<As.length:=fun i hi=>Fh i hi
 have hln:(tkL R As chs ev).length≤100:=aU (GB R As (kI R chs) ev) hal
 have hkp:=Ke (chs:=chs) (ev:=ev) hG hA
 refine⟨_,rfl,_,rfl,c,tk,R,As,tkL R As chs ev,rfl,hC.same s1,hG,hA,e1',hln,hlt,?_⟩
 cases hp:Br (EO R As) (tkL R As chs ev) with
 | some ij=>rw[hp]at hpn;cases hpn
 | none=>
  intro H2 s2
  have s02:=s1.trans s2
  have e2:=s2 _ _ e1'
  refine⟨_,rfl,rfl,_,rfl,?_⟩
  refine A9 ?_
  have ap:=JR hlt hp
  have hM:=R6 hch
  refine⟨_,rfl,tk,rfl,⟨_,AD.of e2⟩,?_⟩
  generalize htl:tkL R As chs ev=l at e2 hlt hln hkp hp ap qQ
  refine Cl (K:=K) (xs:=cV l) (fun i σ H3=>∃v7 k3,σ=[some (.ref c),some (.ref st),some (.int ev),some (.ref k3),some (.ref mt),some (.ref tk),some .non,v7,ae]∧An H2 H3∧H3 k3=some (.tup ((kI R (Bb R As chs (l.take i))).map V.int))∧M3 R As chs (Bb R As chs (l.take i)) (l.drop i)∧JW R chs (Bb R As chs (l.take i)))
   ⟨_,kt,rfl,An.refl _,s02 _ _ hkt,⟨hch,fun k _ p _ _=>rfl,fun k hk=>hkp k hk⟩,fun p _ _ _=>rfl⟩ ?_ ?_ ?_
  ·rintro i σ H3 hi ⟨v7,k3,rfl,(s3:An _ _),_⟩
   exact AD.of (s3 _ _ e2)
  ·rintro i x σ H3 hx ⟨v7,k3,rfl,(s3:An _ _),e3,hah,hsy⟩
   obtain⟨k,hk,rfl⟩:=Cn hx
   have hkl:=hlt k (ay hk)
   have hd:l.drop i=k::l.drop (i+1):=by
    obtain⟨hi,e⟩:=af.mp hk
    rw[bF hi,e]
   rw[hd]at hah
   have hld:∀y∈k::l.drop (i+1),y<As.length:=fun y hy=>hlt y (by rw[← hd]at hy;exact dZ hy)
   have apd:OX R As (k::l.drop (i+1)):=by rw[← hd];exact bp.sublist (List.drop_sublist i l) ap
   have s03:=s02.trans s3
   have ga:AW R (JQ As k):=by rw[CJ hkl];exact hA _ (aI hkl)
   have hak:As[k]?=some (JQ As k):=by rw[CJ hkl];exact aa hkl
   have hmm:∀p,p<R.length→Ax R p = "keep"→Rm.wi (Ae R) p (A8 R (JQ As k))=true→(Ct R chs).getD p (-1)=(Bb R As chs (l.take i)).getD p (-1):=fun p hp hkk hw=>by
    rw[El hp,if_pos hkk,hah.same k aw p hp hw]
   refine⟨_,rfl,_,rfl,_,rfl,_,rfl,c,k3,mt,R,As,Ct R chs,Ci R (Bb R As chs (l.take i)),k,JQ As k,rfl,hC.same s03,hG,hak,ga,e3,fun y hy=>(Ch.mp hy).1,aU (QO R _) (by omega),s03 _ _ hmt,hM,fun t ns H4 s4 hperm hsrt e4=>?_⟩
   have ens:=Nu hG ga hah.ch hM hmm (hah.kept k aw) hperm hsrt
   rw[ens]at e4
   have eb:=M0 R As chs hk
   refine⟨_,t,rfl,s3.trans s4,by rw[eb];exact e4,by rw[eb];exact hah.next hG hA hld apd,?_⟩
   rw[eb]
   exact hsy.next hG ga hah.ch (hah.same k aw) (hah.kept k aw) hM hmm
  ·rintro σ H3 ⟨v7,k3,rfl,(s3:An _ _),e3,hah,hsy⟩
   rw[Bl,aN]at e3 hah hsy
   have s03:=s02.trans s3
   obtain⟨dx,la,ma,ps,qs,h1,h2,h3,h4,h5⟩:=(hC.same s03).ob
   refine⟨_,rfl,tk,rfl,⟨_,AD.of (s3 _ _ e2)⟩,fun bk D hD=>?_⟩
   refine BC (K:=K) (xs:=cV l) (Pv:=fun j ys σ H'=>∃v,σ=[v,some (.ref c)]∧ys=(BO As (l.take j)).map V.int∧An H3 H') ⟨_,rfl,rfl,Ag hD _⟩ ?_ ?_ ?_
   ·rintro j ys σ H' hj hDj ⟨v,rfl,_,(s':An _ _)⟩
    exact AD.of (s' _ _ (s3 _ _ e2))
   ·rintro j x ys σ H' hx hDj ⟨v,rfl,hys,(s':An _ _)⟩
    obtain⟨k,hk,rfl⟩:=Cn hx
    have hkl:=hlt k (ay hk)
    obtain⟨p,hp1,hp2⟩:=BY h5 hkl
    have hjl:=(af.mp hk).1
    refine⟨_,rfl,c,C,dx,_,_,rfl,s' _ _ h1,T.cl,T.nA,Bz la ma,_,rfl,ma,_,_,_,rfl,rfl,AD.of (s' _ _ h4),hp1,p,_,_,_,rfl,rfl,A2.of (s' _ _ hp2),rfl,hDj,?_,⟨_,rfl,?_,AH s' hD _⟩⟩
    ·rw[hys,ac]
     unfold BO
     rw[ac,bc];exact Aw (by omega)
    ·unfold BO at hys ⊢
     rw[bj,hk,am,am,← hys]
     show ys++[V.int As[k].2.2.2.2]=ys++[V.int (JQ As k).2.2.2.2]
     rw[CJ hkl]
   ·rintro ys σ H4 hD4 ⟨v,rfl,hys,(s4:An _ _)⟩
    rw[Bl,aN]at hys
    subst hys
    refine⟨D,_,rfl,.inl ⟨AD.of hD4,fun dd hdd=>?_⟩⟩
    have s5:=Ag hdd (.tup ((BO As l).map V.int))
    have edd:(upd H4 dd (.tup ((BO As l).map V.int))) dd=some (.tup ((BO As l).map V.int)):=Ad
    generalize upd H4 dd (.tup ((BO As l).map V.int))=H5 at s5 edd ⊢
    have s35:=s4.trans s5
    have s05:=s03.trans s35
    refine⟨_,rfl,_,rfl,_,rfl,_,rfl,c,k3,mt,R,As,Ct R chs,Ci R (Bb R As chs l),rfl,hC.same s05,hG,s35 _ _ e3,fun y hy=>(Ch.mp hy).1,s05 _ _ hmt,by simp[Ct],fun m6 H6 s6 e6=>?_⟩
    rw[RI hG hah.ch hch.len hsy]at e6
    refine⟨(by show 2≤fL;decide),fun sp hsp=>?_⟩
    have s7:=Ag hsp (.tup [.ref k3,.ref m6])
    refine⟨_,rfl,(by show 2≤fL;decide),fun t ht=>?_⟩
    have s8:=Ag ht (.tup [.ref sp,.ref dd])
    have s58:=s6.trans (s7.trans s8)
    exact qQ t sp k3 m6 dd _ (s05.trans s58) Ad (s8 _ _ Ad) ((s35.trans s58) _ _ e3) ((s7.trans s8) _ _ e6) (s58 _ _ edd)
def p2{α:Type}(a b:α)(x:Int):α:=if x=0 then a else b
def p3{α:Type}(a b c:α)(x:Int):α:=if x=0 then a else if x=1 then b else c
theorem at2{f:α→V}{a b:α}{x:Int}:G6 [f a,f b] (x % 2)=some (f (p2 a b (x % 2))):=by
 rcases(by omega:x % 2=0∨x % 2=1) with h|h<;>rw[h]<;>rfl
theorem at3{f:α→V}{a b c:α}{x:Int}:G6 [f a,f b,f c] (x % 3)=some (f (p3 a b c (x % 3))):=by
 rcases(by omega:x % 3=0∨x % 3=1∨x % 3=2) with h|h|h<;>rw[h]<;>rfl
abbrev LS(x:Int):Str:=p2 "keep" "one" x
def Hb(c:Int):List Ai:=([(-1, "one"),(0, "all"),(1,LS (c / 4 % 2)),(1,LS (c / 8 % 2))]:List Ai)++(ak (2+c % 2).toNat).map (fun _=>((2, "plain"):Ai))++(ak (2+c / 2 % 2).toNat).map (fun _=>((3, "plain"):Ai))++([(0, "plain")]:List Ai)
def frD(ns:List Int)(st:Nat)(i:Nat):Int:=Rm.cell ns (st+1+i % 5) / (1+((0:Int)+(i:Int)) / 5*3) % 2
def frDs(ns:List Int)(st:Nat):List Int:=(ak 10).map (frD ns st)
def NH(c:Int)(ds:List Int):List Ap:=(ak (2+c % 2).toNat).map fun(i:Nat)=>((4+((0:Int)+(i:Int)),0,-1,4+(((0:Int)+(i:Int))+1) % (2+c % 2),ds.getD i 0):Ap)
def NG(c:Int)(ds:List Int):List Ap:=(ak (2+c / 2 % 2).toNat).map fun(i:Nat)=>((4+(2+c % 2)+((0:Int)+(i:Int)),p3 0 0 3 (c / 16 % 3),-1,4+(2+c % 2)+(((0:Int)+(i:Int))+1) % (2+c / 2 % 2),ds.getD (3+i) 0):Ap)
def frA2(c:Int)(ds:List Int):Ap:=(1,1,p3 (-1) 5 (4+(2+c % 2)+1) (c / 48 % 3),4+(2+c % 2)+(2+c / 2 % 2),ds.getD 6 0)
def Se(c:Int)(ds:List Int):Ap:=(4+(2+c % 2)+(2+c / 2 % 2),2,-1,p3 1 2 5 (c / 144 % 3),ds.getD 7 0)
def frA4(c:Int):Ap:=(5,3,-1,4+(2+c % 2)+(2+c / 2 % 2),7)
def frA5(c:Int):Ap:=(4+(2+c % 2)+1,3,-1,4+(2+c % 2),8)
def J8(cl:Bool)(c:Int)(ds:List Int):List Ap:=NH c ds++NG c ds++[frA2 c ds]++[Se c ds]++(if cl=true∧c / 432 % 3=1 then [frA4 c]++[frA5 c] else [])
theorem Sd(cl:Bool)(c:Int)(ds:List Int):(J8 cl c ds).length≤20:=by
 have h1:(2+c % 2).toNat≤3:=by omega
 have h2:(2+c / 2 % 2).toNat≤3:=by omega
 unfold J8 NH NG
 simp only[ai,ac,aF,bf,cy]
 split<;>simp<;>omega
def QX(R:List Ai):Bool:=decide (0<R.length)&&decide (R.length≤16)&&decide (Rm.hold (Ae R) 0=-1)&&((ak R.length).all fun i=>decide (i=0)||(decide (0≤Rm.hold (Ae R) i)&&decide (Rm.hold (Ae R) i<(i:Int)))) &&
 ((ak R.length).all fun i=>(decide (Ax R i = "plain")||decide (Ax R i = "one")||decide (Ax R i = "all")||decide (Ax R i = "keep"))&&(decide (Ax R i = "plain")==(Rm.kids (Ae R) i).isEmpty))
theorem QW{R:List Ai}(h:QX R=true):AX R:=by
 unfold QX at h
 simp only[be,decide_eq_true_eq,cf,az,Bool.or_eq_true,beq_iff_eq]at h
 obtain⟨⟨⟨⟨h1,h2⟩,h3⟩,h4⟩,h5⟩:=h
 refine⟨⟨by rw[Ay];exact h1,h3,fun i h0 hi=>?_⟩,h2,fun i r hr=>?_⟩
 ·rw[Ay]at hi
  rcases h4 i hi with z|z
  ·omega
  ·exact z
 ·obtain⟨hi,rfl⟩:=af.mp hr
  obtain⟨a,b⟩:=h5 i hi
  rw[A1 hi]at a b
  refine⟨?_,?_⟩
  ·rcases a with((a|a)|a)|a
   ·exact .inl a
   ·exact .inr (.inl a)
   ·exact .inr (.inr (.inl a))
   ·exact .inr (.inr (.inr a))
  ·rw[← List.isEmpty_iff,← b,decide_eq_true_eq]
def Q2(x y:Nat)(k1 k2:Str):List Ai:=([(-1, "one"),(0, "all"),(1,k1),(1,k2)]:List Ai)++(ak (2+x)).map (fun _=>((2, "plain"):Ai))++(ak (2+y)).map (fun _=>((3, "plain"):Ai))++([(0, "plain")]:List Ai)
def Lk(x y:Nat):List (Nat×Nat):=((ak (2+x)).map fun i=>(4+i,4+(i+1) % (2+x)))++((ak (2+y)).map fun i=>(4+(2+x)+i,4+(2+x)+(i+1) % (2+y))) ++
 [(1,4+(2+x)+(2+y)),(4+(2+x)+(2+y),1),(4+(2+x)+(2+y),2),(4+(2+x)+(2+y),5),(5,4+(2+x)+(2+y)),(4+(2+x)+1,4+(2+x))]
def frAll:Bool:=[0,1].all fun x=>[0,1].all fun y=>(["keep", "one"]:List Str).all fun k1=>(["keep", "one"]:List Str).all fun k2=>QX (Q2 x y k1 k2)&&decide ((Q2 x y k1 k2).length=9+x+y)&&((Lk x y).all fun p=>(Bp (Q2 x y k1 k2) p.1 p.2).isSome)
theorem Q4:frAll=true:=by decide +kernel
theorem frR_is(c:Int):Hb c=Q2 (c % 2).toNat (c / 2 % 2).toNat (LS (c / 4 % 2)) (LS (c / 8 % 2)):=by
 unfold Hb Q2
 rw[show(2+c % 2).toNat=2+(c % 2).toNat by omega,show(2+c / 2 % 2).toNat=2+(c / 2 % 2).toNat by omega]
theorem Q3(x:Int):LS x∈(["keep", "one"]:List Str):=by
 unfold LS p2
 split
 ·exact .head _
 ·exact .tail _ (.head _)
theorem Jy(c:Int):AX (Hb c)∧(Hb c).length=9+(c % 2).toNat+(c / 2 % 2).toNat∧∀p∈Lk (c % 2).toNat (c / 2 % 2).toNat,∃q,Bp (Hb c) p.1 p.2=some q:=by
 have h:=Q4
 unfold frAll at h
 simp only[cf,be,decide_eq_true_eq]at h
 have h2:=h (c % 2).toNat (by rcases(by omega:c % 2=0∨c % 2=1) with e|e<;>rw[e]<;>decide) (c / 2 % 2).toNat (by rcases(by omega:c / 2 % 2=0∨c / 2 % 2=1) with e|e<;>rw[e]<;>decide) (LS (c / 4 % 2)) (Q3 _) (LS (c / 8 % 2)) (Q3 _)
 rw[← frR_is]at h2
 exact⟨QW h2.1.1,h2.1.2,fun p hp=>cD.mp (h2.2 p hp)⟩
theorem MP(cl:Bool)(c:Int)(ds:List Int)(hd:∀i,0≤ds.getD i 0∧ds.getD i 0≤99):∀a∈J8 cl c ds,AW (Hb c) a:=by
 obtain⟨hG,hl,hp⟩:=Jy c
 obtain⟨x,ex,hx⟩:∃x:Nat,c % 2=(x:Int)∧x≤1:=⟨(c % 2).toNat,by omega,by omega⟩
 obtain⟨y,ey,hy⟩:∃y:Nat,c / 2 % 2=(y:Int)∧y≤1:=⟨(c / 2 % 2).toNat,by omega,by omega⟩
 rw[ex,ey,aA,aA]at hl hp
 have mk:∀(s t:Nat) (e g d:Int),(s,t)∈Lk x y→s<(Hb c).length→t<(Hb c).length→0≤e∧e≤3→-1≤g∧g<((Hb c).length:Int)→0≤d∧d≤99→∀(s' t':Int),s'=(s:Int)→t'=(t:Int)→AW (Hb c) (s',e,g,t',d):=by
  rintro s t e g d hpm hs ht he hg hd' _ _ rfl rfl
  refine⟨⟨s,rfl,hs⟩,he,hg,⟨t,rfl,ht⟩,hd',?_⟩
  show ∃p,Bp (Hb c) ((s:Int)).toNat ((t:Int)).toNat=some p
  rw[aA,aA]
  exact hp _ hpm
 rw[hl]at mk
 intro a ha
 unfold J8 at ha
 rw[aP,aP,aP,aP]at ha
 have tl:∀(q:Nat×Nat),q∈[(1,4+(2+x)+(2+y)),(4+(2+x)+(2+y),1),(4+(2+x)+(2+y),2),(4+(2+x)+(2+y),5),(5,4+(2+x)+(2+y)),(4+(2+x)+1,4+(2+x))]→q∈Lk x y:=fun q hq=>bg _ hq
 rcases ha with(((ha|ha)|ha)|ha)|ha
 ·unfold NH at ha
  obtain⟨i,hi,rfl⟩:=aJ.mp ha
  rw[az,ex]at hi
  have hi':i<2+x:=by omega
  have hm:=fC (i+1) (show 0<2+x by omega)
  refine mk (4+i) (4+(i+1) % (2+x)) 0 (-1) _ (bN _ (bN _ (aJ.mpr ⟨i,az.mpr hi',rfl⟩))) (by omega) (by omega) (by omega) (by omega) (hd _) _ _ (by omega) ?_
  rw[ex,show((0:Int)+(i:Int)+1)=((i+1:Nat):Int) by omega,show(2:Int)+(x:Int)=((2+x:Nat):Int) by omega,← Int.natCast_emod]
  omega
 ·unfold NG at ha
  obtain⟨i,hi,rfl⟩:=aJ.mp ha
  rw[az,ey]at hi
  have hi':i<2+y:=by omega
  have hm:=fC (i+1) (show 0<2+y by omega)
  refine mk (4+(2+x)+i) (4+(2+x)+(i+1) % (2+y)) _ (-1) _ (bN _ (bg _ (aJ.mpr ⟨i,az.mpr hi',rfl⟩))) (by omega) (by omega) ?_ (by omega) (hd _) _ _ (by omega) ?_
  ·unfold p3
   split
   ·decide
   ·split<;>decide
  ·rw[ex,ey,show((0:Int)+(i:Int)+1)=((i+1:Nat):Int) by omega,show(2:Int)+(y:Int)=((2+y:Nat):Int) by omega,← Int.natCast_emod]
   omega
 ·cases au.mp ha
  refine mk 1 (4+(2+x)+(2+y)) 1 _ _ (tl _ (.head _)) (by omega) (by omega) (by omega) ?_ (hd _) _ _ rfl (by omega)
  unfold p3
  split
  ·omega
  ·split<;>omega
 ·cases au.mp ha
  unfold Se p3
  by_cases z1:c / 144 % 3=0
  ·rw[if_pos z1]
   exact mk (4+(2+x)+(2+y)) 1 2 (-1) _ (tl _ (.tail _ (.head _))) (by omega) (by omega) (by omega) (by omega) (hd _) _ _ (by omega) rfl
  ·rw[if_neg z1]
   by_cases z2:c / 144 % 3=1
   ·rw[if_pos z2]
    exact mk (4+(2+x)+(2+y)) 2 2 (-1) _ (tl _ (.tail _ (.tail _ (.head _)))) (by omega) (by omega) (by omega) (by omega) (hd _) _ _ (by omega) rfl
   ·rw[if_neg z2]
    exact mk (4+(2+x)+(2+y)) 5 2 (-1) _ (tl _ (.tail _ (.tail _ (.tail _ (.head _))))) (by omega) (by omega) (by omega) (by omega) (hd _) _ _ (by omega) rfl
 ·split at ha
  ·rw[aP]at ha
   rcases ha with ha|ha
   ·cases au.mp ha
    exact mk 5 (4+(2+x)+(2+y)) 3 (-1) _ (tl _ (.tail _ (.tail _ (.tail _ (.tail _ (.head _)))))) (by omega) (by omega) (by omega) (by omega) (by decide) _ _ rfl (by omega)
   ·cases au.mp ha
    exact mk (4+(2+x)+1) (4+(2+x)) 3 (-1) _ (tl _ (.tail _ (.tail _ (.tail _ (.tail _ (.tail _ (.head _))))))) (by omega) (by omega) (by omega) (by omega) (by decide) _ _ (by omega) (by omega)
  ·cases ha
theorem OH(ns:List Int)(st i:Nat):0≤(frDs ns st).getD i 0∧(frDs ns st).getD i 0≤99:=by
 unfold frDs
 rw[ag,av]
 cases h:(ak 10)[i]? with
 | none=>exact⟨Int.le_refl 0,by show(0:Int)≤99;decide⟩
 | some j=>
  show 0≤frD ns st j∧frD ns st j≤99
  unfold frD
  omega
theorem Nh{X:Cx}{t:TE}{e:Expr}{h0:ExceptHandler}{hs:List ExceptHandler}{p1 pos:Pos}(he:PE X.nox e t):PS X (.Try [.Return (some e) p1] (h0::hs) [] [] pos) (fun D σ H=>t σ H fun v H1=>D.rt v H1):=by
 intro pins s σ H D I h
 refine wpAny_Try_except (gg (wpAny_Return_some (fT (he pins s σ H _ (I.wish _) h) (fun v s1 ⟨y,H1,I1,r1,q1⟩=>?_) fun _ _ z=>False.elim z)))
 exact⟨y,σ,H1,I1.unwish,r1,q1⟩
def N0(C:fG):Sp:=fun vs H Q _=>∃(c ah st kt mt:fG) (R:List Ai) (A:List Ap) (chs:List Int) (ev:Int),vs=[.ref c,.ref ah,.ref st,.int ev]∧A7 C H c R A∧AX R∧(∀a∈A,AW R a) ∧
 H st=some (.tup [.ref kt,.ref mt])∧H kt=some (.tup ((kI R chs).map V.int))∧H mt=some (.tup ((Ct R chs).map V.int))∧Eo R chs∧Br (EO R A) (tkL R A chs ev)=ae ∧
 ∀(t s' kt' mt' dd:fG) (H':Hp),An H H'→H' t=some (.tup [.ref s',.ref dd])→H' s'=some (.tup [.ref kt',.ref mt'])→H' kt'=some (.tup ((kI R (Bb R A chs (tkL R A chs ev))).map V.int)) →
  H' mt'=some (.tup ((Ct R (Bb R A chs (tkL R A chs ev))).map V.int))→H' dd=some (.tup ((BO A (tkL R A chs ev)).map V.int))→Q (.ref t) H'
theorem RD:AA ["chart", "ahead", "state", "event", "refusal"] ["chart", "ahead", "state", "event"] (Am Hi):=⟨rfl,rfl,rfl,by decide +kernel,rfl,by decide +kernel,by decide +kernel⟩
theorem Qo{f C fs:fG}{fd fds:fO}(D:Al K mg "step_behind" Hi ["chart", "ahead", "state", "event"] f fd)
  (Ds:Al K mg "stepped" DH ["chart", "state", "event"] fs fds) (Gs:AC P w K mg base A6 21 fs fds ["chart", "state", "event"] (Kj C)) :
  AC P w K mg base A6 22 f fd ["chart", "ahead", "state", "event"] (N0 C):=by
 refine D.fn.ok RD (fun vs H Q E h=>?_) (fun cdv A outer s H vs Q E hr h=>?_)
 ·obtain⟨c,ah,st,kt,mt,R,As,chs,ev,rfl,_⟩:=h
  rfl
 obtain⟨c,ah,st,kt,mt,R,As,chs,ev,rfl,hC,hG,hA,hst,hkt,hmt,hch,hpn,qQ⟩:=h
 refine⟨_,Ak (Nh (Aq Gs hr rfl Ds.mg Ds.fn.kp Ds.bd .nil AE (Aa (pv 0) (Aa (pv 2) (Aa (pv 3) Ab))))),?_⟩
 exact⟨_,rfl,_,rfl,_,rfl,c,st,kt,mt,R,As,chs,ev,rfl,hC,hG,hA,hst,hkt,hmt,hch,hpn,qQ⟩
structure RC(R:List Ai)(chs:List Int):Prop where
 ok:Eo R chs
 non:∀p,p<R.length→choosing R p=false→chs.getD p (-1)=-1
 one:∀p,p<R.length→Ax R p = "one"→Rm.kb (CN R chs) (Ae R) p=false→chs.getD p (-1)=(Bt R).getD p (-1)
theorem Q6{R:List Ai}(hG:AX R):RC R (Bt R):=⟨JB hG,fun p hp hc=>by rw[DM hp,if_neg (by rw[hc];decide)],fun _ _ _ _=>rfl⟩
section
variable{R:List Ai}{a:Ap}{chs:List Int}
theorem QY(hG:AX R)(hA:AW R a)(hc:chs.length=R.length){p:Nat}(hp:p<R.length)(hn:choosing R p=false):(BG R chs a).getD p (-1)=chs.getD p (-1):=by
 have none:¬Ax R p = "one":=fun z=>by rw[BP hp,decide_eq_true (Or.inl z)]at hn;cases hn
 unfold BG
 rw[(EC (n:=R.length) (v:=0) (yes:=fun _=>False) (GE R) _ _ (by rw[CG (DU R _)];exact hc) (fun x hx hy l hl=>hy.elim) (fun x hx hy l=>?_)).2 fun x hx hy=>hy]
 ·exact(EC (f:=LQ R (A8 R a)) (n:=R.length) (p:=p) (v:=0) (yes:=fun _=>False) (DU R _) (ak R.length) chs hc (fun x hx hy l hl=>hy.elim) (fun x hx hy l=>by
    unfold LQ
    split
    ·rename_i hz
     rw[be]at hz
     have nx:¬p=x:=fun e=>none (by rw[e];exact of_decide_eq_true hz.1)
     by_cases hlen:x<l.length
     ·rw[Cv hlen,if_neg nx]
     ·rw[bJ (by omega)]
    ·rfl)).2 fun x hx hy=>hy
 ·obtain⟨c1,c2,c3,c4,c5⟩:=Cu hG hA hx
  unfold PV
  split
  ·rfl
  ·rename_i hz
   have nx:¬p=(Rm.hold (Ae R) x).toNat:=fun e=>by
    rw[← e]at hz
    have hk:x∈Rm.kidsN (Ae R) p:=Rm.mem_kidsN.mpr ⟨by rw[Ay];exact c5,by omega⟩
    rcases E8 hG hk with⟨h1,_⟩|⟨_,h2⟩
    ·exact hz h1
    ·rw[hn]at h2;cases h2
   by_cases hlen:(Rm.hold (Ae R) x).toNat<l.length
   ·rw[Cv hlen,if_neg nx]
   ·rw[bJ (by omega)]
theorem P0(hG:AX R)(hA:AW R a)(hc:Eo R chs)(hk:Rm.kb (CN R chs) (Ae R) (A8 R a)=true):∀k,k∈Rm.chain (Ae R) (BI a)→A8 R a≤k→Rm.kb (CN R (BG R chs a)) (Ae R) k=true:=by
 intro k
 induction k using bz with
 | ind k ih=>
  intro h1 h2
  by_cases z:k=A8 R a
  ·rw[z,E7 hG hA hc.len _ (EV hA) (.inr rfl)];exact hk
  ·obtain⟨_,_,c3,c4,c5⟩:=Cu hG hA ((Ij (Dz hA)).mpr ⟨h1,by omega⟩)
   have hl:k<(Ae R).length:=by rw[Ay];exact c5
   have hw:FH R a (Rm.hold (Ae R) k).toNat k:=⟨h1,by omega,by omega⟩
   obtain⟨w1,w2,w3,w4⟩:=Hc hG hA hw
   have hpc:(Rm.hold (Ae R) k).toNat∈Rm.chain (Ae R) (BI a):=Rm.chain_trans _ (by rw[Rm.chain_up ⟨c3,c4⟩];exact aq _ (Rm.chain_self _ _)) h1
   rw[Rm.kb_up hG.tree (by omega) hl,ih _ (by omega) hpc (Rm.chain_le _ (of_decide_eq_true w3)),bQ]
   unfold CN
   by_cases ha:Ax R (Rm.hold (Ae R) k).toNat = "all"
   ·rw[decide_eq_true ha,cr]
   ·rw[G2 hG hA hc.len hw w1 ha,decide_eq_true (rfl:((k:Nat):Int)=(k:Int)),dJ]
theorem R9(hG:AX R)(hA:AW R a)(h:RC R chs)(hk:Rm.kb (CN R chs) (Ae R) (A8 R a)=true):RC R (BG R chs a):=by
 refine⟨LC hG hA h.ok,fun p hp hn=>by rw[QY hG hA h.ok.len hp hn];exact h.non p hp hn,fun p hp ho hb=>?_⟩
 by_cases hw:∃k,FH R a p k
 ·obtain⟨k,hw⟩:=hw
  obtain⟨w1,w2,w3,w4⟩:=Hc hG hA hw
  have hpc:p∈Rm.chain (Ae R) (BI a):=Rm.chain_trans _ (by rw[Rm.chain_kid hG.tree w2];exact aq _ (Rm.chain_self _ _)) hw.1
  rw[P0 hG hA h.ok hk p hpc (Rm.chain_le _ (of_decide_eq_true w3))]at hb
  cases hb
 ·rw[Em hG hA h.ok.len (fun k z=>hw ⟨k,z⟩) hp]
  split
  ·rfl
  ·rename_i hz
   rw[decide_eq_true ho,bQ,Rm.li_eq]at hz
   refine h.one p hp ho ?_
   rw[← E7 hG hA h.ok.len p hp ?_]
   ·exact hb
   ·by_cases e:p=A8 R a
    ·exact .inr e
    ·left
     cases y:Rm.wi (Ae R) p (A8 R a) with
     | false=>rfl
     | true=>rw[y,decide_eq_false e]at hz;exact absurd rfl hz
end
theorem KR{R:List Ai}(hG:AX R){A:List Ap}(hA:∀x∈A,AW R x){chs0:List Int}:∀(l:List Nat) (chs:List Int),M3 R A chs0 chs l→(∀i∈l,i<A.length)→OX R A l→RC R chs→RC R (Bb R A chs l)
 | [],_,_,_,_,h=>h
 | k::l,chs,hah,hl,ap,h=>by
  have gk:AW R (JQ A k):=by rw[CJ (hl k aw)];exact hA _ (aI _)
  exact KR hG hA l _ (hah.next hG hA hl ap) (fun i hi=>hl i (aq _ hi)) (bp.of_cons ap) (R9 hG gk h (hah.kept k aw))
theorem NX{R:List Ai}(hG:AX R){A:List Ap}(hA:∀x∈A,AW R x){chs:List Int}{ev:Int}(h:RC R chs)(hp:Br (EO R A) (tkL R A chs ev)=ae):RC R (Bb R A chs (tkL R A chs ev)):=
 KR (chs0:=chs) hG hA _ _ ⟨h.ok,fun _ _ _ _ _=>rfl,Ke hG hA⟩ (fun i hi=>Fh i hi) (JR (fun i hi=>Fh i hi) hp) h
theorem J6{c c':List Int}(hl:c.length=c'.length)(h:∀p,p<c.length→c.getD p (-1)=c'.getD p (-1)):c=c':=by
 refine List.ext_getElem hl fun i h1 h2=>?_
 have:=h i h1
 rw[ag,ag,aa h1,aa h2]at this
 exact this
theorem O4{R:List Ai}(hG:AX R){c c':List Int}(h:RC R c)(h':RC R c')(hk:kI R c=kI R c')(hm:Ct R c=Ct R c'):c=c':=by
 have ek:Ci R c=Ci R c':=by
  unfold kI at hk
  exact(List.map_inj_right fun x y e=>by omega).mp hk
 have kb:∀p,p<R.length→Rm.kb (CN R c) (Ae R) p=Rm.kb (CN R c') (Ae R) p:=fun p hp=>by
  have i1:=Ch (R:=R) (chs:=c) (k:=p)
  have i2:=Ch (R:=R) (chs:=c') (k:=p)
  rw[ek]at i1
  have i3:=i1.symm.trans i2
  cases x:Rm.kb (CN R c) (Ae R) p with
  | true=>exact((i3.mp ⟨hp,x⟩).2).symm
  | false=>
   cases y:Rm.kb (CN R c') (Ae R) p with
   | false=>rfl
   | true=>rw[(i3.mpr ⟨hp,y⟩).2]at x;cases x
 refine J6 (h.ok.len.trans h'.ok.len.symm) fun p hp=>?_
 rw[h.ok.len]at hp
 cases hc:choosing R p with
 | false=>rw[h.non p hp hc,h'.non p hp hc]
 | true=>
  by_cases hkp:Ax R p = "keep"
  ·have e:(Ct R c).getD p (-1)=(Ct R c').getD p (-1):=by rw[hm]
   rw[El hp,El hp,if_pos hkp,if_pos hkp]at e
   exact e
  ·have ho:Ax R p = "one":=by
    rw[BP hp]at hc
    exact(of_decide_eq_true hc).resolve_right hkp
   cases hb:Rm.kb (CN R c) (Ae R) p with
   | false=>rw[h.one p hp ho hb,h'.one p hp ho (by rw[← kb p hp];exact hb)]
   | true=>
    obtain⟨k,k1,k2⟩:=h.ok.pick p hp hc
    obtain⟨m1,m2⟩:=Rm.mem_kidsN.mp k1
    have hgt:=Rm.kid_gt hG.tree k1
    rw[Ay]at m1
    have e2:(Rm.hold (Ae R) k).toNat=p:=by omega
    have hkk:Rm.kb (CN R c) (Ae R) k=true:=by
     rw[Rm.kb_up hG.tree (by omega) (by rw[Ay];exact m1),e2,hb,bQ]
     unfold CN
     rw[k2,decide_eq_true (rfl:((k:Nat):Int)=(k:Int)),dJ]
    rw[kb k m1]at hkk
    obtain⟨_,j2⟩:=G1 hG (by omega) m1 hkk
    rw[e2]at j2
    unfold CN at j2
    rw[decide_eq_false (show ¬Ax R p = "all" by rw[ho];decide +kernel),bP,decide_eq_true_eq]at j2
    rw[k2,j2]
theorem DK{α:Type}[DecidableEq α]:∀(l m:List α),l.Nodup→(∀x∈l,x∈m)→l.length≤m.length
 | [],m,_,_=>bw _
 | x::l,m,hn,hs=>by
  have hx:=hs x aw
  obtain⟨n1,n2⟩:=bm.mp hn
  have:=DK l (m.erase x) n2 fun y hy=>(List.mem_erase_of_ne (fun e=>n1 (by rw[← e];exact hy))).mpr (hs y (aq _ hy))
  rw[List.length_erase_of_mem hx]at this
  have hp:=cT hx
  rw[bf]
  omega
def prodL(f:Nat→List Int):Nat→List (List Int)
 | 0=>[[]]
 | n+1=>(prodL f n).flatMap fun l=>(f n).map fun x=>l++[x]
def prodN(f:Nat→List Int):Nat→Nat
 | 0=>1
 | n+1=>prodN f n*(f n).length
theorem Kw(f:Nat→List Int):∀n,(prodL f n).length=prodN f n
 | 0=>rfl
 | n+1=>by
  unfold prodL prodN
  rw[List.length_flatMap,← Kw f n]
  generalize prodL f n=L
  induction L with
  | nil=>simp
  | cons a L ih=>rw[aY,List.sum_cons,ih,ac,bf,Nat.succ_mul];omega
theorem Hr(f:Nat→List Int):∀(n:Nat) (c:List Int),c.length=n→(∀p,p<n→c.getD p (-1)∈f p)→c∈prodL f n
 | 0,c,hl,_=>by
  rw[cK.mp hl]
  exact au.mpr rfl
 | n+1,c,hl,h=>by
  unfold prodL
  have ec:c=c.take n++[c.getD n (-1)]:=by
   have hn:n<c.length:=by omega
   rw[ag,aa hn]
   have:=dS n c
   rw[bF hn,dI (by omega)]at this
   exact this.symm
  refine bW.mpr ⟨c.take n,Hr f n _ (by rw[bc];omega) fun p hp=>?_,aJ.mpr ⟨_,h n (bU n),ec.symm⟩⟩
  have:=h p (by omega)
  rw[ag,d7 hp,← ag]
  exact this
def FE(R:List Ai)(p:Nat):List Int:=if choosing R p=true then(Rm.kidsN (Ae R) p).map fun(k:Nat)=>(k:Int) else [-1]
def E5(R:List Ai):Nat:=prodN (FE R) R.length
theorem few_of{R:List Ai}{n:Nat}(h:E5 R≤n){cs:List (List Int)}(hn:cs.Nodup)(hc:∀c∈cs,RC R c):cs.length≤n:=by
 refine aU (DK cs (prodL (FE R) R.length) hn fun c hm=>?_) (by rw[Kw];exact h)
 have hr:=hc c hm
 refine Hr _ _ _ hr.ok.len fun p hp=>?_
 unfold FE
 cases z:choosing R p with
 | true=>
  rw[if_pos rfl]
  obtain⟨k,k1,k2⟩:=hr.ok.pick p hp z
  exact aJ.mpr ⟨k,k1,k2.symm⟩
 | false=>
  rw[if_neg (by decide)]
  exact au.mpr (hr.non p hp z)
def FA(f:Nat→Nat):Nat→Nat
 | 0=>0
 | n+1=>FA f n+f n
theorem L1(f g:Nat→Nat):∀n,FA (fun p=>f p+g p) n=FA f n+FA g n
 | 0=>rfl
 | n+1=>by
  show FA (fun p=>f p+g p) n+(f n+g n)=FA f n+f n+(FA g n+g n)
  rw[L1 f g n];omega
theorem Fi{f:Nat→Nat}:∀n,(∀p,p<n→f p=0)→FA f n=0
 | 0,_=>rfl
 | n+1,h=>by
  show FA f n+f n=0
  rw[Fi n fun p hp=>h p (by omega),h n (bU n)]
theorem L0(x:Int):∀n,FA (fun p=>if x=(p:Int) then 1 else 0) n≤1
 | 0=>bw _
 | n+1=>by
  show FA (fun p=>if x=(p:Int) then 1 else 0) n+(if x=(n:Int) then 1 else 0)≤1
  by_cases z:x=(n:Int)
  ·rw[if_pos z,Fi n fun p hp=>if_neg (by omega)];decide
  ·rw[if_neg z];exact L0 x n
theorem LZ{hs:List Int}(h0:Rm.hold hs 0=-1)(n:Nat):∀m,FA (fun p=>((ak m).filter fun j=>decide (Rm.hold hs j=(p:Int))).length) n≤m - 1
 | 0=>cA (Fi n fun p _=>rfl)
 | m+1=>by
  have e:(fun p=>((ak (m+1)).filter fun j=>decide (Rm.hold hs j=((p:Nat):Int))).length)=fun(p:Nat)=>((ak m).filter fun j=>decide (Rm.hold hs j=(p:Int))).length+(if Rm.hold hs m=(p:Int) then 1 else 0):=by
   funext p
   rw[Rm.range_filter_succ,ai]
   by_cases z:Rm.hold hs m=(p:Int)
   ·rw[if_pos z,if_pos (decide_eq_true z)];rfl
   ·rw[if_neg z,if_neg (by rw[decide_eq_false z];decide)];rfl
  rw[e,L1]
  have ih:=LZ h0 n m
  by_cases z:m=0
  ·subst z
   rw[Fi n fun p _=>if_neg (by rw[h0];omega)]
   omega
  ·have:=L0 (Rm.hold hs m) n
   omega
theorem Sq:∀k:Nat,k<17→k*k*k≤3 ^ k:=by decide
theorem Kv{f:Nat→List Int}{g:Nat→Nat}:∀n,(∀p,p<n→(f p).length*(f p).length*(f p).length≤3 ^ g p)→prodN f n*prodN f n*prodN f n≤3 ^ FA g n
 | 0,_=>aE 1
 | n+1,h=>by
  have ih:=Kv n fun p hp=>h p (by omega)
  have h1:=h n (bU n)
  show prodN f n*(f n).length*(prodN f n*(f n).length)*(prodN f n*(f n).length)≤3 ^ (FA g n+g n)
  rw[Nat.pow_add]
  refine aU (cA ?_) (cU ih h1)
  generalize prodN f n=a
  generalize (f n).length=b
  simp only[Nat.mul_assoc,Nat.mul_left_comm,Nat.mul_comm]
theorem Pp{R:List Ai}(hG:AX R)(h9:R.length≤9):E5 R≤29:=by
 have hc:=Kv (f:=FE R) (g:=fun p=>(Rm.kidsN (Ae R) p).length) R.length fun p hp=>by
  unfold FE
  split
  ·rw[ac]
   refine Sq _ ?_
   have:=aL (fun j=>decide (Rm.hold (Ae R) j=(p:Int))) (ak (Ae R).length)
   rw[aF,Ay]at this
   have:(Rm.kidsN (Ae R) p).length≤R.length:=by unfold Rm.kidsN;rw[Ay];exact this
   omega
  ·exact Nat.pos_of_ne_zero (fun z=>by have:=Nat.pow_eq_zero.mp z;omega)
 have hs:=LZ hG.tree.root R.length (Ae R).length
 rw[Ay]at hs
 have hs':FA (fun p=>(Rm.kidsN (Ae R) p).length) R.length≤8:=by
  refine aU ?_ (show R.length - 1≤8 by omega)
  refine aU (cA ?_) hs
  congr 1
  funext p
  unfold Rm.kidsN
  rw[Ay]
 have h3:3 ^ FA (fun p=>(Rm.kidsN (Ae R) p).length) R.length≤3 ^ 8:=Nat.pow_le_pow_right (by decide) hs'
 show prodN (FE R) R.length≤29
 generalize prodN (FE R) R.length=a at hc
 refine dA fun z=>?_
 have:30*30*30≤a*a*a:=cU (cU z z) z
 have:30*30*30≤3 ^ 8:=aU this (aU hc h3)
 revert this;decide
def K8(n:Nat)(ds:List fN):Prop:=fN.canLayAll0 ds=true∧fN.depthAll ds≤n∧fN.eqvAll ds ds=true
def IJ(n:Nat)(d:fN):Prop:=fN.canLay0 d=true∧fN.depth d≤n∧fN.eqv d d=true
theorem FL{β:Type}{g:β→fN}{n:Nat}:∀bs:List β,(∀b∈bs,IJ n (g b))→K8 n (bs.map g)
 | [],_=>⟨rfl,by simp[fN.depthAll],rfl⟩
 | b::bs,h=>by
  obtain⟨i1,i2,i3⟩:=FL bs fun x hx=>h x (aq _ hx)
  obtain⟨j1,j2,j3⟩:=h b aw
  refine⟨?_,?_,?_⟩
  ·simp only[aY,fN.canLayAll0,i1,j1,bO]
  ·simp only[aY,fN.depthAll];omega
  ·simp only[aY,fN.eqvAll,i3,j3,bO]
theorem M9{n:Nat}{ds:List fN}(h:K8 n ds):IJ (n+1) (.list ds):=by
 obtain⟨a,b,c⟩:=h
 exact⟨by simpa only[fN.canLay0] using a,by simp only[fN.depth];omega,by simpa only[fN.eqv] using c⟩
theorem B2{n:Nat}{ds:List fN}(h:K8 n ds):IJ (n+1) (.tuple ds):=by
 obtain⟨a,b,c⟩:=h
 exact⟨by simpa only[fN.canLay0] using a,by simp only[fN.depth];omega,by simpa only[fN.eqv] using c⟩
theorem Ko(i:Int):IJ 0 (.int i):=⟨rfl,by simp[fN.depth],by simp only[fN.eqv,beq_self_eq_true]⟩
theorem CQ(xs:List Int):K8 0 (xs.map fN.int):=FL xs fun i _=>Ko i
theorem BZ{n:Nat}{d:fN}(h:IJ n d)(hn:n≤8):SeqAt.shaped d=true:=by
 obtain⟨a,b,_⟩:=h
 unfold SeqAt.shaped
 rw[be]
 exact⟨a,decide_eq_true (by omega)⟩
def Z{α β:Type}(R:α→β→Prop)(xs:List α)(ys:List β):Prop:=xs.length=ys.length∧∀(i:Nat) x y,xs[i]?=some x→ys[i]?=some y→R x y
theorem Z.nil{α β:Type}{R:α→β→Prop}:Z R [] []:=⟨rfl,fun i x y h=>by simp at h⟩
theorem Z.mono{α β:Type}{R S:α→β→Prop}{xs:List α}{ys:List β}(h:Z R xs ys)(m:∀x y,R x y→S x y):Z S xs ys:=⟨h.1,fun i x y a b=>m _ _ (h.2 i x y a b)⟩
theorem Z.monoM{α β:Type}{R S:α→β→Prop}{xs:List α}{ys:List β}(h:Z R xs ys)(m:∀x y,x∈xs→R x y→S x y):Z S xs ys:=⟨h.1,fun i x y a b=>m _ _ (ay a) (h.2 i x y a b)⟩
theorem Z.at{α β:Type}{R:α→β→Prop}{xs:List α}{ys:List β}(h:Z R xs ys){i:Nat}{y:β}(e:ys[i]?=some y):∃x,xs[i]?=some x∧R x y:=by
 obtain⟨hi,_⟩:=af.mp e
 have hi':i<xs.length:=by rw[h.1];exact hi
 exact⟨xs[i],aa hi',h.2 i _ y (aa hi') e⟩
theorem Z.at1{α β:Type}{R:α→β→Prop}{xs:List α}{ys:List β}(h:Z R xs ys){i:Nat}{x:α}(e:xs[i]?=some x):∃y,ys[i]?=some y∧R x y:=by
 obtain⟨hi,_⟩:=af.mp e
 have hi':i<ys.length:=by rw[← h.1];exact hi
 exact⟨ys[i],aa hi',h.2 i x _ e (aa hi')⟩
theorem Z.snoc{α β:Type}{R:α→β→Prop}{xs:List α}{ys:List β}{x:α}{y:β}(h:Z R xs ys)(r:R x y):Z R (xs++[x]) (ys++[y]):=by
 refine⟨by simp[h.1],fun i p q a b=>?_⟩
 by_cases hi:i<xs.length
 ·rw[aO hi]at a
  rw[aO (by rw[← h.1];exact hi)]at b
  exact h.2 i p q a b
 ·have hl:=h.1
  rw[aT (by omega)]at a
  rw[aT (by omega)]at b
  have e1:i - xs.length=0:=by
   cases z:i - xs.length with
   | zero=>rfl
   | succ n=>rw[z]at a;simp at a
  have e2:i - ys.length=0:=by omega
  rw[e1]at a
  rw[e2]at b
  simp at a b
  subst a b
  exact r
theorem Z.cons{α β:Type}{R:α→β→Prop}{xs:List α}{ys:List β}{x:α}{y:β}(h:Z R xs ys)(r:R x y):Z R (x::xs) (y::ys):=by
 refine⟨by simp[h.1],fun i p q a b=>?_⟩
 cases i with
 | zero=>simp at a b;subst a b;exact r
 | succ i=>exact h.2 i p q (by simpa using a) (by simpa using b)
theorem Z.uncons{α β:Type}{R:α→β→Prop}{xs:List α}{ys:List β}{x:α}{y:β}(h:Z R (x::xs) (y::ys)):R x y∧Z R xs ys:=
 ⟨h.2 0 x y rfl rfl,by have:=h.1;simpa using this,fun i p q a b=>h.2 (i+1) p q (by simpa using a) (by simpa using b)⟩
abbrev D0:=Int×List Int
abbrev Bf:=List (List D0)
def Bv(H:Hp)(v:V)(ds:List Int):Prop:=∃d,v=.ref d∧H d=some (.tup (ds.map V.int))
def BH(H:Hp)(v:V)(e:D0):Prop:=∃t u,v=.ref t∧H t=some (.tup [.int e.1,u])∧Bv H u e.2
def FG(H:Hp)(p:fG)(r:List D0):Prop:=∃vs,H p=some (.lst vs)∧Z (BH H) vs r
def B7(H:Hp)(ps:List fG)(M:Bf):Prop:=Z (FG H) ps M
def En(l:fG)(H H':Hp):Prop:=∀x o,H x=some o→x≠l→H' x=some o
theorem Bv.keep{H H':Hp}{l:fG}{v:V}{ds:List Int}(k:En l H H')(hl:∀ys,H l≠some (.tup ys))(h:Bv H v ds):Bv H' v ds:=by
 obtain⟨d,e,h⟩:=h
 exact⟨d,e,k _ _ h fun z=>hl _ (by rw[← z];exact h)⟩
theorem BH.keep{H H':Hp}{l:fG}{v:V}{e:D0}(k:En l H H')(hl:∀ys,H l≠some (.tup ys))(h:BH H v e):BH H' v e:=by
 obtain⟨t,u,e1,h1,h2⟩:=h
 exact⟨t,u,e1,k _ _ h1 (fun z=>hl _ (by rw[← z];exact h1)),h2.keep k hl⟩
theorem FG.keep{H H':Hp}{l p:fG}{r:List D0}(k:En l H H')(hl:∀ys,H l≠some (.tup ys))(n:p≠l)(h:FG H p r):FG H' p r:=by
 obtain⟨vs,h1,h2⟩:=h
 exact⟨vs,k _ _ h1 n,h2.mono fun _ _ z=>z.keep k hl⟩
theorem B7.keep{H H':Hp}{l:fG}{ps:List fG}{M:Bf}(k:En l H H')(hl:∀ys,H l≠some (.tup ys))(n:∀p∈ps,p≠l)(h:B7 H ps M):B7 H' ps M:=
 h.monoM fun p _ hp z=>z.keep k hl (n p hp)
theorem Bv.same{H H':Hp}{v:V}{ds:List Int}(s:An H H')(h:Bv H v ds):Bv H' v ds:=by
 obtain⟨d,e,h⟩:=h
 exact⟨d,e,s _ _ h⟩
theorem BH.same{H H':Hp}{v:V}{e:D0}(s:An H H')(h:BH H v e):BH H' v e:=by
 obtain⟨t,u,e1,h1,h2⟩:=h
 exact⟨t,u,e1,s _ _ h1,h2.same s⟩
theorem FG.same{H H':Hp}{p:fG}{r:List D0}(s:An H H')(h:FG H p r):FG H' p r:=by
 obtain⟨vs,h1,h2⟩:=h
 exact⟨vs,s _ _ h1,h2.mono fun _ _ z=>z.same s⟩
theorem B7.same{H H':Hp}{ps:List fG}{M:Bf}(s:An H H')(h:B7 H ps M):B7 H' ps M:=h.mono fun _ _ z=>z.same s
theorem Cc{H:Hp}{l:fG}{xs:List V}(h:H l=some (.lst xs)):∀ys,H l≠some (.tup ys):=fun ys z=>by rw[h]at z;cases z
theorem kf1:¬(("states" : Str) = "rows"):=by decide +kernel
theorem kf2:¬(("states" : Str) = "ways"):=by decide +kernel
theorem kf3:¬(("rows" : Str) = "ways"):=by decide +kernel
def G5(s r y:fG):List (Str×V):=Bu "ways" (.ref y) (Bu "rows" (.ref r) (Bu "states" (.ref s) []))
theorem LF(s r y:fG):(G5 s r y).lookup ("states" : Str)=some (.ref s):=by
 unfold G5
 rw[Bs,if_neg kf2,Bs,if_neg kf1,Bs,if_pos rfl]
theorem B6(s r y:fG):(G5 s r y).lookup ("rows" : Str)=some (.ref r):=by
 unfold G5
 rw[Bs,if_neg kf3,Bs,if_pos rfl]
theorem NJ(s r y:fG):(G5 s r y).lookup ("ways" : Str)=some (.ref y):=by
 unfold G5
 rw[Bs,if_pos rfl]
structure CL(C:fG)(H:Hp)(c s r y:fG)(ps:List fG)(S:List V)(M:Bf)(W:List V):Prop where
 ob:∃dx,H c=some (.ins C dx (G5 s r y))
 hs:H s=some (.lst S)
 hr:H r=some (.lst (ps.map V.ref))
 hm:B7 H ps M
 hw:H y=some (.lst W)
theorem CL.same{C:fG}{H H':Hp}{c s r y:fG}{ps:List fG}{S W:List V}{M:Bf}(e:An H H')(h:CL C H c s r y ps S M W):CL C H' c s r y ps S M W:=by
 obtain⟨⟨dx,h1⟩,h2,h3,h4,h5⟩:=h
 exact⟨⟨dx,e _ _ h1⟩,e _ _ h2,e _ _ h3,h4.same e,e _ _ h5⟩
structure BV(M:Bf):Prop where
 pos:0<M.length
 most:M.length≤30
 four:∀r∈M,r.length=4
 to:∀r∈M,∀e∈r,0≤e.1∧e.1<M.length
 few:∀r∈M,∀e∈r,e.2.length≤100
structure KW(K:aj)(mg:Str→Option fF)(C:fG):Prop where
 cl:Rw K C
 nS:CK K C "states"
 nR:CK K C "rows"
 nW:CK K C "ways"
 mgC:mg "Flat" = some (.ref C)
 list:mg "list" = none
def Ha(H:Hp)(ps:List fG)(vss:List (List V)):Prop:=Z (fun p vs=>H p=some (.lst vs)) ps vss
def K6(C:fG):Sp:=fun vs H Q _=>∃(c dx s r y:fG) (qs:List fG) (ss:List V) (vss:List (List V)) (ws:List V),vs=[.ref c,.ref s,.ref r,.ref y]∧H c=some (.ins C dx [])∧H s=some (.lst ss)∧H r=some (.lst (qs.map V.ref))∧Ha H qs vss∧H y=some (.lst ws)∧qs.length≤100 ∧
 ∀(s' r' y':fG) (ps:List fG) (H':Hp),En c H H'→H' c=some (.ins C dx (G5 s' r' y'))→H s'=ae→H' s'=some (.lst ss)→H r'=ae→H' r'=some (.lst (ps.map V.ref))→Ha H' ps vss→(∀p∈ps,H p=ae∧p≠r')→H y'=ae→H' y'=some (.lst ws)→Q .non H'
theorem RF:AA ["self", "states", "rows", "ways"] ["self", "states", "rows", "ways"] (Am IU):=⟨rfl,rfl,rfl,by decide +kernel,rfl,by decide +kernel,by decide +kernel⟩
theorem Qv{f C:fG}{fd:fO}(F:Fun K "__init__" "Flat.__init__" IU f fd)(T:KW K mg C):AC P w K mg base A6 1 f fd ["self", "states", "rows", "ways"] (K6 C):=by
 refine F.ok RF (fun vs H Q E h=>?_) (fun cdv A outer s H vs Q E hr h=>?_)
 ·obtain⟨c,dx,s,r,y,qs,ss,vss,ws,rfl,_⟩:=h
  rfl
 obtain⟨c,dx,sa,ra,ya,qs,ss,vss,ws,rfl,hc,hs,hra,hqs,hy,hl,q⟩:=h
 refine⟨_,Ac (Jb (pv 0) (Bc Bq (by rfl) T.list (by decide +kernel) (Aa (pv 1) Ab)) rfl)
  (Ac (Jb (pv 0) (BW ["row"] [ae] rfl (Bi (pv 2)) (fun _=>Az (i:=0) (show(["row"]:List Str).Nodup by decide +kernel) rfl (Or.inl rfl)) (fun _=>BJ)
   (fun _=>Bc Bq (by rfl) T.list (by decide +kernel) (Aa (pv 0) Ab))
   (N:=["self", "states", "rows", "ways"]) (ks:=(Am IU).names) rfl rfl (by decide +kernel) (by decide +kernel) (by decide +kernel) (by decide +kernel)) rfl)
  (Ak (Jb (pv 0) (Bc Bq (by rfl) T.list (by decide +kernel) (Aa (pv 3) Ab)) rfl))),?_⟩
 refine⟨_,rfl,sa,_,rfl,.inl (AD.of hs),fun l1 hl1=>?_⟩
 have n1:c≠l1:=Af hc hl1
 refine⟨_,rfl,c,C,dx,_,rfl,(by rw[Aj n1];exact hc),T.cl,T.nS,(by show 0<1000;decide),?_⟩
 have k1:En c H (upd (upd H l1 (.lst ss)) c (.ins C dx (Bu "states" (.ref l1) []))):=fun x o e n=>by rw[Aj n,Aj (Af e hl1)];exact e
 have c1:(upd (upd H l1 (.lst ss)) c (.ins C dx (Bu "states" (.ref l1) []))) c=some (.ins C dx (Bu "states" (.ref l1) [])):=Ad
 have e1:(upd (upd H l1 (.lst ss)) c (.ins C dx (Bu "states" (.ref l1) []))) l1=some (.lst ss):=by rw[Aj n1.symm,Ad]
 have f1:∀x,(upd (upd H l1 (.lst ss)) c (.ins C dx (Bu "states" (.ref l1) []))) x=ae→H x=ae:=fun x e=>by
  cases z:H x with
  | none=>rfl
  | some o=>
   by_cases n:x=c
   ·rw[n,c1]at e;cases e
   ·rw[k1 x o z n]at e;cases e
 generalize upd (upd H l1 (.lst ss)) c (.ins C dx (Bu "states" (.ref l1) []))=H1 at k1 c1 e1 f1 ⊢
 have ntc:∀{p xs},H p=some (.lst xs)→p≠c:=fun e=>CP e hc (by intro z;cases z)
 have r1:H1 ra=some (.lst (qs.map V.ref)):=k1 _ _ hra (ntc hra)
 refine⟨_,rfl,ra,rfl,⟨_,AD.of r1⟩,fun bk D hD=>?_⟩
 refine BC (K:=K) (xs:=qs.map V.ref) (Pv:=fun i ys σ H'=>∃v ps,σ=[v]∧ys=ps.map V.ref∧An H1 H'∧Ha H' ps (vss.take i)∧∀p∈ps,H1 p=ae∧p≠D) ⟨_,[],rfl,rfl,Ag hD _,by rw[dw];exact Z.nil,fun p hp=>by simp at hp⟩ ?_ ?_ ?_
 ·rintro i ys σ H' hi hDi ⟨v,ps,rfl,rfl,s2,_,_⟩
  exact AD.of (s2 _ _ r1)
 ·rintro i x ys σ H' hx hDi ⟨v,ps,rfl,rfl,s2,hL,hps⟩
  obtain⟨qa,hqa,rfl⟩:∃qa,qs[i]?=some qa∧V.ref qa=x:=by
   rw[av]at hx
   cases z:qs[i]? with
   | none=>rw[z]at hx;simp at hx
   | some p=>rw[z]at hx;exact⟨p,rfl,by simpa using hx⟩
  obtain⟨vs,hvs,hq⟩:=hqs.at1 hqa
  refine⟨_,rfl,qa,vs,rfl,.inl (AD.of (s2 _ _ (k1 _ _ hq (ntc hq)))),fun l hl=>?_⟩
  have nDl:D≠l:=Af hDi hl
  have hi:i<vss.length:=(af.mp hvs).1
  refine⟨by rw[Aj nDl];exact hDi,?_,⟨_,ps++[l],rfl,by rw[am];rfl,?_,?_,fun p hp=>?_⟩⟩
  ·have z:=hL.1
   rw[bc]at z
   have z2:=hqs.1
   rw[ac]
   exact Aw (by omega)
  ·exact AH (AH s2 (s2.free hl) _) hD _
  ·rw[bY,hvs]
   refine Z.snoc (hL.monoM fun p vs hp e=>?_) ?_
   ·show(upd (upd H' l (.lst _)) D _) p=_
    rw[Aj (hps p hp).2,Aj (Af e hl)];exact e
   ·show(upd (upd H' l (.lst _)) D _) l=_
    rw[Aj nDl.symm,Ad]
  ·rcases aP.mp hp with z|z
   ·exact hps p z
   ·have z':p=l:=by simpa using z
    subst z'
    exact⟨s2.free hl,nDl.symm⟩
 ·rintro ys σ H2 hD2 ⟨v,ps,rfl,rfl,s2,hL,hps⟩
  have ecl:(qs.map V.ref).length=vss.length:=by rw[ac,hqs.1]
  rw[ecl,aN]at hL
  refine⟨_,rfl,c,C,dx,_,rfl,s2 _ _ c1,T.cl,T.nR,(by show 1<1000;decide),?_⟩
  have c2:=s2 _ _ c1
  have ncD:c≠D:=Af c1 hD
  have npc:∀p∈ps,p≠c:=fun p hp z=>by
   have y:=(hps p hp).1
   rw[z,c1]at y
   cases y
  have k2:En c H2 (upd H2 c (.ins C dx (Bu "rows" (.ref D) (Bu "states" (.ref l1) [])))):=fun x o e n=>by rw[Aj n];exact e
  have c3:(upd H2 c (.ins C dx (Bu "rows" (.ref D) (Bu "states" (.ref l1) [])))) c=some (.ins C dx (Bu "rows" (.ref D) (Bu "states" (.ref l1) []))):=Ad
  have f3:∀x,(upd H2 c (.ins C dx (Bu "rows" (.ref D) (Bu "states" (.ref l1) [])))) x=ae→H2 x=ae:=fun x e=>by
   by_cases n:x=c
   ·rw[n,c3]at e;cases e
   ·rw[Aj n]at e;exact e
  generalize upd H2 c (.ins C dx (Bu "rows" (.ref D) (Bu "states" (.ref l1) [])))=H3 at k2 c3 f3 ⊢
  have y3:H3 ya=some (.lst ws):=k2 _ _ (s2 _ _ (k1 _ _ hy (ntc hy))) (ntc hy)
  refine⟨_,rfl,ya,_,rfl,.inl (AD.of y3),fun l3 hl3=>?_⟩
  have n3:c≠l3:=Af c3 hl3
  refine⟨_,rfl,c,C,dx,_,rfl,(by rw[Aj n3];exact c3),T.cl,T.nW,(by show 2<1000;decide),?_⟩
  have k4:En c H3 (upd (upd H3 l3 (.lst ws)) c (.ins C dx (Bu "ways" (.ref l3) (Bu "rows" (.ref D) (Bu "states" (.ref l1) []))))):=fun x o e n=>by rw[Aj n,Aj (Af e hl3)];exact e
  have hl3':=f3 _ hl3
  have hl3H:H1 l3=ae:=s2.free hl3'
  refine q l1 D l3 ps _ (fun x o e n=>k4 _ _ (k2 _ _ (s2 _ _ (k1 _ _ e n)) n) n) Ad hl1 (k4 _ _ (k2 _ _ (s2 _ _ e1) n1.symm) n1.symm) (f1 _ hD) (k4 _ _ (k2 _ _ hD2 ncD.symm) ncD.symm) (hL.monoM fun p vs hp e=>k4 _ _ (k2 _ _ e (npc p hp)) (npc p hp)) (fun p hp=>⟨f1 _ (hps p hp).1,(hps p hp).2⟩) (f1 _ hl3H) ?_
  rw[Aj n3.symm,Ad]
inductive Hz where
 | clash (evs:List Int) (i j:Nat)
 | many
structure FS where
 cs:List (List Int)
 ws:List (List Int)
 rows:List (List D0)
 row:List D0
def nxE(R:List Ai)(A:List Ap)(c:List Int)(e:Int):List Int:=Bb R A c (tkL R A c e)
def Sn(R:List Ai)(A:List Ap)(c:List Int)(e:Int):List Int:=BO A (tkL R A c e)
def LE(R:List Ai)(A:List Ap)(c w:List Int)(S:FS)(e:Int):Except Hz FS:=
 if nxE R A c e∈S.cs then .ok ⟨S.cs,S.ws,S.rows,S.row++[(((S.cs.idxOf (nxE R A c e):Nat):Int),Sn R A c e)]⟩
 else if S.cs.length=30 then .error .many
 else .ok ⟨S.cs++[nxE R A c e],S.ws++[w++[e]],S.rows,S.row++[(((S.cs.length:Nat):Int),Sn R A c e)]⟩
def E9(R:List Ai)(A:List Ap)(c w:List Int)(S:FS)(e:Int):Except Hz FS:=
 match Br (EO R A) (tkL R A c e) with
 | some (i,j)=>.error (.clash (w++[e]) i j)
 | ae=>LE R A c w S e
def EN(R:List Ai)(A:List Ap)(c w:List Int):List Int→FS→Except Hz FS
 | [],S=>.ok S
 | e::r,S=>match E9 R A c w S e with
  | .error x=>.error x
  | .ok S'=>EN R A c w r S'
def MN(R:List Ai)(A:List Ap)(n:Nat)(S:FS):Except Hz FS:=EN R A (S.cs.getD n []) (S.ws.getD n []) [0,1,2,3] ⟨S.cs,S.ws,S.rows,[]⟩
def C3(R:List Ai)(A:List Ap):Nat→Nat→FS→Except Hz FS
 | 0,_,S=>.ok S
 | f+1,n,S=>if n<S.cs.length then
   match MN R A n S with
   | .error x=>.error x
   | .ok S'=>C3 R A f (n+1) ⟨S'.cs,S'.ws,S'.rows++[S'.row],[]⟩
  else .ok S
def fS0(R:List Ai):FS:=⟨[Bt R],[[]],[],[]⟩
def DL(R:List Ai)(A:List Ap):Except Hz FS:=C3 R A 31 0 (fS0 R)
structure FI(R:List Ai)(S:FS):Prop where
 rc:∀c∈S.cs,RC R c
 nd:S.cs.Nodup
 wl:S.ws.length=S.cs.length
 le:S.cs.length≤30
 wb:∀(i:Nat) w,S.ws[i]?=some w→w.length≤i
theorem JE{R:List Ai}(hG:AX R):FI R (fS0 R):=by
 refine⟨fun c hc=>?_,bm.mpr ⟨by simp,bD⟩,rfl,by show 1≤30;decide,fun i w h=>?_⟩
 ·rw[au.mp hc];exact Q6 hG
 ·cases i with
  | zero=>cases h;exact aE 0
  | succ i=>cases h
theorem FI.push{R:List Ai}{S:FS}(h:FI R S){c w:List Int}{r:List D0}(hc:RC R c)(hn:¬c∈S.cs)(hl:S.cs.length≠30)(hw:w.length≤S.cs.length):FI R ⟨S.cs++[c],S.ws++[w],S.rows,r⟩:=by
 have hle:=h.le
 refine⟨fun x hx=>?_,?_,?_,?_,fun i x hx=>?_⟩
 ·rcases aP.mp hx with z|z
  ·exact h.rc x z
  ·rw[au.mp z];exact hc
 ·refine bB.mpr ⟨h.nd,bm.mpr ⟨by simp,bD⟩,fun x hx y hy e=>?_⟩
  rw[e,au.mp hy]at hx
  exact hn hx
 ·show(S.ws++[w]).length=(S.cs++[c]).length
  rw[ai,ai,h.wl];rfl
 ·show(S.cs++[c]).length≤30
  rw[ai]
  simp only[bf,cy]
  omega
 ·have hx':(S.ws++[w])[i]?=some x:=hx
  by_cases z:i<S.ws.length
  ·rw[aO z]at hx'
   exact h.wb i x hx'
  ·rw[aT (by omega)]at hx'
   cases e:i - S.ws.length with
   | zero=>rw[e]at hx';cases hx';have:=h.wl;omega
   | succ k=>rw[e]at hx';cases hx'
theorem FI.row{R:List Ai}{S:FS}(h:FI R S){rs:List (List D0)}{r:List D0}:FI R ⟨S.cs,S.ws,rs,r⟩:=⟨h.rc,h.nd,h.wl,h.le,h.wb⟩
def Ka(R:List Ai)(H:Hp)(p:fG)(c:List Int):Prop:=∃kt mt,H p=some (.tup [.ref kt,.ref mt])∧H kt=some (.tup ((kI R c).map V.int))∧H mt=some (.tup ((Ct R c).map V.int))
def JV(H:Hp)(p:fG)(w:List Int):Prop:=H p=some (.tup (w.map V.int))
def TS(H H':Hp):Prop:=∀x ys,H x=some (.tup ys)→H' x=some (.tup ys)
theorem B8{H H':Hp}(s:An H H'):TS H H':=fun x _ e=>s x _ e
theorem TS.trans{H H' H'':Hp}(a:TS H H')(b:TS H' H''):TS H H'':=fun x ys e=>b _ _ (a _ _ e)
theorem Ea{H:Hp}{a:fG}{xs:List V}{o:HO}(h:H a=some (.lst xs)):TS H (upd H a o):=fun x ys e=>by
 rw[Aj (fun z=>by rw[z,h]at e;cases e)];exact e
theorem Ka.ts{R:List Ai}{H H':Hp}{p:fG}{c:List Int}(t:TS H H')(h:Ka R H p c):Ka R H' p c:=by
 obtain⟨kt,mt,a,b,d⟩:=h
 exact⟨kt,mt,t _ _ a,t _ _ b,t _ _ d⟩
theorem BH.ts{H H':Hp}{v:V}{e:D0}(t:TS H H')(h:BH H v e):BH H' v e:=by
 obtain⟨a,u,e1,h1,d,e2,h2⟩:=h
 exact⟨a,u,e1,t _ _ h1,d,e2,t _ _ h2⟩
structure BU(R:List Ai)(H:Hp)(sl wl rl:fG)(ps qs rs:List fG)(S:FS):Prop where
 es:H sl=some (.lst (ps.map V.ref))
 st:Z (Ka R H) ps S.cs
 ew:H wl=some (.lst (qs.map V.ref))
 wt:Z (JV H) qs S.ws
 er:H rl=some (.lst (rs.map V.ref))
 rt:B7 H rs S.rows
 n1:sl≠wl
 n2:sl≠rl
 n3:wl≠rl
 nr:∀p∈rs,p≠sl∧p≠wl∧p≠rl
section
variable{R:List Ai}{H H':Hp}{sl wl rl:fG}{ps qs rs:List fG}{S:FS}
theorem BU.same(h:BU R H sl wl rl ps qs rs S)(s:An H H'):BU R H' sl wl rl ps qs rs S:=
 ⟨s _ _ h.es,h.st.mono fun _ _ z=>z.ts (B8 s),s _ _ h.ew,h.wt.mono fun _ _ z=>s _ _ z,s _ _ h.er,h.rt.same s,h.n1,h.n2,h.n3,h.nr⟩
theorem BU.setRow(h:BU R H sl wl rl ps qs rs S){r:List D0}:BU R H sl wl rl ps qs rs ⟨S.cs,S.ws,S.rows,r⟩:=⟨h.es,h.st,h.ew,h.wt,h.er,h.rt,h.n1,h.n2,h.n3,h.nr⟩
theorem BU.other(h:BU R H sl wl rl ps qs rs S){l:fG}{xs:List V}{o:HO}(hl:H l=some (.lst xs))(a1:l≠sl)(a2:l≠wl)(a3:l≠rl)(a4:∀p∈rs,p≠l):BU R (upd H l o) sl wl rl ps qs rs S:=by
 have t:TS H (upd H l o):=Ea hl
 refine⟨by rw[Aj a1.symm];exact h.es,h.st.mono fun _ _ z=>z.ts t,by rw[Aj a2.symm];exact h.ew,h.wt.mono fun _ _ z=>t _ _ z,by rw[Aj a3.symm];exact h.er,?_,h.n1,h.n2,h.n3,h.nr⟩
 exact h.rt.keep (fun x o e n=>by rw[Aj n];exact e) (Cc hl) a4
theorem BU.push(h:BU R H sl wl rl ps qs rs S){p q:fG}{c w:List Int}{r:List D0}(hp:Ka R H p c)(s:An (upd H sl (.lst (ps.map V.ref++[.ref p]))) H')(hq:JV H' q w) :
  BU R (upd H' wl (.lst (qs.map V.ref++[.ref q]))) sl wl rl (ps++[p]) (qs++[q]) rs ⟨S.cs++[c],S.ws++[w],S.rows,r⟩:=by
 have t1:TS H (upd H sl (.lst (ps.map V.ref++[.ref p]))):=Ea h.es
 have ew:H' wl=some (.lst (qs.map V.ref)):=s _ _ (by rw[Aj h.n1.symm];exact h.ew)
 have t2:=(t1.trans (B8 s)).trans (Ea (o:=.lst (qs.map V.ref++[.ref q])) ew)
 refine⟨?_,?_,?_,?_,?_,?_,h.n1,h.n2,h.n3,h.nr⟩
 ·rw[Aj h.n1,s _ _ Ad,am];rfl
 ·exact Z.snoc (h.st.mono fun _ _ z=>z.ts t2) (hp.ts t2)
 ·rw[Ad,am];rfl
 ·exact Z.snoc (h.wt.mono fun _ _ z=>t2 _ _ z) (Ea ew _ _ hq)
 ·rw[Aj h.n3.symm];exact s _ _ (by rw[Aj h.n2.symm];exact h.er)
 ·refine B7.keep (l:=wl) (fun x o e n=>by rw[Aj n];exact e) (Cc ew) (fun p hp=>(h.nr p hp).2.1) (B7.same s ?_)
  exact h.rt.keep (fun x o e n=>by rw[Aj n];exact e) (Cc h.es) (fun p hp=>(h.nr p hp).1)
theorem BU.rowed(h:BU R H sl wl rl ps qs rs S){l:fG}{vs:List V}{r:List D0}(hl:H l=some (.lst vs))(hv:Z (BH H) vs r)(a1:l≠sl)(a2:l≠wl)(a3:l≠rl) :
  BU R (upd H rl (.lst (rs.map V.ref++[.ref l]))) sl wl rl ps qs (rs++[l]) ⟨S.cs,S.ws,S.rows++[r],[]⟩:=by
 have t:TS H (upd H rl (.lst (rs.map V.ref++[.ref l]))):=Ea h.er
 refine⟨by rw[Aj h.n2];exact h.es,h.st.mono fun _ _ z=>z.ts t,by rw[Aj h.n3];exact h.ew,h.wt.mono fun _ _ z=>t _ _ z,by rw[Ad,am];rfl,?_,h.n1,h.n2,h.n3,fun p hp=>?_⟩
 ·refine Z.snoc (h.rt.keep (fun x o e n=>by rw[Aj n];exact e) (Cc h.er) (fun p hp=>(h.nr p hp).2.2)) ⟨vs,?_,hv.mono fun _ _ z=>z.ts t⟩
  rw[Aj a3];exact hl
 ·rcases aP.mp hp with z|z
  ·exact h.nr p z
  ·rw[au.mp z];exact⟨a1,a2,a3⟩
end
def Ki(R:List Ai)(c:List Int):fN:=.tuple [.tuple ((kI R c).map fN.int),.tuple ((Ct R c).map fN.int)]
theorem KK:∀a b:List Int,fN.eqvAll (a.map fN.int) (b.map fN.int)=decide (a=b)
 | [],[]=>rfl
 | [],_::_=>rfl
 | _::_,[]=>rfl
 | x::a,y::b=>by
  simp only[aY,fN.eqvAll,fN.eqv,KK a b]
  by_cases z:x=y
  ·subst z
   simp
  ·simp[z]
theorem K3{R:List Ai}(hG:AX R){c c':List Int}(h:RC R c)(h':RC R c'):(Ki R c).eqv (Ki R c')=decide (c=c'):=by
 unfold Ki
 simp only[fN.eqv,fN.eqvAll,KK,bO]
 by_cases z:c=c'
 ·subst z;simp
 ·rw[decide_eq_false z,Bool.and_eq_false_iff]
  by_cases y:kI R c=kI R c'
  ·right;exact decide_eq_false fun x=>z (O4 hG h h' y x)
  ·left;exact decide_eq_false y
theorem Ef(R:List Ai)(c:List Int):IJ 2 (Ki R c):=by
 obtain⟨a1,a2,a3⟩:=B2 (CQ (kI R c))
 obtain⟨b1,b2,b3⟩:=B2 (CQ (Ct R c))
 exact B2 ⟨by simp only[fN.canLayAll0,a1,b1,bO],by simp only[fN.depthAll];omega,by simp only[fN.eqvAll,a3,b3,bO]⟩
theorem HH{K:aj}{R:List Ai}{H:Hp}{p:fG}{c:List Int}(h:Ka R H p c):LP K H (.ref p) (Ki R c):=by
 obtain⟨kt,mt,a,b,d⟩:=h
 exact .tup (A2.of a) (.cons (.tup (A2.of b) (Fw _)) (.cons (.tup (A2.of d) (Fw _)) .nil))
theorem PZ{K:aj}{H:Hp}{β:Type}{S:fG→β→Prop}{D:β→fN}(hS:∀p c,S p c→LP K H (.ref p) (D c)):∀{ps:List fG} {cs:List β},Z S ps cs→GA K H (ps.map V.ref) (cs.map D)
 | [],[],_=>.nil
 | [],_::_,h=>by have:=h.1;simp at this
 | _::_,[],h=>by have:=h.1;simp at this
 | p::ps,c::cs,h=>.cons (hS p c h.uncons.1) (PZ hS h.uncons.2)
theorem anyD{α:Type}[DecidableEq α]{D:α→fN}{y:α}:∀{xs:List α},(∀x∈xs,(D x).eqv (D y)=decide (x=y))→((xs.map D).any fun e=>e.eqv (D y))=decide (y∈xs)
 | [],_=>rfl
 | x::xs,h=>by
  rw[aY,cF,h x aw,anyD fun z hz=>h z (aq _ hz)]
  by_cases z:x=y
  ·subst z;simp
  ·have:(y∈x::xs)↔y∈xs:=by
    rw[aG]
    exact⟨fun q=>q.resolve_left fun e=>z e.symm,.inr⟩
   rw[decide_eq_false z,bP]
   exact decide_eq_decide.mpr this.symm
theorem idxD{α:Type}[BEq α][LawfulBEq α][DecidableEq α]{D:α→fN}{y:α}{xs:List α}(h:∀x∈xs,(D x).eqv (D y)=decide (x=y))(hy:y∈xs) :
  ∃hj:xs.idxOf y<(xs.map D).length,((xs.map D)[xs.idxOf y]).eqv (D y)=true∧∀(m:Nat) (hm:m<(xs.map D).length),m<xs.idxOf y→((xs.map D)[m]).eqv (D y)=false:=by
 have hj:=bo.mpr hy
 refine⟨by rw[ac];exact hj,?_,fun m hm hl=>?_⟩
 ·rw[cX,h _ (aI hj),cu hj];simp
 ·rw[cX,h _ (aI _)]
  refine decide_eq_false fun e=>?_
  have hl':m<xs.findIdx (·==y):=hl
  have:=List.not_of_lt_findIdx hl'
  rw[e,beq_self_eq_true]at this
  cases this
theorem K2{R:List Ai}(hG:AX R){ns':List Int}(hp:ns'.Perm (iN (Rm.ent (Ce R (Ht R) 0) 16 0)))(hs:ns'.Pairwise (·≤·)):ns'=kI R (Bt R):=by
 have:=Rm.ent_sorted hG.tree (DF hG (Ov hG) 0) (f:=16) (by rw[Ay];exact hG.most) (P6 hG) hp hs
 rw[this,Ay];rfl
def Qa:Sp:=fun vs H Q _=>∃(l:fG) (xs:List V),vs=[.ref l]∧H l=some (.lst xs)∧xs.length≠30∧Q .non H
theorem scMore:AA ["states"] ["states"] (Am Ks):=⟨rfl,rfl,rfl,by decide +kernel,rfl,by decide +kernel,by decide +kernel⟩
theorem RX{f C:fG}{fd:fO}(D:Al K mg "check_one_more" Ks ["states"] f fd)(T:DP K mg C)(B:∃t,mg "MOST_STATES" = some (.int 30 t)):AC P w K mg base A6 1 f fd ["states"] Qa:=by
 refine D.fn.ok scMore (fun vs H Q E h=>?_) (fun cdv A outer s H vs Q E hr h=>?_)
 ·obtain⟨l,xs,rfl,_⟩:=h
  rfl
 obtain⟨l,xs,rfl,hl,q1,q2⟩:=h
 refine⟨_,Ak (A0 (AB B4 (AF At (by rfl) T.len PySem.boot_len (Aa (pv 0) Ab)) (AG B rfl) (AS _)) AZ AJ),?_⟩
 refine⟨_,rfl,l,_,rfl,.inl (AD.of hl),rfl,_,rfl,?_⟩
 refine DT (fun z=>?_) (fun z=>q2)
 have:(xs.length:Int)=30:=by simpa using z
 exact absurd (by omega) q1
structure FlatF(R:List Ai)(CF:fG)(H:Hp)(f s r y:fG)(ps rs qs:List fG)(S:FS):Prop where
 ob:∃dx,H f=some (.ins CF dx (G5 s r y))
 es:H s=some (.lst (ps.map V.ref))
 st:Z (Ka R H) ps S.cs
 er:H r=some (.lst (rs.map V.ref))
 rt:B7 H rs S.rows
 ew:H y=some (.lst (qs.map V.ref))
 wt:Z (JV H) qs S.ws
def Ma(C CF:fG):Sp:=fun vs H Q _=>∃(c:fG) (R:List Ai) (A:List Ap) (S:FS),vs=[.ref c]∧A7 C H c R A∧AX R∧(∀a∈A,AW R a)∧DL R A=.ok S ∧
 ∀(f s r y:fG) (ps rs qs:List fG) (H':Hp),An H H'→FlatF R CF H' f s r y ps rs qs S→FI R S→S.rows.length=S.cs.length→Q (.ref f) H'
theorem IV{H:Hp}:∀{rs:List fG} {M:Bf},B7 H rs M→∃vss,Ha H rs vss∧Z (fun vs r=>Z (BH H) vs r) vss M
 | [],[],_=>⟨[],Z.nil,Z.nil⟩
 | [],_::_,h=>by have:=h.1;simp at this
 | _::_,[],h=>by have:=h.1;simp at this
 | p::rs,r::M,h=>by
  obtain⟨⟨vs,h1,h2⟩,h3⟩:=Z.uncons h
  obtain⟨vss,a,b⟩:=IV h3
  exact⟨vs::vss,Z.cons a h1,Z.cons b h2⟩
theorem NA{H H':Hp}(t:TS H H'){ps:List fG}{vss:List (List V)}{M:Bf}(h:Ha H' ps vss)(g:Z (fun vs r=>Z (BH H) vs r) vss M):B7 H' ps M:=by
 refine⟨h.1.trans g.1,fun i p r hp hr=>?_⟩
 obtain⟨vs,hv,hz⟩:=Z.at g hr
 exact⟨vs,h.2 i p vs hp hv,hz.mono fun _ _ z=>z.ts t⟩
theorem PH{R:List Ai}{A:List Ap}{c w:List Int}{S:FS}{k:Nat}(hk:k<4):EN R A c w (([0,1,2,3]:List Int).drop k) S=match E9 R A c w S (k:Int) with
  | .error x=>.error x
  | .ok S'=>EN R A c w (([0,1,2,3]:List Int).drop (k+1)) S':=by
 match k,hk with
 | 0,_=>rfl
 | 1,_=>rfl
 | 2,_=>rfl
 | 3,_=>rfl
def Ra(R:List Ai)(A:List Ap)(f n:Nat):Except Hz FS→Except Hz FS
 | .error x=>.error x
 | .ok S'=>C3 R A f (n+1) ⟨S'.cs,S'.ws,S'.rows++[S'.row],[]⟩
theorem Q7{R:List Ai}{A:List Ap}{f n:Nat}{S:FS}(h:n<S.cs.length):C3 R A (f+1) n S=Ra R A f n (MN R A n S):=by
 unfold C3
 rw[if_pos h]
 cases MN R A n S<;>rfl
theorem PF{R:List Ai}{A:List Ap}{f n:Nat}{S:FS}(h:¬n<S.cs.length):C3 R A f n S=.ok S:=by
 cases f with
 | zero=>rfl
 | succ f=>unfold C3;rw[if_neg h]
theorem Cw:AA ["chart", "states", "rows", "ways", "state", "way", "row", "event", "step"] ["chart"] (Am Fp):=⟨rfl,rfl,rfl,by decide +kernel,rfl,by decide +kernel,by decide +kernel⟩
theorem Ph{f C CF fs fb fm fi:fG}{fd fds fdb fdm fdi:fO}(D:Al K mg "folded" Fp ["chart"] f fd)(T:DP K mg C)(TF:KW K mg CF)(M:Mk K CF fi)(bi:Fg K fdi ["self", "states", "rows", "ways"] [])(Gi:AC P w K mg base A6 1 fi fdi ["self", "states", "rows", "ways"] (K6 CF))
  (Ds:Al K mg "started" Eh ["chart"] fs fds) (Gs:AC P w K mg base A6 20 fs fds ["chart"] (Kk C))
  (Db:Al K mg "step_behind" Hi ["chart", "ahead", "state", "event"] fb fdb) (Gb:AC P w K mg base A6 22 fb fdb ["chart", "ahead", "state", "event"] (N0 C))
  (Dm:Al K mg "check_one_more" Ks ["states"] fm fdm) (Gm:AC P w K mg base A6 1 fm fdm ["states"] Qa) :
  AC P w K mg base A6 23 f fd ["chart"] (Ma C CF):=by
 refine D.fn.ok Cw (fun vs H Q E h=>?_) (fun cdv A outer s H vs Q E hr h=>?_)
 ·obtain⟨c,R,As,S0,rfl,_⟩:=h
  rfl
 obtain⟨c,R,As,S0,rfl,hC,hG,hA,hS0,q⟩:=h
 refine⟨_,Ac (Ar (i:=1) Cw.nd rfl (Or.inl rfl) (Bj (Aa (Aq Gs (hr.mono (by decide)) rfl Ds.mg Ds.fn.kp Ds.bd .nil AE (Aa (pv 0) Ab)) Ab)))
  (Ac (Ar (i:=2) Cw.nd rfl (Or.inl rfl) (Bj Ab))
  (Ac (Ar (i:=3) Cw.nd rfl (Or.inl rfl) (Bj (Aa (AY Ab) Ab)))
  (Ac (Ej fR.never (AB Om (AF At (by rfl) T.len PySem.boot_len (Aa (pv 2) Ab)) (AF At (by rfl) T.len PySem.boot_len (Aa (pv 1) Ab)) (AS _))
   (Ac (Ar (i:=4) Cw.nd rfl (Or.inl rfl) (Ao Au (pv 1) (AF At (by rfl) T.len PySem.boot_len (Aa (pv 2) Ab)) (fun _ _=>rfl)))
   (Ac (Ar (i:=5) Cw.nd rfl (Or.inl rfl) (Ao Au (pv 3) (AF At (by rfl) T.len PySem.boot_len (Aa (pv 2) Ab)) (fun _ _=>rfl)))
   (Ac (Ar (i:=6) Cw.nd rfl (Or.inl rfl) (Bj Ab))
   (Ac (Bd fR.never rfl (AV rfl T.range (Aa (AO BN (AG T.lastE rfl) Ah) Ab)) (Az (i:=7) Cw.nd rfl (Or.inl rfl))
    (Ac (Ar (i:=8) Cw.nd rfl (Or.inl rfl) (Aq Gb hr rfl Db.mg Db.fn.kp Db.bd .nil AE (Aa (pv 0) (Aa (pv 5) (Aa (pv 4) (Aa (pv 7) Ab))))))
    (Ac (A0 (AB (Pc hr.units) (Ao Av (pv 8) Ah (fun _ _=>rfl)) (pv 1) (by with_unfolding_all rfl))
     (Ac (AT (Aq Gm (hr.mono (by decide)) rfl Dm.mg Dm.fn.kp Dm.bd .nil AE (Aa (pv 1) Ab)))
     (Ac (AT (BF ax aB aD AU (pv 1) (Aa (Ao Av (pv 8) Ah (fun _ _=>rfl)) Ab)))
     (Ak (AT (BF ax aB aD AU (pv 3) (Aa (AO Lm (pv 5) (AY (Aa (pv 7) Ab))) Ab)))))) AJ)
    (Ak (AT (BF ax aB aD AU (pv 6) (Aa (AY (Aa (BF ax cL cM (Pm hr.units) (pv 1) (Aa (Ao Av (pv 8) Ah (fun _ _=>rfl)) Ab)) (Aa (Ao Av (pv 8) Ah (fun _ _=>rfl)) Ab))) Ab)))))))
   (Ak (AT (BF ax aB aD AU (pv 2) (Aa (pv 6) Ab)))))))))
  (Ak (AK (Lj M Gi (hr.mono (by decide)) rfl TF.mgC bi .nil AE (Aa (pv 1) (Aa (pv 2) (Aa (pv 3) Ab))))))))),?_⟩
 refine⟨_,rfl,c,R,As,rfl,hC,hG,fun st0 kt0 mt0 ns H1 s1 e1 e2 e3 hp0 hs0=>?_⟩
 have en:=K2 hG hp0 hs0
 subst en
 refine⟨(by show 1≤fL;decide),fun sl hsl=>?_⟩
 have s2:=Ag hsl (.lst [.ref st0])
 have es2:(upd H1 sl (.lst [.ref st0])) sl=some (.lst [.ref st0]):=Ad
 have f0:Ka R (upd H1 sl (.lst [.ref st0])) st0 (Bt R):=⟨kt0,mt0,s2 _ _ e1,s2 _ _ e2,by rw[Nv];exact s2 _ _ e3⟩
 have s02:=s1.trans s2
 have fsl:H sl=ae:=s1.free hsl
 generalize upd H1 sl (.lst [.ref st0])=H2 at s2 es2 f0 s02 ⊢
 refine⟨(by show 0≤fL;decide),fun rl hrl=>?_⟩
 have s3:=Ag hrl (.lst [])
 have er3:(upd H2 rl (.lst [])) rl=some (.lst []):=Ad
 have nsr:sl≠rl:=Af es2 hrl
 have s03:=s02.trans s3
 have frl:H rl=ae:=s02.free hrl
 generalize upd H2 rl (.lst [])=H3 at s3 er3 s03 ⊢
 refine⟨(by show 0≤fL;decide),fun w0 hw0=>?_⟩
 have s4:=Ag hw0 (.tup [])
 have ew0:(upd H3 w0 (.tup [])) w0=some (.tup []):=Ad
 have s04:=s03.trans s4
 have er4:=s4 _ _ er3
 have es4:=s4 _ _ (s3 _ _ es2)
 have f4:=f0.ts (B8 (s3.trans s4))
 generalize upd H3 w0 (.tup [])=H4 at s4 ew0 s04 er4 es4 f4 ⊢
 refine⟨(by show 1≤fL;decide),fun wl hwl=>?_⟩
 have s5:=Ag hwl (.lst [.ref w0])
 have ew5:(upd H4 wl (.lst [.ref w0])) wl=some (.lst [.ref w0]):=Ad
 have s05:=s04.trans s5
 have fwl:H wl=ae:=s04.free hwl
 have nsw:sl≠wl:=Af es4 hwl
 have nrw:rl≠wl:=Af er4 hwl
 have hF5:BU R (upd H4 wl (.lst [.ref w0])) sl wl rl [st0] [w0] [] (fS0 R):=
  ⟨s5 _ _ es4,Z.cons Z.nil (f4.ts (B8 s5)),ew5,Z.cons Z.nil (s5 _ _ ew0),s5 _ _ er4,Z.nil,nsw,nsr,nrw.symm,fun p hp=>by cases hp⟩
 generalize upd H4 wl (.lst [.ref w0])=H5 at s5 ew5 s05 hF5 ⊢
 refine⟨fun m σ H'=>∃n S v4 v5 v6 v7 v8 ps qs rs,σ=[some (.ref c),some (.ref sl),some (.ref rl),some (.ref wl),v4,v5,v6,v7,v8]∧An H H'∧BU R H' sl wl rl ps qs rs S∧FI R S∧S.rows.length=n∧n≤S.cs.length∧m=31 - n∧C3 R As (31 - n) n S=DL R As,
  ⟨31,0,fS0 R,_,_,_,_,_,_,_,_,rfl,s05,hF5,JE hG,rfl,bw _,rfl,rfl⟩,?_⟩
 rintro m σ H6 ⟨n,S,v4,v5,v6,v7,v8,ps,qs,rs,rfl,s06,hF,hI,hn,hnl,rfl,hfo⟩
 have lr:(rs.map V.ref).length=n:=by rw[ac,hF.rt.1,hn]
 have ls:(ps.map V.ref).length=S.cs.length:=by rw[ac,hF.st.1]
 have h30:=hI.le
 refine⟨_,rfl,rl,_,rfl,.inl (AD.of hF.er),_,rfl,sl,_,rfl,.inl (AD.of hF.es),_,_,rfl,rfl,_,rfl,?_⟩
 by_cases hlt:n<S.cs.length
 ·rw[decide_eq_true (show((rs.map V.ref).length:Int)<((ps.map V.ref).length:Int) by rw[lr,ls];omega)]
  refine Bw ?_
  refine⟨fun σ' H'=>∃S v4 v5 v6 v7 v8 ps qs rs,σ'=[some (.ref c),some (.ref sl),some (.ref rl),some (.ref wl),v4,v5,v6,v7,v8]∧An H H'∧BU R H' sl wl rl ps qs rs S∧FI R S∧S.rows.length=n+1∧n+1≤S.cs.length∧C3 R As (31 - (n+1)) (n+1) S=DL R As,?_,?_⟩
  ·rintro σ' H' ⟨S',a4,a5,a6,a7,a8,ps',qs',rs',rfl,b1,b2,b3,b4,b5,b6⟩
   exact⟨31 - (n+1),by omega,n+1,S',a4,a5,a6,a7,a8,ps',qs',rs',rfl,b1,b2,b3,b4,b5,rfl,b6⟩
  obtain⟨cn,hcn⟩:∃cn,S.cs[n]?=some cn:=⟨_,aa hlt⟩
  obtain⟨wn,hwn⟩:∃wn,S.ws[n]?=some wn:=⟨_,aa (by rw[hI.wl];exact hlt)⟩
  obtain⟨st,hst,hSt⟩:=hF.st.at hcn
  obtain⟨wy,hwy,hWy⟩:=hF.wt.at hwn
  have hrc:=hI.rc cn (ay hcn)
  have hwln:=hI.wb n wn hwn
  have aS:G6 (ps.map V.ref) ((rs.map V.ref).length:Int)=some (.ref st):=Bo (by rw[lr,av,hst];rfl)
  have aW:G6 (qs.map V.ref) ((rs.map V.ref).length:Int)=some (.ref wy):=Bo (by rw[lr,av,hwy];rfl)
  refine⟨_,rfl,_,rfl,rl,_,rfl,.inl (AD.of hF.er),sl,_,_,_,rfl,rfl,AD.of hF.es,aS,?_⟩
  refine⟨_,rfl,_,rfl,rl,_,rfl,.inl (AD.of hF.er),wl,_,_,_,rfl,rfl,AD.of hF.ew,aW,?_⟩
  refine⟨(by show 0≤fL;decide),fun rw' hrw=>?_⟩
  have s7:=Ag hrw (.lst [])
  have erw:(upd H6 rw' (.lst [])) rw'=some (.lst []):=Ad
  have nw1:rw'≠sl:=(Af hF.es hrw).symm
  have nw2:rw'≠wl:=(Af hF.ew hrw).symm
  have nw3:rw'≠rl:=(Af hF.er hrw).symm
  have nw4:∀p∈rs,p≠rw':=fun p hp=>by
   obtain⟨i,hi⟩:=List.mem_iff_getElem?.mp hp
   obtain⟨r,hr',vs,h1,h2⟩:=Z.at1 hF.rt hi
   exact Af h1 hrw
  have frw:H rw'=ae:=s06.free hrw
  have s07:=s06.trans s7
  have hF7:=hF.same s7
  have hSt7:=hSt.ts (B8 s7)
  have hWy7:JV (upd H6 rw' (.lst [])) wy wn:=s7 _ _ hWy
  generalize upd H6 rw' (.lst [])=H7 at s7 erw s07 hF7 hSt7 hWy7 ⊢
  have hco:Ra R As (30 - n) n (EN R As cn wn ([0,1,2,3]:List Int) ⟨S.cs,S.ws,S.rows,[]⟩)=DL R As:=by
   rw[← hfo,show 31 - n=30 - n+1 by omega,Q7 hlt]
   unfold MN
   rw[ag,hcn,ag,hwn];rfl
  refine⟨_,_,rfl,rfl,4,rfl,by decide,by decide,?_⟩
  refine Bh (fun k σ H8=>∃S v7 v8 ps qs vs,σ=[some (.ref c),some (.ref sl),some (.ref rl),some (.ref wl),some (.ref st),some (.ref wy),some (.ref rw'),v7,v8]∧An H H8∧BU R H8 sl wl rl ps qs rs S∧H8 rw'=some (.lst vs)∧Z (BH H8) vs S.row∧Ka R H8 st cn∧JV H8 wy wn∧FI R S∧S.rows.length=n∧n<S.cs.length∧S.row.length=k ∧
   Ra R As (30 - n) n (EN R As cn wn (([0,1,2,3]:List Int).drop k) S)=DL R As)
   ⟨⟨S.cs,S.ws,S.rows,[]⟩,_,_,ps,qs,[],rfl,s07,⟨hF7.es,hF7.st,hF7.ew,hF7.wt,hF7.er,hF7.rt,hF7.n1,hF7.n2,hF7.n3,hF7.nr⟩,erw,Z.nil,hSt7,hWy7,hI.row,hn,hlt,rfl,hco⟩ ?_ ?_
  ·rintro k σ H8 hk ⟨S,v7,v8,ps,qs,vs,rfl,(s08:An _ _),hF,erw,hvs,hSt,hWy,hI,hn,hlt,hrk,hco⟩
   have ek:(0:Int)+(k:Int)=(k:Int):=by omega
   rw[ek]
   have hk4:k<4:=hk
   rw[PH hk4]at hco
   have h30:=hI.le
   obtain⟨kt,mt,g1,g2,g3⟩:=id hSt
   cases hp:Br (EO R As) (tkL R As cn (k:Int)) with
   | some ij=>
    obtain⟨i,j⟩:=ij
    have hfe:DL R As=.error (.clash (wn++[(k:Int)]) i j):=by
     rw[← hco]
     unfold E9
     rw[hp];rfl
    rw[hS0]at hfe
    cases hfe
   | none=>
   refine⟨_,rfl,_,rfl,_,rfl,_,rfl,c,wy,st,kt,mt,R,As,cn,(k:Int),rfl,hC.same s08,hG,hA,g1,g2,g3,hrc.ok,hp,fun t s' kt' mt' dd H9 s9 a1 a2 a3 a4 a5=>?_⟩
   ·have hfs:E9 R As cn wn S (k:Int)=LE R As cn wn S (k:Int):=by
     unfold E9
     rw[hp]
    rw[hfs]at hco
    unfold LE at hco
    have s09:=s08.trans s9
    have hF9:=hF.same s9
    have hx:Ka R H9 s' (nxE R As cn (k:Int)):=⟨kt',mt',a2,a3,a4⟩
    have hxr:RC R (nxE R As cn (k:Int)):=NX hG hA hrc hp
    have hdd:H9 dd=some (.tup ((Sn R As cn (k:Int)).map V.int)):=a5
    have erw9:=s9 _ _ erw
    have hvs9:=hvs.mono fun _ _ z=>BH.ts (B8 s9) z
    have hSt9:=hSt.ts (B8 s9)
    have hWy9:JV H9 wy wn:=s9 _ _ hWy
    generalize nxE R As cn (k:Int)=nx at hx hxr hco
    generalize hdE:Sn R As cn (k:Int)=dE at hdd hco
    have hvl:vs.length=k:=by rw[hvs.1,hrk]
    have hqv:∀x∈S.cs,(Ki R x).eqv (Ki R nx)=decide (x=nx):=fun x hx=>K3 hG (hI.rc x hx) hxr
    have hsh:∀e∈S.cs.map (Ki R),SeqAt.shaped e=true:=fun e he=>by
     obtain⟨x,_,rfl⟩:=aJ.mp he
     exact BZ (Ef R x) (by decide)
    have hsx:SeqAt.shaped (Ki R nx)=true:=BZ (Ef R nx) (by decide)
    have hdx:(Ki R nx).depth≤62:=aU (Ef R nx).2.1 (by decide)
    have fdt:∀{H10:Hp},TS H9 H10→H10 t=some (.tup [.ref s',.ref dd]):=fun z=>z _ _ a1
    refine⟨_,rfl,t,_,_,_,rfl,rfl,A2.of a1,rfl,_,rfl,sl,_,_,_,rfl,AD.of hF9.es,PZ (fun p c z=>HH z) hF9.st,HH hx,hsh,hsx,hdx,_,rfl,?_⟩
    rw[if_pos rfl]
    by_cases hin:nx∈S.cs
    ·rw[show((S.cs.map (Ki R)).any fun e=>e.eqv (Ki R nx))=true from(anyD hqv).trans (by simpa using hin)]
     refine A9 ?_
     rw[if_pos hin]at hco
     obtain⟨hj,hy,hno⟩:=idxD hqv hin
     refine⟨_,rfl,.inl ⟨rfl,_,AD.of erw9⟩,_,rfl,.inl ⟨rfl,_,AD.of hF9.es⟩,_,rfl,t,_,_,_,rfl,rfl,A2.of a1,rfl,sl,.ref s',_,_,_,S.cs.idxOf nx,hj,rfl,rfl,AD.of hF9.es,PZ (fun p c z=>HH z) hF9.st,HH hx,hsh,hsx,hdx,?_,hy,hno,_,rfl,t,_,_,_,rfl,rfl,A2.of a1,rfl,(by show 2≤fL;decide),fun tp htp=>?_⟩
     ·rw[ac];omega
     have s10:=Ag htp (.tup [.int ((S.cs.idxOf nx:Nat):Int),.ref dd])
     have etp:(upd H9 tp (.tup [.int ((S.cs.idxOf nx:Nat):Int),.ref dd])) tp=some (.tup [.int ((S.cs.idxOf nx:Nat):Int),.ref dd]):=Ad
     generalize upd H9 tp (.tup [.int ((S.cs.idxOf nx:Nat):Int),.ref dd])=H10 at s10 etp ⊢
     have erw10:=s10 _ _ erw9
     refine⟨rw',_,_,rfl,rfl,erw10,by rw[hvl];exact Aw (by omega),?_⟩
     have t10:TS H10 (upd H10 rw' (.lst (vs++[.ref tp]))):=Ea erw10
     have t910:=(B8 s10).trans t10
     exact⟨_,_,_,ps,qs,vs++[.ref tp],rfl,AH (s09.trans s10) frw _,((hF9.same s10).other erw10 nw1 nw2 nw3 nw4).setRow,Ad,
      Z.snoc (hvs9.mono fun _ _ z=>BH.ts t910 z) ⟨tp,.ref dd,rfl,t10 _ _ etp,dd,rfl,t910 _ _ hdd⟩,hSt9.ts t910,t910 _ _ hWy9,hI.row,hn,hlt,by show(S.row++[_]).length=k+1;rw[ai,hrk];rfl,hco⟩
    ·rw[show((S.cs.map (Ki R)).any fun e=>e.eqv (Ki R nx))=false from(anyD hqv).trans (by simpa using hin)]
     refine Bw ?_
     rw[if_neg hin]at hco
     have hc30:S.cs.length≠30:=fun hc30=>by
      rw[if_pos hc30,hS0]at hco
      cases hco
     refine⟨_,rfl,sl,_,rfl,hF9.es,by rw[ac,hF9.st.1];exact hc30,?_⟩
     rw[if_neg hc30]at hco
     have hpl:(ps.map V.ref).length=S.cs.length:=by rw[ac,hF9.st.1]
     have hql:(qs.map V.ref).length=S.cs.length:=by rw[ac,hF9.wt.1,hI.wl]
     refine⟨_,rfl,.inl ⟨rfl,_,AD.of hF9.es⟩,_,rfl,t,_,_,_,rfl,rfl,A2.of a1,rfl,sl,_,_,rfl,rfl,hF9.es,by rw[hpl];exact Aw (by omega),?_⟩
     have tA:TS H9 (upd H9 sl (.lst (ps.map V.ref++[.ref s']))):=Ea hF9.es
     have ewA:(upd H9 sl (.lst (ps.map V.ref++[.ref s']))) wl=some (.lst (qs.map V.ref)):=by rw[Aj hF9.n1.symm];exact hF9.ew
     have erA:(upd H9 sl (.lst (ps.map V.ref++[.ref s']))) rw'=some (.lst vs):=by rw[Aj nw1];exact erw9
     have sA:An H (upd H9 sl (.lst (ps.map V.ref++[.ref s']))):=AH s09 fsl _
     generalize hHA:upd H9 sl (.lst (ps.map V.ref++[.ref s']))=HA at tA ewA erA sA ⊢
     refine⟨_,rfl,.inl ⟨rfl,_,AD.of ewA⟩,_,rfl,_,rfl,(by show 1≤fL;decide),fun t1 ht1=>?_⟩
     have sB:=Ag ht1 (.tup [.int (k:Int)])
     have et1:(upd HA t1 (.tup [.int (k:Int)])) t1=some (.tup [.int (k:Int)]):=Ad
     generalize upd HA t1 (.tup [.int (k:Int)])=HB at sB et1 ⊢
     have hWyB:HB wy=some (.tup (wn.map V.int)):=sB _ _ (tA _ _ hWy9)
     have goal:∀(q1:fG) (HC:Hp),An HA HC→JV HC q1 (wn++[(k:Int)])→∃(S':FS) (ps' qs':List fG),BU R (upd HC wl (.lst (qs.map V.ref++[.ref q1]))) sl wl rl ps' qs' rs S'∧FI R S'∧S'.rows=S.rows∧S'.cs=S.cs++[nx]∧S'.ws=S.ws++[wn++[(k:Int)]]∧TS H9 (upd HC wl (.lst (qs.map V.ref++[.ref q1])))∧(upd HC wl (.lst (qs.map V.ref++[.ref q1]))) rw'=some (.lst vs)∧An H (upd HC wl (.lst (qs.map V.ref++[.ref q1]))):=by
      intro q1 HC sC hq1
      refine⟨⟨S.cs++[nx],S.ws++[wn++[(k:Int)]],S.rows,[]⟩,ps++[s'],qs++[q1],hF9.push hx (by rw[hHA];exact sC) hq1,hI.push hxr hin hc30 (by rw[ai];simp only[bf,cy];omega),rfl,rfl,rfl,(tA.trans (B8 sC)).trans (Ea (sC _ _ ewA)),by rw[Aj nw2];exact sC _ _ erA,AH (sA.trans sC) fwl _⟩
     refine⟨wy,t1,_,_,rfl,rfl,A2.of hWyB,A2.of et1,(fun z=>by cases z),?_,fun hz=>?_,fun hz q1 hq1=>?_⟩
     ·rw[ac];exact GL (by show _+1≤1000;omega)
     ·have hw0:wn=[]:=dk.mp hz
      refine⟨wl,_,_,rfl,rfl,sB _ _ ewA,by rw[hql];exact Aw (by omega),?_⟩
      obtain⟨S',ps',qs',hF',hI',er1,ec1,ew1,t9',erw',s0'⟩:=goal t1 HB sB (by show HB t1=_;rw[et1,hw0];rfl)
      generalize upd HB wl (.lst (qs.map V.ref++[.ref t1]))=HD at hF' t9' erw' s0' ⊢
      have hin':nx∈S'.cs:=by rw[ec1];exact bg _ (au.mpr rfl)
      have hqv':∀x∈S'.cs,(Ki R x).eqv (Ki R nx)=decide (x=nx):=fun x hx=>K3 hG (hI'.rc x hx) hxr
      have hsh':∀e∈S'.cs.map (Ki R),SeqAt.shaped e=true:=fun e he=>by
       obtain⟨x,_,rfl⟩:=aJ.mp he
       exact BZ (Ef R x) (by decide)
      obtain⟨hj,hy,hno⟩:=idxD hqv' hin'
      have hix:S'.cs.idxOf nx=S.cs.length:=by rw[ec1,eW,if_neg hin,eC,Nat.zero_add]
      have h30':=hI'.le
      have a1':=t9' _ _ a1
      refine⟨_,rfl,.inl ⟨rfl,_,AD.of erw'⟩,_,rfl,.inl ⟨rfl,_,AD.of hF'.es⟩,_,rfl,t,_,_,_,rfl,rfl,A2.of a1',rfl,sl,.ref s',_,_,_,S'.cs.idxOf nx,hj,rfl,rfl,AD.of hF'.es,PZ (fun p c z=>HH z) hF'.st,HH (hx.ts t9'),hsh',hsx,hdx,?_,hy,hno,_,rfl,t,_,_,_,rfl,rfl,A2.of a1',rfl,(by show 2≤fL;decide),fun tp htp=>?_⟩
      ·rw[ac];omega
      have s10:=Ag htp (.tup [.int ((S'.cs.idxOf nx:Nat):Int),.ref dd])
      have etp:(upd HD tp (.tup [.int ((S'.cs.idxOf nx:Nat):Int),.ref dd])) tp=some (.tup [.int ((S'.cs.idxOf nx:Nat):Int),.ref dd]):=Ad
      generalize upd HD tp (.tup [.int ((S'.cs.idxOf nx:Nat):Int),.ref dd])=H10 at s10 etp ⊢
      have erw10:=s10 _ _ erw'
      refine⟨rw',_,_,rfl,rfl,erw10,by rw[hvl];exact Aw (by omega),?_⟩
      have t10:TS H10 (upd H10 rw' (.lst (vs++[.ref tp]))):=Ea erw10
      have t910:=t9'.trans ((B8 s10).trans t10)
      rw[hix]at etp
      refine⟨⟨S'.cs,S'.ws,S'.rows,S.row++[(((S.cs.length:Nat):Int),dE)]⟩,_,_,ps',qs',vs++[.ref tp],rfl,AH (s0'.trans s10) frw _,((hF'.same s10).other erw10 nw1 nw2 nw3 nw4).setRow,Ad,
       Z.snoc (hvs9.mono fun _ _ z=>BH.ts t910 z) ⟨tp,.ref dd,rfl,t10 _ _ etp,dd,rfl,t910 _ _ hdd⟩,hSt9.ts t910,t910 _ _ hWy9,hI'.row,by rw[← hn,er1],by show n<S'.cs.length;rw[ec1,ai];omega,by show(S.row++[_]).length=k+1;rw[ai,hrk];rfl,?_⟩
      rw[ec1,ew1,er1]
      exact hco
     ·refine⟨wl,_,_,rfl,rfl,(sB.trans (Ag hq1 _)) _ _ ewA,by rw[hql];exact Aw (by omega),?_⟩
      obtain⟨S',ps',qs',hF',hI',er1,ec1,ew1,t9',erw',s0'⟩:=goal q1 (upd HB q1 (.tup (wn.map V.int++[.int (k:Int)]))) (sB.trans (Ag hq1 _)) (by show(upd HB q1 _) q1=_;rw[Ad,am];rfl)
      generalize upd (upd HB q1 (.tup (wn.map V.int++[.int (k:Int)]))) wl (.lst (qs.map V.ref++[.ref q1]))=HD at hF' t9' erw' s0' ⊢
      have hin':nx∈S'.cs:=by rw[ec1];exact bg _ (au.mpr rfl)
      have hqv':∀x∈S'.cs,(Ki R x).eqv (Ki R nx)=decide (x=nx):=fun x hx=>K3 hG (hI'.rc x hx) hxr
      have hsh':∀e∈S'.cs.map (Ki R),SeqAt.shaped e=true:=fun e he=>by
       obtain⟨x,_,rfl⟩:=aJ.mp he
       exact BZ (Ef R x) (by decide)
      obtain⟨hj,hy,hno⟩:=idxD hqv' hin'
      have hix:S'.cs.idxOf nx=S.cs.length:=by rw[ec1,eW,if_neg hin,eC,Nat.zero_add]
      have h30':=hI'.le
      have a1':=t9' _ _ a1
      refine⟨_,rfl,.inl ⟨rfl,_,AD.of erw'⟩,_,rfl,.inl ⟨rfl,_,AD.of hF'.es⟩,_,rfl,t,_,_,_,rfl,rfl,A2.of a1',rfl,sl,.ref s',_,_,_,S'.cs.idxOf nx,hj,rfl,rfl,AD.of hF'.es,PZ (fun p c z=>HH z) hF'.st,HH (hx.ts t9'),hsh',hsx,hdx,?_,hy,hno,_,rfl,t,_,_,_,rfl,rfl,A2.of a1',rfl,(by show 2≤fL;decide),fun tp htp=>?_⟩
      ·rw[ac];omega
      have s10:=Ag htp (.tup [.int ((S'.cs.idxOf nx:Nat):Int),.ref dd])
      have etp:(upd HD tp (.tup [.int ((S'.cs.idxOf nx:Nat):Int),.ref dd])) tp=some (.tup [.int ((S'.cs.idxOf nx:Nat):Int),.ref dd]):=Ad
      generalize upd HD tp (.tup [.int ((S'.cs.idxOf nx:Nat):Int),.ref dd])=H10 at s10 etp ⊢
      have erw10:=s10 _ _ erw'
      refine⟨rw',_,_,rfl,rfl,erw10,by rw[hvl];exact Aw (by omega),?_⟩
      have t10:TS H10 (upd H10 rw' (.lst (vs++[.ref tp]))):=Ea erw10
      have t910:=t9'.trans ((B8 s10).trans t10)
      rw[hix]at etp
      refine⟨⟨S'.cs,S'.ws,S'.rows,S.row++[(((S.cs.length:Nat):Int),dE)]⟩,_,_,ps',qs',vs++[.ref tp],rfl,AH (s0'.trans s10) frw _,((hF'.same s10).other erw10 nw1 nw2 nw3 nw4).setRow,Ad,
       Z.snoc (hvs9.mono fun _ _ z=>BH.ts t910 z) ⟨tp,.ref dd,rfl,t10 _ _ etp,dd,rfl,t910 _ _ hdd⟩,hSt9.ts t910,t910 _ _ hWy9,hI'.row,by rw[← hn,er1],by show n<S'.cs.length;rw[ec1,ai];omega,by show(S.row++[_]).length=k+1;rw[ai,hrk];rfl,?_⟩
      rw[ec1,ew1,er1]
      exact hco
  ·rintro σ H8 ⟨S,v7,v8,ps,qs,vs,rfl,(s08:An _ _),hF,erw,hvs,hSt,hWy,hI,hn,hlt,hrk,hco⟩
   have lr:(rs.map V.ref).length=n:=by rw[ac,hF.rt.1,hn]
   have h30:=hI.le
   refine⟨_,rfl,.inl ⟨rfl,_,AD.of hF.er⟩,_,rfl,rl,_,_,rfl,rfl,hF.er,by rw[lr];exact Aw (by omega),?_⟩
   refine⟨⟨S.cs,S.ws,S.rows++[S.row],[]⟩,_,_,_,_,_,ps,qs,rs++[rw'],rfl,AH s08 frl _,hF.rowed erw hvs nw1 nw2 nw3,hI.row,by show(S.rows++[S.row]).length=n+1;rw[ai,hn];rfl,hlt,?_⟩
   rw[show 31 - (n+1)=30 - n by omega]
   exact hco
 ·rw[decide_eq_false (show ¬((rs.map V.ref).length:Int)<((ps.map V.ref).length:Int) by rw[lr,ls];omega)]
  refine A9 ?_
  rw[PF hlt]at hfo
  rw[hS0]at hfo
  cases hfo
  obtain⟨vss,hL,hZ⟩:=IV hF.rt
  refine⟨_,rfl,_,rfl,_,rfl,?_⟩
  intro fl dx hfl hdx nfd
  have kc:An H6 (upd (upd H6 dx (.own fl)) fl (.ins CF dx [])):=fun x o e=>by
   rw[Aj (Af e hfl),Aj (Af e hdx)];exact e
  refine⟨fl,dx,sl,rl,wl,rs,_,vss,_,rfl,Ad,kc _ _ hF.es,kc _ _ hF.er,hL.mono fun _ _ z=>kc _ _ z,kc _ _ hF.ew,?_,fun s' r' y' ps' H7 k7 o1 o2 o3 o4 o5 o6 o7 o8 o9=>⟨rfl,?_⟩⟩
  ·rw[ac]at lr;omega
  have s67:An H6 H7:=fun x o e=>k7 _ _ (kc _ _ e) (Af e hfl)
  exact q fl s' r' y' ps ps' qs H7 (s06.trans s67) ⟨⟨dx,o1⟩,o3,hF.st.mono fun _ _ z=>z.ts (B8 s67),o5,NA (B8 s67) o6 hZ,o9,hF.wt.mono fun _ _ z=>s67 _ _ z⟩ hI (by omega)
def goS(R:List Ai)(A:List Ap)(chs:List Int)(ev:Int):List Int:=Bb R A chs (tkL R A chs ev)
def chAt(R:List Ai)(A:List Ap)(evs:List Int)(k:Nat):List Int:=(evs.take k).foldl (goS R A) (Bt R)
def LK(R:List Ai)(A:List Ap)(evs:List Int)(k:Nat):List Int:=BO A (tkL R A (chAt R A evs k) (evs.getD k 0))
def HV(R:List Ai)(A:List Ap)(evs:List Int)(n:Nat):List (List V):=(ak n).map fun k=>(LK R A evs k).map V.int
theorem OG{xs:List Int}{i:Nat}{x:Int}(h:xs[i]?=some x):xs.getD i 0=x:=by
 rw[ag,h];rfl
theorem KM{R:List Ai}{A:List Ap}{evs:List Int}{k:Nat}{ev:Int}(h:evs[k]?=some ev):chAt R A evs (k+1)=goS R A (chAt R A evs k) ev:=by
 unfold chAt
 rw[bj,h,bI];rfl
theorem Q1{R:List Ai}(hG:AX R){A:List Ap}(hA:∀x∈A,AW R x):∀(evs chs:List Int),Eo R chs→Eo R (evs.foldl (goS R A) chs)
 | [],_,h=>h
 | _::r,chs,h=>Q1 hG hA r _ (KS hG hA _ chs Fh h)
theorem OQ{R:List Ai}(hG:AX R){A:List Ap}(hA:∀x∈A,AW R x)(evs:List Int)(k:Nat):Eo R (chAt R A evs k):=Q1 hG hA _ _ (JB hG)
theorem NN(R:List Ai)(A:List Ap)(evs:List Int)(n:Nat):HV R A evs (n+1)=HV R A evs n++[(LK R A evs n).map V.int]:=by
 unfold HV;rw[bh,am];rfl
theorem keepT{H:Hp}{a:fG}{xs:List V}{o:HO}(h:H a=some (.lst xs)){x:fG}{ys:List V}(e:H x=some (.tup ys)):(upd H a o) x=some (.tup ys):=by
 rw[Aj (fun z=>by rw[z,h]at e;cases e)];exact e
theorem AL.updL{H:Hp}{a:fG}{xs:List V}{o:HO}{ps:List fG}{os:List (List V)}(h:H a=some (.lst xs))(e:AL H ps os):AL (L2.upd H a o) ps os:=⟨e.1,fun i p u x y=>keepT h (e.2 i p u x y)⟩
theorem OD{xs:List Int}{i:Nat}{x:V}(hx:(xs.map V.int)[i]?=some x):∃z:Int,xs[i]?=some z∧x=.int z:=by
 rw[av]at hx
 cases e:xs[i]? with
 | none=>rw[e]at hx;cases hx
 | some z=>rw[e]at hx;exact⟨z,rfl,(br.inj hx).symm⟩
def RH(xss:List (List Int)):List (List V):=xss.map fun xs=>xs.map V.int
def Iz:Sp:=fun vs H Q _=>∃(f d:fG) (ps qs:List fG) (xss:List (List Int)),vs=[.ref f,.ref d]∧H f=some (.lst (ps.map V.ref))∧AL H ps (RH xss)∧H d=some (.lst (qs.map V.ref))∧AL H qs (RH xss)∧xss.length≤100∧(∀xs∈xss,xs.length≤100)∧Q (.bl true) H
theorem IN:AA ["found", "due", "k"] ["found", "due"] (Am DB):=⟨rfl,rfl,rfl,by decide +kernel,rfl,by decide +kernel,by decide +kernel⟩
theorem rw_at{H:Hp}{ps:List fG}{xss:List (List Int)}(h:AL H ps (RH xss)){i:Nat}(hi:i<xss.length):∃p,G6 (ps.map V.ref) (i:Int)=some (.ref p)∧H p=some (.tup (xss[i].map V.int)):=by
 obtain⟨p,a,b⟩:=h.at (i:=i) (o:=xss[i].map V.int) (by unfold RH;rw[av,aa hi];rfl)
 exact⟨p,by rw[Bo];exact a,b⟩
theorem Ln{f C fr:fG}{fd fdr:fO}(D:Al K mg "_law_rows_same" DB ["found", "due"] f fd)(T:DP K mg C)(Dr:Al K mg "_law_row" Nd ["found", "due"] fr fdr):AC P w K mg base A6 2 f fd ["found", "due"] Iz:=by
 have Gr:AC P w K mg base A6 1 fr fdr ["found", "due"] spRow:=ok_row Dr T
 refine D.fn.ok IN (fun vs H Q E h=>?_) (fun cdv A outer s H vs Q E hr h=>?_)
 ·obtain⟨a,d,ps,qs,xss,rfl,_⟩:=h
  rfl
 obtain⟨a,d,ps,qs,xss,rfl,ha,hI,hd,hJ,hx,hxs,q⟩:=h
 have lp:(ps.map V.ref).length=xss.length:=by rw[ac,hI.1];unfold RH;rw[ac]
 have lq:(qs.map V.ref).length=xss.length:=by rw[ac,hJ.1];unfold RH;rw[ac]
 refine⟨_,Ac (A0 (PW.pt (HJ (C8 (Cf (AF C4 (by rfl) T.inst (by decide +kernel) (Aa (pv 0) (Aa (GV (by rfl) T.list (by decide +kernel) (v:=.ty "list") rfl) Ab)))))
   (FY (AB E2 (AF At (by rfl) T.len PySem.boot_len (Aa (pv 0) Ab)) (AF At (by rfl) T.len PySem.boot_len (Aa (pv 1) Ab)) (AS _))))) AZ AJ)
  (Ac (Bd fR.never rfl (AV rfl T.range (Aa (AF At (by rfl) T.len PySem.boot_len (Aa (pv 1) Ab)) Ab)) (Az (i:=2) IN.nd rfl (Or.inl rfl))
   (Ak (A0 (C8 (Cf (Aq Gr hr rfl Dr.mg Dr.fn.kp Dr.bd .nil AE (Aa (Ao Au (pv 0) (pv 2) (fun _ _=>rfl)) (Aa (Ao Au (pv 1) (pv 2) (fun _ _=>rfl)) Ab))))) AZ AJ)))
  (Ak (AK HL))),?_⟩
 refine⟨_,rfl,_,_,_,_,rfl,.lst ha,T.ll,_,rfl,?_⟩
 refine A9 ?_
 refine⟨_,rfl,a,_,rfl,.inl (AD.of ha),_,rfl,d,_,rfl,.inl (AD.of hd),rfl,_,rfl,?_⟩
 rw[lp,lq]
 refine Jn rfl ?_
 refine⟨_,rfl,d,_,rfl,.inl (AD.of hd),_,rfl,by rw[lq];omega,by rw[lq];omega,?_⟩
 rw[lq]
 refine Bh (fun i σ H1=>∃v,σ=[some (.ref a),some (.ref d),v]∧H1=H) ⟨_,rfl,rfl⟩ ?_ ?_
 ·rintro i σ H1 hi ⟨v,rfl,rfl⟩
  have hi':i<xss.length:=by omega
  have ek:(0:Int)+(i:Int)=(i:Int):=by omega
  rw[ek]
  obtain⟨p1,a1,b1⟩:=rw_at hI hi'
  obtain⟨p2,a2,b2⟩:=rw_at hJ hi'
  refine⟨_,rfl,_,rfl,a,_,_,_,rfl,rfl,AD.of ha,a1,_,rfl,_,rfl,d,_,_,_,rfl,rfl,AD.of hd,a2,p1,p2,xss[i],rfl,b1,b2,hxs _ (aI hi'),_,rfl,?_⟩
  refine A9 ?_
  exact⟨_,rfl,rfl⟩
 ·rintro σ H1 ⟨v,rfl,rfl⟩
  exact q
theorem dds_rw(R:List Ai)(A:List Ap)(evs:List Int)(n:Nat):HV R A evs n=RH ((ak n).map (LK R A evs)):=by
 unfold HV RH;rw[bx];rfl
theorem Pw{xs:List Int}{ps:List fG}(h:xs.map V.int=ps.map V.ref):xs=[]:=by
 cases xs with
 | nil=>rfl
 | cons x r=>
  cases ps with
  | nil=>cases h
  | cons p q=>injection h with h _;cases h
theorem PQ{K:aj}{H:Hp}{a D:fG}{xs:List Int}{te:TE}{Q:VK}{v0:Option V}(hx:H a=some (.lst (xs.map V.int)))(hn:xs.length≤100)(hD:H D=ae)(hte:∀(z:Int) H' Q,Q (.int (z % 4)) H'→te [some (.int z)] H' Q)
  (q:∀H',An H H'→H' D=some (.lst ((xs.map fun z=>z % 4).map V.int))→Q (.ref D) H'):GD (Itl K a) (Jw 0) P4 te D Q [v0] (upd H D (.lst [])):=by
 refine BC (K:=K) (xs:=xs.map V.int) (Pv:=fun i ys σ H'=>(∃v,σ=[v])∧ys=((xs.take i).map fun z=>z % 4).map V.int∧An H H') ⟨⟨_,rfl⟩,rfl,Ag hD _⟩ (fun i ys σ H' _ _ ⟨_,_,s⟩=>AD.of (s _ _ hx)) ?_ ?_
 ·rintro i x ys σ H' hx' hDi ⟨⟨v,rfl⟩,hys,(s:An _ _)⟩
  obtain⟨z,hz,rfl⟩:=OD hx'
  refine hte _ _ _ ⟨hDi,?_,⟨_,rfl⟩,?_,AH s hD _⟩
  ·rw[hys,ac,ac,bc];exact Aw (by omega)
  ·have ht:xs.take (i+1)=xs.take i++[z]:=by rw[bj,hz];rfl
   rw[ht,am,am,← hys];rfl
 ·rintro ys σ H' hDn ⟨⟨v,rfl⟩,hys,(s:An _ _)⟩
  rw[ac,aN]at hys
  exact q H' s (by rw[hDn,hys])
structure Wk where
 nx:List Int→Int→List Int
 dd:List Int→Int→List Int
 pr:List Int→Int→Option (Nat×Nat)
 m:Nat
def Jr(W:Wk)(c w:List Int)(S:FS)(e:Int):Except Hz FS:=
 if W.nx c e∈S.cs then .ok ⟨S.cs,S.ws,S.rows,S.row++[(((S.cs.idxOf (W.nx c e):Nat):Int),W.dd c e)]⟩
 else if S.cs.length=W.m then .error .many
 else .ok ⟨S.cs++[W.nx c e],S.ws++[w++[e]],S.rows,S.row++[(((S.cs.length:Nat):Int),W.dd c e)]⟩
def EJ(W:Wk)(c w:List Int)(S:FS)(e:Int):Except Hz FS:=
 match W.pr c e with
 | some (i,j)=>.error (.clash (w++[e]) i j)
 | ae=>Jr W c w S e
def Gz(W:Wk)(c w:List Int):List Int→FS→Except Hz FS
 | [],S=>.ok S
 | e::r,S=>match EJ W c w S e with
  | .error x=>.error x
  | .ok S'=>Gz W c w r S'
def LB(W:Wk)(n:Nat)(S:FS):Except Hz FS:=Gz W (S.cs.getD n []) (S.ws.getD n []) [0,1,2,3] ⟨S.cs,S.ws,S.rows,[]⟩
def ML(W:Wk):Nat→Nat→FS→Except Hz FS
 | 0,_,S=>.ok S
 | f+1,n,S=>if n<S.cs.length then
   match LB W n S with
   | .error x=>.error x
   | .ok S'=>ML W f (n+1) ⟨S'.cs,S'.ws,S'.rows++[S'.row],[]⟩
  else .ok S
def R7:List Int→List Int→Prop
 | x::a,y::b=>x<y∨(x=y∧R7 a b)
 | _,_=>False
def SL(a b:List Int):Prop:=a.length<b.length∨(a.length=b.length∧R7 a b)
theorem Mx(p q:Int):∀(a b:List Int),R7 a b→R7 (a++[p]) (b++[q])
 | [],_,h=>by cases h
 | _::_,[],h=>by cases h
 | x::a,y::b,h=>by
  rcases h with h|⟨h,h'⟩
  ·exact .inl h
  ·exact .inr ⟨h,Mx p q a b h'⟩
theorem My{p q:Int}(h:p<q):∀(a:List Int),R7 (a++[p]) (a++[q])
 | []=>.inl h
 | _::a=>.inr ⟨rfl,My h a⟩
theorem SL.snoc{a b:List Int}(h:SL a b)(p q:Int):SL (a++[p]) (b++[q]):=by
 rcases h with h|⟨h,h'⟩
 ·left;rw[ai,ai];exact Nat.add_lt_add_right h 1
 ·right;exact⟨by rw[ai,ai,h];rfl,Mx p q a b h'⟩
theorem OU{p q:Int}(h:p<q)(a:List Int):SL (a++[p]) (a++[q]):=.inr ⟨by rw[ai,ai];rfl,My h a⟩
theorem SL_nil(a:List Int)(p:Int):SL [] (a++[p]):=.inl (by rw[ai];exact Nat.succ_pos _)
def Kb(W:Wk)(cs ws:List (List Int))(c u:List Int)(es:List Int)(r:List D0):Prop:=
 r.length=es.length∧∀(i:Nat) e x,es[i]?=some e→r[i]?=some x→W.pr c e=ae∧x.2=W.dd c e∧∃j:Nat,x.1=(j:Int)∧cs[j]?=some (W.nx c e)∧∃v,ws[j]?=some v∧(v=u++[e]∨SL v (u++[e]))
theorem DY{α:Type}{l m:List α}{i:Nat}{x:α}(h:l[i]?=some x):(l++m)[i]?=some x:=by
 have hi:=(af.mp h).1
 rw[aO hi];exact h
theorem BL{α:Type}{l:List α}{y x:α}{i:Nat}(h:(l++[y])[i]?=some x):l[i]?=some x∨(i=l.length∧x=y):=by
 by_cases hi:i<l.length
 ·rw[aO hi]at h;exact .inl h
 ·right
  rw[aT (by omega)]at h
  cases e:i - l.length with
  | zero=>rw[e]at h;exact⟨by omega,(br.inj h).symm⟩
  | succ k=>rw[e]at h;cases h
theorem Kb.mono{W:Wk}{cs ws cs' ws':List (List Int)}{c u es:List Int}{r:List D0}(h:Kb W cs ws c u es r):Kb W (cs++cs') (ws++ws') c u es r:=by
 refine⟨h.1,fun i e x a b=>?_⟩
 obtain⟨h1,h2,j,h3,h4,v,h5,h6⟩:=h.2 i e x a b
 exact⟨h1,h2,j,h3,DY h4,v,DY h5,h6⟩
structure GI(W:Wk)(f0:List Int)(S:FS)(n k:Nat):Prop where
 wl:S.ws.length=S.cs.length
 c0:S.cs[0]?=some f0
 w0:S.ws[0]?=some []
 nd:S.cs.Nodup
 go:∀(j:Nat) v c,S.ws[j]?=some v→S.cs[j]?=some c→v.foldl W.nx f0=c
 par:∀(j:Nat) v,S.ws[j]?=some v→v=[]∨∃(i:Nat) (u:List Int) (e:Int),S.ws[i]?=some u∧v=u++[e]∧0≤e∧e<4∧(i<n∨(i=n∧e<(k:Int)))
 srt:∀(i j:Nat) u v,i<j→S.ws[i]?=some u→S.ws[j]?=some v→SL u v
 rl:S.rows.length=n
 rw:∀(i:Nat) c u r,S.cs[i]?=some c→S.ws[i]?=some u→S.rows[i]?=some r→Kb W S.cs S.ws c u [0,1,2,3] r
theorem GI.below{W:Wk}{f0:List Int}{S:FS}{n k:Nat}(h:GI W f0 S n k){w:List Int}(hw:S.ws[n]?=some w){j:Nat}{v:List Int}(hv:S.ws[j]?=some v):SL v (w++[(k:Int)]):=by
 rcases h.par j v hv with rfl|⟨i,u,e,h1,rfl,h2,h3,h4⟩
 ·exact SL_nil _ _
 ·rcases h4 with h4|⟨rfl,h4⟩
  ·exact(h.srt i n u w h4 h1 hw).snoc _ _
  ·rw[h1]at hw;cases hw;exact OU h4 _
theorem QU{W:Wk}{f0:List Int}{S S':FS}{n k:Nat}{c w:List Int}(h:GI W f0 S n k)(hk:k<4)(hc:S.cs[n]?=some c)(hw:S.ws[n]?=some w)(hr:Kb W S.cs S.ws c w (([0,1,2,3]:List Int).take k) S.row)(hs:EJ W c w S (k:Int)=.ok S') :
  GI W f0 S' n (k+1)∧S'.cs[n]?=some c∧S'.ws[n]?=some w∧Kb W S'.cs S'.ws c w (([0,1,2,3]:List Int).take (k+1)) S'.row:=by
 unfold EJ at hs
 split at hs
 ·cases hs
 rename_i hp
 have par':∀{i:Nat} {e:Int},(i<n∨(i=n∧e<(k:Int)))→(i<n∨(i=n∧e<((k+1:Nat):Int))):=fun z=>by
  rcases z with z|⟨z,z'⟩
  ·exact .inl z
  ·exact .inr ⟨z,by omega⟩
 have hek:([0,1,2,3]:List Int)[k]?=some (k:Int):=by
  match k,hk with
  | 0,_=>rfl
  | 1,_=>rfl
  | 2,_=>rfl
  | 3,_=>rfl
 have tk:([0,1,2,3]:List Int).take (k+1)=([0,1,2,3]:List Int).take k++[(k:Int)]:=by rw[bj,hek];rfl
 have rowx:∀{cs ws:List (List Int)} {r:List D0} {x:D0},Kb W cs ws c w (([0,1,2,3]:List Int).take k) r→(x.2=W.dd c (k:Int)∧∃j:Nat,x.1=(j:Int)∧cs[j]?=some (W.nx c (k:Int))∧∃v,ws[j]?=some v∧(v=w++[(k:Int)]∨SL v (w++[(k:Int)]))) →
   Kb W cs ws c w (([0,1,2,3]:List Int).take (k+1)) (r++[x]):=fun{cs ws r x} hr hx=>by
  rw[tk]
  refine⟨by rw[ai,ai,hr.1];rfl,fun i e y a b=>?_⟩
  rcases BL b with b|⟨b,rfl⟩
  ·rcases BL a with a|⟨a,rfl⟩
   ·exact hr.2 i e y a b
   ·have:=(af.mp b).1
    rw[hr.1]at this
    omega
  ·rcases BL a with a|⟨a,rfl⟩
   ·have:=(af.mp a).1
    rw[← hr.1]at this
    omega
   ·exact⟨hp,hx⟩
 unfold Jr at hs
 split at hs
 ·rename_i hin
  cases hs
  refine⟨⟨h.wl,h.c0,h.w0,h.nd,h.go,fun j v hv=>?_,h.srt,h.rl,h.rw⟩,hc,hw,rowx hr ⟨rfl,S.cs.idxOf (W.nx c (k:Int)),rfl,?_,?_⟩⟩
  ·rcases h.par j v hv with z|⟨i,u,e,h1,h2,h3,h4,h5⟩
   ·exact .inl z
   ·exact .inr ⟨i,u,e,h1,h2,h3,h4,par' h5⟩
  ·rw[aa (bo.mpr hin),cu]
  ·have hl:S.cs.idxOf (W.nx c (k:Int))<S.ws.length:=by rw[h.wl];exact bo.mpr hin
   exact⟨_,aa hl,.inr (h.below hw (aa hl))⟩
 ·rename_i hin
  split at hs
  ·cases hs
  cases hs
  refine⟨⟨?_,DY h.c0,DY h.w0,?_,fun j v c' hv hc'=>?_,fun j v hv=>?_,fun i j u v hij hu hv=>?_,h.rl,fun i c' u r a b d=>?_⟩,DY hc,DY hw,rowx hr.mono ⟨rfl,S.cs.length,rfl,?_,w++[(k:Int)],?_,.inl rfl⟩⟩
  ·show(S.ws++[_]).length=(S.cs++[_]).length
   rw[ai,ai,h.wl];rfl
  ·refine bB.mpr ⟨h.nd,bm.mpr ⟨by simp,bD⟩,fun x hx y hy e=>?_⟩
   rw[e,au.mp hy]at hx
   exact hin hx
  ·rcases BL hv with hv|⟨ej,rfl⟩
   ·rcases BL hc' with hc'|⟨ej,_⟩
    ·exact h.go j v c' hv hc'
    ·have:=(af.mp hv).1
     rw[h.wl]at this
     omega
   ·rcases BL hc' with hc'|⟨_,rfl⟩
    ·have:=(af.mp hc').1
     have:=h.wl
     omega
    ·rw[bI]
     show W.nx (w.foldl W.nx f0) (k:Int)=_
     rw[h.go n w c hw hc]
  ·rcases BL hv with hv|⟨ej,rfl⟩
   ·rcases h.par j v hv with z|⟨i,u,e,h1,h2,h3,h4,h5⟩
    ·exact .inl z
    ·exact .inr ⟨i,u,e,DY h1,h2,h3,h4,par' h5⟩
   ·exact .inr ⟨n,w,(k:Int),DY hw,rfl,by omega,by omega,.inr ⟨rfl,by omega⟩⟩
  ·rcases BL hv with hv|⟨ej,rfl⟩
   ·rcases BL hu with hu|⟨ei,_⟩
    ·exact h.srt i j u v hij hu hv
    ·have:=(af.mp hv).1
     omega
   ·rcases BL hu with hu|⟨ei,_⟩
    ·exact h.below hw hu
    ·omega
  ·rcases BL a with a|⟨ei,_⟩
   ·rcases BL b with b|⟨ei,_⟩
    ·exact(h.rw i c' u r a b d).mono
    ·have:=(af.mp a).1
     have:=h.wl
     omega
   ·have:=(af.mp d).1
    rw[h.rl]at this
    have:=(af.mp hc).1
    omega
  ·show(S.cs++[_])[S.cs.length]?=_
   rw[aT (aE _),eX];rfl
  ·show(S.ws++[_])[S.cs.length]?=_
   rw[← h.wl,aT (aE _),eX];rfl
theorem LD{W:Wk}{f0 c w:List Int}{n:Nat}:∀(es:List Int) (k:Nat) {S S':FS},es=([0,1,2,3]:List Int).drop k→k≤4→GI W f0 S n k→S.cs[n]?=some c→S.ws[n]?=some w→Kb W S.cs S.ws c w (([0,1,2,3]:List Int).take k) S.row→Gz W c w es S=.ok S' →
  GI W f0 S' n 4∧S'.cs[n]?=some c∧S'.ws[n]?=some w∧Kb W S'.cs S'.ws c w [0,1,2,3] S'.row
 | [],k,S,S',he,hk,h,hc,hw,hr,hs=>by
  have e4:k=4:=by
   have:=congrArg d4 he
   rw[bV]at this
   simp only[bf,cy]at this
   omega
  subst e4
  cases hs
  exact⟨h,hc,hw,hr⟩
 | e::es,k,S,S',he,hk,h,hc,hw,hr,hs=>by
  have hk4:k<4:=by
   have:=congrArg d4 he
   rw[bV]at this
   simp only[bf,cy]at this
   omega
  have hh:e=(k:Int)∧es=([0,1,2,3]:List Int).drop (k+1):=by
   match k,hk4,he with
   | 0,_,he=>cases he;exact⟨rfl,rfl⟩
   | 1,_,he=>cases he;exact⟨rfl,rfl⟩
   | 2,_,he=>cases he;exact⟨rfl,rfl⟩
   | 3,_,he=>cases he;exact⟨rfl,rfl⟩
  obtain⟨rfl,he'⟩:=hh
  unfold Gz at hs
  split at hs
  ·cases hs
  ·rename_i S1 h1
   obtain⟨a1,a2,a3,a4⟩:=QU h hk4 hc hw hr h1
   exact LD es (k+1) he' hk4 a1 a2 a3 a4 hs
theorem MK{W:Wk}{f0:List Int}:∀(f n:Nat) {S S':FS},GI W f0 S n 0→ML W f n S=.ok S'→GI W f0 S' S'.rows.length 0
 | 0,n,S,S',h,hs=>by cases hs;rw[h.rl];exact h
 | f+1,n,S,S',h,hs=>by
  unfold ML at hs
  split at hs
  ·rename_i hlt
   split at hs
   ·cases hs
   ·rename_i S1 h1
    unfold LB at h1
    have hc:=aa hlt
    have hw:=aa (show n<S.ws.length by rw[h.wl];exact hlt)
    rw[ag,ag,hc,hw]at h1
    obtain⟨b,b1,b2,b3⟩:=LD (f0:=f0) (n:=n) [0,1,2,3] 0 (S:=⟨S.cs,S.ws,S.rows,[]⟩) rfl (by decide) ⟨h.wl,h.c0,h.w0,h.nd,h.go,h.par,h.srt,h.rl,h.rw⟩ hc hw ⟨rfl,fun i e x a _=>by cases a⟩ h1
    refine MK f (n+1) (S:=⟨S1.cs,S1.ws,S1.rows++[S1.row],[]⟩) ⟨b.wl,b.c0,b.w0,b.nd,b.go,fun j v hv=>?_,b.srt,?_,fun i c u r x y z=>?_⟩ hs
    ·rcases b.par j v hv with z|⟨i,u,e,g1,g2,g3,g4,g5⟩
     ·exact .inl z
     ·refine .inr ⟨i,u,e,g1,g2,g3,g4,.inl ?_⟩
      rcases g5 with g5|⟨g5,_⟩<;>omega
    ·show(S1.rows++[S1.row]).length=n+1
     rw[ai,b.rl];rfl
    ·rcases BL z with z|⟨ei,rfl⟩
     ·exact b.rw i c u r x y z
     ·rw[b.rl]at ei
      subst ei
      rw[b1]at x
      rw[b2]at y
      cases x
      cases y
      exact b3
  ·cases hs;rw[h.rl];exact h
theorem MJ(W:Wk)(f0:List Int):GI W f0 ⟨[f0],[[]],[],[]⟩ 0 0:=by
 refine⟨rfl,rfl,rfl,bm.mpr ⟨by simp,bD⟩,fun j v c a b=>?_,fun j v a=>?_,fun i j u v hij a b=>?_,rfl,fun i c u r a b d=>by cases d⟩
 ·cases j with
  | zero=>cases a;cases b;rfl
  | succ j=>cases a
 ·cases j with
  | zero=>cases a;exact .inl rfl
  | succ j=>cases a
 ·cases j with
  | zero=>omega
  | succ j=>cases b
theorem GI.ent{W:Wk}{f0:List Int}{S:FS}{k:Nat}(h:GI W f0 S S.rows.length k)(hl:S.rows.length=S.cs.length){n:Nat}{c:List Int}(hc:S.cs[n]?=some c){e:Nat}(he:e<4):∃(r:List D0) (w:List Int) (j:Nat) (v:List Int),S.rows[n]?=some r∧r.length=4∧r[e]?=some ((j:Int),W.dd c (e:Int))∧S.cs[j]?=some (W.nx c (e:Int))∧W.pr c (e:Int)=ae ∧
  S.ws[n]?=some w∧S.ws[j]?=some v∧(v=w++[(e:Int)]∨SL v (w++[(e:Int)])):=by
 have hn:=(af.mp hc).1
 have hr:=aa (show n<S.rows.length by rw[hl];exact hn)
 have hw:=aa (show n<S.ws.length by rw[h.wl];exact hn)
 obtain⟨h4,hrow⟩:=h.rw n c _ _ hc hw hr
 have h4':(S.rows[n]'(by rw[hl];exact hn)).length=4:=h4
 have hx:=aa (show e<(S.rows[n]'(by rw[hl];exact hn)).length by omega)
 have hek:([0,1,2,3]:List Int)[e]?=some (e:Int):=by
  match e,he with
  | 0,_=>rfl
  | 1,_=>rfl
  | 2,_=>rfl
  | 3,_=>rfl
 obtain⟨g1,g2,j,g3,g4,v,g5,g6⟩:=hrow e _ _ hek hx
 refine⟨_,_,j,v,hr,h4',?_,g4,g1,hw,g5,g6⟩
 rw[hx,← g2,← g3]
structure OW(mg:Str→Option fF):Prop where
 behind:∃t,mg "BEHIND" = some (.int 0 t)
 deeds:∃t,mg "DEEDS" = some (.int 1 t)
abbrev MOk:=BV
def AQ(M:Bf)(n e:Nat):D0:=(M.getD n []).getD e (0,[])
theorem Bn{M:Bf}(G:MOk M){n e:Nat}(hn:n<M.length)(he:e<4):∃r,M[n]?=some r∧r.length=4∧r[e]?=some (AQ M n e)∧0≤(AQ M n e).1∧(AQ M n e).1<M.length∧(AQ M n e).2.length≤100:=by
 have hm:M[n]∈M:=aI hn
 have h4:=G.four _ hm
 have ee:AQ M n e=M[n][e]'(by omega):=by
  unfold AQ
  rw[ag,ag,aa hn]
  rw[fB,aa (show e<M[n].length by omega)];rfl
 have hme:M[n][e]'(by omega)∈M[n]:=aI _
 refine⟨M[n],aa hn,h4,?_,?_⟩
 ·rw[ee];exact aa (by omega)
 ·rw[ee]
  exact⟨(G.to _ hm _ hme).1,(G.to _ hm _ hme).2,G.few _ hm _ hme⟩
def Ob(C:fG):Sp:=fun vs H Q _=>∃(c s r y:fG) (ps:List fG) (S W:List V) (M:Bf) (n e:Nat),vs=[.ref c,.int n,.int e]∧CL C H c s r y ps S M W∧MOk M∧n<M.length∧e<4∧∀v,BH H v (AQ M n e)→Q v H
theorem Of:AA ["flat", "number", "event", "row"] ["flat", "number", "event"] (Am FU):=⟨rfl,rfl,rfl,by decide +kernel,rfl,by decide +kernel,by decide +kernel⟩
theorem Qx{f C C0:fG}{fd:fO}(D:Al K mg "entry_of" FU ["flat", "number", "event"] f fd)(T:DP K mg C0)(TF:KW K mg C)(B:OW mg):AC P w K mg base A6 1 f fd ["flat", "number", "event"] (Ob C):=by
 refine D.fn.ok Of (fun vs H Q E h=>?_) (fun cdv A outer s H vs Q E hr h=>?_)
 ·obtain⟨c,s,r,y,ps,S,W,M,n,e,rfl,_⟩:=h
  rfl
 obtain⟨c,sa,ra,ya,ps,S,W,M,n,e,rfl,hF,hG,hn,he,q⟩:=h
 refine⟨_,Ac (Ar (i:=3) Of.nd rfl (Or.inl rfl) (Ao Au (A3 (pv 0) rfl) (pv 1) (fun _ _=>rfl)))
  (Ac (A0 (GU Ky Om Ah (pv 2) (AF At (by rfl) T.len PySem.boot_len (Aa (pv 3) Ab))) (Ak (AK (Ao Au (pv 3) (pv 2) (fun _ _=>rfl)))) AJ)
  AZ),?_⟩
 obtain⟨⟨dx,h1⟩,h2,h3,h4,h5⟩:=hF
 obtain⟨row,er,hr4,ee,_⟩:=Bn hG hn he
 obtain⟨p,hp,vs,hv,hE⟩:=h4.at er
 obtain⟨v,hv2,hv3⟩:=hE.at ee
 have hp':(ps.map V.ref)[n]?=some (.ref p):=by rw[av,hp];rfl
 refine⟨_,rfl,c,C,dx,_,_,rfl,h1,TF.cl,TF.nR,B6 sa ra ya,_,rfl,ra,_,_,_,rfl,rfl,AD.of h3,Bo hp',?_⟩
 refine⟨_,rfl,_,_,rfl,rfl,_,rfl,?_⟩
 rw[decide_eq_true (show(0:Int)≤(e:Int) by omega)]
 refine Bw ?_
 refine⟨_,rfl,p,_,rfl,.inl (AD.of hv),_,_,rfl,rfl,_,rfl,?_⟩
 have hl:vs.length=4:=by rw[hE.1,hr4]
 rw[hl,decide_eq_true (show(e:Int)<((4:Nat):Int) by omega)]
 refine Bw ?_
 exact⟨_,rfl,_,rfl,p,_,_,_,rfl,rfl,AD.of hv,Bo hv2,q v hv3⟩
def BQ(M:Bf)(evs:List Nat):Nat×List (List Int):=evs.foldl (fun st e=>((AQ M st.1 e).1.toNat,st.2++[(AQ M st.1 e).2])) (0,[])
theorem FJ(M:Bf)(evs:List Nat)(e:Nat):BQ M (evs++[e])=((AQ M (BQ M evs).1 e).1.toNat,(BQ M evs).2++[(AQ M (BQ M evs).1 e).2]):=by
 unfold BQ
 rw[bI];rfl
theorem LW{M:Bf}(G:MOk M):∀(n:Nat) (evs:List Nat),evs.length=n→(∀e∈evs,e<4)→(BQ M evs).1<M.length∧(BQ M evs).2.length=n∧∀ds∈(BQ M evs).2,ds.length≤100
 | 0,evs,hl,_=>by
  have:evs=[]:=cK.mp hl
  subst this
  exact⟨G.pos,rfl,fun ds h=>by simp[BQ]at h⟩
 | n+1,evs,hl,h=>by
  obtain⟨ini,e,rfl⟩:∃ini e,evs=ini++[e]:=⟨evs.dropLast,evs.getLast (by intro z;rw[z]at hl;simp at hl),(List.dropLast_concat_getLast _).symm⟩
  obtain⟨i1,i2,i3⟩:=LW G n ini (by simpa using hl) fun x hx=>h x (bN _ hx)
  obtain⟨r,_,_,_,g1,g2,g3⟩:=Bn G i1 (h e (by simp))
  rw[FJ]
  refine⟨?_,by simp[i2],fun ds hd=>?_⟩
  ·show(AQ M (BQ M ini).1 e).1.toNat<_
   omega
  ·rcases aP.mp hd with z|z
   ·exact i3 ds z
   ·have z':ds=(AQ M (BQ M ini).1 e).2:=by simpa using z
    rw[z'];exact g3
def Qe(C:fG):Sp:=fun vs H Q _=>∃(c s r y l:fG) (ps:List fG) (S W:List V) (M:Bf) (evs:List Nat),vs=[.ref c,.ref l]∧CL C H c s r y ps S M W∧MOk M∧H l=some (.lst (evs.map fun(e:Nat)=>V.int (e:Int)))∧(∀e∈evs,e<4)∧evs.length≤100 ∧
 ∀(t d:fG) (ds:List V) (H':Hp),An H H'→H' t=some (.tup [.int ((BQ M evs).1:Nat),.ref d])→H' d=some (.lst ds)→Z (Bv H') ds (BQ M evs).2→Q (.ref t) H'
theorem Hg:AA ["flat", "events", "number", "deeds", "event", "entry"] ["flat", "events"] (Am Ku):=⟨rfl,rfl,rfl,by decide +kernel,rfl,by decide +kernel,by decide +kernel⟩
theorem R1{f C C0 fe:fG}{fd fde:fO}(D:Al K mg "flat_run" Ku ["flat", "events"] f fd)(T:DP K mg C0)(TF:KW K mg C)(B:OW mg)(De:Al K mg "entry_of" FU ["flat", "number", "event"] fe fde):AC P w K mg base A6 2 f fd ["flat", "events"] (Qe C):=by
 have Ge:AC P w K mg base A6 1 fe fde ["flat", "number", "event"] (Ob C):=Qx De T TF B
 refine D.fn.ok Hg (fun vs H Q E h=>?_) (fun cdv A outer s H vs Q E hr h=>?_)
 ·obtain⟨c,s,r,y,l,ps,S,W,M,evs,rfl,_⟩:=h
  rfl
 obtain⟨c,sa,ra,ya,l,ps,S,W,M,evs,rfl,hF,hG,hl,h4,hlen,q⟩:=h
 refine⟨_,Ac (Ar (i:=2) Hg.nd rfl (Or.inl rfl) Ah)
  (Ac (Ar (i:=3) Hg.nd rfl (Or.inl rfl) (Bj Ab))
  (Ac (Bd fR.never rfl (Bi (pv 1)) (Az (i:=4) Hg.nd rfl (Or.inl rfl))
   (Ac (Ar (i:=5) Hg.nd rfl (Or.inl rfl) (Aq Ge hr rfl De.mg De.fn.kp De.bd .nil AE (Aa (pv 0) (Aa (pv 2) (Aa (pv 4) Ab)))))
   (Ac (Ar (i:=2) Hg.nd rfl (Or.inl rfl) (Ao Av (pv 5) (AG B.behind rfl) (fun _ _=>rfl)))
   (Ak (AT (BF ax aB aD AU (pv 3) (Aa (Ao Av (pv 5) (AG B.deeds rfl) (fun _ _=>rfl)) Ab)))))))
  (Ak (AK (AY (Aa (pv 2) (Aa (pv 3) Ab))))))),?_⟩
 refine⟨(by show 0≤fL;decide),fun d hd=>?_⟩
 have s1:=Ag hd (.lst [])
 refine⟨_,rfl,l,rfl,⟨_,AD.of (s1 _ _ hl)⟩,?_⟩
 refine Cl (K:=K) (xs:=evs.map fun(e:Nat)=>V.int (e:Int)) (fun i σ H1=>∃v4 v5 ds,σ=[some (.ref c),some (.ref l),some (.int ((BQ M (evs.take i)).1:Nat)),some (.ref d),v4,v5]∧An H H1∧H1 d=some (.lst ds)∧Z (Bv H1) ds (BQ M (evs.take i)).2) ⟨_,_,[],rfl,s1,Ad,Z.nil⟩ ?_ ?_ ?_
 ·rintro i σ H1 hi ⟨v4,v5,ds,rfl,s2,_,_⟩
  exact AD.of (s2 _ _ hl)
 ·rintro i x σ H1 hx ⟨v4,v5,ds,rfl,s2,e2,hZ⟩
  obtain⟨e,he,rfl⟩:∃e,evs[i]?=some e∧V.int (e:Int)=x:=by
   rw[av]at hx
   cases z:evs[i]? with
   | none=>rw[z]at hx;simp at hx
   | some p=>rw[z]at hx;exact⟨p,rfl,by simpa using hx⟩
  have hi:i<evs.length:=(af.mp he).1
  have ht4:∀x∈evs.take i,x<4:=fun x hx=>h4 x (c8 hx)
  obtain⟨w1,w2,w3⟩:=LW hG _ (evs.take i) rfl ht4
  have he4:=h4 e (ay he)
  obtain⟨_,_,_,_,g1,g2,g3⟩:=Bn hG w1 he4
  refine⟨_,rfl,_,rfl,_,rfl,c,sa,ra,ya,ps,S,W,M,_,e,rfl,hF.same s2,hG,w1,he4,fun v hv=>?_⟩
  obtain⟨t,u,rfl,ht,hu⟩:=hv
  refine⟨_,rfl,t,_,_,_,rfl,rfl,A2.of ht,rfl,?_⟩
  refine⟨_,rfl,.inl ⟨rfl,_,AD.of e2⟩,_,rfl,t,_,_,_,rfl,rfl,A2.of ht,rfl,d,_,_,rfl,rfl,e2,?_,?_⟩
  ·rw[hZ.1,w2,bc];exact Aw (by omega)
  have kp:En d H1 (upd H1 d (.lst (ds++[u]))):=fun x o ex n=>by rw[Aj n];exact ex
  have et:BQ M (evs.take (i+1))=((AQ M (BQ M (evs.take i)).1 e).1.toNat,(BQ M (evs.take i)).2++[(AQ M (BQ M (evs.take i)).1 e).2]):=by
   rw[bY,he];exact FJ M _ e
  refine⟨some (.int e),some (.ref t),ds++[u],?_,fun x o ex=>kp x o (s2 _ _ ex) (Af ex hd),Ad,?_⟩
  ·rw[et]
   have z:(((AQ M (BQ M (evs.take i)).1 e).1.toNat:Nat):Int)=(AQ M (BQ M (evs.take i)).1 e).1:=by omega
   show _=[some (V.ref c),some (V.ref l),some (V.int (((AQ M (BQ M (evs.take i)).1 e).1.toNat:Nat):Int)),some (V.ref d),_,_]
   rw[z];rfl
  ·rw[et]
   exact Z.snoc (hZ.mono fun _ _ z=>z.keep kp (Cc e2)) (hu.keep kp (Cc e2))
 ·rintro σ H1 ⟨v4,v5,ds,rfl,s2,e2,hZ⟩
  rw[ac,aN]at hZ
  rw[ac,aN]
  refine⟨_,rfl,_,rfl,(by show 2≤fL;decide),fun t ht=>?_⟩
  have s3:=Ag ht (.tup [.int ((BQ M evs).1:Nat),.ref d])
  exact q t d ds _ (s2.trans s3) Ad (s3 _ _ e2) (hZ.mono fun _ _ z=>z.same s3)
def Rt(R:List Ai)(A:List Ap):Wk:=⟨nxE R A,Sn R A,fun c e=>Br (EO R A) (tkL R A c e),30⟩
theorem Q8{R:List Ai}{A:List Ap}{c w:List Int}:∀(es:List Int) (S:FS),EN R A c w es S=Gz (Rt R A) c w es S
 | [],S=>rfl
 | e::es,S=>by
  have h1:E9 R A c w S e=EJ (Rt R A) c w S e:=rfl
  unfold EN Gz
  rw[h1]
  cases EJ (Rt R A) c w S e with
  | error x=>rfl
  | ok S1=>exact Q8 es S1
theorem OI{R:List Ai}{A:List Ap}:∀(f n:Nat) (S:FS),C3 R A f n S=ML (Rt R A) f n S
 | 0,n,S=>rfl
 | f+1,n,S=>by
  have h1:MN R A n S=LB (Rt R A) n S:=Q8 _ _
  unfold C3 ML
  rw[h1]
  split
  ·cases LB (Rt R A) n S with
   | error x=>rfl
   | ok S1=>exact OI f (n+1) _
  ·rfl
theorem Sh{R:List Ai}{A:List Ap}{S:FS}(h:DL R A=.ok S):GI (Rt R A) (Bt R) S S.rows.length 0:=by
 unfold DL at h
 rw[OI]at h
 exact MK 31 0 (MJ _ _) h
theorem Lq{α:Type}{l:List α}{x:α}(h:x∈l):∃i:Nat,l[i]?=some x:=by
 obtain⟨i,hi,rfl⟩:=ez.mp h
 exact⟨i,aa hi⟩
theorem Sm(R:List Ai)(A:List Ap)(c:List Int)(e:Int):(Sn R A c e).length≤A.length:=by
 unfold Sn BO
 rw[ac]
 exact GB R A (kI R c) e
theorem Q5{R:List Ai}{A:List Ap}{S:FS}(h:GI (Rt R A) (Bt R) S S.rows.length 0)(hl:S.rows.length=S.cs.length)(h30:S.cs.length≤30)(hal:A.length≤100):MOk S.rows:=by
 have one:∀r∈S.rows,r.length=4∧∀x∈r,(0≤x.1∧x.1<S.rows.length)∧x.2.length≤100:=fun r hr=>by
  obtain⟨i,hi⟩:=Lq hr
  have hil:=(af.mp hi).1
  have hc:=aa (show i<S.cs.length by rw[← hl];exact hil)
  have hw:=aa (show i<S.ws.length by rw[h.wl,← hl];exact hil)
  obtain⟨g1,g2⟩:=h.rw i _ _ r hc hw hi
  refine⟨g1,fun x hx=>?_⟩
  obtain⟨k,hk⟩:=Lq hx
  have hkl:=(af.mp hk).1
  obtain⟨a1,a2,j,a3,a4,_⟩:=g2 k _ x (aa (show k<([0,1,2,3]:List Int).length by rw[← g1];exact hkl)) hk
  have hj:=(af.mp a4).1
  refine⟨by rw[a3,hl];omega,?_⟩
  rw[a2]
  exact aU (Sm R A _ _) hal
 refine⟨?_,by omega,fun r hr=>(one r hr).1,fun r hr e he=>((one r hr).2 e he).1,fun r hr e he=>((one r hr).2 e he).2⟩
 have:=(af.mp h.c0).1
 omega
theorem Rf{R:List Ai}{A:List Ap}{S:FS}(h:GI (Rt R A) (Bt R) S S.rows.length 0)(hl:S.rows.length=S.cs.length){n:Nat}{c:List Int}(hc:S.cs[n]?=some c){e:Nat}(he:e<4):∃j:Nat,AQ S.rows n e=((j:Int),Sn R A c (e:Int))∧S.cs[j]?=some (nxE R A c (e:Int)):=by
 obtain⟨r,w,j,v,g1,g2,g3,g4,_⟩:=h.ent hl hc he
 refine⟨j,?_,g4⟩
 unfold AQ
 rw[ag,ag,g1,fB,g3];rfl
theorem Kd{R:List Ai}{A:List Ap}{S:FS}(h:GI (Rt R A) (Bt R) S S.rows.length 0)(hl:S.rows.length=S.cs.length){es:List Nat}(h4:∀e∈es,e<4):∀i,i≤es.length →
  S.cs[(BQ S.rows (es.take i)).1]?=some (chAt R A (es.map fun(e:Nat)=>(e:Int)) i)∧(BQ S.rows (es.take i)).2=(ak i).map (LK R A (es.map fun(e:Nat)=>(e:Int)))
 | 0,_=>⟨h.c0,rfl⟩
 | i+1,hi=>by
  obtain⟨a1,a2⟩:=Kd h hl h4 i (by omega)
  have he:=aa (show i<es.length by omega)
  have hev:(es.map fun(e:Nat)=>(e:Int))[i]?=some ((es[i]'(by omega):Nat):Int):=by rw[av,he];rfl
  obtain⟨j,b1,b2⟩:=Rf h hl a1 (h4 _ (aI (show i<es.length by omega)))
  have ht:es.take (i+1)=es.take i++[es[i]'(by omega)]:=by rw[bj,he];rfl
  rw[ht,FJ,b1]
  refine⟨?_,?_⟩
  ·show S.cs[((j:Int)).toNat]?=_
   rw[aA,b2,KM hev];rfl
  ·rw[bh,am,← a2]
   show _++[Sn R A _ _]=_++[LK R A _ i]
   unfold LK
   rw[OG hev];rfl
theorem NS{H:Hp}:∀{ds:List V} {xss:List (List Int)},Z (Bv H) ds xss→∃ps:List fG,ds=ps.map V.ref∧AL H ps (RH xss)
 | [],[],_=>⟨[],rfl,rfl,fun i p o a _=>by cases a⟩
 | [],_::_,h=>by have:=h.1;simp at this
 | _::_,[],h=>by have:=h.1;simp at this
 | d::ds,x::xss,h=>by
  obtain⟨p,rfl,hp⟩:=h.uncons.1
  obtain⟨ps,rfl,h2,h3⟩:=NS h.uncons.2
  refine⟨p::ps,rfl,congrArg (·+1) h2,fun i q o a b=>?_⟩
  cases i with
  | zero=>cases a;cases b;exact hp
  | succ i=>exact h3 i q o a b
theorem QG(zs:List Int):∃es:List Nat,(zs.map fun z=>z % 4)=(es.map fun(e:Nat)=>(e:Int))∧∀e∈es,e<4:=by
 refine⟨zs.map fun z=>(z % 4).toNat,?_,fun e he=>?_⟩
 ·rw[bx]
  refine bT fun z _=>?_
  show z % 4=(((z % 4).toNat:Nat):Int)
  omega
 ·obtain⟨z,_,rfl⟩:=aJ.mp he
  omega
theorem Sf{R:List Ai}(hG:AX R){A:List Ap}(hA:∀x∈A,AW R x)(hfew:E5 R≤29){c w:List Int}{e:Int}{S:FS}(hp:Br (EO R A) (tkL R A c e)=ae)(hc:RC R c)(h1:∀x∈S.cs,RC R x)(h2:S.cs.Nodup) :
  ∃S',LE R A c w S e=.ok S'∧(∀x∈S'.cs,RC R x)∧S'.cs.Nodup∧S.cs.length≤S'.cs.length:=by
 have hx:RC R (nxE R A c e):=NX hG hA hc hp
 unfold LE
 by_cases hin:nxE R A c e∈S.cs
 ·rw[if_pos hin]
  exact⟨_,rfl,h1,h2,aE _⟩
 ·rw[if_neg hin,if_neg (fun z=>by have:=few_of hfew h2 h1;omega)]
  refine⟨_,rfl,fun x hm=>?_,?_,?_⟩
  ·rcases aP.mp hm with z|z
   ·exact h1 x z
   ·rw[au.mp z];exact hx
  ·refine bB.mpr ⟨h2,bm.mpr ⟨by simp,bD⟩,fun x hx y hy e=>?_⟩
   rw[e,au.mp hy]at hx
   exact hin hx
  ·show S.cs.length≤(S.cs++[_]).length
   rw[ai];omega
theorem LH{R:List Ai}(hG:AX R){A:List Ap}(hA:∀x∈A,AW R x)(hfew:E5 R≤29){c w:List Int}(hc:RC R c):∀(es:List Int) (S:FS),(∀x∈S.cs,RC R x)→S.cs.Nodup →
  EN R A c w es S≠.error .many∧∀S',EN R A c w es S=.ok S'→(∀x∈S'.cs,RC R x)∧S'.cs.Nodup
 | [],S,h1,h2=>⟨fun z=>(by cases z),fun S' z=>by cases z;exact⟨h1,h2⟩⟩
 | e::es,S,h1,h2=>by
  unfold EN E9
  cases hp:Br (EO R A) (tkL R A c e) with
  | some ij=>exact⟨fun z=>(by cases z),fun S' z=>by cases z⟩
  | none=>
   obtain⟨S1,g1,g2,g3,_⟩:=Sf (w:=w) hG hA hfew hp hc h1 h2
   simp only[g1]
   exact LH hG hA hfew hc es S1 g2 g3
theorem MT{R:List Ai}(hG:AX R){A:List Ap}(hA:∀x∈A,AW R x)(hfew:E5 R≤29):∀(f n:Nat) (S:FS),(∀x∈S.cs,RC R x)→S.cs.Nodup→C3 R A f n S≠.error .many
 | 0,n,S,_,_=>fun z=>by cases z
 | f+1,n,S,h1,h2=>by
  unfold C3
  by_cases hlt:n<S.cs.length
  ·rw[if_pos hlt]
   have hc:RC R (S.cs.getD n []):=by
    rw[ag,aa hlt]
    exact h1 _ (aI hlt)
   obtain⟨g1,g2⟩:=LH (w:=S.ws.getD n []) hG hA hfew hc [0,1,2,3] ⟨S.cs,S.ws,S.rows,[]⟩ h1 h2
   unfold MN
   cases hr:EN R A (S.cs.getD n []) (S.ws.getD n []) [0,1,2,3] ⟨S.cs,S.ws,S.rows,[]⟩ with
   | error x=>
    cases x with
    | many=>exact absurd hr g1
    | clash a b c=>exact fun z=>by cases z
   | ok S1=>
    obtain⟨k1,k2⟩:=g2 S1 hr
    exact MT hG hA hfew f (n+1) ⟨S1.cs,S1.ws,S1.rows++[S1.row],[]⟩ k1 k2
  ·rw[if_neg hlt]
   exact fun z=>by cases z
theorem FF{R:List Ai}(hG:AX R){A:List Ap}(hA:∀x∈A,AW R x)(hfew:E5 R≤29):DL R A≠.error .many:=by
 have h:=JE hG
 exact MT hG hA hfew 31 0 _ h.rc h.nd
def PX(n:Nat)(cells:List Int)(k:Nat):Ap:=
 (cells.getD (2*k) 0 % (n:Int),(k:Int),Sb n (cells.getD (2*k+1) 0),cells.getD (2*k+1) 0 % (n:Int),cells.getD (2*k) 0 / 5 % 2)
def arrowsU(R:List Ai)(cells:List Int)(m:Nat):List Ap:=((ak m).map (PX R.length cells)).filter (Jq R)
theorem G7(R:List Ai)(cells:List Int)(m:Nat):arrowsU R cells (m+1)=arrowsU R cells m++(if Jq R (PX R.length cells m)=true then [PX R.length cells m] else []):=by
 unfold arrowsU
 rw[bh,am,bq]
 congr 1
 show [PX R.length cells m].filter (Jq R)=_
 cases h:Jq R (PX R.length cells m)<;>simp[h]
theorem HX(R:List Ai)(cells:List Int)(m:Nat):(arrowsU R cells m).length≤m:=by
 unfold arrowsU
 have:=aL (Jq R) ((ak m).map (PX R.length cells))
 rw[ac,aF]at this
 exact this
theorem LN{R:List Ai}(hG:AX R)(cells:List Int):∀a∈arrowsU R cells 4,AW R a:=by
 intro a ha
 unfold arrowsU at ha
 obtain⟨h1,h2⟩:=aR.mp ha
 obtain⟨k,hk,rfl⟩:=aJ.mp h1
 have hk4:=az.mp hk
 have hpos:=hG.tree.pos
 rw[Ay]at hpos
 have d1:=cw (cells.getD (2*k) 0 / 5) (show(2:Int)≠0 by decide)
 have d2:=cq (cells.getD (2*k) 0 / 5) (show(0:Int)<2 by decide)
 refine⟨Ip hpos,?_,?_,Ip hpos,⟨d1,by show _≤(99:Int);simp only[PX];omega⟩,cD.mp h2⟩
 ·show 0≤(k:Int)∧(k:Int)≤3
  omega
 ·show -1≤Sb R.length (cells.getD (2*k+1) 0)∧Sb R.length (cells.getD (2*k+1) 0)<(R.length:Int)
  unfold Sb
  have e1:=cw (cells.getD (2*k+1) 0 / (R.length:Int)) (show(2*(R.length:Int))≠0 by omega)
  split<;>omega
def LO(A:List Ap):Prop:=A.Pairwise fun a b=>a.2.1≠b.2.1
theorem JP(R:List Ai)(cells:List Int)(m:Nat):LO (arrowsU R cells m):=by
 unfold LO arrowsU
 refine bp.filter _ ?_
 rw[d5]
 refine bp.imp (fun{a b} h=>?_) bS
 show(a:Int)≠(b:Int)
 omega
theorem Mg{A:List Ap}{ks:List Int}{ev:Int}{i:Nat}(h:i∈AI A ks ev):∃a,A[i]?=some a∧a.2.1=ev:=by
 unfold AI at h
 obtain⟨h1,h2⟩:=aR.mp h
 have hl:=az.mp h1
 refine⟨A[i],aa hl,?_⟩
 unfold Cg at h2
 rw[aa hl]at h2
 have h3:EI A[i] ks ev=true:=h2
 unfold EI at h3
 rw[be,be]at h3
 exact of_decide_eq_true h3.1.1
theorem Mj{R:List Ai}{A:List Ap}(h:LO A)(chs:List Int)(ev:Int):Br (EO R A) (tkL R A chs ev)=ae:=by
 have one:∀i∈tkL R A chs ev,∀j∈tkL R A chs ev,¬i<j:=fun i hi j hj hij=>by
  obtain⟨a,ha,ea⟩:=Mg (aR.mp hi).1
  obtain⟨b,hb,eb⟩:=Mg (aR.mp hj).1
  obtain⟨hil,rfl⟩:=af.mp ha
  obtain⟨hjl,rfl⟩:=af.mp hb
  exact bG.mp h i j hil hjl hij (ea.trans eb.symm)
 have hris:=LY R A (kI R chs) ev
 have e:tkL R A chs ev=ER R A (kI R chs) ev:=rfl
 rw[← e]at hris
 generalize tkL R A chs ev=l at one hris
 match l,one,hris with
 | [],_,_=>rfl
 | [x],_,_=>rfl
 | x::y::r,one,hris=>
  exact absurd ((eQ.mp hris).1 y aw) (one x aw y (aq _ aw))
def L5:Sp:=fun vs H Q _=>∃(r c:fG) (R:List Ai) (cells:List Int),vs=[.ref r,.ref c]∧By H r R∧AX R∧H c=some (.lst (cells.map V.int))∧cells.length=8 ∧
 ∀(l:fG) (qs:List fG) (H':Hp),H l=ae→An H H'→H' l=some (.lst (qs.map V.ref))→AL H' qs ((arrowsU R cells 4).map aV)→Q (.ref l) H'
theorem CW:AA ["rooms", "cells", "arrows", "many", "k", "one", "two", "guard"] ["rooms", "cells"] (Am DV):=⟨rfl,rfl,rfl,by decide +kernel,rfl,by decide +kernel,by decide +kernel⟩
theorem Pd{f C fs fh:fG}{fd fds fdh:fO}(D:Al K mg "_law_unlike_arrows" DV ["rooms", "cells"] f fd)(T:DP K mg C)(Ds:Al K mg "_law_scope" Ew ["rooms", "source", "target"] fs fds)(Dh:Al K mg "_law_chain" Ex ["rooms", "k"] fh fdh):AC P w K mg base A6 3 f fd ["rooms", "cells"] L5:=by
 have Gs:AC P w K mg base A6 2 fs fds ["rooms", "source", "target"] ID:=KA Ds T Dh
 refine D.fn.ok CW (fun vs H Q E h=>?_) (fun cdv A outer s H vs Q E hr h=>?_)
 ·obtain⟨r,c,R,cells,rfl,_⟩:=h
  rfl
 obtain⟨r,c,R,cells,rfl,hR,hG,hc,hcl,q⟩:=h
 obtain⟨ps,hrr,hI⟩:=hR.ob
 have hl:(ps.map V.ref).length=R.length:=By.len hI
 have hpos:=hG.tree.pos
 rw[Ay]at hpos
 have hmost:=hG.most
 obtain⟨t3,p3,r3⟩:∃t,M2 (LL A6 P w K mg base ["rooms", "cells", "arrows", "many", "k", "one", "two", "guard"] "_law_unlike_arrows" (Am DV) f cdv A outer s H E).nox
    (match (CI DV).getD 2 (.Pass ⟨0,0,0,0⟩) with|.For _ _ body _ _=>body.drop 4|_=>[]) t ∧
   ∀(D':Kc) (ad:fG) (qs:List fG) (i:Nat) (H2:Hp),i<4→H ad=ae→An H H2→H2 ad=some (.lst (qs.map V.ref))→AL H2 qs ((arrowsU R cells i).map aV) →
    (∀v5 v6 v7 v8 qs' H',An H H'→H' ad=some (.lst (qs'.map V.ref))→AL H' qs' ((arrowsU R cells (i+1)).map aV)→D'.nx [some (.ref r),some (.ref c),some (.ref ad),some (.int (R.length:Int)),v5,v6,v7,v8] H') →
    t D' [some (.ref r),some (.ref c),some (.ref ad),some (.int (R.length:Int)),some (.int i),some (.int (cells.getD (2*i) 0)),some (.int (cells.getD (2*i+1) 0)),some (.int (Sb R.length (cells.getD (2*i+1) 0)))] H2:=by
  refine⟨_,Ak (A0 (Ng (Ol (Aq Gs hr rfl Ds.mg Ds.fn.kp Ds.bd .nil AE (Aa (pv 0) (Aa (AO Bx (pv 5) (pv 3)) (Aa (AO Bx (pv 6) (pv 3)) Ab))))))
   (Ak (AT (BF ax aB aD AU (pv 2) (Aa (AY (Aa (AO Bx (pv 5) (pv 3)) (Aa (pv 4) (Aa (pv 7) (Aa (AO Bx (pv 6) (pv 3)) (Aa (AO Bx (AO Cb (pv 5) Ah) Ah) Ab)))))) Ab)))) AJ),?_⟩
  intro D' ad qs i H2 hi had s2 e2 hJ k
  obtain⟨sn,es,hs⟩:=Ip (x:=cells.getD (2*i) 0) hpos
  obtain⟨tn,et,ht⟩:=Ip (x:=cells.getD (2*i+1) 0) hpos
  refine⟨_,rfl,_,rfl,_,rfl,_,_,rfl,rfl,(by omega),_,rfl,_,rfl,_,_,rfl,rfl,(by omega),r,ps,R,sn,tn,(by show [V.ref r,V.int (cells.getD (2*i) 0 % (R.length:Int)),V.int (cells.getD (2*i+1) 0 % (R.length:Int))]=_;rw[es,et]),s2 _ _ hrr,hI.same s2,hG.tree,by omega,hs,ht,fun H3 s3=>?_⟩
  have s23:=s2.trans s3
  have ehas:Jq R (PX R.length cells i)=(Bp R sn tn).isSome:=by
   unfold Jq PX
   simp only
   rw[es,et,aA,aA]
  refine⟨_,rfl,?_⟩
  cases hsc:Bp R sn tn with
  | none=>
   refine A9 ?_
   refine k _ _ _ _ qs H3 s23 (s3 _ _ e2) ?_
   rw[G7,ehas,hsc,if_neg (by decide),bn]
   exact hJ.same s3
  | some pp=>
   refine Bw ?_
   refine⟨_,rfl,.inl ⟨rfl,_,AD.of (s3 _ _ e2)⟩,_,rfl,_,rfl,_,_,rfl,rfl,(by omega),_,rfl,_,rfl,_,rfl,_,rfl,_,_,rfl,rfl,(by omega),_,rfl,_,_,rfl,rfl,⟨by decide,by decide⟩,_,_,rfl,rfl,(by show(0:Int)<_;decide),(by show 5≤fL;decide),fun t ht'=>?_⟩
   have nat:ad≠t:=Af (s3 _ _ e2) ht'
   refine⟨ad,_,_,rfl,rfl,(by rw[Aj nat];exact s3 _ _ e2),?_,?_⟩
   ·rw[ac,hJ.1,ac]
    have:=HX R cells i
    exact Aw (by omega)
   ·have st:An H2 (upd H3 t (.tup (aV (PX R.length cells i)))):=s3.trans (Ag ht' _)
    have ne:∀b u,H2 b=some u→b≠ad→(upd (upd H3 t (.tup (aV (PX R.length cells i)))) ad (.lst (qs.map V.ref++[V.ref t]))) b=some u:=fun b u e n=>by
     rw[Aj n];exact st _ _ e
    refine k _ _ _ _ (qs++[t]) _ (fun b u e=>ne b u (s2 _ _ e) (Af e had)) ?_ ?_
    ·rw[Ad,am];rfl
    ·rw[G7,ehas,hsc,if_pos (by rfl),am]
     refine AL.snoc ⟨hJ.1,fun j p o a1 a2=>ne _ _ (hJ.2 j p o a1 a2) (CP (hJ.2 j p o a1 a2) e2 (by intro z;cases z))⟩ ?_
     show(upd (upd H3 t (.tup (aV (PX R.length cells i)))) ad (.lst (qs.map V.ref++[V.ref t]))) t=_
     rw[Aj nat.symm,Ad]
 refine⟨_,Ac (Ar (i:=2) CW.nd rfl (Or.inl rfl) (Bj Ab))
  (Ac (Ar (i:=3) CW.nd rfl (Or.inl rfl) (AF At (by rfl) T.len PySem.boot_len (Aa (pv 0) Ab)))
  (Ac (Bd fR.never rfl (AV rfl T.range (Aa Ah Ab)) (Az (i:=4) CW.nd rfl (Or.inl rfl))
   (Ac (Ar (i:=5) CW.nd rfl (Or.inl rfl) (Ao Au (pv 1) (AO Ll Ah (pv 4)) (fun _ _=>rfl)))
   (Ac (Ar (i:=6) CW.nd rfl (Or.inl rfl) (Ao Au (pv 1) (AO BN (AO Ll Ah (pv 4)) Ah) (fun _ _=>rfl)))
   (Ac (Ar (i:=7) CW.nd rfl (Or.inl rfl) (AO Nm (AO Bx (AO Cb (pv 6) (pv 3)) (AO Ll Ah (pv 3))) Ah))
   (Ac (A0 (AB op_ge (pv 7) (pv 3) (AS _)) (Ak (Ar (i:=7) CW.nd rfl (Or.inl rfl) (EH C7 Ah))) AJ) p3)))))
  (Ak (AK (pv 2))))),?_⟩
 refine⟨(by show 0≤fL;decide),fun ad had=>?_⟩
 have s1:An H (upd H ad (.lst [])):=Ag had _
 have ea:(upd H ad (.lst [])) ad=some (.lst []):=Ad
 generalize upd H ad (.lst [])=H1 at s1 ea ⊢
 refine⟨_,rfl,r,_,rfl,.inl (AD.of (s1 _ _ hrr)),?_⟩
 rw[hl]
 refine⟨4,rfl,by decide,by decide,?_⟩
 refine Bh (fun i σ H2=>∃v5 v6 v7 v8 qs,σ=[some (.ref r),some (.ref c),some (.ref ad),some (.int (R.length:Int)),v5,v6,v7,v8]∧An H H2∧H2 ad=some (.lst (qs.map V.ref))∧AL H2 qs ((arrowsU R cells i).map aV))
  ⟨_,_,_,_,[],rfl,s1,ea,⟨rfl,fun i p o e=>by simp at e⟩⟩ ?_ ?_
 ·rintro i σ H2 hi ⟨v5,v6,v7,v8,qs,rfl,s2,e2,hJ⟩
  have ei:(0:Int)+(i:Int)=(i:Int):=by omega
  rw[ei]
  have hi4:i<4:=hi
  have i1:2*i<cells.length:=by omega
  have i2:2*i+1<cells.length:=by omega
  have e1:(2:Int)*(i:Int)=((2*i:Nat):Int):=by omega
  have e1':(2:Int)*(i:Int)+1=((2*i+1:Nat):Int):=by omega
  refine⟨_,rfl,_,rfl,_,_,rfl,rfl,.inl ⟨by decide,by decide⟩,c,_,_,_,rfl,rfl,AD.of (s2 _ _ hc),by rw[e1];exact Hv i1,?_⟩
  refine⟨_,rfl,_,rfl,_,_,rfl,rfl,.inl ⟨by decide,by decide⟩,_,_,rfl,rfl,c,_,_,_,rfl,rfl,AD.of (s2 _ _ hc),by rw[e1'];exact Hv i2,?_⟩
  refine⟨_,rfl,_,rfl,_,_,rfl,rfl,⟨by omega,by omega⟩,_,rfl,_,_,rfl,rfl,.inl ⟨by decide,by decide⟩,_,_,rfl,rfl,(by show(0:Int)<2*(R.length:Int);omega),_,_,rfl,rfl,?_⟩
  refine⟨_,rfl,_,rfl,_,_,rfl,rfl,_,rfl,?_⟩
  have fin:=fun D' k=>r3 D' ad qs i H2 hi4 had s2 e2 hJ k
  refine DT (fun z=>?_) (fun z=>?_)
  ·have z':(R.length:Int)≤cells.getD (2*i+1) 0 / (R.length:Int) % (2*(R.length:Int)) - 1:=by simpa using z
   have eg:Sb R.length (cells.getD (2*i+1) 0)=-1:=by unfold Sb;rw[if_pos z']
   rw[eg]at fin
   exact⟨1,rfl,fin _ fun _ _ _ _ qs' H' a1 a2 a3=>⟨_,_,_,_,qs',rfl,a1,a2,a3⟩⟩
  ·have z':¬(R.length:Int)≤cells.getD (2*i+1) 0 / (R.length:Int) % (2*(R.length:Int)) - 1:=by simpa using z
   have eg:Sb R.length (cells.getD (2*i+1) 0)=cells.getD (2*i+1) 0 / (R.length:Int) % (2*(R.length:Int)) - 1:=by unfold Sb;rw[if_neg z']
   rw[eg]at fin
   exact fin _ fun _ _ _ _ qs' H' a1 a2 a3=>⟨_,_,_,_,qs',rfl,a1,a2,a3⟩
 ·rintro σ H2 ⟨v5,v6,v7,v8,qs,rfl,s2,e2,hJ⟩
  refine⟨_,rfl,?_⟩
  exact q ad qs H2 had s2 e2 hJ
def N9:Sp:=fun vs H Q _=>∃(r a e:fG) (R:List Ai) (A:List Ap) (evs:List Int),vs=[.ref r,.ref a,.ref e]∧By H r R∧DS H a A∧AX R∧(∀x∈A,AW R x)∧A.length≤100∧H e=some (.lst (evs.map V.int))∧evs.length≤100 ∧
 ∀(t s' kt mt dl:fG) (ds:List fG) (H':Hp),An H H'→H' t=some (.tup [.ref s',.ref dl])→H' s'=some (.tup [.ref kt,.ref mt])→H' kt=some (.tup ((kI R (chAt R A evs evs.length)).map V.int)) →
  H' mt=some (.tup ((Ct R (chAt R A evs evs.length)).map V.int))→H' dl=some (.lst (ds.map V.ref))→AL H' ds (HV R A evs evs.length)→Q (.ref t) H'
theorem Fk:AA ["rooms", "arrows", "events", "choice", "told", "event", "taken"] ["rooms", "arrows", "events"] (Am FT):=⟨rfl,rfl,rfl,by decide +kernel,rfl,by decide +kernel,by decide +kernel⟩
theorem Qu{f C ff fk ft fb fst:fG}{fd fdf fdk fdt fdb fdst:fO}(D:Al K mg "_law_going" FT ["rooms", "arrows", "events"] f fd)(T:DP K mg C)(Df:Al K mg "_law_first" EW ["rooms"] ff fdf)(Dk:Al K mg "_law_kept" IT ["rooms", "choice"] fk fdk)
  (Dt:Al K mg "_law_takeable" FR ["rooms", "arrows", "kept", "event"] ft fdt) (Gt:AC P w K mg base A6 2 ft fdt ["rooms", "arrows", "kept", "event"] (N8 K))
  (Db:Al K mg "_law_behind" Fq ["rooms", "arrows", "choice", "taken"] fb fdb) (Gb:AC P w K mg base A6 4 fb fdb ["rooms", "arrows", "choice", "taken"] Mb) (Dst:Al K mg "_law_state" Hj ["rooms", "choice"] fst fdst):AC P w K mg base A6 5 f fd ["rooms", "arrows", "events"] N9:=by
 have Gf:AC P w K mg base A6 1 ff fdf ["rooms"] K5:=Mq Df T
 have Gk:AC P w K mg base A6 1 fk fdk ["rooms", "choice"] M8:=Oo Dk T
 have Gst:AC P w K mg base A6 2 fst fdst ["rooms", "choice"] N3:=Qp Dst T Dk
 refine D.fn.ok Fk (fun vs H Q E h=>?_) (fun cdv A outer s H vs Q E hr h=>?_)
 ·obtain⟨r,a,e,R,As,evs,rfl,_⟩:=h
  rfl
 obtain⟨r,ar,e,R,As,evs,rfl,hR,hAt,hG,hA,hal,he,hel,q⟩:=h
 have hr1:CO 1 _:=hr.mono (by decide)
 refine⟨_,Ac (Ar (i:=3) Fk.nd rfl (Or.inl rfl) (Aq Gf hr1 rfl Df.mg Df.fn.kp Df.bd .nil AE (Aa (pv 0) Ab)))
   (Ac (Ar (i:=4) Fk.nd rfl (Or.inl rfl) (Bj Ab))
   (Ac (Bd fR.never rfl (Bi (pv 2)) (Az (i:=5) Fk.nd rfl (Or.inl rfl)) (Ac (Ar (i:=6) Fk.nd rfl (Or.inl rfl) (Aq Gt (hr.mono (by decide)) rfl Dt.mg Dt.fn.kp Dt.bd .nil AE (Aa (pv 0) (Aa (pv 1) (Aa (Aq Gk hr1 rfl Dk.mg Dk.fn.kp Dk.bd .nil AE (Aa (pv 0) (Aa (pv 3) Ab))) (Aa (pv 5) Ab))))))
   (Ac (Ar (i:=3) Fk.nd rfl (Or.inl rfl) (Aq Gb hr rfl Db.mg Db.fn.kp Db.bd .nil AE (Aa (pv 0) (Aa (pv 1) (Aa (pv 3) (Aa (pv 6) Ab))))))
   (Ak (AT (BF ax aB aD AU (pv 4) (Aa (Bc BA (by rfl) T.tup (by decide +kernel) (Aa (BW ["k", "arrows"] [ae,some 1] rfl (Bi (pv 6)) (fun _=>Az (i:=0) (show(["k", "arrows"]:List Str).Nodup by decide +kernel) rfl (Or.inl rfl)) (fun _=>BJ) (fun _=>Ao Av (Ao Au (pv 1) (pv 0) (fun _ _=>rfl)) Ah (fun _ _=>rfl)) (N:=["rooms", "arrows", "events", "choice", "told", "event", "taken"]) (ks:=(Am FT).names) rfl rfl (by decide +kernel) (by decide +kernel) (by decide +kernel) (by decide +kernel)) Ab)) Ab)))))))
   (Ak (AK (AY (Aa (Aq Gst (hr.mono (by decide)) rfl Dst.mg Dst.fn.kp Dst.bd .nil AE (Aa (pv 0) (Aa (pv 3) Ab))) (Aa (pv 4) Ab))))))),?_⟩
 refine⟨_,rfl,r,R,rfl,hR,hG,fun f0 H10 hf0 s10 e10=>?_⟩
 refine⟨(by show 0≤fL;decide),fun dl hdl'=>?_⟩
 have s11:=Ag hdl' (.lst [])
 have edl:(upd H10 dl (.lst [])) dl=some (.lst []):=Ad
 have s911:=s10.trans s11
 have fdl:H dl=ae:=s10.free hdl'
 have ef0:=s11 _ _ e10
 have nf0:f0≠dl:=Af e10 hdl'
 generalize upd H10 dl (.lst [])=H11 at s11 edl s911 ef0 ⊢
 refine⟨_,rfl,e,rfl,⟨_,AD.of (s911 _ _ he)⟩,?_⟩
 refine Cl (K:=K) (xs:=evs.map V.int) (fun i σ H4=>∃dc v9 v10 pds,σ=[some (.ref r),some (.ref ar),some (.ref e),some (.ref dc),some (.ref dl),v9,v10]∧An H H4∧H4 dl=some (.lst (pds.map V.ref))∧AL H4 pds (HV R As evs i)∧H4 dc=some (.lst ((chAt R As evs i).map V.int))∧dc≠dl)
  ⟨f0,_,_,[],rfl,s911,edl,⟨rfl,fun i p o a _=>by cases a⟩,ef0,nf0⟩ (fun i σ H4 _ ⟨_,_,_,_,_,s4,_⟩=>AD.of (s4 _ _ he)) ?_ ?_
 ·rintro i x σ H4 hx ⟨dc,v9,v10,pds,rfl,(s4:An _ _),ed4,hI4,f1,hdd⟩
  obtain⟨ev,hev,rfl⟩:=OD hx
  have hgd:=OG hev
  have hil:=(af.mp hev).1
  have hch:=OQ hG hA evs i
  have hsucc:chAt R As evs (i+1)=Bb R As (chAt R As evs i) (tkL R As (chAt R As evs i) ev):=KM (R:=R) (A:=As) hev
  have hddE:LK R As evs i=BO As (tkL R As (chAt R As evs i) ev):=by unfold LK;rw[hgd]
  generalize chAt R As evs i=chs at f1 hch hsucc hddE
  have hR4:By H4 r R:=hR.same s4
  have hA4:DS H4 ar As:=hAt.same s4
  refine⟨_,rfl,_,rfl,_,rfl,_,rfl,r,dc,R,chs,rfl,hR4,hG,f1,hch.len,fun kl H5 hkl s5 e5=>?_⟩
  refine⟨_,rfl,r,ar,kl,R,As,kI R chs,ev,rfl,hR4.same s5,hA4.same s5,hG,hA,hal,AD.of e5,fun tl H6 htl s6 e6=>?_⟩
  have e6':H6 tl=some (.lst (cV (tkL R As chs ev))):=e6
  have hlt:∀y∈tkL R As chs ev,y<As.length:=fun y hy=>Fh y hy
  have hln:(tkL R As chs ev).length≤100:=aU (GB R As (kI R chs) ev) hal
  generalize tkL R As chs ev=l at e6' hlt hln hddE hsucc
  have s46:=s5.trans s6
  refine⟨_,rfl,_,rfl,_,rfl,_,rfl,r,ar,dc,tl,R,As,chs,l,rfl,hR4.same s46,hA4.same s46,hG,hA,s46 _ _ f1,hch.len,e6',hlt,fun d2 H8 s8 e8=>?_⟩
  have s48:=s46.trans s8
  obtain⟨qs',x1,x2⟩:=hA4.same s48
  refine⟨_,rfl,.inl ⟨rfl,_,AD.of (s48 _ _ ed4)⟩,_,rfl,tl,rfl,⟨_,AD.of (s8 _ _ e6')⟩,fun bk D hD=>?_⟩
  have e8':=s8 _ _ e6'
  refine BC (K:=K) (xs:=cV l) (Pv:=fun j ys σ H'=>∃v,σ=[v,some (.ref ar)]∧ys=(BO As (l.take j)).map V.int∧An H8 H') ⟨_,rfl,rfl,Ag hD _⟩ ?_ ?_ ?_
  ·rintro j ys σ H' hj hDj ⟨v,rfl,_,(s':An _ _)⟩
   exact AD.of (s' _ _ e8')
  ·rintro j x ys σ H' hx hDj ⟨v,rfl,hys,(s':An _ _)⟩
   obtain⟨k,hk,rfl⟩:=Cn hx
   have hkl:=hlt k (ay hk)
   obtain⟨p,hp1,hp2⟩:=BY x2 hkl
   have hjl:=(af.mp hk).1
   refine⟨_,rfl,_,rfl,ar,_,_,_,rfl,rfl,AD.of (s' _ _ x1),hp1,p,_,_,_,rfl,rfl,A2.of (s' _ _ hp2),rfl,hDj,?_,⟨_,rfl,?_,AH s' hD _⟩⟩
   ·rw[hys,ac]
    unfold BO
    rw[ac,bc];exact Aw (by omega)
   ·unfold BO at hys ⊢
    rw[bj,hk,am,am,← hys]
    show ys++[V.int As[k].2.2.2.2]=ys++[V.int (JQ As k).2.2.2.2]
    rw[CJ hkl]
  ·rintro ys σ H9' hD9 ⟨v,rfl,hys,(s9':An _ _)⟩
   rw[Bl,aN]at hys
   subst hys
   refine⟨D,_,rfl,.inl ⟨AD.of hD9,fun dt hdt=>?_⟩⟩
   have s10':=Ag hdt (.tup ((BO As l).map V.int))
   have edt:(upd H9' dt (.tup ((BO As l).map V.int))) dt=some (.tup ((BO As l).map V.int)):=Ad
   generalize upd H9' dt (.tup ((BO As l).map V.int))=H10' at s10' edt ⊢
   have s810:=s9'.trans s10'
   have ed10:=s810 _ _ (s48 _ _ ed4)
   refine⟨dl,_,_,rfl,rfl,ed10,?_,?_⟩
   ·rw[ac,hI4.1]
    unfold HV
    rw[ac,aF];exact Aw (by omega)
   have nd2:d2≠dl:=fun z=>by
    have h1:=s810 _ _ e8
    rw[z,ed10]at h1
    injection h1 with h1
    injection h1 with h1
    have h2:=Pw h1.symm
    have h3:=Fe R As l chs
    rw[h2,hch.len]at h3
    have:=hG.tree.pos
    rw[Ay]at this
    simp only[cy]at h3
    omega
   refine⟨d2,_,_,pds++[dt],rfl,AH (s4.trans (s48.trans s810)) fdl _,?_,?_,?_,nd2⟩
   ·rw[Ad,am];rfl
   ·rw[NN]
    refine AL.snoc (AL.updL ed10 (hI4.same (s48.trans s810))) (keepT ed10 ?_)
    rw[hddE];exact edt
   ·rw[Aj nd2,hsucc];exact s810 _ _ e8
 ·rintro σ H4 ⟨dc,v9,v10,pds,rfl,(s4:An _ _),ed4,hI4,f1,hdd⟩
  rw[ac]at hI4 f1
  refine⟨_,rfl,_,rfl,r,dc,R,_,rfl,hR.same s4,hG,f1,(OQ hG hA evs _).len,fun st kt mt H7 s7 g4 g5 g6=>?_⟩
  refine⟨_,rfl,(by show 2≤fL;decide),fun t ht=>?_⟩
  have s8:=Ag ht (.tup [.ref st,.ref dl])
  have s78:=s7.trans s8
  exact q t st kt mt dl pds _ (s4.trans s78) Ad (s8 _ _ g4) (s8 _ _ g5) (s8 _ _ g6) (s78 _ _ ed4) (hI4.same s78)
theorem LI{R:List Ai}{A:List Ap}(hp:∀c e,Br (EO R A) (tkL R A c e)=ae){c w:List Int}:∀(es:List Int) (S:FS) (evs:List Int) (i j:Nat),EN R A c w es S≠.error (.clash evs i j)
 | [],S,_,_,_=>fun z=>by cases z
 | e::es,S,evs,i,j=>by
  have h1:E9 R A c w S e=LE R A c w S e:=by
   unfold E9
   rw[hp]
  unfold EN
  rw[h1]
  unfold LE
  by_cases hin:nxE R A c e∈S.cs
  ·rw[if_pos hin]
   exact LI hp es _ evs i j
  ·rw[if_neg hin]
   by_cases hz:S.cs.length=30
   ·rw[if_pos hz]
    exact fun z=>by cases z
   ·rw[if_neg hz]
    exact LI hp es _ evs i j
theorem MU{R:List Ai}{A:List Ap}(hp:∀c e,Br (EO R A) (tkL R A c e)=ae):∀(f n:Nat) (S:FS) (evs:List Int) (i j:Nat),C3 R A f n S≠.error (.clash evs i j)
 | 0,n,S,_,_,_=>fun z=>by cases z
 | f+1,n,S,evs,i,j=>by
  unfold C3
  by_cases hlt:n<S.cs.length
  ·rw[if_pos hlt]
   have g:=LI hp (c:=S.cs.getD n []) (w:=S.ws.getD n []) [0,1,2,3] ⟨S.cs,S.ws,S.rows,[]⟩
   unfold MN
   cases hr:EN R A (S.cs.getD n []) (S.ws.getD n []) [0,1,2,3] ⟨S.cs,S.ws,S.rows,[]⟩ with
   | error x=>
    cases x with
    | many=>exact fun z=>by cases z
    | clash a b c=>exact absurd hr (g a b c)
   | ok S1=>exact MU hp f (n+1) _ evs i j
  ·rw[if_neg hlt]
   exact fun z=>by cases z
theorem MQ{R:List Ai}(hG:AX R){A:List Ap}(hA:∀x∈A,AW R x)(hfew:E5 R≤29)(hu:LO A):∃S,DL R A=.ok S:=by
 cases h:DL R A with
 | ok S=>exact⟨S,rfl⟩
 | error x=>
  cases x with
  | many=>exact absurd h (FF hG hA hfew)
  | clash a b c=>exact absurd h (MU (fun c e=>Mj hu c e) 31 0 _ a b c)
structure JY(K:aj)(mg:Str→Option fF)(C:fG):Prop where
 cl:Rw K C
 nS:CK K C "states"
 nR:CK K C "rows"
 nW:CK K C "ways"
 mgC:mg "Flat" = some (.ref C)
 len:mg "len" = none
 range:mg "range" = none
 list:mg "list" = none
 inst:mg "isinstance" = none
 tbool:mg "bool" = none
 tint:mg "int" = none
 tup:mg "tuple" = none
 tstr:mg "str" = none
 enum:mg "enumerate" = none
 zip:mg "zip" = none
 behind:∃t,mg "BEHIND" = some (.int 0 t)
 deeds:∃t,mg "DEEDS" = some (.int 1 t)
 ll:bu K (.type "list") (.type "list")=some true
 bb:bu K (.type "bool") (.type "bool")=some true
 ii:bu K (.type "int") (.type "int")=some true
 ib:bu K (.type "int") (.type "bool")=some false
 pp:bu K (.type "tuple") (.type "tuple")=some true
theorem Bv.rd{K:aj}{H:Hp}{v:V}{ds:List Int}(h:Bv H v ds):LP K H v (.tuple (ds.map fN.int)):=by
 obtain⟨d,rfl,h⟩:=h
 exact .tup (A2.of h) (Fw ds)
def A4:List Int→Tr
 | []=>.nil
 | i::r=>.cons (.int i) (A4 r)
def HU(e:D0):Tr:=.cons (.int e.1) (.cons (A4 e.2) .nil)
def Ec:List D0→Tr
 | []=>.nil
 | e::r=>.cons (HU e) (Ec r)
abbrev Rq:=Int×List D0
def CB(κ:Rq):Tr:=.cons (.int κ.1) (.cons (Ec κ.2) .nil)
theorem Gq:∀{a b:List Int},A4 a=A4 b→a=b
 | [],[],_=>rfl
 | [],_::_,h=>by cases h
 | _::_,[],h=>by cases h
 | x::a,y::b,h=>by
  injection h with h1 h2
  injection h1 with h1
  rw[h1,Gq h2]
theorem PK{a b:D0}(h:HU a=HU b):a=b:=by
 injection h with h1 h2
 injection h1 with h1
 injection h2 with h2 _
 exact Prod.ext h1 (Gq h2)
theorem JH:∀{a b:List D0},Ec a=Ec b→a=b
 | [],[],_=>rfl
 | [],_::_,h=>by cases h
 | _::_,[],h=>by cases h
 | x::a,y::b,h=>by
  injection h with h1 h2
  rw[PK h1,JH h2]
theorem Ps{a b:Rq}(h:CB a=CB b):a=b:=by
 injection h with h1 h2
 injection h1 with h1
 injection h2 with h2 _
 exact Prod.ext h1 (JH h2)
theorem Gx:∀a:List Int,(A4 a).dep=1
 | []=>rfl
 | x::a=>by
  show max ((Tr.int x).dep+1) (A4 a).dep=1
  rw[Gx a];rfl
theorem PL(e:D0):(HU e).dep=2:=by
 show max (0+1) (max ((A4 e.2).dep+1) 1)=2
 rw[Gx];rfl
theorem JI:∀a:List D0,(Ec a).dep≤3
 | []=>by show 1≤3;decide
 | x::a=>by
  show max ((HU x).dep+1) (Ec a).dep≤3
  have:=JI a
  rw[PL]
  omega
theorem Gy:∀a b:List Int,(A4 a).cmp (A4 b)
 | [],[]=>trivial
 | [],_::_=>trivial
 | _::_,[]=>trivial
 | x::a,y::b=>⟨trivial,Gy a b⟩
theorem PM(a b:D0):(HU a).cmp (HU b):=⟨trivial,Gy a.2 b.2,trivial⟩
theorem JJ:∀a b:List D0,(Ec a).cmp (Ec b)
 | [],[]=>trivial
 | [],_::_=>trivial
 | _::_,[]=>trivial
 | x::a,y::b=>⟨PM x y,JJ a b⟩
def mkN:EQ where
 fit:=fun k=>∃κ,k=CB κ
 dep:=by
  rintro k ⟨κ,rfl⟩
  show max (0+1) (max ((Ec κ.2).dep+1) 1)≤8
  have:=JI κ.2
  omega
 cmp:=by
  rintro x y ⟨κ,rfl⟩ ⟨μ,rfl⟩
  exact⟨trivial,JJ κ.2 μ.2,trivial⟩
theorem Dx{H:Hp}:∀xs:List Int,DQ H (A4 xs) (xs.map V.int)
 | []=>.nil
 | x::r=>.cons (.int x) (Dx r)
theorem BH.tr{H:Hp}{v:V}{e:D0}(h:BH H v e):DR H (HU e) v:=by
 obtain⟨t,u,rfl,h1,d,rfl,h2⟩:=h
 exact .tup h1 (.cons (.int _) (.cons (.tup h2 (Dx _)) .nil))
theorem OJ{H:Hp}:∀{vs:List V} {es:List D0},Z (BH H) vs es→DQ H (Ec es) vs
 | [],[],_=>.nil
 | [],_::_,h=>by have:=h.1;simp at this
 | _::_,[],h=>by have:=h.1;simp at this
 | v::vs,e::es,h=>.cons h.uncons.1.tr (OJ h.uncons.2)
theorem OZ(kvs:List NK)(k:Tr)(a:fG)(v:V)(x:Tr):C6 (kvs++[(k,a,v)]) x=(match C6 kvs x with|some z=>some z|ae=>if k=x then some v else ae):=by
 unfold C6
 rw[eY]
 cases h:kvs.find? fun y=>decide (y.1=x) with
 | some y=>simp
 | none=>
  by_cases hk:k=x
  ·simp[hk]
  ·simp[hk]
def HM(G:List Nat)(e:D0):D0:=((G.getD e.1.toNat 0:Nat),e.2)
def BB(M:Bf)(G:List Nat)(k:Nat):Rq:=((G.getD k 0:Nat),(M.getD k []).map (HM G))
def CH(M:Bf)(G:List Nat)(n:Nat)(κ:Rq):Option Nat:=(ak n).find? fun j=>decide (BB M G j=κ)
def Dd(M:Bf)(G:List Nat):List Nat:=(ak M.length).map fun k=>(CH M G (k+1) (BB M G k)).getD k
theorem DZ(M:Bf)(G:List Nat)(n:Nat)(κ:Rq):CH M G (n+1) κ=(match CH M G n κ with|some z=>some z|ae=>if BB M G n=κ then some n else ae):=by
 unfold CH
 rw[bh,eY]
 cases h:(ak n).find? fun j=>decide (BB M G j=κ) with
 | some y=>simp
 | none=>
  by_cases hk:BB M G n=κ
  ·simp[hk]
  ·simp[hk]
def nV(xs:List Nat):List V:=xs.map fun(n:Nat)=>V.int (n:Int)
theorem Cz(xs:List Nat):(nV xs).length=xs.length:=by simp[nV]
theorem Ot{xs:List Nat}{i:Nat}(h:i<xs.length):G6 (nV xs) (i:Int)=some (.int ((xs.getD i 0:Nat):Int)):=Bo (by
 unfold nV
 rw[av,aa h,ag,aa h];rfl)
def Kl(C:fG):Sp:=fun vs H Q _=>∃(c s r y g:fG) (ps:List fG) (S W:List V) (M:Bf) (G:List Nat),vs=[.ref c,.ref g]∧CL C H c s r y ps S M W∧BV M∧H g=some (.lst (nV G))∧G.length=M.length ∧
 ∀(l:fG) (H':Hp),An H H'→H l=ae→H' l=some (.lst (nV (Dd M G)))→Q (.ref l) H'
theorem DA:AA ["flat", "groups", "least", "finer", "number", "row", "look"] ["flat", "groups"] (Am DI):=⟨rfl,rfl,rfl,by decide +kernel,rfl,by decide +kernel,by decide +kernel⟩
theorem Nq{f C:fG}{fd:fO}(D:Al K mg "refined" DI ["flat", "groups"] f fd)(T:JY K mg C):AC P w K mg base A6 1 f fd ["flat", "groups"] (Kl C):=by
 refine D.fn.ok DA (fun vs H Q E h=>?_) (fun cdv A outer s H vs Q E hr h=>?_)
 ·obtain⟨c,s,r,y,g,ps,S,W,M,G,rfl,_⟩:=h
  rfl
 obtain⟨c,sa,ra,ya,g,ps,S,W,M,G,rfl,hF,hG,hg,hGl,q⟩:=h
 refine⟨_,Ac (Ar (i:=2) DA.nd rfl (Or.inl rfl) Qm)
  (Ac (Ar (i:=3) DA.nd rfl (Or.inl rfl) (Bj Ab))
  (Ac (Bd fR.never rfl (Ik rfl T.enum (Aa (A3 (pv 0) rfl) Ab)) (Lh (n:=2) rfl (C1 (Az (i:=4) DA.nd rfl (Or.inl rfl)) (C1 (Az (i:=5) DA.nd rfl (Or.inl rfl)) Il)))
   (Ac (Ar (i:=6) DA.nd rfl (Or.inl rfl) (Bc BA (by rfl) T.tup (by decide +kernel) (Aa (BW ["entry", "groups"] [ae,some 1] rfl (Bi (pv 5))
    (fun _=>Az (i:=0) (show(["entry", "groups"]:List Str).Nodup by decide +kernel) rfl (Or.inl rfl)) (fun _=>BJ)
    (fun _=>AY (Aa (Ao Au (pv 1) (Ao Av (pv 0) (AG T.behind rfl) (fun _ _=>rfl)) (fun _ _=>rfl)) (Aa (Ao Av (pv 0) (AG T.deeds rfl) (fun _ _=>rfl)) Ab)))
    (N:=["flat", "groups", "least", "finer", "number", "row", "look"]) (ks:=(Am DI).names) rfl rfl (by decide +kernel) (by decide +kernel) (by decide +kernel) (by decide +kernel)) Ab)))
   (Ak (AT (BF ax aB aD AU (pv 3) (Aa (O9 mkN hr.units (pv 2) (Aa (AY (Aa (Ao Au (pv 1) (pv 4) (fun _ _=>rfl)) (Aa (pv 6) Ab))) (Aa (pv 4) Ab))) Ab))))))
  (Ak (AK (pv 3))))),?_⟩
 obtain⟨⟨dx,h1⟩,h2,h3,h4,h5⟩:=hF
 intro d hd
 refine⟨(by show 0≤fL;decide),fun fi hfi=>?_⟩
 have s1:=Ag hd (ND d [])
 have s2:=Ag hfi (.lst [])
 have ndf:d≠fi:=Af Ad hfi
 have hfi0:H fi=ae:=s1.free hfi
 refine⟨_,rfl,c,C,dx,_,_,rfl,(s1.trans s2) _ _ h1,T.cl,T.nR,B6 sa ra ya,ra,rfl,⟨_,AD.of ((s1.trans s2) _ _ h3)⟩,?_⟩
 have hml:(ps.map V.ref).length=M.length:=by rw[ac,h4.1]
 have hm30:=hG.most
 refine G3 (xs:=ps.map V.ref) (fun i σ H1=>∃v4 v5 v6 kvs,σ=[some (.ref c),some (.ref g),some (.ref d),some (.ref fi),v4,v5,v6]∧An H H1∧NQ mkN H1 d kvs∧kvs.length≤i∧H1 fi=some (.lst (nV ((Dd M G).take i)))∧∀κ,C6 kvs (CB κ)=(CH M G i κ).map fun(j:Nat)=>V.int (j:Int))
  ⟨_,_,_,[],rfl,s1.trans s2,⟨by rw[Aj ndf];exact Ad,fun x hx=>by simp at hx,by simp,by simp⟩,aE _,by rw[Ad];rfl,fun κ=>rfl⟩ ?_ ?_ ?_
 ·rintro i σ H1 hi ⟨v4,v5,v6,kvs,rfl,(s:An _ _),_⟩
  exact AD.of (s _ _ h3)
 ·rintro i x t σ H1 hx ht ⟨v4,v5,v6,kvs,rfl,(s3:An _ _),hN,hkl,e3,hval⟩
  obtain⟨p,hp,rfl⟩:∃p,ps[i]?=some p∧V.ref p=x:=by
   rw[av]at hx
   cases z:ps[i]? with
   | none=>rw[z]at hx;simp at hx
   | some p=>rw[z]at hx;exact⟨p,rfl,by simpa using hx⟩
  obtain⟨row,hrow,vs,hv0,hE0⟩:=h4.at1 hp
  have hi:i<M.length:=(af.mp hrow).1
  have erow:M.getD i []=row:=by rw[ag,hrow];rfl
  have hmem:row∈M:=ay hrow
  have r4:=hG.four row hmem
  have s4:=Ag ht (.tup [.int i,.ref p])
  have et:(upd H1 t (.tup [.int i,.ref p])) t=some (.tup [.int i,.ref p]):=Ad
  have nd1:(upd H1 t (.tup [.int i,.ref p])) d=some (ND d kvs):=s4 _ _ hN.ob
  have nf1:=s4 _ _ e3
  generalize hH2:upd H1 t (.tup [.int i,.ref p])=H2 at s4 et nd1 nf1 ⊢
  have s02:=s3.trans s4
  refine⟨t,_,rfl,A2.of et,rfl,_,_,rfl,_,_,rfl,rfl,?_⟩
  refine⟨_,rfl,p,rfl,⟨_,AD.of (s02 _ _ hv0)⟩,fun bk D hD=>?_⟩
  refine BC (K:=K) (xs:=vs) (Pv:=fun j ys σ H'=>∃v,σ=[v,some (.ref g)]∧An H2 H'∧Z (BH H') ys ((row.take j).map (HM G))) ⟨_,rfl,Ag hD _,by simp[dw];exact Z.nil⟩ ?_ ?_ ?_
  ·rintro j ys σ H' hj hDj ⟨v,rfl,(s5:An _ _),_⟩
   exact AD.of (s5 _ _ (s02 _ _ hv0))
  ·rintro j x ys σ H' hx hDj ⟨v,rfl,(s5:An _ _),hZ⟩
   obtain⟨e,he,te,u,rfl,k1,k2⟩:=hE0.at1 hx
   have s05:=s02.trans s5
   have hto:=hG.to row hmem e (ay he)
   have eN:e.1=((e.1.toNat:Nat):Int):=by omega
   have hlt:e.1.toNat<G.length:=by omega
   have ga:G6 (nV G) e.1=some (.int ((G.getD e.1.toNat 0:Nat):Int)):=by
    rw[eN,aA];exact Ot hlt
   have hj4:j<row.length:=(af.mp he).1
   refine⟨_,rfl,_,rfl,te,_,_,_,rfl,rfl,A2.of (s05 _ _ k1),rfl,g,_,_,_,rfl,rfl,AD.of (s05 _ _ hg),ga,_,rfl,te,_,_,_,rfl,rfl,A2.of (s05 _ _ k1),rfl,(by show 2≤fL;decide),fun tn htn=>?_⟩
   have nDt:D≠tn:=Af hDj htn
   have kp:En D H' (upd (upd H' tn (.tup [.int ((G.getD e.1.toNat 0:Nat):Int),u])) D (.lst (ys++[.ref tn]))):=fun x o ex n=>by rw[Aj n,Aj (Af ex htn)];exact ex
   refine⟨by rw[Aj nDt];exact hDj,?_,⟨_,rfl,AH (AH s5 (s5.free htn) _) hD _,?_⟩⟩
   ·rw[hZ.1,ac,bc];exact Aw (by omega)
   ·rw[bY,he,am]
    refine Z.snoc (hZ.mono fun _ _ z=>z.keep kp (Cc hDj)) ?_
    exact⟨tn,u,rfl,by rw[Aj nDt.symm,Ad];rfl,(k2.same s05).keep kp (Cc hDj)⟩
  ·rintro ys σ H3 hD3 ⟨v,rfl,(s5:An _ _),hZ⟩
   have evl:vs.length=row.length:=hE0.1
   rw[evl,aN]at hZ
   refine⟨D,ys,rfl,.inl ⟨AD.of hD3,fun lk hlk=>?_⟩⟩
   have s6:=Ag hlk (.tup ys)
   have elk:(upd H3 lk (.tup ys)) lk=some (.tup ys):=Ad
   have hZ4:Z (BH (upd H3 lk (.tup ys))) ys (row.map (HM G)):=hZ.mono fun _ _ z=>z.same s6
   have s26:=s5.trans s6
   generalize upd H3 lk (.tup ys)=H4 at s26 elk hZ4 ⊢
   have s04:=s02.trans s26
   refine⟨_,rfl,.inl ⟨rfl,_,AD.of (s26 _ _ nf1)⟩,_,rfl,⟨d,kvs,rfl,s26 _ _ nd1⟩,_,rfl,_,rfl,g,_,_,_,rfl,rfl,AD.of (s04 _ _ hg),Ot (show i<G.length by omega),_,rfl,(by show 2≤fL;decide),fun tk htk=>?_⟩
   have s7:=Ag htk (.tup [.int ((G.getD i 0:Nat):Int),.ref lk])
   have etk:(upd H4 tk (.tup [.int ((G.getD i 0:Nat):Int),.ref lk])) tk=some (.tup [.int ((G.getD i 0:Nat):Int),.ref lk]):=Ad
   have hZ5:Z (BH (upd H4 tk (.tup [.int ((G.getD i 0:Nat):Int),.ref lk]))) ys (row.map (HM G)):=hZ4.mono fun _ _ z=>z.same s7
   have elk5:=s7 _ _ elk
   have s27:=s26.trans s7
   generalize upd H4 tk (.tup [.int ((G.getD i 0:Nat):Int),.ref lk])=H5 at s27 etk hZ5 elk5 ⊢
   have s15:An H1 H5:=s4.trans s27
   have ekey:BB M G i=(((G.getD i 0:Nat):Int),row.map (HM G)):=by unfold BB;rw[erow]
   have hT:DR H5 (CB (BB M G i)) (.ref tk):=by
    rw[ekey]
    exact .tup etk (.cons (.int _) (.cons (.tup elk5 (OJ hZ5)) .nil))
   have hN5:NQ mkN H5 d kvs:=hN.keep (s15 _ _ hN.ob) fun a xs e=>s15 _ _ e
   have f5:=s27 _ _ nf1
   have s05:=s3.trans s15
   have htl:((Dd M G).take i).length=i:=by rw[bc];simp[Dd];omega
   have step:∀(jn:Nat) (H6:Hp) (kvs':List NK),(CH M G (i+1) (BB M G i)).getD i=jn→An H H6→NQ mkN H6 d kvs'→kvs'.length≤i+1→H6 fi=some (.lst (nV ((Dd M G).take i)))→(∀κ,C6 kvs' (CB κ)=(CH M G (i+1) κ).map fun(j:Nat)=>V.int (j:Int)) →
     GT (.ref fi) [.int (jn:Int)] H6 fun _ H1_1=>∃v4 v5 v6 kvs,[some (V.ref c),some (V.ref g),some (V.ref d),some (V.ref fi),some (V.int (i:Int)),some (V.ref p),some (V.ref lk)]=[some (V.ref c),some (V.ref g),some (V.ref d),some (V.ref fi),v4,v5,v6]∧An H H1_1∧NQ mkN H1_1 d kvs∧kvs.length≤i+1∧H1_1 fi=some (.lst (nV ((Dd M G).take (i+1))))∧∀κ,C6 kvs (CB κ)=(CH M G (i+1) κ).map fun(j:Nat)=>V.int (j:Int):=by
    intro jn H6 kvs' ej s6' hN6 hl6 f6 hv6
    have ndf6:d≠fi:=ndf
    refine⟨fi,_,_,rfl,rfl,f6,by rw[Cz,htl];exact Aw (by omega),?_⟩
    refine⟨_,_,_,kvs',rfl,fun x o ex=>?_,hN6.keep (by rw[Aj ndf6];exact hN6.ob) (fun a xs e=>by rw[Aj (CP e f6 (by intro z;cases z))];exact e),hl6,?_,hv6⟩
    ·rw[Aj (Af ex hfi0)];exact s6' _ _ ex
    ·rw[Ad,bY]
     have eg:(Dd M G)[i]?=some jn:=by
      unfold Dd
      rw[av,bv hi]
      show some ((CH M G (i+1) (BB M G i)).getD i)=some jn
      rw[ej]
     rw[eg]
     unfold nV
     rw[am];rfl
   have hvi:=hval (BB M G i)
   have nsd:NQ mkN H5 d kvs:=hN5
   refine⟨_,rfl,d,tk,kvs,CB (BB M G i),.int (i:Int),rfl,rfl,hN5,by omega,hT,⟨_,rfl⟩,fun z hz=>?_,fun hz=>?_⟩
   ·rw[hvi]at hz
    cases hfk:CH M G i (BB M G i) with
    | none=>rw[hfk]at hz;cases hz
    | some j=>
     rw[hfk]at hz
     cases hz
     refine step j H5 kvs ?_ s05 hN5 (by omega) f5 fun κ=>?_
     ·rw[DZ,hfk];rfl
     ·rw[hval κ,DZ]
      cases hκ:CH M G i κ with
      | some z=>rfl
      | none=>
       by_cases ek:BB M G i=κ
       ·rw[← ek,hfk]at hκ;cases hκ
       ·rw[if_neg ek]
   ·rw[hvi]at hz
    cases hfk:CH M G i (BB M G i) with
    | some j=>rw[hfk]at hz;cases hz
    | none=>
     have s6:An H (upd H5 d (ND d (kvs++[(CB (BB M G i),tk,.int (i:Int))]))):=fun x o ex=>by rw[Aj (Af ex hd)];exact s05 _ _ ex
     have tupk:∀a xs,H5 a=some (.tup xs)→(upd H5 d (ND d (kvs++[(CB (BB M G i),tk,.int (i:Int))]))) a=some (.tup xs):=fun a xs e=>by
      rw[Aj (fun z=>by rw[z,hN5.ob]at e;cases e)];exact e
     have nk:∀x∈kvs,x.1≠CB (BB M G i):=fun x hx ex=>by
      have z:=hval (BB M G i)
      rw[hfk]at z
      unfold C6 at z
      cases y:kvs.find? fun x=>decide (x.1=CB (BB M G i)) with
      | none=>exact absurd (decide_eq_true ex) (bL.mp y x hx)
      | some w=>rw[y]at z;cases z
     refine step i _ (kvs++[(CB (BB M G i),tk,.int (i:Int))]) ?_ s6 ⟨Ad,fun x hx=>?_,?_,by rw[ai];simp;omega⟩ (by rw[ai];simp;omega) (by rw[Aj ndf.symm];exact f5) fun κ=>?_
     ·rw[DZ,hfk]
      show(if BB M G i=BB M G i then some i else ae).getD i=i
      rw[if_pos rfl];rfl
     ·rcases aP.mp hx with z|z
      ·exact⟨(hN5.keys x z).1.keep tupk,(hN5.keys x z).2⟩
      ·have z':x=(CB (BB M G i),tk,.int (i:Int)):=by simpa using z
       subst z'
       exact⟨hT.keep tupk,⟨_,rfl⟩⟩
     ·rw[am,bB]
      refine⟨hN5.nd,by simp,fun a ha b hb e=>?_⟩
      obtain⟨x,hx,rfl⟩:=aJ.mp ha
      have hb':b=CB (BB M G i):=by simpa using hb
      exact nk x hx (e.trans hb')
     ·rw[OZ,hval κ,DZ]
      cases hκ:CH M G i κ with
      | some z=>rfl
      | none=>
       by_cases ek:BB M G i=κ
       ·rw[if_pos ek]
        show(if CB (BB M G i)=CB κ then some (V.int (i:Int)) else ae)=_
        rw[if_pos (by rw[ek])];rfl
       ·rw[if_neg ek]
        show(if CB (BB M G i)=CB κ then some (V.int (i:Int)) else ae)=_
        rw[if_neg (fun z=>ek (Ps z))];rfl
 ·rintro σ H1 ⟨v4,v5,v6,kvs,rfl,(s3:An _ _),hN,hkl,e3,hval⟩
  rw[hml]at e3
  have hlen:(Dd M G).length=M.length:=by simp[Dd]
  rw[← hlen,aN]at e3
  exact⟨_,rfl,q fi H1 s3 hfi0 e3⟩
def AN(M:Bf):Fm.Mc:=⟨M.length,fun a e=>(AQ M a e).1.toNat,fun a e=>(AQ M a e).2⟩
theorem GZ{M:Bf}(G:BV M):(AN M).Ok:=⟨G.pos,fun a e ha he=>by
 obtain⟨r,_,_,_,g1,g2,_⟩:=Bn G (show a<M.length from ha) he
 show(AQ M a e).1.toNat<M.length
 omega⟩
def grp(M:Bf)(t:Nat):List Nat:=(ak M.length).map (Fm.mr (AN M) t)
theorem Fx(M:Bf)(t:Nat):(grp M t).length=M.length:=by simp[grp]
theorem CD{M:Bf}{t k:Nat}(h:k<M.length):(grp M t).getD k 0=Fm.mr (AN M) t k:=by
 unfold grp
 rw[ag,av,bv h];rfl
theorem QV(M:Bf):grp M 0=dW M.length 0:=by
 unfold grp
 refine d6 fun i=>?_
 rw[av,d9]
 by_cases h:i<M.length
 ·rw[bv h,if_pos h]
  show some (Fm.mr (AN M) 0 i)=some 0
  have:=Fm.mr_of (m:=AN M) (t:=0) (j:=0) (k:=i) rfl
  have e:Fm.mr (AN M) 0 i=0:=by omega
  rw[e]
 ·rw[bA (by simpa using h),if_neg h];rfl
theorem row4{M:Bf}(G:BV M){k:Nat}(h:k<M.length):M.getD k []=(ak 4).map (AQ M k):=by
 obtain⟨r,e1,e2,_⟩:=Bn G h (show 0<4 by decide)
 have e:M.getD k []=r:=by rw[ag,e1];rfl
 rw[e]
 refine d6 fun i=>?_
 rw[av]
 by_cases hi:i<4
 ·obtain⟨r',e1',_,e3,_⟩:=Bn G h hi
  rw[e1]at e1'
  cases e1'
  rw[bv hi,e3];rfl
 ·rw[bA (by omega),bA (by simpa using hi)];rfl
theorem key_al{M:Bf}(G:BV M){t j k:Nat}(hj:j<M.length)(hk:k<M.length):BB M (grp M t) j=BB M (grp M t) k↔Fm.al (AN M) (t+1) j k=true:=by
 have ok:=GZ G
 have lk:∀{a e},a<M.length→e<4→HM (grp M t) (AQ M a e)=(((Fm.mr (AN M) t ((AN M).nx a e):Nat):Int),(AN M).dd a e):=fun{a e} ha he=>by
  show((((grp M t).getD ((AN M).nx a e) 0:Nat):Int),(AQ M a e).2)=_
  rw[CD (ok.nx a e ha he)];rfl
 unfold BB
 rw[row4 G hj,row4 G hk,bx,bx,CD hj,CD hk]
 constructor
 ·intro z
  have z1:((Fm.mr (AN M) t j:Nat):Int)=((Fm.mr (AN M) t k:Nat):Int):=(Prod.mk.inj z).1
  have z2:=(Prod.mk.inj z).2
  refine Fm.al_succ.mpr fun e he=>?_
  have y:=congrArg (fun l=>l[e]?) z2
  simp only[av,bv he,dh,Function.comp_apply,br.injEq]at y
  rw[lk hj he,lk hk he]at y
  obtain⟨y1,y2⟩:=Prod.mk.inj y
  exact⟨y2,Fm.mr_iff.mp (by omega)⟩
 ·intro z
  have z1:Fm.mr (AN M) t j=Fm.mr (AN M) t k:=Fm.mr_eq (Fm.al_down z)
  refine Prod.ext (by show((Fm.mr (AN M) t j:Nat):Int)=_;rw[z1]) (bT fun e he=>?_)
  have he':=az.mp he
  show HM _ (AQ M j e)=HM _ (AQ M k e)
  rw[lk hj he',lk hk he']
  obtain⟨y1,y2⟩:=Fm.al_succ.mp z e he'
  rw[y1,Fm.mr_eq y2]
theorem JD{α:Type}{p q:α→Bool}:∀(l:List α),(∀x∈l,p x=q x)→l.find? p=l.find? q
 | [],_=>rfl
 | x::l,h=>by
  rw[ce,ce,h x aw,JD l fun y hy=>h y (aq _ hy)]
theorem KI{M:Bf}(G:BV M)(t:Nat):Dd M (grp M t)=grp M (t+1):=by
 unfold Dd grp
 refine bT fun k hk=>?_
 have hk':=az.mp hk
 unfold CH Fm.mr
 congr 1
 refine JD _ fun j hj=>?_
 have hj':j<k+1:=az.mp hj
 have h:=key_al (t:=t) G (show j<M.length by omega) hk'
 cases z:Fm.al (AN M) (t+1) j k with
 | true=>exact decide_eq_true (h.mpr z)
 | false=>exact decide_eq_false fun y=>by rw[h.mp y]at z;cases z
theorem MV:∀a b:List Nat,fN.eqvAll (a.map fun(n:Nat)=>fN.int (n:Int)) (b.map fun(n:Nat)=>fN.int (n:Int))=decide (a=b)
 | [],[]=>rfl
 | [],_::_=>rfl
 | _::_,[]=>rfl
 | x::a,y::b=>by
  simp only[aY,fN.eqvAll,fN.eqv,MV a b]
  by_cases h:x=y
  ·subst h
   by_cases h2:a=b
   ·simp[h2]
   ·simp[h2]
  ·have h':¬(x:Int)=(y:Int):=by omega
   simp[h,h']
theorem Op{K:aj}{H:Hp}{a:fG}{xs:List Nat}(h:H a=some (.lst (nV xs))):LP K H (.ref a) (.list (xs.map fun(n:Nat)=>fN.int (n:Int))):=by
 have z:=Fw (K:=K) (H:=H) (xs.map fun(n:Nat)=>(n:Int))
 rw[bx,bx]at z
 exact .lst (AD.of h) z
theorem Jj(xs:List Nat):IJ 1 (.list (xs.map fun(n:Nat)=>fN.int (n:Int))):=M9 (FL xs fun i _=>Ko _)
def Od(C:fG):Sp:=fun vs H Q _=>∃(c s r y:fG) (ps:List fG) (S W:List V) (M:Bf),vs=[.ref c]∧CL C H c s r y ps S M W∧BV M ∧
 ∀(l:fG) (H':Hp),An H H'→H l=ae→H' l=some (.lst (nV (grp M M.length)))→Q (.ref l) H'
theorem GP:AA ["flat", "groups", "finer"] ["flat"] (Am FW):=⟨rfl,rfl,rfl,by decide +kernel,rfl,by decide +kernel,by decide +kernel⟩
theorem Qz{f C fr:fG}{fd fdr:fO}(D:Al K mg "alike" FW ["flat"] f fd)(T:JY K mg C)(Dr:Al K mg "refined" DI ["flat", "groups"] fr fdr):AC P w K mg base A6 2 f fd ["flat"] (Od C):=by
 have Gr:AC P w K mg base A6 1 fr fdr ["flat", "groups"] (Kl C):=Nq Dr T
 refine D.fn.ok GP (fun vs H Q E h=>?_) (fun cdv A outer s H vs Q E hr h=>?_)
 ·obtain⟨c,s,r,y,ps,S,W,M,rfl,_⟩:=h
  rfl
 obtain⟨c,sa,ra,ya,ps,S,W,M,rfl,hF,hG,q⟩:=h
 refine⟨_,Ac (CV (i:=1) ["row"] [ae] rfl GP.nd rfl rfl (Bi (A3 (pv 0) rfl)) (fun _=>Az (i:=0) (show(["row"]:List Str).Nodup by decide +kernel) rfl (Or.inl rfl)) (fun _=>BJ) (fun _=>Ah)
   (N:=["flat", "groups", "finer"]) (ks:=(Am FW).names) rfl rfl (by decide +kernel) (by decide +kernel) (by decide +kernel) (by decide +kernel))
  (Ac (Ar (i:=2) GP.nd rfl (Or.inl rfl) (Aq Gr hr rfl Dr.mg Dr.fn.kp Dr.bd .nil AE (Aa (pv 0) (Aa (pv 1) Ab))))
  (Ac (Ej fR.never (AB (Nn hr.units) (pv 2) (pv 1) (AS _))
   (Ac (Ar (i:=1) GP.nd rfl (Or.inl rfl) (pv 2))
   (Ak (Ar (i:=2) GP.nd rfl (Or.inl rfl) (Aq Gr hr rfl Dr.mg Dr.fn.kp Dr.bd .nil AE (Aa (pv 0) (Aa (pv 1) Ab)))))))
  (Ak (AK (pv 1))))),?_⟩
 have ok:=GZ hG
 obtain⟨⟨dx,h1⟩,h2,h3,h4,h5⟩:=id hF
 have hml:(ps.map V.ref).length=M.length:=by rw[ac,h4.1]
 have hm30:=hG.most
 refine⟨_,rfl,c,C,dx,_,_,rfl,h1,T.cl,T.nR,B6 sa ra ya,ra,rfl,⟨_,AD.of h3⟩,fun bk g0 hg0=>?_⟩
 refine BC (K:=K) (xs:=ps.map V.ref) (Pv:=fun i ys σ H'=>∃v,σ=[v]∧ys=nV (dW i 0)∧An H H') ⟨_,rfl,rfl,Ag hg0 _⟩ ?_ ?_ ?_
 ·rintro i ys σ H' hi hDi ⟨v,rfl,_,(s:An _ _)⟩
  exact AD.of (s _ _ h3)
 ·rintro i x ys σ H' hx hDi ⟨v,rfl,hys,(s:An _ _)⟩
  have hi:i<M.length:=by
   have z:=(af.mp hx).1
   omega
  refine⟨hDi,by rw[hys,Cz,dQ];exact Aw (by omega),⟨_,rfl,?_,AH s hg0 _⟩⟩
  rw[List.replicate_succ',hys]
  unfold nV
  rw[am];rfl
 rintro ys σ H1 hD1 ⟨v,rfl,hys,(s1:An _ _)⟩
 rw[hml,← QV]at hys
 subst hys
 refine⟨_,rfl,_,rfl,c,sa,ra,ya,g0,ps,S,W,M,grp M 0,rfl,hF.same s1,hG,hD1,Fx M 0,fun f0 H2 s2 hf0 e2=>?_⟩
 rw[KI hG]at e2
 refine⟨fun n σ H'=>∃t ga fa,σ=[some (.ref c),some (.ref ga),some (.ref fa)]∧An H H'∧H ga=ae∧H' ga=some (.lst (nV (grp M t)))∧H fa=ae∧H' fa=some (.lst (nV (grp M (t+1))))∧n=M.length - Fm.cnt (AN M) t,
  ⟨_,0,g0,f0,rfl,s1.trans s2,hg0,s2 _ _ hD1,s1.free hf0,e2,rfl⟩,?_⟩
 rintro n σ H3 ⟨t,ga,fa,rfl,s3,hga,ega,hfa,efa,rfl⟩
 have shA:=Jj (grp M (t+1))
 have shB:=Jj (grp M t)
 refine⟨_,rfl,_,rfl,_,_,Op efa,Op ega,BZ shA (by decide),BZ shB (by decide),_,rfl,?_⟩
 have eq:(if(true:Bool)=true then !fN.eqv (.list ((grp M (t+1)).map fun(n:Nat)=>fN.int (n:Int))) (.list ((grp M t).map fun(n:Nat)=>fN.int (n:Int))) else fN.eqv (.list ((grp M (t+1)).map fun(n:Nat)=>fN.int (n:Int))) (.list ((grp M t).map fun(n:Nat)=>fN.int (n:Int))))=!decide (grp M (t+1)=grp M t):=by
  rw[if_pos rfl,← MV]
  simp only[fN.eqv]
 rw[eq]
 by_cases he:grp M (t+1)=grp M t
 ·rw[decide_eq_true he]
  refine A9 ?_
  have hst:Fm.Stable (AN M) t:=Fm.mr_stable ok fun k hk=>by
   have hk':k<M.length:=hk
   have z:=congrArg (fun l=>l.getD k 0) he
   have z':(grp M (t+1)).getD k 0=(grp M t).getD k 0:=z
   rw[CD hk',CD hk']at z'
   exact z'.symm
  have eend:grp M t=grp M M.length:=by
   unfold grp
   exact bT fun k hk=>Fm.mr_end ok (az.mp hk) hst
  refine⟨_,rfl,q ga H3 s3 hga ?_⟩
  rw[← eend];exact ega
 ·rw[decide_eq_false he]
  refine Bw ?_
  have hlt:Fm.cnt (AN M) t<Fm.cnt (AN M) (t+1):=by
   refine Classical.byContradiction fun z=>he ?_
   unfold grp
   refine bT fun k hk=>?_
   refine Classical.byContradiction fun y=>z (Fm.mr_unstable (az.mp hk) (fun e=>y e.symm))
  have hle:Fm.cnt (AN M) (t+1)≤M.length:=Fm.cnt_le (m:=AN M) (t+1)
  refine⟨fun σ' H'=>∃ga fa,σ'=[some (.ref c),some (.ref ga),some (.ref fa)]∧An H H'∧H ga=ae∧H' ga=some (.lst (nV (grp M (t+1))))∧H fa=ae∧H' fa=some (.lst (nV (grp M (t+2)))),?_,?_⟩
  ·rintro σ' H' ⟨ga',fa',rfl,a1,a2,a3,a4,a5⟩
   exact⟨M.length - Fm.cnt (AN M) (t+1),by omega,t+1,ga',fa',rfl,a1,a2,a3,a4,a5,rfl⟩
  ·refine⟨_,rfl,_,rfl,_,rfl,c,sa,ra,ya,fa,ps,S,W,M,grp M (t+1),rfl,hF.same s3,hG,efa,Fx M _,fun f1 H4 s4 hf1 e4=>?_⟩
   rw[KI hG]at e4
   exact⟨fa,f1,rfl,s3.trans s4,hfa,s4 _ _ efa,s3.free hf1,e4⟩
theorem Nt{xs:List Nat}{i x:Nat}(h:xs[i]?=some x):G6 (nV xs) (i:Int)=some (.int (x:Int)):=Bo (by unfold nV;rw[av,h];rfl)
structure Hy(H:Hp)(r:fG)(ps:List fG)(M:Bf):Prop where
 hr:H r=some (.lst (ps.map V.ref))
 hm:B7 H ps M
theorem Hy.same{H H':Hp}{r:fG}{ps:List fG}{M:Bf}(s:An H H')(h:Hy H r ps M):Hy H' r ps M:=⟨s _ _ h.hr,h.hm.same s⟩
theorem Hy.ent{H:Hp}{r:fG}{ps:List fG}{M:Bf}(h:Hy H r ps M)(G:BV M){a e:Nat}(ha:a<M.length)(he:e<4) :
  ∃p vs v,G6 (ps.map V.ref) (a:Int)=some (.ref p)∧H p=some (.lst vs)∧G6 vs (e:Int)=some v∧BH H v (AQ M a e):=by
 obtain⟨row,er,_,ee,_⟩:=Bn G ha he
 obtain⟨p,hp,vs,hv,hE⟩:=h.hm.at er
 obtain⟨v,hv2,hv3⟩:=hE.at ee
 exact⟨p,vs,v,Bo (by rw[av,hp];rfl),hv,Bo hv2,hv3⟩
theorem JG:∀a b:List Int,fN.eqvAll (a.map fN.int) (b.map fN.int)=decide (a=b)
 | [],[]=>rfl
 | [],_::_=>rfl
 | _::_,[]=>rfl
 | x::a,y::b=>by
  simp only[aY,fN.eqvAll,fN.eqv,JG a b]
  by_cases h:x=y
  ·subst h
   by_cases h2:a=b
   ·simp[h2]
   ·simp[h2]
  ·simp[h]
theorem Me{H1:Hp}{qs:List fG}{M:Bf}(hR1:B7 H1 qs M):∃vss:List (List V),qs.length=vss.length∧∀(H':Hp),An H1 H'→∀(i:Nat) q vs,qs[i]?=some q→vss[i]?=some vs→H' q=some (.lst vs)∧∃ro,M[i]?=some ro∧Z (BH H') vs ro:=by
 refine⟨qs.map fun q=>match H1 q with|some (.lst vs)=>vs|_=>[],by simp,fun H' s' i q vs h1 h2=>?_⟩
 obtain⟨ro,a1,ws,a2,a3⟩:=hR1.at1 h1
 rw[av,h1]at h2
 have z:vs=ws:=by
  have z:=br.inj h2
  simp only[a2]at z
  exact z.symm
 subst z
 exact⟨s' _ _ a2,ro,a1,a3.mono fun _ _ y=>y.same s'⟩
theorem OF(x:Nat):∀L:List Nat,(L.map fun(n:Nat)=>(n:Int)).idxOf (x:Int)=L.idxOf x
 | []=>rfl
 | y::L=>by
  have e:((y:Int)==(x:Int))=(y==x):=by
   by_cases h:y=x
   ·subst h;simp
   ·have h':¬(y:Int)=(x:Int):=by omega
    rw[beq_eq_false_iff_ne.mpr h,beq_eq_false_iff_ne.mpr h']
  rw[aY,List.idxOf_cons,List.idxOf_cons,OF x L,e]
theorem Os(xs:List Nat):nV xs=(xs.map fun(n:Nat)=>(n:Int)).map V.int:=by unfold nV;rw[bx];rfl
def HQ(g L:List Nat)(e:D0):D0:=((L.idxOf (g.getD e.1.toNat 0):Nat),e.2)
def Qb(K:aj):Sp:=fun vs H Q _=>∃(p ls lf:fG) (row:List D0) (g L:List Nat),vs=[.ref p,.ref ls,.ref lf]∧FG H p row∧row.length≤100∧H ls=some (.lst (nV g))∧H lf=some (.lst (nV L))∧L.length≤100∧(∀x∈L,x<1000) ∧
 (∀e∈row,0≤e.1∧e.1.toNat<g.length∧g.getD e.1.toNat 0∈L)∧∀(D:fG) (H':Hp),An H H'→H D=ae→FG H' D (row.map (HQ g L))→Q (.ref D) H'
theorem scLRow:AA ["row", "least", "left"] ["row", "least", "left"] (Am IS):=⟨rfl,rfl,rfl,by decide +kernel,rfl,by decide +kernel,by decide +kernel⟩
theorem RY{f C:fG}{fd:fO}(D:Al K mg "leaned_row" IS ["row", "least", "left"] f fd)(T:JY K mg C):AC P w K mg base A6 1 f fd ["row", "least", "left"] (Qb K):=by
 refine D.fn.ok scLRow (fun vs H Q E h=>?_) (fun cdv A outer s H vs Q E hr h=>?_)
 ·obtain⟨p,ls,lf,row,g,L,rfl,_⟩:=h
  rfl
 obtain⟨p,ls,lf,row,g,L,rfl,⟨vs,hp,hE⟩,hrl,hls,hlf,hL,hLx,he,q⟩:=h
 refine⟨_,Ak (AK (BW ["entry", "least", "left"] [ae,some 1,some 2] rfl (Bi (pv 0)) (fun _=>Az (i:=0) (show(["entry", "least", "left"]:List Str).Nodup by decide +kernel) rfl (Or.inl rfl)) (fun _=>BJ)
  (fun _=>AY (Aa (BF ax cL cM Mv (pv 2) (Aa (Ao Au (pv 1) (Ao Av (pv 0) (AG T.behind rfl) (fun _ _=>rfl)) (fun _ _=>rfl)) Ab)) (Aa (Ao Av (pv 0) (AG T.deeds rfl) (fun _ _=>rfl)) Ab)))
  (N:=["row", "least", "left"]) (ks:=(Am IS).names) rfl rfl (by decide +kernel) (by decide +kernel) (by decide +kernel) (by decide +kernel))),?_⟩
 refine⟨_,rfl,p,rfl,⟨_,AD.of hp⟩,fun bk D hD=>?_⟩
 refine BC (K:=K) (xs:=vs) (Pv:=fun j ys σ H'=>∃v,σ=[v,some (.ref ls),some (.ref lf)]∧An H H'∧Z (BH H') ys ((row.take j).map (HQ g L))) ⟨_,rfl,Ag hD _,by simp[dw];exact Z.nil⟩ ?_ ?_ ?_
 ·rintro j ys σ H' hj hDj ⟨v,rfl,(s5:An _ _),_⟩
  exact AD.of (s5 _ _ hp)
 ·rintro j x ys σ H' hx hDj ⟨v,rfl,(s5:An _ _),hZ⟩
  obtain⟨e,hee,te,u,rfl,k1,k2⟩:=hE.at1 hx
  obtain⟨e0,e1,e2⟩:=he e (ay hee)
  have eN:e.1=((e.1.toNat:Nat):Int):=by omega
  have ga:G6 (nV g) e.1=some (.int ((g.getD e.1.toNat 0:Nat):Int)):=by
   rw[eN,aA];exact Ot e1
  have hj4:j<row.length:=(af.mp hee).1
  have hq:AD K H' lf ((L.map fun(n:Nat)=>(n:Int)).map V.int):=by rw[← Os];exact AD.of (s5 _ _ hlf)
  refine⟨_,rfl,.inl ⟨rfl,_,hq⟩,_,rfl,_,rfl,te,_,_,_,rfl,rfl,A2.of (s5 _ _ k1),rfl,ls,_,_,_,rfl,rfl,AD.of (s5 _ _ hls),ga,lf,_,_,rfl,rfl,hq,?_,?_,?_,?_⟩
  ·intro y hy
   obtain⟨z,hz,rfl⟩:=aJ.mp hy
   have:=hLx z hz
   omega
  ·rw[ac];omega
  ·exact aJ.mpr ⟨_,e2,rfl⟩
  rw[OF]
  refine⟨_,rfl,te,_,_,_,rfl,rfl,A2.of (s5 _ _ k1),rfl,(by show 2≤fL;decide),fun tn htn=>?_⟩
  have nDt:D≠tn:=Af hDj htn
  have kp:En D H' (upd (upd H' tn (.tup [.int ((L.idxOf (g.getD e.1.toNat 0):Nat):Int),u])) D (.lst (ys++[.ref tn]))):=fun x o ex n=>by rw[Aj n,Aj (Af ex htn)];exact ex
  refine⟨by rw[Aj nDt];exact hDj,?_,⟨_,rfl,AH (AH s5 (s5.free htn) _) hD _,?_⟩⟩
  ·rw[hZ.1,ac,bc];exact Aw (by omega)
  ·rw[bY,hee,am]
   refine Z.snoc (hZ.mono fun _ _ z=>z.keep kp (Cc hDj)) ?_
   exact⟨tn,u,rfl,by rw[Aj nDt.symm,Ad];rfl,(k2.same s5).keep kp (Cc hDj)⟩
 ·rintro ys σ H' hDn ⟨v,rfl,(s5:An _ _),hZ⟩
  have evl:vs.length=row.length:=hE.1
  rw[evl,aN]at hZ
  exact q D H' s5 hD ⟨ys,hDn,hZ⟩
def B5(g:List Nat):List Nat:=(ak g.length).filter fun k=>decide (g.getD k 0=k)
def MD(M:Bf)(g:List Nat):Bf:=(B5 g).map fun k=>(M.getD k []).map (HQ g (B5 g))
theorem Oz{g:List Nat}{x:Nat}(h:x∈B5 g):x<g.length:=az.mp (aR.mp h).1
theorem MB(g:List Nat):(B5 g).length≤g.length:=by
 have:=aL (fun k=>decide (g.getD k 0=k)) (ak g.length)
 rw[aF]at this
 exact this
theorem MA{M:Bf}(t:Nat){k:Nat}(hk:k<M.length):(grp M t).getD k 0∈B5 (grp M t):=by
 rw[CD hk]
 have hl:=Fm.mr_le (m:=AN M) t k
 refine aR.mpr ⟨az.mpr (by rw[Fx];omega),decide_eq_true ?_⟩
 rw[CD (by omega)]
 exact Fm.mr_eq (Fm.mr_al t k)
def L7(K:aj)(C:fG):Sp:=fun vs H Q _=>∃(c s r y:fG) (ps:List fG) (S W:List V) (M:Bf),vs=[.ref c]∧CL C H c s r y ps S M W∧BV M∧S.length=M.length∧W.length=M.length ∧
 ∀(c' s' r' y':fG) (ps':List fG) (H':Hp),An H H'→CL C H' c' s' r' y' ps' ((B5 (grp M M.length)).map fun k=>S.getD k .non) (MD M (grp M M.length)) ((B5 (grp M M.length)).map fun k=>W.getD k .non) →
  H s'=ae→H r'=ae→H y'=ae→(∀p∈ps',H p=ae∧p≠r')→Q (.ref c') H'
theorem Eg:AA ["flat", "least", "left", "states", "rows", "ways"] ["flat"] (Am CU):=⟨rfl,rfl,rfl,by decide +kernel,rfl,by decide +kernel,by decide +kernel⟩
theorem Pf{f C fi fal flr:fG}{fd fdi fdal fdlr:fO}(D:Al K mg "leaned" CU ["flat"] f fd)(T:JY K mg C)(Mm:Mk K C fi)(bi:Fg K fdi ["self", "states", "rows", "ways"] [])(Gi:AC P w K mg base A6 1 fi fdi ["self", "states", "rows", "ways"] (K6 C))
  (Da:Al K mg "alike" FW ["flat"] fal fdal) (Ga:AC P w K mg base A6 2 fal fdal ["flat"] (Od C)) (Dl:Al K mg "leaned_row" IS ["row", "least", "left"] flr fdlr):AC P w K mg base A6 3 f fd ["flat"] (L7 K C):=by
 have Gl:AC P w K mg base A6 1 flr fdlr ["row", "least", "left"] (Qb K):=RY Dl T
 refine D.fn.ok Eg (fun vs H Q E h=>?_) (fun cdv A outer s H vs Q E hr h=>?_)
 ·obtain⟨c,s,r,y,ps,S,W,M,rfl,_⟩:=h
  rfl
 obtain⟨c,sa,ra,ya,ps,S,W,M,rfl,hF,hG,hS,hW,q⟩:=h
 refine⟨_,Ac (Ar (i:=1) Eg.nd rfl (Or.inr rfl) (Aq Ga hr rfl Da.mg Da.fn.kp Da.bd .nil AE (Aa (pv 0) Ab)))
  (Ac (Ar (i:=2) Eg.nd rfl (Or.inr rfl) (BW ["number", "least"] [ae,some 1] rfl (AV rfl T.range (Aa (AF At (by rfl) T.len PySem.boot_len (Aa (pv 1) Ab)) Ab))
   (fun _=>Az (i:=0) (show(["number", "least"]:List Str).Nodup by decide +kernel) rfl (Or.inl rfl)) (fun _=>DW (AB B4 (Ao Au (pv 1) (pv 0) (fun _ _=>rfl)) (pv 0) (AS _))) (fun _=>pv 0)
   (N:=["flat", "least", "left", "states", "rows", "ways"]) (ks:=(Am CU).names) rfl rfl (by decide +kernel) (by decide +kernel) (by decide +kernel) (by decide +kernel)))
  (Ac (CV (i:=3) ["number", "flat"] [ae,some 0] rfl Eg.nd rfl rfl (Bi (pv 2)) (fun _=>Az (i:=0) (show(["number", "flat"]:List Str).Nodup by decide +kernel) rfl (Or.inl rfl)) (fun _=>BJ) (fun _=>Ao Au (A3 (pv 1) rfl) (pv 0) (fun _ _=>rfl))
   (N:=["flat", "least", "left", "states", "rows", "ways"]) (ks:=(Am CU).names) rfl rfl (by decide +kernel) (by decide +kernel) (by decide +kernel) (by decide +kernel))
  (Ac (CV (i:=4) ["number", "flat", "least", "left"] [ae,some 0,some 1,some 2] rfl Eg.nd rfl rfl (Bi (pv 2)) (fun _=>Az (i:=0) (show(["number", "flat", "least", "left"]:List Str).Nodup by decide +kernel) rfl (Or.inl rfl)) (fun _=>BJ)
   (fun _=>Aq Gl (hr.mono (by decide)) rfl Dl.mg Dl.fn.kp Dl.bd .nil AE (Aa (Ao Au (A3 (pv 1) rfl) (pv 0) (fun _ _=>rfl)) (Aa (pv 2) (Aa (pv 3) Ab))))
   (N:=["flat", "least", "left", "states", "rows", "ways"]) (ks:=(Am CU).names) rfl rfl (by decide +kernel) (by decide +kernel) (by decide +kernel) (by decide +kernel))
  (Ac (CV (i:=5) ["number", "flat"] [ae,some 0] rfl Eg.nd rfl rfl (Bi (pv 2)) (fun _=>Az (i:=0) (show(["number", "flat"]:List Str).Nodup by decide +kernel) rfl (Or.inl rfl)) (fun _=>BJ) (fun _=>Ao Au (A3 (pv 1) rfl) (pv 0) (fun _ _=>rfl))
   (N:=["flat", "least", "left", "states", "rows", "ways"]) (ks:=(Am CU).names) rfl rfl (by decide +kernel) (by decide +kernel) (by decide +kernel) (by decide +kernel))
  (Ak (AK (Lj Mm Gi (hr.mono (by decide)) rfl T.mgC bi .nil AE (Aa (pv 3) (Aa (pv 4) (Aa (pv 5) Ab)))))))))),?_⟩
 have hm30:=hG.most
 obtain⟨⟨dx,h1⟩,h2,h3,h4,h5⟩:=id hF
 refine⟨_,rfl,c,sa,ra,ya,ps,S,W,M,rfl,hF,hG,fun ls H1 s1 _ e1=>?_⟩
 have hgl:(grp M M.length).length=M.length:=Fx _ _
 have hmem:∀k,k<M.length→(grp M M.length).getD k 0∈B5 (grp M M.length):=fun k hk=>MA M.length hk
 generalize grp M M.length=g at e1 hgl hmem q
 refine⟨_,rfl,ls,_,rfl,.inl (AD.of e1),_,rfl,by rw[Cz];omega,by rw[Cz];omega,fun bk lf hlf=>?_⟩
 rw[Cz]
 have eg:((g.length:Int)).toNat=g.length:=by omega
 rw[eg]
 refine DN (Pv:=fun j ys σ H'=>∃v,σ=[v,some (.ref ls)]∧ys=nV ((ak j).filter fun k=>decide (g.getD k 0=k))∧An H1 H') ⟨_,rfl,rfl,Ag hlf _⟩ ?_ ?_
 ·rintro j ys σ H' hj hDj ⟨v,rfl,hys,(s':An _ _)⟩
  have ej:(0:Int)+(j:Int)=(j:Int):=by omega
  rw[ej]
  refine⟨_,rfl,_,rfl,ls,_,_,_,rfl,rfl,AD.of (s' _ _ e1),Ot hj,_,rfl,rfl,_,rfl,?_⟩
  have ec:decide (V.int ((g.getD j 0:Nat):Int)=V.int (j:Int))=decide (g.getD j 0=j):=decide_eq_decide.mpr ⟨fun y=>by injection y with y;omega,fun y=>by rw[y]⟩
  rw[ec]
  have el:((ak (j+1)).filter fun k=>decide (g.getD k 0=k))=((ak j).filter fun k=>decide (g.getD k 0=k))++(if decide (g.getD j 0=j)=true then [j] else []):=by
   rw[bh,bq]
   congr 1
   rw[fA,List.filter_nil]
  refine DT (fun z=>?_) (fun z=>?_)
  ·refine⟨_,rfl,hDj,?_,⟨_,rfl,?_,AH s' hlf _⟩⟩
   ·rw[hys,Cz]
    have:=aL (fun k=>decide (g.getD k 0=k)) (ak j)
    rw[aF]at this
    exact Aw (by omega)
   ·rw[el,if_pos z,hys]
    unfold nV
    rw[am];rfl
  ·refine⟨hDj,⟨_,rfl,?_,s'⟩⟩
   rw[el,if_neg z,bn]
   exact hys
 rintro ys σ H2 e2 ⟨v,rfl,hys,(s2:An _ _)⟩
 have hys':ys=nV (B5 g):=hys
 rw[hys']at e2
 clear hys hys'
 have hll:=MB g
 have hlx:∀x∈B5 g,x<M.length:=fun x hx=>by have:=Oz hx;omega
 have lget:∀{i:Nat} {x:V},(nV (B5 g))[i]?=some x→∃k:Nat,(B5 g)[i]?=some k∧x=V.int (k:Int)∧k<M.length:=fun{i x} hx=>by
  unfold nV at hx
  rw[av]at hx
  cases z:(B5 g)[i]? with
  | none=>rw[z]at hx;simp at hx
  | some k=>rw[z]at hx;exact⟨k,rfl,by simpa using hx.symm,hlx k (ay z)⟩
 have vget:∀{Vs:List V} {k:Nat},Vs.length=M.length→k<M.length→G6 Vs (k:Int)=some (Vs.getD k .non):=fun{Vs k} hl hk=>Bo (by rw[ag,aa (by omega)];rfl)
 refine⟨_,rfl,lf,rfl,⟨_,AD.of e2⟩,fun bk st hst=>?_⟩
 refine BC (K:=K) (xs:=nV (B5 g)) (Pv:=fun j ys σ H'=>∃v,σ=[v,some (.ref c)]∧ys=((B5 g).take j).map (fun k=>S.getD k .non)∧An H2 H') ⟨_,rfl,by simp,Ag hst _⟩ ?_ ?_ ?_
 ·rintro j ys σ H' hj hDj ⟨v,rfl,_,(s':An _ _)⟩
  exact AD.of (s' _ _ e2)
 ·rintro j x ys σ H' hx hDj ⟨v,rfl,hys,(s':An _ _)⟩
  obtain⟨k,hk,rfl,hkM⟩:=lget hx
  have sx:=s1.trans (s2.trans s')
  refine⟨_,rfl,c,C,dx,_,_,rfl,sx _ _ h1,T.cl,T.nS,LF sa ra ya,_,rfl,sa,_,_,_,rfl,rfl,AD.of (sx _ _ h2),vget hS hkM,hDj,?_,⟨_,rfl,?_,AH s' hst _⟩⟩
  ·rw[hys,ac,bc];exact Aw (by omega)
  ·rw[bY,hk,am,← hys];rfl
 rintro ss σ H3 e3 ⟨v,rfl,hss,(s3:An _ _)⟩
 rw[Cz,aN]at hss
 refine⟨_,rfl,lf,rfl,⟨_,AD.of (s3 _ _ e2)⟩,fun bk rl hrl=>?_⟩
 have s13:=s2.trans s3
 have s03:=s1.trans s13
 refine BC (K:=K) (xs:=nV (B5 g)) (Pv:=fun j ys σ H'=>∃v qs,σ=[v,some (.ref c),some (.ref ls),some (.ref lf)]∧ys=qs.map V.ref∧An H3 H'∧Z (FG H') qs (((B5 g).take j).map fun k=>(M.getD k []).map (HQ g (B5 g)))∧∀p∈qs,p≠rl) ⟨_,[],rfl,rfl,Ag hrl _,by simp[dw];exact Z.nil,fun p hp=>by simp at hp⟩ ?_ ?_ ?_
 ·rintro j ys σ H' hj hDj ⟨v,qs,rfl,_,(s':An _ _),_⟩
  exact AD.of (s' _ _ (s3 _ _ e2))
 ·rintro j x ys σ H' hx hDj ⟨v,qs,rfl,rfl,(s':An _ _),hZ,hqs⟩
  obtain⟨k,hk,rfl,hkM⟩:=lget hx
  have sx:=s03.trans s'
  have hNk:M[k]?=some (M.getD k []):=by rw[ag,aa hkM];rfl
  obtain⟨p,hp,hrow⟩:=h4.at hNk
  have hrm:M.getD k []∈M:=ay hNk
  have hp':(ps.map V.ref)[k]?=some (.ref p):=by rw[av,hp];rfl
  have lz:=hZ.1
  rw[ac,bc]at lz
  refine⟨_,rfl,c,C,dx,_,_,rfl,sx _ _ h1,T.cl,T.nR,B6 sa ra ya,_,rfl,ra,_,_,_,rfl,rfl,AD.of (sx _ _ h3),Bo hp',_,rfl,_,rfl,p,ls,lf,M.getD k [],g,B5 g,rfl,hrow.same sx,by rw[hG.four _ hrm];decide,(s13.trans s') _ _ e1,(s3.trans s') _ _ e2,by omega,fun x hx=>by have:=hlx x hx;omega,fun e he=>?_,fun D1 H'' s'' hD1 hrow'=>?_⟩
  ·obtain⟨g1,g2⟩:=hG.to _ hrm e he
   exact⟨g1,by omega,hmem _ (by omega)⟩
  ·have n12:rl≠D1:=Af hDj hD1
   have eD:=s'' _ _ hDj
   have kp:En rl H'' (upd H'' rl (.lst (qs.map V.ref++[.ref D1]))):=fun x o ex n=>by rw[Aj n];exact ex
   refine⟨eD,by rw[ac,lz];exact Aw (by omega),⟨_,qs++[D1],rfl,by rw[am];rfl,AH (s'.trans s'') hrl _,?_,fun p hp=>?_⟩⟩
   ·rw[bY,hk,am]
    exact Z.snoc (hZ.monoM fun p _ hp z=>(z.same s'').keep kp (Cc eD) (hqs p hp)) (hrow'.keep kp (Cc eD) n12.symm)
   ·rcases aP.mp hp with z|z
    ·exact hqs p z
    ·have z':p=D1:=by simpa using z
     subst z'
     exact n12.symm
 rintro ys σ H4 e4 ⟨v,qs,rfl,rfl,(s4:An _ _),hZ4,_⟩
 rw[Cz,aN]at hZ4
 have hM4:B7 H4 qs (MD M g):=hZ4
 have s04:=s03.trans s4
 refine⟨_,rfl,lf,rfl,⟨_,AD.of ((s3.trans s4) _ _ e2)⟩,fun bk wl hwl=>?_⟩
 refine BC (K:=K) (xs:=nV (B5 g)) (Pv:=fun j ys σ H'=>∃v,σ=[v,some (.ref c)]∧ys=((B5 g).take j).map (fun k=>W.getD k .non)∧An H4 H') ⟨_,rfl,by simp,Ag hwl _⟩ ?_ ?_ ?_
 ·rintro j ys σ H' hj hDj ⟨v,rfl,_,(s':An _ _)⟩
  exact AD.of (s' _ _ ((s3.trans s4) _ _ e2))
 ·rintro j x ys σ H' hx hDj ⟨v,rfl,hys,(s':An _ _)⟩
  obtain⟨k,hk,rfl,hkM⟩:=lget hx
  have sx:=s04.trans s'
  refine⟨_,rfl,c,C,dx,_,_,rfl,sx _ _ h1,T.cl,T.nW,NJ sa ra ya,_,rfl,ya,_,_,_,rfl,rfl,AD.of (sx _ _ h5),vget hW hkM,hDj,?_,⟨_,rfl,?_,AH s' hwl _⟩⟩
  ·rw[hys,ac,bc];exact Aw (by omega)
  ·rw[bY,hk,am,← hys];rfl
 rintro ws σ H5 e5 ⟨v,rfl,hws,(s5:An _ _)⟩
 rw[Cz,aN]at hws
 have s05:=s04.trans s5
 obtain⟨vss,hvl,hvs⟩:=Me (B7.same s5 hM4)
 refine⟨_,rfl,_,rfl,_,rfl,fun c' dx' hc' hdx' ncd=>?_⟩
 have kc:∀x o,H5 x=some o→(upd (upd H5 dx' (.own c')) c' (.ins C dx' [])) x=some o:=fun x o e=>by
  rw[Aj (Af e hc'),Aj (Af e hdx')];exact e
 have fc:∀x,(upd (upd H5 dx' (.own c')) c' (.ins C dx' [])) x=ae→H x=ae:=fun x e=>by
  cases z:H x with
  | none=>rfl
  | some o=>rw[kc x o (s05 _ _ z)]at e;cases e
 have lq:=hM4.1
 have lM:(MD M g).length=(B5 g).length:=by simp[MD]
 refine⟨c',dx',st,rl,wl,qs,ss,vss,ws,rfl,Ad,kc _ _ ((s4.trans s5) _ _ e3),kc _ _ (s5 _ _ e4),⟨hvl,fun i p vs a1 a2=>kc _ _ (hvs H5 (An.refl _) i p vs a1 a2).1⟩,kc _ _ e5,by omega,fun sb rb yb pb H6 k6 o6 f1 g1 f2 g2 g3 f3 f4 g4=>⟨rfl,?_⟩⟩
 have s56:An H5 H6:=fun x o e=>k6 x o (kc x o e) (Af e hc')
 refine q c' sb rb yb pb H6 (s05.trans s56) ⟨⟨dx',o6⟩,by rw[← hss];exact g1,g2,?_,by rw[← hws];exact g4⟩ (fc _ f1) (fc _ f2) (fc _ f4) fun p hp=>⟨fc _ (f3 p hp).1,(f3 p hp).2⟩
 refine⟨by rw[g3.1,← hvl];exact lq,fun i p ro a1 a2=>?_⟩
 obtain⟨vs,b1,b2⟩:=g3.at1 a1
 have hi:i<qs.length:=by rw[hvl];exact(af.mp b1).1
 obtain⟨_,ro',c1,c2⟩:=hvs H6 s56 i _ vs (aa hi) b1
 rw[a2]at c1
 cases c1
 exact⟨vs,b2,c2⟩
theorem MM{W:Wk}{c w:List Int}:∀(es:List Int) {S S':FS},Gz W c w es S=.ok S'→∃more,S'.cs=S.cs++more
 | [],S,S',h=>by cases h;exact⟨[],by simp⟩
 | e::es,S,S',h=>by
  unfold Gz at h
  split at h
  ·cases h
  ·rename_i S1 h1
   obtain⟨m1,e1⟩:=MM es h
   unfold EJ at h1
   split at h1
   ·cases h1
   ·unfold Jr at h1
    split at h1
    ·cases h1;exact⟨m1,e1⟩
    ·split at h1
     ·cases h1
     ·cases h1
      exact⟨W.nx c e::m1,by rw[e1];simp⟩
theorem Ju{W:Wk}{L:List (List Int)}(hp:∀c e,W.pr c e=ae)(hL:L.length<W.m){c w:List Int}(hc:∀e:Nat,e<4→W.nx c (e:Int)∈L):∀(es:List Nat) (S:FS),(∀e∈es,e<4)→(∀y∈S.cs,y∈L)→S.cs.Nodup →
  ∃S',Gz W c w (es.map fun(e:Nat)=>(e:Int)) S=.ok S'∧(∀y∈S'.cs,y∈L)∧S'.cs.Nodup
 | [],S,_,h1,h2=>⟨S,rfl,h1,h2⟩
 | e::es,S,he,h1,h2=>by
  have hx:=hc e (he e aw)
  have hst:EJ W c w S (e:Int)=Jr W c w S (e:Int):=by unfold EJ;rw[hp]
  rw[aY]
  unfold Gz
  rw[hst]
  unfold Jr
  by_cases hin:W.nx c (e:Int)∈S.cs
  ·rw[if_pos hin]
   exact Ju hp hL hc es _ (fun y hy=>he y (aq _ hy)) h1 h2
  ·have hlen:=DK S.cs L h2 h1
   rw[if_neg hin,if_neg (by omega)]
   refine Ju hp hL hc es _ (fun y hy=>he y (aq _ hy)) (fun y hy=>?_) ?_
   ·rcases aP.mp hy with z|z
    ·exact h1 y z
    ·rw[au.mp z];exact hx
   ·refine bB.mpr ⟨h2,bm.mpr ⟨by simp,bD⟩,fun a ha b hb e=>?_⟩
    rw[e,au.mp hb]at ha
    exact hin ha
theorem KD:∀{a b c:List Int},R7 a b→R7 b c→R7 a c
 | [],_,_,h,_=>by cases h
 | _::_,[],_,h,_=>by cases h
 | _::_,_::_,[],_,h=>by cases h
 | x::a,y::b,z::c,h,g=>by
  rcases h with h|⟨rfl,h⟩
  ·rcases g with g|⟨rfl,g⟩
   ·exact .inl (Int.lt_trans h g)
   ·exact .inl h
  ·rcases g with g|⟨rfl,g⟩
   ·exact .inl g
   ·exact .inr ⟨rfl,KD h g⟩
theorem M1{a b c:List Int}(h:SL a b)(g:SL b c):SL a c:=by
 rcases h with h|⟨h,h'⟩
 ·rcases g with g|⟨g,_⟩
  ·exact .inl (cB h g)
  ·exact .inl (by omega)
 ·rcases g with g|⟨g,g'⟩
  ·exact .inl (by omega)
  ·exact .inr ⟨h.trans g,KD h' g'⟩
theorem Ow:∀{a:List Int},¬R7 a a
 | [],h=>by cases h
 | x::a,h=>by
  rcases h with h|⟨_,h⟩
  ·omega
  ·exact Ow h
theorem SL_irr{a:List Int}:¬SL a a:=fun h=>by
 rcases h with h|⟨_,h⟩
 ·omega
 ·exact Ow h
def HY(a b:List Int):Prop:=a=b∨SL a b
theorem HY.trans{a b c:List Int}(h:HY a b)(g:HY b c):HY a c:=by
 rcases h with rfl|h
 ·exact g
 ·rcases g with rfl|g
  ·exact .inr h
  ·exact .inr (M1 h g)
theorem HY.snoc{a b:List Int}(h:HY a b)(x:Int):HY (a++[x]) (b++[x]):=by
 rcases h with rfl|h
 ·exact .inl rfl
 ·exact .inr (h.snoc x x)
theorem HY.up{a b:List Int}(h:HY a b)(x:Int):HY a (b++[x]):=by
 right
 left
 rw[ai]
 show a.length<b.length+1
 rcases h with rfl|h|⟨h,_⟩<;>omega
theorem Rr{a b:List Int}(h:HY a b)(g:HY b a):a=b:=by
 rcases h with h|h
 ·exact h
 ·rcases g with g|g
  ·exact g.symm
  ·exact absurd (M1 h g) SL_irr
def LR(m:Fm.Mc)(p:List Int)(e:Int):List Int:=match p with
 | [a,b]=>[((m.nx a.toNat e.toNat:Nat):Int),((m.nx b.toNat e.toNat:Nat):Int)]
 | _=>p
def NM(m:Fm.Mc)(p:List Int)(e:Nat):Bool:=match p with
 | [a,b]=>decide (m.dd a.toNat e≠m.dd b.toNat e)
 | _=>false
def JF(m:Fm.Mc)(p:List Int):Option Nat:=(ak 4).find? (NM m p)
def NU(m:Fm.Mc):Wk:=⟨LR m,fun _ _=>[],fun _ _=>ae,1000⟩
def DX(m:Fm.Mc):Nat→Nat→FS→Option (List Int)
 | 0,_,_=>ae
 | f+1,n,S=>if n<S.cs.length then
   match JF m (S.cs.getD n []) with
   | some e=>some (S.ws.getD n []++[(e:Int)])
   | ae=>match LB (NU m) n S with
    | .ok S'=>DX m f (n+1) ⟨S'.cs,S'.ws,S'.rows++[S'.row],[]⟩
    | .error _=>ae
  else ae
def Evs(u:List Int):Prop:=∀x∈u,0≤x∧x<4
def C5(m:Fm.Mc)(p w:List Int):Prop:=∃(u:List Int) (e:Nat),w=u++[(e:Int)]∧Evs u∧e<4∧NM m (u.foldl (LR m) p) e=true
theorem KJ{m:Fm.Mc}{p:List Int}(h:JF m p=ae){e:Nat}(he:e<4):NM m p e=false:=by
 have:=bL.mp h e (az.mpr he)
 simpa using this
theorem PJ{m:Fm.Mc}{p:List Int}{e:Nat}(h:JF m p=some e):e<4∧NM m p e=true∧∀j,j<e→NM m p j=false:=by
 have h1:=dg h
 have h2:=az.mp (cg h)
 refine⟨h2,h1,fun j hj=>?_⟩
 obtain⟨_,i,hi,e',hlt⟩:=bX.mp h
 rw[bM]at e'
 subst e'
 have z:=hlt j hj
 rw[bM]at z
 simpa using z
theorem Qf{P:List Int→Prop}(h0:P [])(h1:∀u a,P u→P (u++[a]))(u:List Int):P u:=by
 have key:∀l:List Int,P l.reverse:=fun l=>by
  induction l with
  | nil=>exact h0
  | cons a l ih=>rw[List.reverse_cons];exact h1 _ a ih
 have:=key u.reverse
 rwa [List.reverse_reverse]at this
section
variable{m:Fm.Mc}{p0:List Int}{S:FS}{n:Nat}
theorem LV(h:GI (NU m) p0 S n 0):∀(k j:Nat) v,v.length=k→S.ws[j]?=some v→Evs v
 | k,j,v,hk,hv=>by
  rcases h.par j v hv with rfl|⟨i,u,e,h1,rfl,h2,h3,_⟩
  ·exact fun x hx=>by cases hx
  ·have hl:u.length<k:=by rw[← hk,ai];exact bU _
   have:=LV h u.length i u rfl h1
   intro x hx
   rcases aP.mp hx with z|z
   ·exact this x z
   ·rw[au.mp z];exact⟨h2,h3⟩
termination_by k=>k
decreasing_by exact hl
theorem reach(h:GI (NU m) p0 S n 0):∀(u:List Int),Evs u→(∃(j:Nat) (v:List Int),S.cs[j]?=some (u.foldl (LR m) p0)∧S.ws[j]?=some v∧HY v u)∨∃wn,S.ws[n]?=some wn∧HY wn u:=by
 intro u
 refine Qf (P:=fun u=>Evs u→(∃(j:Nat) (v:List Int),S.cs[j]?=some (u.foldl (LR m) p0)∧S.ws[j]?=some v∧HY v u)∨∃wn,S.ws[n]?=some wn∧HY wn u) ?_ ?_ u
 ·exact fun _=>.inl ⟨0,[],h.c0,h.w0,.inl rfl⟩
 ·intro u a ih hu
  have ha:=hu a (bg _ (au.mpr rfl))
  rcases ih fun x hx=>hu x (bN _ hx) with⟨j,v,g1,g2,g3⟩|⟨wn,g1,g2⟩
  ·have hjc:=(af.mp g1).1
   have hjw:=(af.mp g2).1
   by_cases hj:j<n
   ·have hr:=aa (show j<S.rows.length by rw[h.rl];exact hj)
    obtain⟨r1,r2⟩:=h.rw j _ v _ g1 g2 hr
    have h4:a.toNat<(S.rows[j]'(by rw[h.rl];exact hj)).length:=by
     rw[r1]
     show a.toNat<4
     omega
    have he:([0,1,2,3]:List Int)[a.toNat]?=some a:=by
     obtain⟨k,hk⟩:∃k:Nat,a=(k:Int):=⟨a.toNat,by omega⟩
     subst hk
     have hk4:k<4:=by omega
     rw[aA]
     match k,hk4 with
     | 0,_=>rfl
     | 1,_=>rfl
     | 2,_=>rfl
     | 3,_=>rfl
    obtain⟨_,_,k,_,b1,v',b2,b3⟩:=r2 a.toNat a _ he (aa h4)
    left
    refine⟨k,v',?_,b2,HY.trans (show HY v' (v++[a]) from b3) (g3.snoc a)⟩
    rw[b1,bI];rfl
   ·right
    have hnw:n<S.ws.length:=by omega
    refine⟨_,aa hnw,?_⟩
    have hnv:HY (S.ws[n]) v:=by
     by_cases e:n=j
     ·subst e
      have:=(aa hnw).symm.trans g2
      exact .inl (br.inj this)
     ·exact .inr (h.srt n j _ v (by omega) (aa hnw) g2)
    exact(hnv.trans g3).up a
  ·exact .inr ⟨wn,g1,g2.up a⟩
theorem Mi{L:List (List Int)}(hL:L.length≤900)(hc:∀c∈L,∀e:Nat,e<4→LR m c (e:Int)∈L):∀(f n:Nat) (S:FS),GI (NU m) p0 S n 0→(∀y∈S.cs,y∈L)→n≤S.cs.length→900<f+n→(∀(i:Nat) c,i<n→S.cs[i]?=some c→JF m c=ae) →
  (∀w,DX m f n S=some w→C5 m p0 w∧∀w',C5 m p0 w'→HY w w')∧(DX m f n S=ae→∀w',¬C5 m p0 w')
 | 0,n,S,h,hl,hn,hf,_=>by
  have:=DK S.cs L h.nd hl
  omega
 | f+1,n,S,h,hl,hn,hf,hno=>by
  have hlen:=DK S.cs L h.nd hl
  unfold DX
  by_cases hlt:n<S.cs.length
  ·rw[if_pos hlt]
   have hcn:=aa hlt
   have hwn:=aa (show n<S.ws.length by rw[h.wl];exact hlt)
   have ec:S.cs.getD n []=S.cs[n]:=by rw[ag,hcn];rfl
   have ew:S.ws.getD n []=S.ws[n]'(by rw[h.wl];exact hlt):=by rw[ag,hwn];rfl
   rw[ec,ew]
   have hgo:=h.go n _ _ hwn hcn
   generalize S.ws[n]'(by rw[h.wl];exact hlt)=wn at hwn hgo
   cases hd:JF m S.cs[n] with
   | some e=>
    obtain⟨e4,d1,d2⟩:=PJ hd
    refine⟨fun w hw=>?_,fun z=>by cases z⟩
    cases hw
    refine⟨⟨wn,e,rfl,LV h _ n wn rfl hwn,e4,by rw[show wn.foldl (LR m) p0=S.cs[n] from hgo];exact d1⟩,fun w' ⟨u,a,hw',hu,ha,hda⟩=>?_⟩
    subst hw'
    have key:HY wn u:=by
     rcases reach h u hu with⟨j,v,g1,g2,g3⟩|⟨wn',g1,g2⟩
     ·have hj:¬j<n:=fun z=>by
       have:=KJ (hno j _ z g1) ha
       rw[hda]at this;cases this
      have hnv:HY wn v:=by
       by_cases e':n=j
       ·subst e'
        rw[hwn]at g2
        cases g2;exact .inl rfl
       ·exact .inr (h.srt n j wn v (by omega) hwn g2)
      exact hnv.trans g3
     ·rw[hwn]at g1
      cases g1;exact g2
    rcases key with rfl|key
    ·have hea:¬a<e:=fun z=>by
      have:=d2 a z
      rw[show wn.foldl (LR m) p0=S.cs[n] from hgo]at hda
      rw[hda]at this;cases this
     by_cases e':e=a
     ·subst e';exact .inl rfl
     ·exact .inr (OU (by omega) wn)
    ·exact .inr (key.snoc _ _)
   | none=>
    have hm:=hl _ (aI hlt)
    obtain⟨S1,g1,g2,g3⟩:=Ju (W:=NU m) (L:=L) (w:=wn) (c:=S.cs[n]) (fun _ _=>rfl) (by show L.length<1000;omega) (fun e he=>hc _ hm e he) [0,1,2,3] ⟨S.cs,S.ws,S.rows,[]⟩ (by decide) hl h.nd
    have g1':LB (NU m) n S=.ok S1:=by
     unfold LB
     rw[ec,ag,hwn]
     exact g1
    rw[g1']
    obtain⟨b,b1,b2,b3⟩:=LD (f0:=p0) (n:=n) [0,1,2,3] 0 (S:=⟨S.cs,S.ws,S.rows,[]⟩) rfl (by decide) ⟨h.wl,h.c0,h.w0,h.nd,h.go,h.par,h.srt,h.rl,h.rw⟩ hcn hwn ⟨rfl,fun i e x a _=>by cases a⟩ g1
    have hcl:=MM (S:=⟨S.cs,S.ws,S.rows,[]⟩) _ g1
    have hnl:=(af.mp b1).1
    refine Mi hL hc f (n+1) ⟨S1.cs,S1.ws,S1.rows++[S1.row],[]⟩ ⟨b.wl,b.c0,b.w0,b.nd,b.go,fun j v hv=>?_,b.srt,?_,fun i c u r x y z=>?_⟩ g2 hnl (by omega) (fun i c hi hc'=>?_)
    ·rcases b.par j v hv with z|⟨i,u,e,k1,k2,k3,k4,k5⟩
     ·exact .inl z
     ·refine .inr ⟨i,u,e,k1,k2,k3,k4,.inl ?_⟩
      rcases k5 with k5|⟨k5,_⟩<;>omega
    ·show(S1.rows++[S1.row]).length=n+1
     rw[ai,b.rl];rfl
    ·rcases BL z with z|⟨ei,rfl⟩
     ·exact b.rw i c u r x y z
     ·rw[b.rl]at ei
      subst ei
      rw[b1]at x
      rw[b2]at y
      cases x
      cases y
      exact b3
    ·by_cases e:i=n
     ·subst e
      have:S1.cs[i]?=some c:=hc'
      rw[b1]at this
      cases this
      exact hd
     ·obtain⟨more,hmore⟩:=hcl
      have:S1.cs[i]?=some c:=hc'
      have hS1:S1.cs=S.cs++more:=hmore
      rw[hS1,aO (by omega)]at this
      exact hno i c (by omega) this
  ·rw[if_neg hlt]
   refine⟨fun w hw=>(by cases hw),fun _ w' ⟨u,a,hw',hu,ha,hda⟩=>?_⟩
   rcases reach h u hu with⟨j,v,g1,g2,g3⟩|⟨wn',g1,g2⟩
   ·have hj:=(af.mp g1).1
    have:=KJ (hno j _ (by omega) g1) ha
    rw[hda]at this;cases this
   ·have:=(af.mp g1).1
    have:=h.wl
    omega
end
def EK(m:Fm.Mc)(t a b l e:Nat):Bool:=if l=1 then decide (m.dd a e≠m.dd b e) else decide (Fm.far m t (m.nx a e) (m.nx b e)=l - 1)
def pickW(m:Fm.Mc)(t a b l:Nat):Nat:=((ak 4).find? (EK m t a b l)).getD 3
def HF(m:Fm.Mc)(t:Nat):Nat→Nat→Nat→List Int
 | 0,_,_=>[]
 | l+1,a,b=>((pickW m t a b (l+1):Nat):Int)::HF m t l (m.nx a (pickW m t a b (l+1))) (m.nx b (pickW m t a b (l+1)))
theorem Ee(m:Fm.Mc)(t:Nat):∀l a b,(HF m t l a b).length=l
 | 0,_,_=>rfl
 | l+1,a,b=>by
  unfold HF
  rw[bf,Ee m t l]
theorem Rb{m:Fm.Mc}{t l a b:Nat}(h1:0<l)(ht:l≤t)(hf:Fm.al m l a b=false)(hg:Fm.al m (l - 1) a b=true):Fm.far m t a b=l:=by
 have h0:Fm.far m t a b≠0:=fun z=>by
  rw[Fm.al_le ht ((Fm.far_zero t a b).mp z)]at hf;cases hf
 obtain⟨_,j2,j3⟩:=(Fm.far_spec t a b).2 h0
 rcases cS (Fm.far m t a b) l with z|z|z
 ·rw[Fm.al_le (show Fm.far m t a b≤l - 1 by omega) hg]at j2;cases j2
 ·exact z
 ·rw[Fm.al_le (show l≤Fm.far m t a b - 1 by omega) j3]at hf;cases hf
theorem Oj{m:Fm.Mc}{t a b l:Nat}(hf:Fm.al m (l+1) a b=false)(hg:Fm.al m l a b=true)(ht:l+1≤t) :
  pickW m t a b (l+1)<4∧EK m t a b (l+1) (pickW m t a b (l+1))=true∧∀j,j<pickW m t a b (l+1)→EK m t a b (l+1) j=false:=by
 have ex:∃e,e<4∧EK m t a b (l+1) e=true:=by
  obtain⟨e,he,hd⟩:=Fm.al_or hf
  refine⟨e,he,?_⟩
  unfold EK
  cases l with
  | zero=>
   rw[if_pos rfl]
   rcases hd with y|y
   ·exact decide_eq_true y
   ·cases y
  | succ l=>
   rw[if_neg (by omega)]
   have g:=Fm.al_succ.mp hg e he
   rcases hd with y|y
   ·exact absurd g.1 y
   ·exact decide_eq_true (Rb (by omega) (by omega) y g.2)
 unfold pickW
 cases h:(ak 4).find? (EK m t a b (l+1)) with
 | none=>
  obtain⟨e,he,hd⟩:=ex
  exact absurd hd (bL.mp h e (az.mpr he))
 | some e=>
  have h1:=dg h
  have h2:=az.mp (cg h)
  refine⟨h2,h1,fun j hj=>?_⟩
  have hj':j<e:=hj
  obtain⟨_,i,hi,e',hlt⟩:=bX.mp h
  rw[bM]at e'
  subst e'
  have z:=hlt j hj'
  rw[bM]at z
  simpa using z
theorem R4(m:Fm.Mc)(a b e:Nat):LR m [(a:Int),(b:Int)] (e:Int)=[((m.nx a e:Nat):Int),((m.nx b e:Nat):Int)]:=rfl
theorem EZ{m:Fm.Mc}{a b:Nat}{w:List Int}(h:C5 m [(a:Int),(b:Int)] w):∃(e:Nat) (w':List Int),w=(e:Int)::w'∧e<4∧((w'=[]∧m.dd a e≠m.dd b e)∨C5 m [((m.nx a e:Nat):Int),((m.nx b e:Nat):Int)] w'):=by
 obtain⟨u,e,hw,hu,he,hd⟩:=h
 cases u with
 | nil=>exact⟨e,[],hw,he,.inl ⟨rfl,of_decide_eq_true hd⟩⟩
 | cons x u=>
  obtain⟨x0,x4⟩:=hu x aw
  obtain⟨k,rfl⟩:∃k:Nat,x=(k:Int):=⟨x.toNat,by omega⟩
  exact⟨k,u++[(e:Int)],hw,by omega,.inr ⟨u,e,rfl,fun y hy=>hu y (aq _ hy),he,hd⟩⟩
theorem Nl{m:Fm.Mc}{a b e:Nat}{w:List Int}(he:e<4)(h:C5 m [((m.nx a e:Nat):Int),((m.nx b e:Nat):Int)] w):C5 m [(a:Int),(b:Int)] ((e:Int)::w):=by
 obtain⟨u,e',rfl,hu,he',hd⟩:=h
 refine⟨(e:Int)::u,e',rfl,fun y hy=>?_,he',hd⟩
 rcases aG.mp hy with rfl|hy
 ·omega
 ·exact hu y hy
theorem Ft{m:Fm.Mc}:∀(w:List Int) (a b:Nat),C5 m [(a:Int),(b:Int)] w→Fm.al m w.length a b=false
 | [],a,b,h=>by
  obtain⟨_,_,z,_⟩:=EZ h
  cases z
 | x::w,a,b,h=>by
  obtain⟨e,w',z,he,hd⟩:=EZ h
  obtain⟨z1,z2⟩:=fE.inj z
  subst z2
  cases y:Fm.al m (x::w).length a b with
  | false=>rfl
  | true=>
   have g:=Fm.al_succ.mp (show Fm.al m (w.length+1) a b=true from y) e he
   rcases hd with⟨_,hd⟩|hd
   ·exact absurd g.1 hd
   ·have:=Ft w _ _ hd
    rw[g.2]at this;cases this
theorem NT{m:Fm.Mc}{t:Nat}:∀(l a b:Nat),Fm.al m (l+1) a b=false→Fm.al m l a b=true→l+1≤t→C5 m [(a:Int),(b:Int)] (HF m t (l+1) a b)∧∀w',C5 m [(a:Int),(b:Int)] w'→HY (HF m t (l+1) a b) w':=by
 intro l
 induction l with
 | zero=>
  intro a b hf hg ht
  obtain⟨p4,pg,pl⟩:=Oj hf hg ht
  show C5 m _ (((pickW m t a b 1:Nat):Int)::[])∧∀w',C5 m _ w'→HY (((pickW m t a b 1:Nat):Int)::[]) w'
  generalize pickW m t a b (0+1)=e at p4 pg pl
  refine⟨⟨[],e,rfl,fun y hy=>(by cases hy),p4,?_⟩,fun w' hw'=>?_⟩
  ·unfold EK at pg
   rw[if_pos rfl]at pg
   exact pg
  ·obtain⟨e',w'',rfl,he',hd⟩:=EZ hw'
   rcases hd with⟨rfl,hd⟩|hd
   ·have hg':EK m t a b (0+1) e'=true:=by
     unfold EK
     rw[if_pos rfl]
     exact decide_eq_true hd
    have hle:¬e'<e:=fun z=>by
     rw[pl e' z]at hg';cases hg'
    by_cases z:e=e'
    ·subst z;exact .inl rfl
    ·exact .inr (.inr ⟨rfl,.inl (by omega)⟩)
   ·obtain⟨_,_,rfl,_⟩:=EZ hd
    exact .inr (.inl (by simp))
 | succ l ih=>
  intro a b hf hg ht
  obtain⟨p4,pg,pl⟩:=Oj hf hg ht
  have hw:HF m t (l+1+1) a b=((pickW m t a b (l+1+1):Nat):Int)::HF m t (l+1) (m.nx a (pickW m t a b (l+1+1))) (m.nx b (pickW m t a b (l+1+1))):=rfl
  rw[hw]
  generalize pickW m t a b (l+1+1)=e at p4 pg pl
  have hfar:Fm.far m t (m.nx a e) (m.nx b e)=l+1:=by
   unfold EK at pg
   rw[if_neg (by omega)]at pg
   exact of_decide_eq_true pg
  obtain⟨_,j2,j3⟩:=(Fm.far_spec (m:=m) t (m.nx a e) (m.nx b e)).2 (by omega)
  rw[hfar]at j2 j3
  obtain⟨i1,i2⟩:=ih _ _ j2 j3 (by omega)
  refine⟨Nl p4 i1,fun w' hw'=>?_⟩
  have hlen:=Ft w' _ _ hw'
  have hge:¬w'.length<l+1+1:=fun z=>by
   rw[Fm.al_le (show w'.length≤l+1 by omega) hg]at hlen;cases hlen
  by_cases hl:w'.length=l+1+1
  ·obtain⟨e',w'',rfl,he',hd⟩:=EZ hw'
   have hl':w''.length=l+1:=by simpa using hl
   rcases hd with⟨rfl,hd⟩|hd
   ·cases hl'
   ·have hp:=Ft w'' _ _ hd
    rw[hl']at hp
    have g:=Fm.al_succ.mp hg e' he'
    have hg':EK m t a b (l+1+1) e'=true:=by
     unfold EK
     rw[if_neg (by omega)]
     exact decide_eq_true (Rb (by omega) (by omega) hp g.2)
    have hle:¬e'<e:=fun z=>by
     rw[pl e' z]at hg';cases hg'
    by_cases z:e=e'
    ·subst z
     rcases i2 w'' hd with q|q
     ·rw[q];exact .inl rfl
     ·right;right
      refine⟨by simp[Ee,hl'],.inr ⟨rfl,?_⟩⟩
      rcases q with q|q
      ·rw[Ee,hl']at q;omega
      ·exact q.2
    ·exact .inr (.inr ⟨by simp[Ee,hl'],.inl (by omega)⟩)
  ·exact .inr (.inl (by rw[bf,Ee];omega))
def Hw(n:Nat):List (List Int):=(ak (n*n)).map fun k=>[((k / n:Nat):Int),((k % n:Nat):Int)]
theorem JT{n a b:Nat}(ha:a<n)(hb:b<n):[(a:Int),(b:Int)]∈Hw n:=by
 refine aJ.mpr ⟨n*a+b,az.mpr ?_,?_⟩
 ·have:n*(a+1)≤n*n:=Nat.mul_le_mul_left n ha
  rw[Nat.mul_add]at this
  omega
 ·rw[Nat.mul_add_div (by omega),Nat.div_eq_of_lt hb,Nat.mul_add_mod,Nat.mod_eq_of_lt hb];rfl
theorem JS{n:Nat}{c:List Int}(h:c∈Hw n):∃a b:Nat,c=[(a:Int),(b:Int)]∧a<n∧b<n:=by
 obtain⟨k,hk,rfl⟩:=aJ.mp h
 have hk':=az.mp hk
 have hn:0<n:=by
  rcases cG n with rfl|z
  ·cases hk'
  ·exact z
 exact⟨k / n,k % n,rfl,(Nat.div_lt_iff_lt_mul hn).mpr hk',fC _ hn⟩
theorem KT{m:Fm.Mc}(ok:m.Ok){c:List Int}(h:c∈Hw m.n){e:Nat}(he:e<4):LR m c (e:Int)∈Hw m.n:=by
 obtain⟨a,b,rfl,ha,hb⟩:=JS h
 exact JT (ok.nx a e ha he) (ok.nx b e hb he)
theorem Ni{m:Fm.Mc}(ok:m.Ok)(hn:m.n≤30){t a b:Nat}(st:Fm.Stable m t)(ha:a<m.n)(hb:b<m.n) :
  DX m 1000 0 ⟨[[(a:Int),(b:Int)]],[[]],[],[]⟩=if Fm.far m t a b=0 then ae else some (HF m t (Fm.far m t a b) a b):=by
 have hL:(Hw m.n).length≤900:=by
  unfold Hw
  rw[ac,aF]
  exact cU hn hn
 obtain⟨k1,k2⟩:=Mi (m:=m) (p0:=[(a:Int),(b:Int)]) hL (fun c hc e he=>KT ok hc he) 1000 0 ⟨[[(a:Int),(b:Int)]],[[]],[],[]⟩ (MJ _ _) (fun y hy=>by rw[au.mp hy];exact JT ha hb) (bw _) (by decide) (fun i c hi=>by cases hi)
 by_cases h:Fm.far m t a b=0
 ·rw[if_pos h]
  have hal:=(Fm.far_zero t a b).mp h
  cases hp:DX m 1000 0 ⟨[[(a:Int),(b:Int)]],[[]],[],[]⟩ with
  | none=>rfl
  | some w=>
   have g:=Ft w a b (k1 w hp).1
   rcases cR w.length t with z|z
   ·rw[Fm.al_le z hal]at g;cases g
   ·rw[Fm.stable_al ok z st ha hb,hal]at g;cases g
 ·rw[if_neg h]
  obtain⟨j1,j2,j3⟩:=(Fm.far_spec t a b).2 h
  obtain⟨l,hl⟩:∃l,Fm.far m t a b=l+1:=⟨Fm.far m t a b - 1,by omega⟩
  rw[hl]at j1 j2 j3 ⊢
  obtain⟨i1,i2⟩:=NT (t:=t) l a b j2 j3 j1
  cases hp:DX m 1000 0 ⟨[[(a:Int),(b:Int)]],[[]],[],[]⟩ with
  | none=>exact absurd i1 (k2 hp _)
  | some w=>
   obtain⟨q1,q2⟩:=k1 w hp
   rw[Rr (q2 _ i1) (i2 _ q1)]
def TwoAt(H:Hp)(v:V)(p:D0×D0):Prop:=∃t x y,v=.ref t∧H t=some (.tup [x,y])∧BH H x p.1∧BH H y p.2
def twoL(M:Bf)(a b:Nat):List (D0×D0):=(ak 4).map fun e=>(AQ M a e,AQ M b e)
theorem KZ{M:Bf}{a b i:Nat}{p:D0×D0}(h:(twoL M a b)[i]?=some p):i<4∧p=(AQ M a i,AQ M b i):=by
 unfold twoL at h
 rw[av]at h
 have hi:i<4:=by
  by_cases z:i<4
  ·exact z
  ·rw[bA (by simpa using z)]at h;cases h
 rw[bv hi]at h
 exact⟨hi,(br.inj h).symm⟩
def Hf(C:fG):Sp:=fun vs H Q _=>∃(c s r y pa:fG) (ps:List fG) (S W:List V) (M:Bf) (a b:Nat),vs=[.ref c,.ref pa]∧CL C H c s r y ps S M W∧BV M∧H pa=some (.tup [.int a,.int b])∧a<M.length∧b<M.length ∧
 ∀(l:fG) (zs:List V) (H':Hp),An H H'→H l=ae→H' l=some (.lst zs)→Z (TwoAt H') zs (twoL M a b)→Q (.ref l) H'
theorem O7:AA ["flat", "pair"] ["flat", "pair"] (Am CY):=⟨rfl,rfl,rfl,by decide +kernel,rfl,by decide +kernel,by decide +kernel⟩
theorem Jf{f C:fG}{fd:fO}(D:Al K mg "entries_of" CY ["flat", "pair"] f fd)(T:JY K mg C):AC P w K mg base A6 1 f fd ["flat", "pair"] (Hf C):=by
 refine D.fn.ok O7 (fun vs H Q E h=>?_) (fun cdv A outer s H vs Q E hr h=>?_)
 ·obtain⟨c,s,r,y,pa,ps,S,W,M,a,b,rfl,_⟩:=h
  rfl
 obtain⟨c,sa,ra,ya,pa,ps,S,W,M,a,b,rfl,hF,hG,hpa,ha,hb,q⟩:=h
 refine⟨_,Ak (AK (Nk rfl (by rfl) T.list (by rfl) T.zip (Aa (Ao Au (A3 (pv 0) rfl) (Ao Av (pv 1) Ah (fun _ _=>rfl)) (fun _ _=>rfl)) (Aa (Ao Au (A3 (pv 0) rfl) (Ao Av (pv 1) Ah (fun _ _=>rfl)) (fun _ _=>rfl)) Ab)))),?_⟩
 obtain⟨⟨dx,h1⟩,h2,h3,h4,h5⟩:=hF
 obtain⟨rowA,ea,la,_⟩:=Bn hG ha (show 0<4 by decide)
 obtain⟨rowB,eb,lb,_⟩:=Bn hG hb (show 0<4 by decide)
 obtain⟨p1,hp1,vs1,hv1,hE1⟩:=h4.at ea
 obtain⟨p2,hp2,vs2,hv2,hE2⟩:=h4.at eb
 have ga:G6 (ps.map V.ref) (a:Int)=some (.ref p1):=Bo (by rw[av,hp1];rfl)
 have gb:G6 (ps.map V.ref) (b:Int)=some (.ref p2):=Bo (by rw[av,hp2];rfl)
 have l1:vs1.length=4:=by rw[hE1.1,la]
 have l2:vs2.length=4:=by rw[hE2.1,lb]
 refine⟨_,rfl,c,C,dx,_,_,rfl,h1,T.cl,T.nR,B6 sa ra ya,_,rfl,pa,_,_,_,rfl,rfl,A2.of hpa,rfl,ra,_,_,_,rfl,rfl,AD.of h3,ga,_,rfl,c,C,dx,_,_,rfl,h1,T.cl,T.nR,B6 sa ra ya,_,rfl,pa,_,_,_,rfl,rfl,A2.of hpa,rfl,ra,_,_,_,rfl,rfl,AD.of h3,gb,
  p1,p2,vs1,vs2,rfl,AD.of hv1,AD.of hv2,by rw[l1,l2],by rw[l1];decide,fun l Ts H' s' hl el hTs hP=>?_⟩
 refine q l _ H' s' hl el ⟨by rw[ac,hTs,l1];rfl,fun i v p z1 z2=>?_⟩
 obtain⟨hi,rfl⟩:=KZ z2
 rw[av]at z1
 cases z:Ts[i]? with
 | none=>rw[z]at z1;cases z1
 | some t=>
  rw[z]at z1
  cases z1
  obtain⟨x,y,g1,g2,g3⟩:=hP i t z
  obtain⟨rA,fa,_,fa2,_⟩:=Bn hG ha hi
  obtain⟨rB,fb,_,fb2,_⟩:=Bn hG hb hi
  rw[ea]at fa
  cases fa
  rw[eb]at fb
  cases fb
  exact⟨t,x,y,rfl,g3,(hE1.2 i _ _ g1 fa2).same s',(hE2.2 i _ _ g2 fb2).same s'⟩
def optE(o:Option Nat):V:=match o with
 | some e=>.int (e:Int)
 | ae=>.non
def Oa(C:fG):Sp:=fun vs H Q _=>∃(c s r y pa:fG) (ps:List fG) (S W:List V) (M:Bf) (a b:Nat),vs=[.ref c,.ref pa]∧CL C H c s r y ps S M W∧BV M∧H pa=some (.tup [.int a,.int b])∧a<M.length∧b<M.length ∧
 ∀(H':Hp),An H H'→Q (optE (JF (AN M) [(a:Int),(b:Int)])) H'
theorem Si{m:Fm.Mc}{p:List Int}{e:Nat}(he:e<4)(h:NM m p e=true)(hl:∀j,j<e→NM m p j=false):JF m p=some e:=by
 unfold JF
 rw[bX]
 refine⟨h,e,by simpa using he,by rw[bM],fun j hj=>?_⟩
 rw[bM,hl j hj];rfl
theorem Q9{m:Fm.Mc}{p:List Int}(hl:∀j,j<4→NM m p j=false):JF m p=ae:=by
 unfold JF
 rw[bL]
 intro j hj
 rw[hl j (az.mp hj)];decide
theorem Le:AA ["flat", "pair", "event", "entries"] ["flat", "pair"] (Am Hm):=⟨rfl,rfl,rfl,by decide +kernel,rfl,by decide +kernel,by decide +kernel⟩
theorem Qw{f C fe:fG}{fd fde:fO}(D:Al K mg "first_difference" Hm ["flat", "pair"] f fd)(T:JY K mg C)(De:Al K mg "entries_of" CY ["flat", "pair"] fe fde):AC P w K mg base A6 2 f fd ["flat", "pair"] (Oa C):=by
 have Ge:AC P w K mg base A6 1 fe fde ["flat", "pair"] (Hf C):=Jf De T
 refine D.fn.ok Le (fun vs H Q E h=>?_) (fun cdv A outer s H vs Q E hr h=>?_)
 ·obtain⟨c,s,r,y,pa,ps,S,W,M,a,b,rfl,_⟩:=h
  rfl
 obtain⟨c,sa,ra,ya,pa,ps,S,W,M,a,b,rfl,hF,hG,hpa,ha,hb,q⟩:=h
 refine⟨_,Ac (Bd fR.never rfl (Ik rfl T.enum (Aa (Aq Ge hr rfl De.mg De.fn.kp De.bd .nil AE (Aa (pv 0) (Aa (pv 1) Ab))) Ab)) (Lh (n:=2) rfl (C1 (Az (i:=2) Le.nd rfl (Or.inl rfl)) (C1 (Az (i:=3) Le.nd rfl (Or.inl rfl)) Il)))
   (Ak (A0 (AB (Nn hr.units) (Ao Av (Ao Av (pv 3) Ah (fun _ _=>rfl)) (AG T.deeds rfl) (fun _ _=>rfl)) (Ao Av (Ao Av (pv 3) Ah (fun _ _=>rfl)) (AG T.deeds rfl) (fun _ _=>rfl)) (AS _)) (Ak (AK (pv 2))) AJ)))
  (Ak (AK Hs)),?_⟩
 refine⟨_,rfl,_,rfl,c,sa,ra,ya,pa,ps,S,W,M,a,b,rfl,hF,hG,hpa,ha,hb,fun l zs H1 s1 hl el hZ=>⟨l,rfl,⟨_,AD.of el⟩,?_⟩⟩
 have zl:zs.length=4:=by rw[hZ.1];rfl
 refine G3 (xs:=zs) (fun i σ H'=>∃v2 v3,σ=[some (.ref c),some (.ref pa),v2,v3]∧An H1 H'∧∀j,j<i→NM (AN M) [(a:Int),(b:Int)] j=false) ⟨_,_,rfl,fun _ _ e=>e,fun j hj=>by cases hj⟩ ?_ ?_ ?_
 ·rintro i σ H' hi ⟨v2,v3,rfl,(s:An _ _),_⟩
  exact AD.of (s _ _ el)
 ·rintro i x t σ H' hx ht ⟨v2,v3,rfl,(s2:An _ _),hno⟩
  obtain⟨p,hp,tt,x1,x2,rfl,k1,⟨t1,u1,rfl,k2,k3⟩,⟨t2,u2,rfl,k4,k5⟩⟩:=hZ.at1 hx
  obtain⟨hi,rfl⟩:=KZ hp
  have s3:=Ag ht (.tup [.int i,.ref tt])
  have et:(upd H' t (.tup [.int i,.ref tt])) t=some (.tup [.int i,.ref tt]):=Ad
  have s13:=s2.trans s3
  generalize upd H' t (.tup [.int i,.ref tt])=H2 at s3 et s13 ⊢
  refine⟨t,_,rfl,A2.of et,rfl,_,_,rfl,_,_,rfl,rfl,?_⟩
  have sh1:=B2 (CQ (AQ M a i).2)
  have sh2:=B2 (CQ (AQ M b i).2)
  refine⟨_,rfl,tt,_,_,_,rfl,rfl,A2.of (s13 _ _ k1),rfl,t1,_,_,_,rfl,rfl,A2.of (s13 _ _ k2),rfl,_,rfl,tt,_,_,_,rfl,rfl,A2.of (s13 _ _ k1),rfl,t2,_,_,_,rfl,rfl,A2.of (s13 _ _ k4),rfl,
   _,_,(k3.same s13).rd,(k5.same s13).rd,BZ sh1 (by decide),BZ sh2 (by decide),_,rfl,?_⟩
  have eq:(if(true:Bool)=true then !fN.eqv (.tuple ((AQ M a i).2.map fN.int)) (.tuple ((AQ M b i).2.map fN.int)) else fN.eqv (.tuple ((AQ M a i).2.map fN.int)) (.tuple ((AQ M b i).2.map fN.int)))=NM (AN M) [(a:Int),(b:Int)] i:=by
   rw[if_pos rfl]
   simp only[fN.eqv,JG]
   show _=decide ((AQ M a i).2≠(AQ M b i).2)
   simp
  rw[eq]
  refine DT (fun z=>?_) (fun z=>?_)
  ·refine⟨_,rfl,?_⟩
   have z:=q H2 (s1.trans s13)
   rw[Si hi ‹_› hno]at z
   exact z
  ·refine⟨_,_,rfl,s13,fun j hj=>?_⟩
   by_cases e:j=i
   ·subst e
    cases y:NM (AN M) [(a:Int),(b:Int)] j with
    | false=>rfl
    | true=>exact absurd y z
   ·exact hno j (by omega)
 ·rintro σ H' ⟨v2,v3,rfl,(s2:An _ _),hno⟩
  rw[zl]at hno
  have z:=q H' (s1.trans s2)
  rw[Q9 hno]at z
  exact z
def P8(C:fG):Sp:=fun vs H Q _=>∃(c s r y pa:fG) (ps:List fG) (S W:List V) (M:Bf) (a b:Nat),vs=[.ref c,.ref pa]∧CL C H c s r y ps S M W∧BV M∧H pa=some (.tup [.int a,.int b])∧a<M.length∧b<M.length ∧
 ∀(l:fG) (zs:List V) (H':Hp),An H H'→H l=ae→H' l=some (.lst zs)→Z (Bv H') zs ((ak 4).map fun(e:Nat)=>LR (AN M) [(a:Int),(b:Int)] (e:Int))→Q (.ref l) H'
theorem scPBeh:AA ["flat", "pair"] ["flat", "pair"] (Am IR):=⟨rfl,rfl,rfl,by decide +kernel,rfl,by decide +kernel,by decide +kernel⟩
theorem RU{f C fe:fG}{fd fde:fO}(D:Al K mg "pairs_behind" IR ["flat", "pair"] f fd)(T:JY K mg C)(De:Al K mg "entries_of" CY ["flat", "pair"] fe fde):AC P w K mg base A6 2 f fd ["flat", "pair"] (P8 C):=by
 have Ge:AC P w K mg base A6 1 fe fde ["flat", "pair"] (Hf C):=Jf De T
 refine D.fn.ok scPBeh (fun vs H Q E h=>?_) (fun cdv A outer s H vs Q E hr h=>?_)
 ·obtain⟨c,s,r,y,pa,ps,S,W,M,a,b,rfl,_⟩:=h
  rfl
 obtain⟨c,sa,ra,ya,pa,ps,S,W,M,a,b,rfl,hF,hG,hpa,ha,hb,q⟩:=h
 refine⟨_,Ak (AK (BW ["entries"] [ae] rfl (Bi (Aq Ge hr rfl De.mg De.fn.kp De.bd .nil AE (Aa (pv 0) (Aa (pv 1) Ab)))) (fun _=>Az (i:=0) (show(["entries"]:List Str).Nodup by decide +kernel) rfl (Or.inl rfl)) (fun _=>BJ)
   (fun _=>AY (Aa (Ao Av (Ao Av (pv 0) Ah (fun _ _=>rfl)) (AG T.behind rfl) (fun _ _=>rfl)) (Aa (Ao Av (Ao Av (pv 0) Ah (fun _ _=>rfl)) (AG T.behind rfl) (fun _ _=>rfl)) Ab)))
   (N:=["flat", "pair"]) (ks:=(Am IR).names) rfl rfl (by decide +kernel) (by decide +kernel) (by decide +kernel) (by decide +kernel))),?_⟩
 refine⟨_,rfl,_,rfl,c,sa,ra,ya,pa,ps,S,W,M,a,b,rfl,hF,hG,hpa,ha,hb,fun l zs H1 s1 hl el hZ=>⟨l,rfl,⟨_,AD.of el⟩,fun bk D1 hD1=>?_⟩⟩
 have zl:zs.length=4:=by rw[hZ.1];rfl
 refine BC (K:=K) (xs:=zs) (Pv:=fun i ys σ H'=>∃v,σ=[v]∧An H1 H'∧Z (Bv H') ys ((ak i).map fun(e:Nat)=>LR (AN M) [(a:Int),(b:Int)] (e:Int))) ⟨_,rfl,Ag hD1 _,Z.nil⟩ ?_ ?_ ?_
 ·rintro i ys σ H' hi hDi ⟨v,rfl,(s:An _ _),_⟩
  exact AD.of (s _ _ el)
 ·rintro i x ys σ H' hx hDi ⟨v,rfl,(s:An _ _),hY⟩
  obtain⟨p,hp,tt,x1,x2,rfl,k1,⟨t1,u1,rfl,k2,k3⟩,⟨t2,u2,rfl,k4,k5⟩⟩:=hZ.at1 hx
  obtain⟨hi,rfl⟩:=KZ hp
  obtain⟨_,_,_,_,a0,_,_⟩:=Bn hG ha hi
  obtain⟨_,_,_,_,b0,_,_⟩:=Bn hG hb hi
  refine⟨_,rfl,tt,_,_,_,rfl,rfl,A2.of (s _ _ k1),rfl,t1,_,_,_,rfl,rfl,A2.of (s _ _ k2),rfl,_,rfl,tt,_,_,_,rfl,rfl,A2.of (s _ _ k1),rfl,t2,_,_,_,rfl,rfl,A2.of (s _ _ k4),rfl,(by show 2≤fL;decide),fun tn htn=>?_⟩
  have nDt:D1≠tn:=Af hDi htn
  have kp:En D1 H' (upd (upd H' tn (.tup [.int (AQ M a i).1,.int (AQ M b i).1])) D1 (.lst (ys++[.ref tn]))):=fun x o ex n=>by rw[Aj n,Aj (Af ex htn)];exact ex
  refine⟨by rw[Aj nDt];exact hDi,?_,⟨_,rfl,AH (AH s (s.free htn) _) hD1 _,?_⟩⟩
  ·rw[hY.1,ac,aF];exact Aw (by omega)
  ·rw[bh,am]
   refine Z.snoc (hY.mono fun _ _ z=>z.keep kp (Cc hDi)) ⟨tn,rfl,?_⟩
   rw[Aj nDt.symm,Ad]
   show some (HO.tup [.int (AQ M a i).1,.int (AQ M b i).1])=some (HO.tup [.int (((AQ M a i).1.toNat:Nat):Int),.int (((AQ M b i).1.toNat:Nat):Int)])
   rw[ck a0,ck b0]
 ·rintro ys σ H' hDn ⟨v,rfl,(s:An _ _),hY⟩
  rw[zl]at hY
  exact q D1 ys H' (s1.trans s) (s1.free hD1) hDn hY
def mkP:EQ where
 fit:=fun k=>∃a b:Int,k=A4 [a,b]
 dep:=by
  rintro k ⟨a,b,rfl⟩
  rw[Gx];decide
 cmp:=by
  rintro x y ⟨a,b,rfl⟩ ⟨c,d,rfl⟩
  exact Gy _ _
theorem Bv.keepU{H H':Hp}{v:V}{ds:List Int}(k:∀a xs,H a=some (.tup xs)→H' a=some (.tup xs))(h:Bv H v ds):Bv H' v ds:=by
 obtain⟨d,e,h⟩:=h
 exact⟨d,e,k _ _ h⟩
theorem MR:∀{kvs:List NK} {i:Nat} {x:NK},(kvs.map (·.1)).Nodup→kvs[i]?=some x→kvs.find? (fun y=>decide (y.1=x.1))=some x
 | [],_,_,_,h=>by cases h
 | y::kvs,0,x,hn,h=>by
  cases h
  rw[ce,decide_eq_true rfl]
 | y::kvs,i+1,x,hn,h=>by
  have h':kvs[i]?=some x:=h
  obtain⟨n1,n2⟩:=bm.mp (show(y.1::kvs.map (·.1)).Nodup from hn)
  have hx:x.1∈kvs.map (·.1):=aJ.mpr ⟨x,ay h',rfl⟩
  rw[ce,decide_eq_false (fun e=>n1 (by rw[e];exact hx))]
  exact MR n2 h'
theorem Fy{W:Wk}{c w:List Int}{e:Int}:∀(es:List Int) {S S':FS},Gz W c w es S=.ok S'→Gz W c w (es++[e]) S=EJ W c w S' e
 | [],S,S',h=>by
  cases h
  show(match EJ W c w S e with|.error x=>Except.error x|.ok S'=>Gz W c w [] S')=_
  cases EJ W c w S e<;>rfl
 | a::es,S,S',h=>by
  rw[List.cons_append]
  unfold Gz at h ⊢
  cases hs:EJ W c w S a with
  | error x=>rw[hs]at h;cases h
  | ok S1=>
   rw[hs]at h
   exact Fy es h
structure OV(n:Nat)(S:FS)(d q:fG)(kvs:List NK)(us:List V)(H:Hp):Prop where
 dN:NQ mkP H d kvs
 kc:Z (fun(x:NK) (c:List Int)=>x.1=A4 c) kvs S.cs
 kw:Z (fun(x:NK) (w:List Int)=>Bv H x.2.2 w) kvs S.ws
 pq:H q=some (.lst us)
 pz:Z (Bv H) us (S.cs.drop n)
theorem OV.keep{n:Nat}{S:FS}{d q:fG}{kvs:List NK}{us:List V}{H H':Hp}(h:OV n S d q kvs us H)(hd:H' d=some (ND d kvs))(hq:H' q=some (.lst us))(k:∀a xs,H a=some (.tup xs)→H' a=some (.tup xs)):OV n S d q kvs us H':=
 ⟨h.dN.keep hd k,h.kc,h.kw.mono fun _ _ z=>z.keepU k,hq,h.pz.mono fun _ _ z=>z.keepU k⟩
theorem OV.same{n:Nat}{S:FS}{d q:fG}{kvs:List NK}{us:List V}{H H':Hp}(h:OV n S d q kvs us H)(s:An H H'):OV n S d q kvs us H':=
 h.keep (s _ _ h.dN.ob) (s _ _ h.pq) fun a xs e=>s _ _ e
theorem OV.val{n:Nat}{S:FS}{d q:fG}{kvs:List NK}{us:List V}{H:Hp}(h:OV n S d q kvs us H){i:Nat}{c w:List Int}(hc:S.cs[i]?=some c)(hw:S.ws[i]?=some w):∃z,C6 kvs (A4 c)=some z∧Bv H z w:=by
 obtain⟨x,hx,ex⟩:=h.kc.at hc
 obtain⟨x',hx',ew⟩:=h.kw.at hw
 rw[hx]at hx'
 cases hx'
 refine⟨x.2.2,?_,ew⟩
 unfold C6
 rw[← ex,MR h.dN.nd hx];rfl
theorem OV.out{n:Nat}{S:FS}{d q:fG}{kvs:List NK}{us:List V}{H:Hp}(h:OV n S d q kvs us H){c:List Int}(hc:¬c∈S.cs):C6 kvs (A4 c)=ae:=by
 unfold C6
 have:kvs.find? (fun y=>decide (y.1=A4 c))=ae:=bL.mpr fun x hx z=>by
  obtain⟨i,hi⟩:=Lq hx
  obtain⟨c',h1,h2⟩:=h.kc.at1 hi
  rw[h2]at z
  have:=Gq (of_decide_eq_true z)
  exact hc (by rw[← this];exact ay h1)
 rw[this];rfl
def L6(C:fG):Sp:=fun vs H Q _=>∃(c s r y:fG) (ps:List fG) (S W:List V) (M:Bf) (a b:Nat),vs=[.ref c,.int a,.int b]∧CL C H c s r y ps S M W∧BV M∧a<M.length∧b<M.length ∧
 (∀(wd:List Int) (t:fG) (H':Hp),An H H'→DX (AN M) 1000 0 ⟨[[(a:Int),(b:Int)]],[[]],[],[]⟩=some wd→H' t=some (.tup (wd.map V.int))→Q (.ref t) H') ∧
 (∀(H':Hp),An H H'→DX (AN M) 1000 0 ⟨[[(a:Int),(b:Int)]],[[]],[],[]⟩=ae→Q .non H')
theorem DG:AA ["flat", "one", "other", "ways", "pairs", "pair", "event", "behind"] ["flat", "one", "other"] (Am Fn):=⟨rfl,rfl,rfl,by decide +kernel,rfl,by decide +kernel,by decide +kernel⟩
theorem Rg{α:Type}{l:List α}{n:Nat}{x:α}{r:List α}(h:l.drop n=x::r):l[n]?=some x∧l.drop (n+1)=r:=by
 refine⟨?_,?_⟩
 ·have:(l.drop n)[0]?=some x:=by rw[h];rfl
  rw[List.getElem?_drop]at this
  exact this
 ·rw[← List.tail_drop,h];rfl
def PW2(m:Fm.Mc)(R:Option (List Int))(c d qa:fG)(a b:Nat)(H:Hp)(f:Nat)(σ:St)(H':Hp):Prop:=∃(n:Nat) (S:FS) (kvs:List NK) (us:List V) (v5 v6 v7:Option V),σ=[some (.ref c),some (.int a),some (.int b),some (.ref d),some (.ref qa),v5,v6,v7]∧An H H'∧OV n S d qa kvs us H' ∧
 DX m f n S=R∧(∀y∈S.cs,y∈Hw m.n)∧S.cs.Nodup∧S.ws.length=S.cs.length∧n≤S.cs.length∧900<f+n∧∀v∈S.ws,v.length≤S.cs.length
theorem KC{kvs:List NK}{k:Tr}(h:C6 kvs k=ae)(hn:(kvs.map (·.1)).Nodup)(a:fG)(v:V):((kvs++[(k,a,v)]).map (·.1)).Nodup:=by
 rw[am]
 refine bB.mpr ⟨hn,bm.mpr ⟨by simp,bD⟩,fun x hx y hy e=>?_⟩
 rw[au.mp hy]at e
 obtain⟨z,hz,rfl⟩:=aJ.mp hx
 have h':kvs.find? (fun y=>decide (y.1=k))=ae:=by
  cases q:kvs.find? (fun y=>decide (y.1=k)) with
  | none=>rfl
  | some u=>unfold C6 at h;rw[q]at h;cases h
 exact absurd (decide_eq_true e) (bL.mp h' z hz)
theorem Pe{f C fe ff fb:fG}{fd fde fdf fdb:fO}(D:Al K mg "parted" Fn ["flat", "one", "other"] f fd)(T:JY K mg C)(De:Al K mg "entries_of" CY ["flat", "pair"] fe fde)
  (Df:Al K mg "first_difference" Hm ["flat", "pair"] ff fdf) (Db:Al K mg "pairs_behind" IR ["flat", "pair"] fb fdb):AC P w K mg base A6 3 f fd ["flat", "one", "other"] (L6 C):=by
 have Gf:AC P w K mg base A6 2 ff fdf ["flat", "pair"] (Oa C):=Qw Df T De
 have Gb:AC P w K mg base A6 2 fb fdb ["flat", "pair"] (P8 C):=RU Db T De
 refine D.fn.ok DG (fun vs H Q E h=>?_) (fun cdv A outer s H vs Q E hr h=>?_)
 ·obtain⟨c,s,r,y,ps,S,W,M,a,b,rfl,_⟩:=h
  rfl
 obtain⟨c,sa,ra,ya,ps,S0,W0,M,a,b,rfl,hF,hG,ha,hb,q1,q2⟩:=h
 refine⟨_,Ac (Ar (i:=3) DG.nd rfl (Or.inl rfl) (Qn mkP hr.units (AY (Aa (pv 1) (Aa (pv 2) Ab))) (AY Ab)))
  (Ac (Ar (i:=4) DG.nd rfl (Or.inl rfl) (Bj (Aa (AY (Aa (pv 1) (Aa (pv 2) Ab))) Ab)))
  (Ac (Ej fR.never (AB Mn (AF At (by rfl) T.len PySem.boot_len (Aa (pv 4) Ab)) Ah (AS _))
   (Ac (Ar (i:=5) DG.nd rfl (Or.inl rfl) (BF ax PySem.F.slot_list_pop PySem.F.type_list_pop QD (pv 4) (Aa Ah Ab)))
   (Ac (Ar (i:=6) DG.nd rfl (Or.inl rfl) (Aq Gf hr rfl Df.mg Df.fn.kp Df.bd .nil AE (Aa (pv 0) (Aa (pv 5) Ab))))
   (Ac (A0 (Ng (Ol (pv 6))) (Ak (AK (AO Lm (Ao (ME mkP hr.units) (pv 3) (pv 5) (fun _ _=>rfl)) (AY (Aa (pv 6) Ab))))) AJ)
   (Ak (Bd fR.never rfl (Ik rfl T.enum (Aa (Aq Gb hr rfl Db.mg Db.fn.kp Db.bd .nil AE (Aa (pv 0) (Aa (pv 5) Ab))) Ab)) (Lh (n:=2) rfl (C1 (Az (i:=6) DG.nd rfl (Or.inl rfl)) (C1 (Az (i:=7) DG.nd rfl (Or.inl rfl)) Il)))
    (Ak (A0 (AB (Pb mkP hr.units) (pv 7) (pv 3) (by rfl))
     (Ac (Lg (AO Lm (Ao (ME mkP hr.units) (pv 3) (pv 5) (fun _ _=>rfl)) (AY (Aa (pv 6) Ab))) (Li (pv 3) (pv 7) (O5 mkP hr.units)))
     (Ak (AT (BF ax aB aD AU (pv 4) (Aa (pv 7) Ab))))) AJ))))))))
  (Ak (AK Hs)))),?_⟩
 have ok:=GZ hG
 have hm30:=hG.most
 have hL:(Hw M.length).length≤900:=by
  unfold Hw
  rw[ac,aF]
  exact cU hm30 hm30
 intro d hd
 refine⟨_,rfl,_,rfl,(by show 2≤fL;decide),fun k0 hk0=>⟨(by show 0≤fL;decide),fun w0 hw0=>?_⟩⟩
 have ndk:d≠k0:=Af Ad hk0
 have ndw:d≠w0:=by
  have:(upd (upd H d (ND d [])) k0 (.tup [.int a,.int b])) d=some (ND d []):=by rw[Aj ndk,Ad]
  exact Af this hw0
 have nkw:k0≠w0:=Af Ad hw0
 refine⟨k0,A4 [(a:Int),(b:Int)],rfl,⟨by rw[Aj ndw,Aj ndk,Ad],fun x hx=>(by cases hx),bD,bw _⟩,.tup (by rw[Aj nkw,Ad];rfl) (Dx [(a:Int),(b:Int)]),⟨_,_,rfl⟩,?_⟩
 refine⟨_,rfl,_,rfl,(by show 2≤fL;decide),fun k1 hk1=>⟨(by show 1≤fL;decide),fun qa hqa=>?_⟩⟩
 have sA:=Ag hd (ND d [])
 have sB:=Ag hk0 (.tup [.int (a:Int),.int (b:Int)])
 have sC:=Ag hw0 (.tup [])
 have s0C:=sA.trans (sB.trans sC)
 have sD:=AH s0C hd (ND d [(A4 [(a:Int),(b:Int)],k0,.ref w0)])
 have sE:=Ag hk1 (.tup [.int (a:Int),.int (b:Int)])
 have sF:=Ag hqa (.lst [.ref k1])
 have s3:=sD.trans (sE.trans sF)
 have hqa0:H qa=ae:=sD.free (sE.free hqa)
 have ekk:(upd (upd (upd (upd H d (ND d [])) k0 (.tup [.int (a:Int),.int (b:Int)])) w0 (.tup [])) d (ND d [(A4 [(a:Int),(b:Int)],k0,.ref w0)])) k0=some (.tup [.int (a:Int),.int (b:Int)]):=by rw[Aj ndk.symm,Aj nkw,Ad]
 have eww:(upd (upd (upd (upd H d (ND d [])) k0 (.tup [.int (a:Int),.int (b:Int)])) w0 (.tup [])) d (ND d [(A4 [(a:Int),(b:Int)],k0,.ref w0)])) w0=some (.tup []):=by rw[Aj ndw.symm,Ad]
 have hP0:OV 0 ⟨[[(a:Int),(b:Int)]],[[]],[],[]⟩ d qa [(A4 [(a:Int),(b:Int)],k0,.ref w0)] [.ref k1] (upd (upd (upd (upd (upd (upd H d (ND d [])) k0 (.tup [.int (a:Int),.int (b:Int)])) w0 (.tup [])) d (ND d [(A4 [(a:Int),(b:Int)],k0,.ref w0)])) k1 (.tup [.int (a:Int),.int (b:Int)])) qa (.lst [.ref k1])):=by
  refine⟨⟨sF _ _ (sE _ _ Ad),fun x hx=>?_,bm.mpr ⟨by simp,bD⟩,(by show 1≤1000;decide)⟩,Z.cons Z.nil rfl,Z.cons Z.nil ⟨w0,rfl,sF _ _ (sE _ _ eww)⟩,Ad,Z.cons Z.nil ⟨k1,rfl,sF _ _ Ad⟩⟩
  rw[au.mp hx]
  exact⟨.tup (sF _ _ (sE _ _ ekk)) (Dx [(a:Int),(b:Int)]),⟨_,_,rfl⟩⟩
 obtain⟨R,hR⟩:∃R,DX (AN M) 1000 0 ⟨[[(a:Int),(b:Int)]],[[]],[],[]⟩=R:=⟨_,rfl⟩
 rw[hR]at q1 q2
 refine⟨PW2 (AN M) R c d qa a b H,⟨1000,0,_,_,_,_,_,_,rfl,s3,hP0,hR,fun y hy=>(by rw[au.mp hy];exact JT ha hb),bm.mpr ⟨by simp,bD⟩,rfl,bw _,by decide,fun v hv=>by rw[au.mp hv];exact bw _⟩,?_⟩
 clear hP0 sA sB sC s0C sD sE sF s3 ekk eww
 rintro f σ H1 ⟨n,S,kvs,us,v5,v6,v7,rfl,s1,hP,hf,hall,hnd,hwl,hn,h9,hvl⟩
 have hlen:S.cs.length≤900:=aU (DK S.cs (Hw M.length) hnd hall) hL
 obtain⟨f',rfl⟩:∃f',f=f'+1:=⟨f - 1,by omega⟩
 have hul:us.length=S.cs.length - n:=by rw[hP.pz.1,bV]
 refine⟨_,rfl,qa,_,rfl,.inl (AD.of hP.pq),_,_,rfl,rfl,_,rfl,?_⟩
 refine DT (fun z=>?_) (fun z=>?_)
 ·have z':0<us.length:=by
   have:=of_decide_eq_true z
   omega
  cases us with
  | nil=>cases z'
  | cons x us'=>
  cases hdr:S.cs.drop n with
  | nil=>
   have:=hP.pz.1
   rw[hdr]at this;cases this
  | cons c0 rc=>
  obtain⟨hc,hrc⟩:=Rg hdr
  have hpz:=hP.pz
  rw[hdr]at hpz
  obtain⟨⟨tx,rfl,htx⟩,hz2⟩:=hpz.uncons
  rw[← hrc]at hz2
  have hnl:n<S.cs.length:=(af.mp hc).1
  obtain⟨a1,b1,rfl,ha1,hb1⟩:=JS (hall _ (ay hc))
  have ha1':a1<M.length:=ha1
  have hb1':b1<M.length:=hb1
  obtain⟨wn,hwn⟩:∃wn,S.ws[n]?=some wn:=⟨_,aa (by omega)⟩
  refine⟨PW2 (AN M) R c d qa a b H f',fun σ' H' hN=>⟨f',bU _,hN⟩,?_⟩
  refine⟨_,rfl,.inl ⟨rfl,_,AD.of hP.pq⟩,qa,_,0,0,.ref tx,rfl,rfl,hP.pq,by decide,by decide,PySem.StrLaws.seqIndex_nonneg (by decide) (by show(0:Int)<((us'.length+1:Nat):Int);omega),rfl,?_⟩
  have ndq:d≠qa:=CP hP.dN.ob hP.pq (by intro z;cases z)
  have kq:∀x xs,H1 x=some (.tup xs)→(upd H1 qa (.lst us')) x=some (.tup xs):=fun x xs e=>by
   rw[Aj (CP e hP.pq (by intro z;cases z))];exact e
  have hP2:OV (n+1) S d qa kvs us' (upd H1 qa (.lst us')):=⟨hP.dN.keep (by rw[Aj ndq];exact hP.dN.ob) kq,hP.kc,hP.kw.mono fun _ _ z=>z.keepU kq,Ad,hz2.mono fun _ _ z=>z.keepU kq⟩
  have s2:An H (upd H1 qa (.lst us')):=fun x o ex=>by rw[Aj (Af ex hqa0)];exact s1 _ _ ex
  have htx2:=kq _ _ htx
  have ee:((V.ref tx::us').eraseIdx 0)=us':=rfl
  rw[ee]
  generalize upd H1 qa (.lst us')=H2 at hP2 s2 htx2 ⊢
  refine⟨_,rfl,_,rfl,c,sa,ra,ya,tx,ps,S0,W0,M,a1,b1,rfl,hF.same s2,hG,htx2,ha1',hb1',fun H3 s3=>?_⟩
  have hP3:=hP2.same s3
  have s03:=s2.trans s3
  have htx3:=s3 _ _ htx2
  have ec:S.cs.getD n []=[(a1:Int),(b1:Int)]:=by rw[ag,hc];rfl
  have ew:S.ws.getD n []=wn:=by rw[ag,hwn];rfl
  have hf':=hf
  unfold DX at hf'
  rw[if_pos hnl,ec,ew]at hf'
  obtain⟨zv,hzv,zt,rfl,hzt⟩:=hP3.val hc hwn
  have hTx:DR H3 (A4 [(a1:Int),(b1:Int)]) (.ref tx):=.tup htx3 (Dx [(a1:Int),(b1:Int)])
  refine⟨_,rfl,_,rfl,?_⟩
  generalize hfd:JF (AN M) [(a1:Int),(b1:Int)]=o at hf' ⊢
  cases o with
  | some e=>
   refine DT (fun z=>?_) (fun z=>absurd (by simp[optE]) z)
   have hRe:R=some (wn++[(e:Int)]):=hf'.symm
   refine⟨_,rfl,_,rfl,d,tx,kvs,_,.ref zt,rfl,rfl,hP3.dN,hTx,⟨_,_,rfl⟩,hzv,_,rfl,(by show 1≤fL;decide),fun te hte=>?_⟩
   have s4:=Ag hte (.tup [.int (e:Int)])
   have ete:(upd H3 te (.tup [.int (e:Int)])) te=some (.tup [.int (e:Int)]):=Ad
   have hwl9:wn.length+1≤1000:=(by have:=hvl wn (ay hwn);omega)
   refine⟨zt,te,_,_,rfl,rfl,A2.of (s4 _ _ hzt),A2.of ete,by simp,by rw[ac];exact GL hwl9,fun hx=>?_,fun hx p hp=>?_⟩
   ·have hx':wn=[]:=by simpa using hx
    subst hx'
    exact q1 _ te _ (s03.trans s4) hRe Ad
   ·exact q1 _ p _ (s03.trans (s4.trans (Ag hp _))) hRe (by rw[Ad,am];rfl)
  | none=>
   refine DT (fun z=>absurd z (by simp[optE])) (fun _=>?_)
   refine⟨_,rfl,_,rfl,c,sa,ra,ya,tx,ps,S0,W0,M,a1,b1,rfl,hF.same s03,hG,htx3,ha1',hb1',fun l zs H4 s4 hl el hZ=>⟨l,rfl,⟨_,AD.of el⟩,?_⟩⟩
   have zl:zs.length=4:=by rw[hZ.1];rfl
   have hP4:=hP3.same s4
   have nld:l≠d:=(Af hP3.dN.ob hl).symm
   have nlq:l≠qa:=(Af hP3.pq hl).symm
   refine G3 (xs:=zs) (fun i σ H'=>∃S' kvs' us' v6 v7,σ=[some (.ref c),some (.int a),some (.int b),some (.ref d),some (.ref qa),some (.ref tx),v6,v7]∧An H H'∧(∀x xs,H4 x=some (.tup xs)→H' x=some (.tup xs))∧H' l=some (.lst zs)∧OV (n+1) S' d qa kvs' us' H' ∧
     Gz (NU (AN M)) [(a1:Int),(b1:Int)] wn (([0,1,2,3]:List Int).take i) ⟨S.cs,S.ws,S.rows,[]⟩=.ok S'∧(∀y∈S'.cs,y∈Hw M.length)∧S'.cs.Nodup∧S'.ws.length=S'.cs.length∧(∃more,S'.cs=S.cs++more)∧(∃more,S'.ws=S.ws++more)∧∀v∈S'.ws,v.length≤S'.cs.length)
    ⟨⟨S.cs,S.ws,S.rows,[]⟩,_,_,_,_,rfl,s03.trans s4,fun _ _ e=>e,el,⟨hP4.dN,hP4.kc,hP4.kw,hP4.pq,hP4.pz⟩,rfl,hall,hnd,hwl,⟨[],by simp⟩,⟨[],by simp⟩,hvl⟩ ?_ ?_ ?_
   ·rintro i σ H' hi ⟨S',kvs',us',v6,v7,rfl,sH,kt,eli,_⟩
    exact AD.of eli
   ·rintro i x t σ H' hx ht ⟨S',kvs',us',v6,v7,rfl,sH,kt,eli,hPi,hgi,hal,hnd',hwl',hpre,hpw,hvl'⟩
    have hi4:i<4:=by
     have:=(af.mp hx).1
     omega
    obtain⟨c',hc',tb,rfl,htb⟩:=hZ.at1 hx
    rw[av,bv hi4]at hc'
    have hc'':LR (AN M) [(a1:Int),(b1:Int)] ((i:Nat):Int)=c':=br.inj hc'
    have hcn:(NU (AN M)).nx [(a1:Int),(b1:Int)] ((i:Nat):Int)=c':=hc''
    have hc'P:c'∈Hw M.length:=by
     rw[← hc'']
     exact KT ok (hall _ (ay hc)) hi4
    obtain⟨a2,b2,ec',_,_⟩:=JS hc'P
    have hfit:mkP.fit (A4 c'):=⟨_,_,by rw[ec']⟩
    have hlen':S'.cs.length≤900:=aU (DK S'.cs (Hw M.length) hnd' hal) hL
    have hnl':n<S'.cs.length:=by
     obtain⟨more,hm⟩:=hpre
     rw[hm,ai];omega
    have htk:([0,1,2,3]:List Int).take (i+1)=([0,1,2,3]:List Int).take i++[((i:Nat):Int)]:=by
     match i,hi4 with
     | 0,_=>rfl
     | 1,_=>rfl
     | 2,_=>rfl
     | 3,_=>rfl
    have s5:=Ag ht (.tup [.int (i:Int),.ref tb])
    have et:(upd H' t (.tup [.int (i:Int),.ref tb])) t=some (.tup [.int (i:Int),.ref tb]):=Ad
    generalize upd H' t (.tup [.int (i:Int),.ref tb])=H5 at s5 et ⊢
    refine⟨t,_,rfl,A2.of et,rfl,_,_,rfl,_,_,rfl,rfl,?_⟩
    have hP5:=hPi.same s5
    have hT5:DR H5 (A4 c') (.ref tb):=.tup (s5 _ _ (kt _ _ htb)) (Dx _)
    refine⟨_,rfl,_,rfl,d,tb,kvs',A4 c',rfl,rfl,hP5.dN,hT5,hfit,_,rfl,?_⟩
    by_cases hin:c'∈S'.cs
    ·obtain⟨j,hj⟩:=Lq hin
     have hjl:=(af.mp hj).1
     obtain⟨z9,hz9,_⟩:=hPi.val hj (aa (show j<S'.ws.length by omega))
     rw[hz9]
     refine DT (fun z=>absurd z (by simp)) (fun _=>?_)
     refine⟨⟨S'.cs,S'.ws,S'.rows,S'.row++[(((S'.cs.idxOf c':Nat):Int),[])]⟩,_,_,_,_,rfl,sH.trans s5,fun x xs e=>s5 _ _ (kt _ _ e),s5 _ _ eli,⟨hP5.dN,hP5.kc,hP5.kw,hP5.pq,hP5.pz⟩,?_,hal,hnd',hwl',hpre,hpw,hvl'⟩
     rw[htk,Fy _ hgi]
     show Jr (NU (AN M)) [(a1:Int),(b1:Int)] wn S' ((i:Nat):Int)=_
     unfold Jr
     rw[hcn,if_pos hin]
     rfl
    ·rw[hPi.out hin]
     refine DT (fun _=>?_) (fun z=>absurd rfl z)
     obtain⟨more,hm⟩:=id hpre
     obtain⟨morew,hmw⟩:=id hpw
     have hc6:S'.cs[n]?=some [(a1:Int),(b1:Int)]:=by rw[hm,aO hnl];exact hc
     have hw6:S'.ws[n]?=some wn:=by rw[hmw,aO (by omega)];exact hwn
     obtain⟨zv5,hzv5,zt5,rfl,hzt5⟩:=hP5.val hc6 hw6
     have hTx5:DR H5 (A4 [(a1:Int),(b1:Int)]) (.ref tx):=.tup (s5 _ _ (kt _ _ (s4 _ _ htx3))) (Dx [(a1:Int),(b1:Int)])
     refine⟨_,rfl,_,rfl,d,tx,kvs',_,.ref zt5,rfl,rfl,hP5.dN,hTx5,⟨_,_,rfl⟩,hzv5,_,rfl,(by show 1≤fL;decide),fun te hte=>?_⟩
     have s6:=Ag hte (.tup [.int (i:Int)])
     have ete:(upd H5 te (.tup [.int (i:Int)])) te=some (.tup [.int (i:Int)]):=Ad
     have hwl9:wn.length+1≤1000:=(by have:=hvl wn (ay hwn);omega)
     refine⟨zt5,te,_,_,rfl,rfl,A2.of (s6 _ _ hzt5),A2.of ete,by simp,by rw[ac];exact GL hwl9,fun hx=>?_,fun hx tv hp=>?_⟩
     ·have hx':wn=[]:=by simpa using hx
      obtain⟨tv,htv0⟩:∃tv,tv=te:=⟨_,rfl⟩
      have htv:(upd H5 te (.tup [.int (i:Int)])) tv=some (.tup ((wn++[((i:Nat):Int)]).map V.int)):=by rw[htv0,hx'];exact ete
      rw[← htv0]
      have s56:=s6
      rw[← htv0]at htv s56
      generalize upd H5 tv (.tup [.int (i:Int)])=H6 at htv s56 ⊢
      have et6:∀x xs,H' x=some (.tup xs)→H6 x=some (.tup xs):=fun x xs e=>s56 _ _ (s5 _ _ e)
      have hP6:=hPi.same (s5.trans s56)
      have hT6:DR H6 (A4 c') (.ref tb):=.tup (et6 _ _ (kt _ _ htb)) (Dx _)
      have hv6:C6 kvs' (A4 c')=ae:=hPi.out hin
      have hl6:kvs'.length<1000:=by rw[hPi.kc.1];omega
      refine⟨_,rfl,_,rfl,d,tb,kvs',A4 c',rfl,rfl,hP6.dN,hl6,hT6,hfit,hv6,?_⟩
      have ndq:d≠qa:=CP hP6.dN.ob hP6.pq (by intro z;cases z)
      have hq7:(upd H6 d (ND d (kvs'++[(A4 c',tb,.ref tv)]))) qa=some (.lst us'):=by rw[Aj ndq.symm];exact hP6.pq
      refine⟨_,rfl,.inl ⟨rfl,_,AD.of hq7⟩,_,rfl,qa,_,_,rfl,rfl,hq7,Aw (by rw[hPi.pz.1,bV];omega),?_⟩
      have k8:∀x xs,H6 x=some (.tup xs)→(upd (upd H6 d (ND d (kvs'++[(A4 c',tb,.ref tv)]))) qa (.lst (us'++[.ref tb]))) x=some (.tup xs):=fun x xs e=>by
       rw[Aj (CP e hP6.pq (by intro z;cases z)),Aj (CP e hP6.dN.ob (by intro z;cases z))];exact e
      refine⟨⟨S'.cs++[c'],S'.ws++[wn++[((i:Nat):Int)]],S'.rows,S'.row++[(((S'.cs.length:Nat):Int),[])]⟩,_,_,_,_,rfl,fun x o ex=>?_,fun x xs e=>k8 x xs (et6 x xs (kt x xs e)),?_,⟨⟨?_,fun x hx=>?_,KC hv6 hPi.dN.nd tb _,?_⟩,Z.snoc hP6.kc rfl,Z.snoc (hP6.kw.mono fun _ _ z=>z.keepU k8) ⟨tv,rfl,k8 _ _ htv⟩,Ad,?_⟩,?_,fun y hy=>?_,?_,?_,?_,?_,fun v hv=>?_⟩
      ·rw[Aj (Af ex hqa0),Aj (Af ex hd)];exact s56 _ _ (s5 _ _ (sH _ _ ex))
      ·rw[Aj nlq,Aj nld];exact s56 _ _ (s5 _ _ eli)
      ·rw[Aj ndq,Ad]
      ·rcases aP.mp hx with z|z
       ·exact⟨(hP6.dN.keys x z).1.keep k8,(hP6.dN.keys x z).2⟩
       ·rw[au.mp z]
        exact⟨hT6.keep k8,hfit⟩
      ·rw[ai]
       show kvs'.length+1≤1000
       omega
      ·rw[cZ (by omega)]
       exact Z.snoc (hP6.pz.mono fun _ _ z=>z.keepU k8) ⟨tb,rfl,k8 _ _ (et6 _ _ (kt _ _ htb))⟩
      ·rw[htk,Fy _ hgi]
       show Jr (NU (AN M)) [(a1:Int),(b1:Int)] wn S' ((i:Nat):Int)=_
       unfold Jr
       rw[hcn,if_neg hin,if_neg (show ¬S'.cs.length=(NU (AN M)).m from fun z=>by have z':S'.cs.length=1000:=z;omega)]
       rfl
      ·rcases aP.mp hy with z|z
       ·exact hal y z
       ·rw[au.mp z];exact hc'P
      ·refine bB.mpr ⟨hnd',bm.mpr ⟨by simp,bD⟩,fun x hx y hy e=>?_⟩
       rw[e,au.mp hy]at hx
       exact hin hx
      ·show(S'.ws++[_]).length=(S'.cs++[c']).length
       rw[ai,ai,hwl'];rfl
      ·obtain⟨more,hm⟩:=hpre
       exact⟨more++[c'],by show S'.cs++[c']=_;rw[hm,bZ]⟩
      ·obtain⟨more,hm⟩:=hpw
       exact⟨more++[wn++[((i:Nat):Int)]],by show S'.ws++[_]=_;rw[hm,bZ]⟩
      ·show v.length≤(S'.cs++[c']).length
       rw[ai]
       rcases aP.mp hv with z|z
       ·have:=hvl' v z
        omega
       ·rw[au.mp z,ai]
        have h1:=hvl wn (ay hwn)
        show wn.length+1≤S'.cs.length+1
        rw[hm,ai]
        omega
     ·have htv:(upd (upd H5 te (.tup [.int (i:Int)])) tv (.tup (wn.map V.int++[.int (i:Int)]))) tv=some (.tup ((wn++[((i:Nat):Int)]).map V.int)):=by rw[Ad,am];rfl
      have s56:=s6.trans (Ag hp (.tup (wn.map V.int++[.int (i:Int)])))
      generalize upd (upd H5 te (.tup [.int (i:Int)])) tv (.tup (wn.map V.int++[.int (i:Int)]))=H6 at htv s56 ⊢
      have et6:∀x xs,H' x=some (.tup xs)→H6 x=some (.tup xs):=fun x xs e=>s56 _ _ (s5 _ _ e)
      have hP6:=hPi.same (s5.trans s56)
      have hT6:DR H6 (A4 c') (.ref tb):=.tup (et6 _ _ (kt _ _ htb)) (Dx _)
      have hv6:C6 kvs' (A4 c')=ae:=hPi.out hin
      have hl6:kvs'.length<1000:=by rw[hPi.kc.1];omega
      refine⟨_,rfl,_,rfl,d,tb,kvs',A4 c',rfl,rfl,hP6.dN,hl6,hT6,hfit,hv6,?_⟩
      have ndq:d≠qa:=CP hP6.dN.ob hP6.pq (by intro z;cases z)
      have hq7:(upd H6 d (ND d (kvs'++[(A4 c',tb,.ref tv)]))) qa=some (.lst us'):=by rw[Aj ndq.symm];exact hP6.pq
      refine⟨_,rfl,.inl ⟨rfl,_,AD.of hq7⟩,_,rfl,qa,_,_,rfl,rfl,hq7,Aw (by rw[hPi.pz.1,bV];omega),?_⟩
      have k8:∀x xs,H6 x=some (.tup xs)→(upd (upd H6 d (ND d (kvs'++[(A4 c',tb,.ref tv)]))) qa (.lst (us'++[.ref tb]))) x=some (.tup xs):=fun x xs e=>by
       rw[Aj (CP e hP6.pq (by intro z;cases z)),Aj (CP e hP6.dN.ob (by intro z;cases z))];exact e
      refine⟨⟨S'.cs++[c'],S'.ws++[wn++[((i:Nat):Int)]],S'.rows,S'.row++[(((S'.cs.length:Nat):Int),[])]⟩,_,_,_,_,rfl,fun x o ex=>?_,fun x xs e=>k8 x xs (et6 x xs (kt x xs e)),?_,⟨⟨?_,fun x hx=>?_,KC hv6 hPi.dN.nd tb _,?_⟩,Z.snoc hP6.kc rfl,Z.snoc (hP6.kw.mono fun _ _ z=>z.keepU k8) ⟨tv,rfl,k8 _ _ htv⟩,Ad,?_⟩,?_,fun y hy=>?_,?_,?_,?_,?_,fun v hv=>?_⟩
      ·rw[Aj (Af ex hqa0),Aj (Af ex hd)];exact s56 _ _ (s5 _ _ (sH _ _ ex))
      ·rw[Aj nlq,Aj nld];exact s56 _ _ (s5 _ _ eli)
      ·rw[Aj ndq,Ad]
      ·rcases aP.mp hx with z|z
       ·exact⟨(hP6.dN.keys x z).1.keep k8,(hP6.dN.keys x z).2⟩
       ·rw[au.mp z]
        exact⟨hT6.keep k8,hfit⟩
      ·rw[ai]
       show kvs'.length+1≤1000
       omega
      ·rw[cZ (by omega)]
       exact Z.snoc (hP6.pz.mono fun _ _ z=>z.keepU k8) ⟨tb,rfl,k8 _ _ (et6 _ _ (kt _ _ htb))⟩
      ·rw[htk,Fy _ hgi]
       show Jr (NU (AN M)) [(a1:Int),(b1:Int)] wn S' ((i:Nat):Int)=_
       unfold Jr
       rw[hcn,if_neg hin,if_neg (show ¬S'.cs.length=(NU (AN M)).m from fun z=>by have z':S'.cs.length=1000:=z;omega)]
       rfl
      ·rcases aP.mp hy with z|z
       ·exact hal y z
       ·rw[au.mp z];exact hc'P
      ·refine bB.mpr ⟨hnd',bm.mpr ⟨by simp,bD⟩,fun x hx y hy e=>?_⟩
       rw[e,au.mp hy]at hx
       exact hin hx
      ·show(S'.ws++[_]).length=(S'.cs++[c']).length
       rw[ai,ai,hwl'];rfl
      ·obtain⟨more,hm⟩:=hpre
       exact⟨more++[c'],by show S'.cs++[c']=_;rw[hm,bZ]⟩
      ·obtain⟨more,hm⟩:=hpw
       exact⟨more++[wn++[((i:Nat):Int)]],by show S'.ws++[_]=_;rw[hm,bZ]⟩
      ·show v.length≤(S'.cs++[c']).length
       rw[ai]
       rcases aP.mp hv with z|z
       ·have:=hvl' v z
        omega
       ·rw[au.mp z,ai]
        have h1:=hvl wn (ay hwn)
        show wn.length+1≤S'.cs.length+1
        rw[hm,ai]
        omega
   ·rintro σ H' ⟨S',kvs',us2,v6,v7,rfl,sH,kt,eli,hPi,hgi,hal,hnd',hwl',hpre,hpw,hvl'⟩
    rw[zl]at hgi
    have hgr:LB (NU (AN M)) n S=.ok S':=by
     unfold LB
     rw[ec,ew]
     exact hgi
    rw[hgr]at hf'
    refine⟨n+1,⟨S'.cs,S'.ws,S'.rows++[S'.row],[]⟩,kvs',us2,_,_,_,rfl,sH,⟨hPi.dN,hPi.kc,hPi.kw,hPi.pq,hPi.pz⟩,hf',hal,hnd',hwl',?_,by omega,hvl'⟩
    obtain⟨more,hm⟩:=hpre
    show n+1≤S'.cs.length
    rw[hm,ai];omega
 ·have z':¬n<S.cs.length:=fun y=>z (decide_eq_true (by omega))
  refine q2 H1 s1 ?_
  rw[← hf]
  unfold DX
  rw[if_neg z']
theorem JU{m:Fm.Mc}(ok:m.Ok){t x:Nat}(hx:x<m.n):Fm.al m t (Fm.mr m m.n x) x=true:=by
 have h:=Fm.mr_al (m:=m) m.n x
 have hl:=bK (Fm.mr_le (m:=m) m.n x) hx
 rcases cR t m.n with z|z
 ·exact Fm.al_le z h
 ·rw[Fm.stable_al ok z (Fm.stable_n ok) hl hx];exact h
theorem Sy{m:Fm.Mc}(ok:m.Ok){t x y:Nat}(hx:x<m.n)(hy:y<m.n):Fm.al m t (Fm.mr m m.n x) (Fm.mr m m.n y)=Fm.al m t x y:=by
 rw[cv]
 exact⟨fun h=>Fm.al_trans (Fm.al_symm (JU ok hx)) (Fm.al_trans h (JU ok hy)),fun h=>Fm.al_trans (JU ok hx) (Fm.al_trans h (Fm.al_symm (JU ok hy)))⟩
def C9(M:Bf):List Nat:=B5 (grp M M.length)
def lnM(M:Bf):Bf:=MD M (grp M M.length)
theorem HN{M:Bf}{x:Nat}(h:x∈C9 M):x<M.length:=by
 have:=Oz h
 rw[Fx]at this
 exact this
theorem QJ{M:Bf}{x:Nat}(h:x∈C9 M):Fm.mr (AN M) M.length x=x:=by
 have h1:=HN h
 have h2:=of_decide_eq_true (aR.mp h).2
 rw[CD h1]at h2
 exact h2
theorem FX{M:Bf}{x:Nat}(h:x<M.length):Fm.mr (AN M) M.length x∈C9 M:=by
 have:=MA (M:=M) M.length h
 rw[CD h]at this
 exact this
theorem G0(M:Bf):(lnM M).length=(C9 M).length:=ac _
theorem Oy{M:Bf}(G:BV M){i e:Nat}(hi:i<(C9 M).length)(he:e<4):AQ (lnM M) i e=HQ (grp M M.length) (C9 M) (AQ M (C9 M)[i] e):=by
 have hk:=HN (aI hi)
 obtain⟨r,e1,_,e3,_⟩:=Bn G hk he
 have er:M.getD (C9 M)[i] []=r:=by rw[ag,e1];rfl
 have e2:(lnM M)[i]?=some (r.map (HQ (grp M M.length) (C9 M))):=by
  show((C9 M).map fun k=>(M.getD k []).map (HQ (grp M M.length) (C9 M)))[i]?=_
  rw[av,aa hi,dh,er]
 have e4:(lnM M).getD i []=r.map (HQ (grp M M.length) (C9 M)):=by rw[ag,e2];rfl
 show((lnM M).getD i []).getD e (0,[])=_
 rw[e4,ag,av,e3];rfl
theorem Lr{M:Bf}(G:BV M){i e:Nat}(hi:i<(C9 M).length)(he:e<4):(AN (lnM M)).nx i e=(C9 M).idxOf (Fm.mr (AN M) M.length ((AN M).nx (C9 M)[i] e)):=by
 have hk:=HN (aI hi)
 have hx:=(GZ G).nx _ e hk he
 show(AQ (lnM M) i e).1.toNat=_
 rw[Oy G hi he]
 show(((C9 M).idxOf ((grp M M.length).getD (AQ M (C9 M)[i] e).1.toNat 0):Nat):Int).toNat=_
 rw[aA]
 show(C9 M).idxOf ((grp M M.length).getD ((AN M).nx (C9 M)[i] e) 0)=_
 rw[CD hx]
theorem Jl{M:Bf}(G:BV M){i e:Nat}(hi:i<(C9 M).length)(he:e<4):(AN (lnM M)).dd i e=(AN M).dd (C9 M)[i] e:=by
 show(AQ (lnM M) i e).2=_
 rw[Oy G hi he];rfl
theorem Fv{M:Bf}(G:BV M){i e:Nat}(hi:i<(C9 M).length)(he:e<4):(AN (lnM M)).nx i e<(C9 M).length:=by
 rw[Lr G hi he]
 exact bo.mpr (FX ((GZ G).nx _ e (HN (aI hi)) he))
theorem Iq{M:Bf}{x:Nat}(h:x∈C9 M):(C9 M)[(C9 M).idxOf x]'(bo.mpr h)=x:=cu _
theorem Mz{M:Bf}(G:BV M):BV (lnM M):=by
 have hl:=MB (grp M M.length)
 rw[Fx]at hl
 have hl':(C9 M).length≤M.length:=hl
 have h0:0<(C9 M).length:=cT (FX G.pos)
 refine⟨by rw[G0];exact h0,by rw[G0];have:=G.most;omega,fun r hr=>?_,fun r hr e he=>?_,fun r hr e he=>?_⟩
 all_goals
  obtain⟨k,hk,rfl⟩:=aJ.mp hr
  have hk':=HN hk
  have hm:M.getD k []∈M:=by rw[ag,aa hk'];exact aI hk'
 ·rw[ac];exact G.four _ hm
 ·obtain⟨e',he',rfl⟩:=aJ.mp he
  obtain⟨g1,g2⟩:=G.to _ hm e' he'
  rw[G0]
  have hx:e'.1.toNat<M.length:=by omega
  have:=bo.mpr (FX hx)
  show 0≤(((C9 M).idxOf ((grp M M.length).getD e'.1.toNat 0):Nat):Int)∧(((C9 M).idxOf ((grp M M.length).getD e'.1.toNat 0):Nat):Int)<((C9 M).length:Int)
  rw[CD hx]
  omega
 ·obtain⟨e',he',rfl⟩:=aJ.mp he
  exact G.few _ hm e' he'
theorem QI{M:Bf}(G:BV M):∀(t i j:Nat) (hi:i<(C9 M).length) (hj:j<(C9 M).length),Fm.al (AN (lnM M)) t i j=Fm.al (AN M) t (C9 M)[i] (C9 M)[j]
 | 0,_,_,_,_=>rfl
 | t+1,i,j,hi,hj=>by
  have ok:=GZ G
  have key:∀e,e<4→Fm.al (AN (lnM M)) t ((AN (lnM M)).nx i e) ((AN (lnM M)).nx j e)=Fm.al (AN M) t ((AN M).nx (C9 M)[i] e) ((AN M).nx (C9 M)[j] e):=fun e he=>by
   have xi:=ok.nx _ e (HN (aI hi)) he
   have xj:=ok.nx _ e (HN (aI hj)) he
   rw[QI G t _ _ (Fv G hi he) (Fv G hj he)]
   have e1:(C9 M)[(AN (lnM M)).nx i e]'(Fv G hi he)=Fm.mr (AN M) M.length ((AN M).nx (C9 M)[i] e):=by
    simp only[Lr G hi he];exact Iq (FX xi)
   have e2:(C9 M)[(AN (lnM M)).nx j e]'(Fv G hj he)=Fm.mr (AN M) M.length ((AN M).nx (C9 M)[j] e):=by
    simp only[Lr G hj he];exact Iq (FX xj)
   rw[e1,e2]
   exact Sy ok xi xj
  rw[cv,Fm.al_succ,Fm.al_succ]
  constructor
  ·intro h e he
   obtain⟨h1,h2⟩:=h e he
   rw[Jl G hi he,Jl G hj he]at h1
   rw[key e he]at h2
   exact⟨h1,h2⟩
  ·intro h e he
   obtain⟨h1,h2⟩:=h e he
   rw[Jl G hi he,Jl G hj he,key e he]
   exact⟨h1,h2⟩
theorem Nz{M:Bf}(G:BV M){i j:Nat}(hi:i<(C9 M).length)(hj:j<(C9 M).length)(hij:i≠j):∃t,Fm.al (AN (lnM M)) t i j=false:=by
 refine⟨M.length,?_⟩
 rw[QI G _ _ _ hi hj]
 cases z:Fm.al (AN M) M.length (C9 M)[i] (C9 M)[j] with
 | false=>rfl
 | true=>
  have e:=Fm.mr_eq z
  rw[QJ (aI hi),QJ (aI hj)]at e
  have hp:(C9 M).Pairwise (·<·):=bp.sublist eG bS
  rcases Nat.lt_or_gt_of_ne hij with h|h
  ·have:=bG.mp hp i j hi hj h
   omega
  ·have:=bG.mp hp j i hj hi h
   omega
def Nf(m:Fm.Mc):Nat→List Nat→List (List Int)
 | _,[]=>[]
 | a,e::r=>m.dd a e::Nf m (m.nx a e) r
theorem Ox{M:Bf}(G:BV M):∀(es:List Nat) (x:Nat),x<M.length→(∀e∈es,e<4)→Nf (AN (lnM M)) ((C9 M).idxOf (Fm.mr (AN M) M.length x)) es=Nf (AN M) x es
 | [],_,_,_=>rfl
 | e::es,x,hx,he=>by
  have ok:=GZ G
  have he4:=he e aw
  have hm:=FX hx
  have hi:=bo.mpr hm
  have hmx:=HN hm
  have a1:=Fm.al_succ.mp (JU ok (t:=M.length+1) (show x<(AN M).n from hx)) e he4
  unfold Nf
  rw[Jl G hi he4,Lr G hi he4,Iq hm]
  have e1:(AN M).dd (Fm.mr (AN M) M.length x) e=(AN M).dd x e:=a1.1
  have e2:Fm.mr (AN M) M.length ((AN M).nx (Fm.mr (AN M) M.length x) e)=Fm.mr (AN M) M.length ((AN M).nx x e):=Fm.mr_eq a1.2
  rw[e1,e2,Ox G es _ (ok.nx x e hx he4) fun y hy=>he y (aq _ hy)]
theorem Pr{M:Bf}(G:BV M):(C9 M).idxOf (Fm.mr (AN M) M.length 0)=0:=by
 have h:=Fm.mr_le (m:=AN M) M.length 0
 have e:Fm.mr (AN M) M.length 0=0:=by omega
 have hm:=FX G.pos
 rw[e]at hm ⊢
 have hi:=bo.mpr hm
 have hp:(C9 M).Pairwise (·<·):=bp.sublist eG bS
 by_cases z:(C9 M).idxOf 0=0
 ·exact z
 ·have h1:=bG.mp hp 0 ((C9 M).idxOf 0) (by omega) hi (by omega)
  rw[Iq hm]at h1
  cases h1
theorem MC{m:Fm.Mc}{p w:List Int}(hP:C5 m p w)(hl:∀w',C5 m p w'→HY w w'):∃(u:List Int) (e:Nat),w=u++[(e:Int)]∧Evs u∧e<4∧NM m (u.foldl (LR m) p) e=true∧∀(k:Nat) (f:Nat),u[k]?=some (f:Int)→NM m ((u.take k).foldl (LR m) p) f=false:=by
 obtain⟨u,e,rfl,hu,he,hd⟩:=hP
 refine⟨u,e,rfl,hu,he,hd,fun k f hk=>?_⟩
 cases z:NM m ((u.take k).foldl (LR m) p) f with
 | false=>rfl
 | true=>
  have hf:=hu _ (ay hk)
  have hkl:=(af.mp hk).1
  have hp:C5 m p (u.take k++[(f:Int)]):=⟨u.take k,f,rfl,fun x hx=>hu x (c8 hx),by omega,z⟩
  have:=hl _ hp
  have hlen:(u++[(e:Int)]).length≤(u.take k++[(f:Int)]).length:=by
   rcases this with h|h|⟨h,_⟩
   ·rw[h];exact aE _
   ·omega
   ·omega
  rw[ai,ai,bc]at hlen
  simp at hlen
  omega
def NC(m:Fm.Mc)(a b:Nat):List Nat→Nat×Nat
 | []=>(a,b)
 | e::r=>NC m (m.nx a e) (m.nx b e) r
theorem MI(m:Fm.Mc)(e:Nat):∀(l:List Nat) (a b:Nat),NC m a b (l++[e])=(m.nx (NC m a b l).1 e,m.nx (NC m a b l).2 e)
 | [],_,_=>rfl
 | x::l,a,b=>MI m e l (m.nx a x) (m.nx b x)
structure Rp(m:Fm.Mc)(a b:Nat)(es:List Nat):Prop where
 ne:es≠[]
 lt:∀e∈es,e<4
 eq:∀(k e:Nat),es[k]?=some e→(m.dd (NC m a b (es.take k)).1 e≠m.dd (NC m a b (es.take k)).2 e↔k+1=es.length)
theorem Oq:∀{u:List Int},Evs u→∃es:List Nat,u=es.map (fun(e:Nat)=>(e:Int))∧∀e∈es,e<4
 | [],_=>⟨[],rfl,fun e he=>by cases he⟩
 | x::u,h=>by
  obtain⟨x0,x4⟩:=h x aw
  obtain⟨es,e1,e2⟩:=Oq fun y hy=>h y (aq _ hy)
  refine⟨x.toNat::es,?_,fun e he=>?_⟩
  ·rw[aY,← e1,ck x0]
  ·rcases aG.mp he with rfl|z
   ·omega
   ·exact e2 e z
theorem Jt(m:Fm.Mc):∀(l:List Nat) (a b:Nat),(l.map (fun(e:Nat)=>(e:Int))).foldl (LR m) [(a:Int),(b:Int)]=[((NC m a b l).1:Int),((NC m a b l).2:Int)]
 | [],_,_=>rfl
 | x::l,a,b=>by
  show(l.map (fun(e:Nat)=>(e:Int))).foldl (LR m) (LR m [(a:Int),(b:Int)] (x:Int))=_
  rw[R4,Jt m l];rfl
theorem OK(m:Fm.Mc)(a b e:Nat):NM m [(a:Int),(b:Int)] e=decide (m.dd a e≠m.dd b e):=rfl
theorem Pa{m:Fm.Mc}{a b:Nat}{w:List Int}(hP:C5 m [(a:Int),(b:Int)] w)(hl:∀w',C5 m [(a:Int),(b:Int)] w'→HY w w'):∃es:List Nat,w=es.map (fun(e:Nat)=>(e:Int))∧Rp m a b es:=by
 obtain⟨u,e,rfl,hu,he,hd,hk⟩:=MC hP hl
 obtain⟨es,rfl,h4⟩:=Oq hu
 refine⟨es++[e],by rw[am];rfl,by simp,fun x hx=>?_,fun k x hx=>?_⟩
 ·rcases aP.mp hx with z|z
  ·exact h4 x z
  ·rw[au.mp z];exact he
 ·by_cases hkl:k<es.length
  ·have hx':es[k]?=some x:=by rw[aO hkl]at hx;exact hx
   have h1:=hk k x (by rw[av,hx'];rfl)
   rw[← eK,Jt,OK]at h1
   rw[de (by omega),ai]
   constructor
   ·intro z
    exact absurd z (of_decide_eq_false h1)
   ·intro z
    simp at z
    omega
  ·rw[aT (by omega)]at hx
   have hk0:k=es.length:=by
    cases z:k - es.length with
    | zero=>omega
    | succ n=>rw[z]at hx;cases hx
   subst hk0
   rw[eX]at hx
   cases hx
   rw[Jt,OK]at hd
   rw[de (aE _),aN,ai]
   exact⟨fun _=>rfl,fun _=>of_decide_eq_true hd⟩
def N5:Sp:=fun vs H Q _=>∃(r wd:fG) (ps:List fG) (M:Bf) (a b:Nat) (es:List Nat),vs=[.ref r,.int a,.int b,.ref wd]∧Hy H r ps M∧BV M∧a<M.length∧b<M.length∧H wd=some (.tup (nV es))∧Rp (AN M) a b es∧es.length≤1000∧∀H',An H H'→Q (.bl true) H'
theorem Q0{m:Fm.Mc}(ok:m.Ok):∀(l:List Nat) (a b:Nat),a<m.n→b<m.n→(∀e∈l,e<4)→(NC m a b l).1<m.n∧(NC m a b l).2<m.n
 | [],_,_,ha,hb,_=>⟨ha,hb⟩
 | e::l,a,b,ha,hb,h=>Q0 ok l _ _ (ok.nx a e ha (h e aw)) (ok.nx b e hb (h e aw)) fun x hx=>h x (aq _ hx)
theorem Fj:AA ["rows", "one", "other", "word", "k", "mine", "theirs"] ["rows", "one", "other", "word"] (Am Hl):=⟨rfl,rfl,rfl,by decide +kernel,rfl,by decide +kernel,by decide +kernel⟩
theorem Qr{f C:fG}{fd:fO}(D:Al K mg "_law_parts" Hl ["rows", "one", "other", "word"] f fd)(T:JY K mg C):AC P w K mg base A6 1 f fd ["rows", "one", "other", "word"] N5:=by
 refine D.fn.ok Fj (fun vs H Q E h=>?_) (fun cdv A outer s H vs Q E hr h=>?_)
 ·obtain⟨r,wd,ps,M,a,b,es,rfl,_⟩:=h
  rfl
 obtain⟨r,wd,ps,M,a,b,es,rfl,hR,hG,ha,hb,hw,hP,hl,q⟩:=h
 refine⟨_,Ac (A0 (PW.pt (HJ (C8 (Cf (AF C4 (by rfl) T.inst (by decide +kernel) (Aa (pv 3) (Aa (GV (by rfl) T.tup (by decide +kernel) (v:=.ty "tuple") rfl) Ab)))))
   (FY (AB B4 (AF At (by rfl) T.len PySem.boot_len (Aa (pv 3) Ab)) Ah (AS _))))) AZ AJ)
  (Ac (Bd fR.never rfl (AV rfl T.range (Aa (AF At (by rfl) T.len PySem.boot_len (Aa (pv 3) Ab)) Ab)) (Az (i:=4) Fj.nd rfl (Or.inl rfl))
   (Ac (A0 (AB Dq (Ao Av (pv 3) (pv 4) (fun _ _=>rfl)) (AY (Aa Ah (Aa Ah (Aa Ah (Aa Ah Ab))))) (by with_unfolding_all rfl)) AZ AJ)
   (Ac (Ar (i:=5) Fj.nd rfl (Or.inl rfl) (Ao Au (Ao Au (pv 0) (pv 1) (fun _ _=>rfl)) (Ao Av (pv 3) (pv 4) (fun _ _=>rfl)) (fun _ _=>rfl)))
   (Ac (Ar (i:=6) Fj.nd rfl (Or.inl rfl) (Ao Au (Ao Au (pv 0) (pv 2) (fun _ _=>rfl)) (Ao Av (pv 3) (pv 4) (fun _ _=>rfl)) (fun _ _=>rfl)))
   (Ac (A0 (AB E2 (Fs (Nn hr.units) (Ao Av (pv 5) Ah (fun _ _=>rfl)) (Ao Av (pv 6) Ah (fun _ _=>rfl)) (AS _)) (Fs B4 (pv 4) (AO Nm (AF At (by rfl) T.len PySem.boot_len (Aa (pv 3) Ab)) Ah) (AS _)) (AS _)) AZ AJ)
   (Ac (Ar (i:=1) Fj.nd rfl (Or.inl rfl) (Ao Av (pv 5) Ah (fun _ _=>rfl)))
   (Ak (Ar (i:=2) Fj.nd rfl (Or.inl rfl) (Ao Av (pv 6) Ah (fun _ _=>rfl))))))))))
  (Ak (AK HL))),?_⟩
 have ok:=GZ hG
 have hne:0<es.length:=by
  cases es with
  | nil=>exact absurd rfl hP.ne
  | cons _ _=>exact Nat.succ_pos _
 refine⟨_,rfl,_,_,_,_,rfl,.tup hw,T.pp,_,rfl,?_⟩
 refine A9 ?_
 refine⟨_,rfl,wd,_,rfl,.inr (A2.of hw),rfl,_,rfl,?_⟩
 refine DT (fun z=>absurd (of_decide_eq_true z) (fun e=>by injection e with e;rw[Cz]at e;omega)) (fun _=>?_)
 refine⟨_,rfl,wd,_,rfl,.inr (A2.of hw),_,rfl,by rw[Cz];omega,by rw[Cz];omega,?_⟩
 have em:(((nV es).length:Nat):Int).toNat=es.length:=by rw[Cz];omega
 rw[em]
 refine Bh (fun i σ H1=>∃v4 v5 v6,σ=[some (.ref r),some (.int ((NC (AN M) a b (es.take i)).1:Int)),some (.int ((NC (AN M) a b (es.take i)).2:Int)),some (.ref wd),v4,v5,v6]∧An H H1) ⟨_,_,_,rfl,fun _ _ e=>e⟩ ?_ ?_
 ·rintro i σ H1 hi ⟨v4,v5,v6,rfl,(s1:An _ _)⟩
  have ei:(0:Int)+(i:Int)=(i:Int):=by omega
  rw[ei]
  have hei:=aa hi
  generalize es[i]=e at hei
  have he4:=hP.lt e (ay hei)
  have hq:=hP.eq i e hei
  obtain⟨g1,g2⟩:=Q0 ok (es.take i) a b ha hb fun x hx=>hP.lt x (c8 hx)
  generalize hab:NC (AN M) a b (es.take i)=ab at g1 g2 hq ⊢
  have hw1:=s1 _ _ hw
  refine⟨_,rfl,_,rfl,wd,_,_,_,rfl,rfl,A2.of hw1,Nt hei,(by show 4≤fL;decide),fun t ht=>?_⟩
  have s2:=s1.trans (Ag ht (.tup [.int 0,.int 1,.int 2,.int 3]))
  have et:(upd H1 t (.tup [.int 0,.int 1,.int 2,.int 3])) t=some (.tup [.int 0,.int 1,.int 2,.int 3]):=Ad
  generalize upd H1 t (.tup [.int 0,.int 1,.int 2,.int 3])=H2 at s2 et ⊢
  have hin:(if true then !Ie (.int (e:Int)) [.int 0,.int 1,.int 2,.int 3] else Ie (.int (e:Int)) [.int 0,.int 1,.int 2,.int 3])=false:=by
   match e,he4 with
   | 0,_=>decide +kernel
   | 1,_=>decide +kernel
   | 2,_=>decide +kernel
   | 3,_=>decide +kernel
  refine⟨t,_,rfl,.inr (A2.of et),rfl,rfl,_,rfl,?_⟩
  rw[hin]
  refine A9 ?_
  have hR2:=hR.same s2
  have hw2:=s2 _ _ hw
  obtain⟨p1,vs1,x1,k1,k2,k3,⟨t1,u1,rfl,k4,k5⟩⟩:=hR2.ent hG (show ab.1<M.length from g1) he4
  obtain⟨p2,vs2,x2,f1,f2,f3,⟨t2,u2,rfl,f4,f5⟩⟩:=hR2.ent hG (show ab.2<M.length from g2) he4
  refine⟨_,rfl,_,rfl,r,_,_,_,rfl,rfl,AD.of hR2.hr,k1,_,rfl,_,rfl,wd,_,_,_,rfl,rfl,A2.of hw2,Nt hei,p1,_,_,_,rfl,rfl,AD.of k2,k3,?_⟩
  refine⟨_,rfl,_,rfl,r,_,_,_,rfl,rfl,AD.of hR2.hr,f1,_,rfl,_,rfl,wd,_,_,_,rfl,rfl,A2.of hw2,Nt hei,p2,_,_,_,rfl,rfl,AD.of f2,f3,?_⟩
  have sh1:=B2 (CQ (AQ M ab.1 e).2)
  have sh2:=B2 (CQ (AQ M ab.2 e).2)
  refine⟨_,rfl,t1,_,_,_,rfl,rfl,A2.of k4,rfl,_,rfl,t2,_,_,_,rfl,rfl,A2.of f4,rfl,_,_,k5.rd,f5.rd,BZ sh1 (by decide),BZ sh2 (by decide),_,rfl,_,rfl,wd,_,rfl,.inr (A2.of hw2),_,_,rfl,rfl,rfl,rfl,_,rfl,?_⟩
  have e1:(if(true:Bool)=true then !fN.eqv (.tuple ((AQ M ab.1 e).2.map fN.int)) (.tuple ((AQ M ab.2 e).2.map fN.int)) else fN.eqv (.tuple ((AQ M ab.1 e).2.map fN.int)) (.tuple ((AQ M ab.2 e).2.map fN.int)))=decide ((AN M).dd ab.1 e≠(AN M).dd ab.2 e):=by
   rw[if_pos rfl]
   simp only[fN.eqv,JG]
   show _=decide ((AQ M ab.1 e).2≠(AQ M ab.2 e).2)
   simp
  have e2:decide (V.int (i:Int)=V.int (((nV es).length:Int) - 1))=decide (i+1=es.length):=by
   rw[Cz]
   exact decide_eq_decide.mpr ⟨fun z=>by injection z with z;omega,fun z=>by congr 1;omega⟩
  rw[e1]
  show if(!decide (V.bl _=V.bl (decide (V.int (i:Int)=V.int (((nV es).length:Int) - 1)))))=true then _ else _
  have e3:decide ((AN M).dd ab.1 e≠(AN M).dd ab.2 e)=decide (i+1=es.length):=decide_eq_decide.mpr hq
  rw[e2,e3]
  refine DT (fun z=>absurd z (by simp)) (fun _=>?_)
  obtain⟨_,_,_,_,a0,_,_⟩:=Bn hG (show ab.1<M.length from g1) he4
  obtain⟨_,_,_,_,b0,_,_⟩:=Bn hG (show ab.2<M.length from g2) he4
  refine⟨_,rfl,t1,_,_,_,rfl,rfl,A2.of k4,rfl,?_⟩
  refine⟨_,rfl,t2,_,_,_,rfl,rfl,A2.of f4,rfl,?_⟩
  refine⟨some (.int (i:Int)),some (.ref t1),some (.ref t2),?_,s2⟩
  rw[bY,hei]
  show _=[some (V.ref r),some (V.int ((NC (AN M) a b (es.take i++[e])).1:Int)),some (V.int ((NC (AN M) a b (es.take i++[e])).2:Int)),some (V.ref wd),some (V.int (i:Int)),some (V.ref t1),some (V.ref t2)]
  rw[MI,hab]
  show [some (V.ref r),some (V.int (AQ M ab.1 e).1),some (V.int (AQ M ab.2 e).1),some (V.ref wd),some (V.int (i:Int)),some (V.ref t1),some (V.ref t2)]=[some (V.ref r),some (V.int (((AQ M ab.1 e).1.toNat:Nat):Int)),some (V.int (((AQ M ab.2 e).1.toNat:Nat):Int)),some (V.ref wd),some (V.int (i:Int)),some (V.ref t1),some (V.ref t2)]
  rw[ck a0,ck b0]
 ·rintro σ H1 ⟨v4,v5,v6,rfl,(s1:An _ _)⟩
  exact q H1 s1
theorem AL.app{H:Hp}{ps qs:List fG}{os ts:List (List V)}(h:AL H ps os)(k:AL H qs ts):AL H (ps++qs) (os++ts):=by
 refine⟨by simp[h.1,k.1],fun i p o a b=>?_⟩
 have hl:=h.1
 by_cases hi:i<ps.length
 ·rw[aO hi]at a
  rw[aO (by omega)]at b
  exact h.2 i p o a b
 ·rw[aT (by omega)]at a
  rw[aT (by omega)]at b
  rw[hl]at a
  exact k.2 _ p o a b
theorem AL.none{H:Hp}:AL H [] []:=⟨rfl,fun i p o a _=>by cases a⟩
theorem AL.put{H H1:Hp}{d t:fG}{ps:List fG}{os:List (List V)}{o:List V}(hd:H d=ae)(s1:An H H1)(hD:H1 d=some (.lst (ps.map V.ref)))(hI:AL H1 ps os)(ht:H1 t=ae) :
  An H (upd (upd H1 t (.tup o)) d (.lst (ps.map V.ref++[V.ref t])))∧AL (upd (upd H1 t (.tup o)) d (.lst (ps.map V.ref++[V.ref t]))) (ps++[t]) (os++[o]):=by
 have ndt:d≠t:=Af hD ht
 refine⟨AH (s1.trans (Ag ht _)) hd _,AL.snoc ⟨hI.1,fun i p u a b=>?_⟩ ?_⟩
 ·have e:=hI.2 i p u a b
  rw[Aj (CP e hD (by intro z;cases z)),Aj (Af e ht)];exact e
 ·rw[Aj ndt.symm,Ad]
theorem EE{H:Hp}{n:Nat}{D:fG}{te:TE}{f:Nat→List V}{Q:VK}{τ:List (Option V)}{v0:Option V}(hn:n≤100)(hD:H D=ae)
  (hte:∀(i:Nat) H' Q,i<n→An H H'→(∀t,H' t=ae→Q (.ref t) (upd H' t (.tup (f i))))→te (some (.int ((0:Int)+(i:Int)))::τ) H' Q)
  (q:∀ps H',An H H'→H' D=some (.lst (ps.map V.ref))→AL H' ps ((ak n).map f)→Q (.ref D) H'):GD (Rv 0 n) (Jw 0) P4 te D Q (v0::τ) (upd H D (.lst [])):=by
 refine Fc (Pv:=fun i ys σ H'=>∃v ps,σ=v::τ∧ys=ps.map V.ref∧An H H'∧AL H' ps ((ak i).map f)) ⟨_,[],rfl,rfl,Ag hD _,AL.none⟩ ?_ ?_
 ·rintro i ys σ H' hi hDi ⟨v,ps,rfl,rfl,(s:An _ _),hI⟩
  refine hte i _ _ hi s fun t ht=>?_
  have nDt:D≠t:=Af hDi ht
  have lp:=hI.1
  rw[ac,aF]at lp
  obtain⟨s2,hI2⟩:=AL.put (o:=f i) hD s hDi hI ht
  refine⟨by rw[Aj nDt];exact hDi,by rw[ac,lp];exact Aw (by omega),⟨_,ps++[t],rfl,by rw[am];rfl,s2,?_⟩⟩
  rw[bh,am]
  exact hI2
 ·rintro ys σ H' hDn ⟨v,ps,rfl,rfl,(s:An _ _),hI⟩
  exact q ps H' s hDn hI
theorem AL.cat{H H1:Hp}{p:fG}{ps qs:List fG}{os us:List (List V)}(h:AL H ps os)(s:An H H1)(k:AL H1 qs us)(hp:H1 p=ae) :
  An H (upd H1 p (.lst (ps.map V.ref++qs.map V.ref)))∧(upd H1 p (.lst (ps.map V.ref++qs.map V.ref))) p=some (.lst ((ps++qs).map V.ref))∧AL (upd H1 p (.lst (ps.map V.ref++qs.map V.ref))) (ps++qs) (os++us):=by
 have s2:=Ag hp (.lst (ps.map V.ref++qs.map V.ref))
 exact⟨s.trans s2,by rw[Ad,am],(h.same (s.trans s2)).app (k.same s2)⟩
theorem AL.add{H H1:Hp}{d t:fG}{ps:List fG}{B:List Ap}(o:List V)(x:Ap)(ho:o=aV x)(hd:H d=ae)(s1:An H H1)(hD:H1 d=some (.lst (ps.map V.ref)))(hI:AL H1 ps (B.map aV))(ht:H1 t=ae) :
  An H (upd (upd H1 t (.tup o)) d (.lst (ps.map V.ref++[V.ref t])))∧(upd (upd H1 t (.tup o)) d (.lst (ps.map V.ref++[V.ref t]))) d=some (.lst ((ps++[t]).map V.ref))∧AL (upd (upd H1 t (.tup o)) d (.lst (ps.map V.ref++[V.ref t]))) (ps++[t]) ((B++[x]).map aV):=by
 subst ho
 obtain⟨a,b⟩:=AL.put (o:=aV x) hd s1 hD hI ht
 exact⟨a,by rw[Ad,am];rfl,by rw[am];exact b⟩
theorem LJ{ds:List Int}{i:Nat}{k:Int}(e:k=(i:Int))(h:i<ds.length):G6 (ds.map V.int) k=some (.int (ds.getD i 0)):=by
 subst e;exact Hv h
def L9(K:aj):Sp:=fun vs H Q _=>∃(a:fG) (ns:List Int) (st:Nat) (cl:Bool),vs=[.ref a,.int st,.bl cl]∧AD K H a (ns.map V.int) ∧
 ∀(t r ar:fG) (ps qs:List fG) (H':Hp),An H H'→H' t=some (.tup [.ref r,.ref ar])→H' r=some (.lst (ps.map V.ref))→AL H' ps ((Hb (Rm.cell ns st)).map rV)→H' ar=some (.lst (qs.map V.ref))→AL H' qs ((J8 cl (Rm.cell ns st) (frDs ns st)).map aV)→Q (.ref t) H'
theorem BX:AA ["script", "start", "clashing_v", "cell", "one", "other", "far", "out", "rooms", "deeds", "arrows", "event"] ["script", "start", "clashing_v"] (Am Cy):=⟨rfl,rfl,rfl,by decide +kernel,rfl,by decide +kernel,by decide +kernel⟩
theorem Pg{f C fc:fG}{fd fdc:fO}(D:Al K mg "_law_framed" Cy ["script", "start", "clashing_v"] f fd)(T:DP K mg C)(Dc:Al K mg "_law_cell_at" GR ["script", "k"] fc fdc):AC P w K mg base A6 2 f fd ["script", "start", "clashing_v"] (L9 K):=by
 have Gc:AC P w K mg base A6 1 fc fdc ["script", "k"] (IH K):=Io Dc T
 refine D.fn.ok BX (fun vs H Q E h=>?_) (fun cdv A outer s H vs Q E hr h=>?_)
 ·obtain⟨a,ns,st,cl,rfl,_⟩:=h
  rfl
 obtain⟨a,ns,st,cl,rfl,hS,q⟩:=h
 refine⟨_,Ac (Ar (i:=3) BX.nd rfl (Or.inl rfl) (Aq Gc hr rfl Dc.mg Dc.fn.kp Dc.bd .nil AE (Aa (pv 0) (Aa (pv 1) Ab))))
  (Ac (Ar (i:=4) BX.nd rfl (Or.inr rfl) (AO BN Ah (AO Bx (pv 3) Ah)))
  (Ac (Ar (i:=5) BX.nd rfl (Or.inr rfl) (AO BN Ah (AO Bx (AO Cb (pv 3) Ah) Ah)))
  (Ac (Ar (i:=6) BX.nd rfl (Or.inr rfl) (AO BN Ah (pv 4)))
  (Ac (Ar (i:=7) BX.nd rfl (Or.inl rfl) (AO BN (pv 6) (pv 5)))
  (Ac (Ar (i:=8) BX.nd rfl (Or.inl rfl) (Bj (Aa (AY (Aa (EH C7 Ah) (Aa Be Ab))) (Aa (AY (Aa Ah (Aa Be Ab)))
   (Aa (AY (Aa Ah (Aa (Ao Au (Bj (Aa Be (Aa Be Ab))) (AO Bx (AO Cb (pv 3) Ah) Ah) (fun _ _=>rfl)) Ab)))
   (Aa (AY (Aa Ah (Aa (Ao Au (Bj (Aa Be (Aa Be Ab))) (AO Bx (AO Cb (pv 3) Ah) Ah) (fun _ _=>rfl)) Ab))) Ab))))))
  (Ac (Ar (i:=8) BX.nd rfl (Or.inl rfl) (AO Jd (AO Jd (AO Jd (pv 8)
    (BW ["k"] [ae] rfl (AV rfl T.range (Aa (pv 4) Ab)) (fun _=>Az (i:=0) (show(["k"]:List Str).Nodup by decide +kernel) rfl (Or.inl rfl)) (fun _=>BJ) (fun _=>AY (Aa Ah (Aa Be Ab))) (N:=["script", "start", "clashing_v", "cell", "one", "other", "far", "out", "rooms", "deeds", "arrows", "event"]) (ks:=(Am Cy).names) rfl rfl (by decide +kernel) (by decide +kernel) (by decide +kernel) (by decide +kernel)))
    (BW ["k"] [ae] rfl (AV rfl T.range (Aa (pv 5) Ab)) (fun _=>Az (i:=0) (show(["k"]:List Str).Nodup by decide +kernel) rfl (Or.inl rfl)) (fun _=>BJ) (fun _=>AY (Aa Ah (Aa Be Ab))) (N:=["script", "start", "clashing_v", "cell", "one", "other", "far", "out", "rooms", "deeds", "arrows", "event"]) (ks:=(Am Cy).names) rfl rfl (by decide +kernel) (by decide +kernel) (by decide +kernel) (by decide +kernel)))
    (Bj (Aa (AY (Aa Ah (Aa Be Ab))) Ab))))
  (Ac (Ar (i:=9) BX.nd rfl (Or.inr rfl) (BW ["k", "script", "start"] [ae,some 0,some 1] rfl (AV rfl T.range (Aa Ah Ab)) (fun _=>Az (i:=0) (show(["k", "script", "start"]:List Str).Nodup by decide +kernel) rfl (Or.inl rfl)) (fun _=>BJ)
    (fun _=>AO Bx (AO Cb (Aq Gc hr rfl Dc.mg Dc.fn.kp Dc.bd .nil AE (Aa (pv 1) (Aa (AO BN (AO BN (pv 2) Ah) (AO Bx (pv 0) Ah)) Ab))) (AO BN Ah (AO Ll (AO Cb (pv 0) Ah) Ah))) Ah)
    (N:=["script", "start", "clashing_v", "cell", "one", "other", "far", "out", "rooms", "deeds", "arrows", "event"]) (ks:=(Am Cy).names) rfl rfl (by decide +kernel) (by decide +kernel) (by decide +kernel) (by decide +kernel)))
  (Ac (CV (i:=10) ["k", "one", "deeds"] [ae,some 4,some 9] rfl BX.nd rfl rfl (AV rfl T.range (Aa (pv 4) Ab)) (fun _=>Az (i:=0) (show(["k", "one", "deeds"]:List Str).Nodup by decide +kernel) rfl (Or.inl rfl)) (fun _=>BJ)
    (fun _=>AY (Aa (AO BN Ah (pv 0)) (Aa Ah (Aa (EH C7 Ah) (Aa (AO BN Ah (AO Bx (AO BN (pv 0) Ah) (pv 1))) (Aa (Ao Au (pv 2) (pv 0) (fun _ _=>rfl)) Ab))))))
    (N:=["script", "start", "clashing_v", "cell", "one", "other", "far", "out", "rooms", "deeds", "arrows", "event"]) (ks:=(Am Cy).names) rfl rfl (by decide +kernel) (by decide +kernel) (by decide +kernel) (by decide +kernel))
  (Ac (Ar (i:=11) BX.nd rfl (Or.inr rfl) (Ao Au (Bj (Aa Ah (Aa Ah (Aa Ah Ab)))) (AO Bx (AO Cb (pv 3) Ah) Ah) (fun _ _=>rfl)))
  (Ac (Ar (i:=10) BX.nd rfl (Or.inl rfl) (AO Jd (pv 10)
    (BW ["k", "far", "event", "other", "deeds"] [ae,some 6,some 11,some 5,some 9] rfl (AV rfl T.range (Aa (pv 5) Ab)) (fun _=>Az (i:=0) (show(["k", "far", "event", "other", "deeds"]:List Str).Nodup by decide +kernel) rfl (Or.inl rfl)) (fun _=>BJ)
     (fun _=>AY (Aa (AO BN (pv 1) (pv 0)) (Aa (pv 2) (Aa (EH C7 Ah) (Aa (AO BN (pv 1) (AO Bx (AO BN (pv 0) Ah) (pv 3))) (Aa (Ao Au (pv 4) (AO BN Ah (pv 0)) (fun _ _=>rfl)) Ab))))))
     (N:=["script", "start", "clashing_v", "cell", "one", "other", "far", "out", "rooms", "deeds", "arrows", "event"]) (ks:=(Am Cy).names) rfl rfl (by decide +kernel) (by decide +kernel) (by decide +kernel) (by decide +kernel))))
  (Ac (AT (BF ax aB aD AU (pv 10) (Aa (AY (Aa Ah (Aa Ah (Aa (Ao Au (Bj (Aa (EH C7 Ah) (Aa Ah (Aa (AO BN (pv 6) Ah) Ab)))) (AO Bx (AO Cb (pv 3) Ah) Ah) (fun _ _=>rfl)) (Aa (pv 7) (Aa (Ao Au (pv 9) Ah (fun _ _=>rfl)) Ab)))))) Ab)))
  (Ac (AT (BF ax aB aD AU (pv 10) (Aa (AY (Aa (pv 7) (Aa Ah (Aa (EH C7 Ah) (Aa (Ao Au (Bj (Aa Ah (Aa Ah (Aa Ah Ab)))) (AO Bx (AO Cb (pv 3) Ah) Ah) (fun _ _=>rfl)) (Aa (Ao Au (pv 9) Ah (fun _ _=>rfl)) Ab)))))) Ab)))
  (Ac (A0 (PW.pt (Eb (Cf (pv 2)) (Dn (AB B4 (AO Bx (AO Cb (pv 3) Ah) Ah) Ah (AS _)))))
    (Ac (AT (BF ax aB aD AU (pv 10) (Aa (AY (Aa Ah (Aa Ah (Aa (EH C7 Ah) (Aa (pv 7) (Aa Ah Ab)))))) Ab)))
    (Ak (AT (BF ax aB aD AU (pv 10) (Aa (AY (Aa (AO BN (pv 6) Ah) (Aa Ah (Aa (EH C7 Ah) (Aa (pv 6) (Aa Ah Ab)))))) Ab))))) AJ)
  (Ak (AK (AY (Aa (pv 8) (Aa (pv 10) Ab)))))))))))))))))),?_⟩
 refine⟨_,rfl,_,rfl,a,ns,st,rfl,hS,?_⟩
 generalize hc:Rm.cell ns st=c at q ⊢
 refine⟨_,rfl,_,_,rfl,rfl,(by show(0:Int)<2;decide),_,_,rfl,rfl,?_⟩
 refine⟨_,rfl,_,_,rfl,rfl,⟨by decide,by decide⟩,_,_,rfl,rfl,(by show(0:Int)<2;decide),_,_,rfl,rfl,?_⟩
 refine⟨_,rfl,_,_,rfl,rfl,?_⟩
 refine⟨_,rfl,_,rfl,_,_,rfl,rfl,?_⟩
 refine⟨1,rfl,(by show 2≤fL;decide),fun t1 h1=>?_⟩
 have s1:=Ag h1 (.tup [.int (-1),.str "one"])
 have e1:(upd H t1 (.tup [.int (-1),.str "one"])) t1=some (.tup [.int (-1),.str "one"]):=Ad
 generalize upd H t1 (.tup [.int (-1),.str "one"])=H1 at s1 e1 ⊢
 refine⟨(by show 2≤fL;decide),fun t2 h2=>?_⟩
 have s2:=Ag h2 (.tup [.int 0,.str "all"])
 have e2:(upd H1 t2 (.tup [.int 0,.str "all"])) t2=some (.tup [.int 0,.str "all"]):=Ad
 generalize upd H1 t2 (.tup [.int 0,.str "all"])=H2 at s2 e2 ⊢
 refine⟨(by show 2≤fL;decide),fun l3 hl3=>?_⟩
 have u3:=Ag hl3 (.lst [.str "keep",.str "one"])
 refine⟨_,rfl,_,_,rfl,rfl,⟨by decide,by decide⟩,_,_,rfl,rfl,(by show(0:Int)<2;decide),l3,_,_,_,rfl,rfl,AD.of Ad,at2 (f:=V.str),(by show 2≤fL;decide),fun t3 h3=>?_⟩
 have s3:=u3.trans (Ag h3 (.tup [.int 1,.str (LS (c / 4 % 2))]))
 have e3:(upd (upd H2 l3 (.lst [.str "keep",.str "one"])) t3 (.tup [.int 1,.str (LS (c / 4 % 2))])) t3=some (.tup [.int 1,.str (LS (c / 4 % 2))]):=Ad
 generalize upd (upd H2 l3 (.lst [.str "keep",.str "one"])) t3 (.tup [.int 1,.str (LS (c / 4 % 2))])=H3 at s3 e3 ⊢
 refine⟨(by show 2≤fL;decide),fun l4 hl4=>?_⟩
 have u4:=Ag hl4 (.lst [.str "keep",.str "one"])
 refine⟨_,rfl,_,_,rfl,rfl,⟨by decide,by decide⟩,_,_,rfl,rfl,(by show(0:Int)<2;decide),l4,_,_,_,rfl,rfl,AD.of Ad,at2 (f:=V.str),(by show 2≤fL;decide),fun t4 h4=>?_⟩
 have s4:=u4.trans (Ag h4 (.tup [.int 1,.str (LS (c / 8 % 2))]))
 have e4:(upd (upd H3 l4 (.lst [.str "keep",.str "one"])) t4 (.tup [.int 1,.str (LS (c / 8 % 2))])) t4=some (.tup [.int 1,.str (LS (c / 8 % 2))]):=Ad
 generalize upd (upd H3 l4 (.lst [.str "keep",.str "one"])) t4 (.tup [.int 1,.str (LS (c / 8 % 2))])=H4 at s4 e4 ⊢
 refine⟨(by show 4≤fL;decide),fun r0 hr0=>?_⟩
 have s5:=Ag hr0 (.lst [.ref t1,.ref t2,.ref t3,.ref t4])
 have e5:(upd H4 r0 (.lst [.ref t1,.ref t2,.ref t3,.ref t4])) r0=some (.lst ([t1,t2,t3,t4].map V.ref)):=Ad
 generalize upd H4 r0 (.lst [.ref t1,.ref t2,.ref t3,.ref t4])=H5 at s5 e5 ⊢
 have s05:=s1.trans (s2.trans (s3.trans (s4.trans s5)))
 have I5:AL H5 [t1,t2,t3,t4] [[.int (-1),.str "one"],[.int 0,.str "all"],[.int 1,.str (LS (c / 4 % 2))],[.int 1,.str (LS (c / 8 % 2))]]:=
  (((AL.none.snoc (s5 _ _ (s4 _ _ (s3 _ _ (s2 _ _ e1))))).snoc (s5 _ _ (s4 _ _ (s3 _ _ e2)))).snoc (s5 _ _ (s4 _ _ e3))).snoc (s5 _ _ e4)
 clear e1 e2 e3 e4 s1 s2 s3 s4 u3 u4 hl3 hl4 h1 h2 h3 h4 s5 hr0
 generalize [t1,t2,t3,t4]=ps5 at e5 I5
 have l5:(ps5.map V.ref).length=4:=by rw[ac,I5.1];rfl
 refine⟨_,rfl,_,rfl,_,rfl,(by omega),(by omega),fun bk d1 hd1=>?_⟩
 refine EE (f:=fun _=>[.int 2,.str "plain"]) (by omega) hd1 (fun i H' Q hi s' k=>⟨(by show 2≤fL;decide),k⟩) ?_
 intro ps6 H6 s6 e6 I6
 have l6:(ps6.map V.ref).length=(2+c % 2).toNat:=by rw[ac,I6.1,ac,aF]
 refine⟨r0,d1,_,_,rfl,rfl,s6 _ _ e5,e6,(by rw[l5,l6];exact GL (by omega)),fun p7 hp7=>?_⟩
 obtain⟨s7,e7,I7⟩:=I5.cat s6 I6 hp7
 generalize upd H6 p7 (.lst (ps5.map V.ref++ps6.map V.ref))=H7 at s7 e7 I7 ⊢
 refine⟨_,rfl,_,rfl,(by omega),(by omega),fun bk d2 hd2=>?_⟩
 refine EE (f:=fun _=>[.int 3,.str "plain"]) (by omega) hd2 (fun i H' Q hi s' k=>⟨(by show 2≤fL;decide),k⟩) ?_
 intro ps8 H8 s8 e8 I8
 have l7:((ps5++ps6).map V.ref).length=4+(2+c % 2).toNat:=by rw[am,ai,l5,l6]
 have l8:(ps8.map V.ref).length=(2+c / 2 % 2).toNat:=by rw[ac,I8.1,ac,aF]
 refine⟨p7,d2,_,_,rfl,rfl,s8 _ _ e7,e8,(by rw[l7,l8];exact GL (by omega)),fun p9 hp9=>?_⟩
 obtain⟨s9,e9,I9⟩:=I7.cat s8 I8 hp9
 generalize upd H8 p9 (.lst ((ps5++ps6).map V.ref++ps8.map V.ref))=H9 at s9 e9 I9 ⊢
 refine⟨(by show 2≤fL;decide),fun t9 ht9=>?_⟩
 have u9:=Ag ht9 (.tup [.int 0,.str "plain"])
 refine⟨(by show 1≤fL;decide),fun l9 hl9=>?_⟩
 have u10:=Ag hl9 (.lst [.ref t9])
 have I10:AL (upd (upd H9 t9 (.tup [.int 0,.str "plain"])) l9 (.lst [.ref t9])) [t9] [[.int 0,.str "plain"]]:=AL.snoc (ps:=[]) (os:=[]) AL.none (u10 _ _ Ad)
 have e10:(upd (upd H9 t9 (.tup [.int 0,.str "plain"])) l9 (.lst [.ref t9])) l9=some (.lst ([t9].map V.ref)):=Ad
 have s10:=u9.trans u10
 generalize upd (upd H9 t9 (.tup [.int 0,.str "plain"])) l9 (.lst [.ref t9])=H10 at s10 e10 I10 ⊢
 refine⟨p9,l9,_,_,rfl,rfl,s10 _ _ e9,e10,(by rw[am,ai,l7,l8];exact GL (by show _+1≤1000;omega)),fun r hr0=>?_⟩
 obtain⟨s11,e11,I11⟩:=I9.cat s10 I10 hr0
 generalize upd H10 r (.lst ((ps5++ps6++ps8).map V.ref++[t9].map V.ref))=H11 at s11 e11 I11 ⊢
 have s011:=s05.trans (s7.trans (s9.trans s11))
 have I11':AL H11 (ps5++ps6++ps8++[t9]) ((Hb c).map rV):=by
  unfold Hb
  rw[am,am,am,bx,bx]
  exact I11
 generalize ps5++ps6++ps8++[t9]=ps at e11 I11'
 clear I11 I10 e10 s10 u9 u10 I9 e9 s9 I8 e8 s8 I7 e7 s7 I6 e6 s6 e5 I5 s05 s11
 refine⟨10,rfl,by decide,by decide,fun bk dd hdd=>?_⟩
 refine Fc (Pv:=fun i ys σ H'=>(∃v,σ=[v,some (.ref a),some (.int st)])∧ys=((ak i).map (frD ns st)).map V.int∧An H11 H') ⟨⟨_,rfl⟩,rfl,Ag hdd _⟩ ?_ ?_
 ·rintro i ys σ H1 hi hDi ⟨⟨v,rfl⟩,hys,(s1:An _ _)⟩
  have hi':i<10:=hi
  have ei:(st:Int)+1+((0:Int)+(i:Int)) % 5=((st+1+i % 5:Nat):Int):=by omega
  refine⟨_,rfl,_,rfl,_,_,rfl,rfl,_,rfl,_,_,rfl,rfl,(by show(0:Int)<5;decide),_,_,rfl,rfl,a,ns,st+1+i % 5,(by show [V.ref a,V.int ((st:Int)+1+((0:Int)+(i:Int)) % 5)]=_;rw[ei]),(s011.trans s1).seq hS,?_⟩
  refine⟨_,rfl,_,_,rfl,rfl,⟨by decide,by decide⟩,_,_,rfl,rfl,.inr ⟨by decide,by decide⟩,_,_,rfl,rfl,_,_,rfl,rfl,⟨?_,?_⟩,_,_,rfl,rfl,(by show(0:Int)<2;decide),hDi,?_,⟨_,rfl⟩,?_,AH s1 hdd _⟩
  ·show(0:Int)<1+((0:Int)+(i:Int)) / 5*3;omega
  ·show 1+((0:Int)+(i:Int)) / 5*3<(1073741824:Int);omega
  ·rw[hys,ac,ac,aF];exact Aw (by omega)
  ·rw[hys,bh,am,am];rfl
 rintro ys σ H12 hDn ⟨⟨v,rfl⟩,hys,(s12:An _ _)⟩
 have e12:H12 dd=some (.lst ((frDs ns st).map V.int)):=by rw[hDn,hys];rfl
 have ld:(frDs ns st).length=10:=by unfold frDs;rw[ac,aF]
 generalize frDs ns st=ds at e12 ld q
 have e12r:=s12 _ _ e11
 have I12r:=I11'.same s12
 have s012:=s011.trans s12
 clear hys hDn e11 I11' s12 s011 hdd
 refine⟨_,rfl,_,rfl,(by omega),(by omega),fun bk a0 ha0=>?_⟩
 refine EE (f:=fun(i:Nat)=>aV ((4+((0:Int)+(i:Int)),0,-1,4+(((0:Int)+(i:Int))+1) % (2+c % 2),ds.getD i 0):Ap)) (by omega) ha0 (fun i H' Q hi s' k=>?_) ?_
 ·refine⟨_,rfl,_,_,rfl,rfl,1,rfl,_,rfl,_,_,rfl,rfl,_,rfl,_,_,rfl,rfl,(by show(0:Int)<2+c % 2;omega),_,_,rfl,rfl,_,rfl,_,rfl,dd,_,_,_,rfl,rfl,AD.of (s' _ _ e12),LJ (i:=i) (by omega) (by omega),(by show 5≤fL;decide),k⟩
 intro qs0 H13 s13 e13 I13
 have l13:(qs0.map V.ref).length=(2+c % 2).toNat:=by rw[ac,I13.1,ac,aF]
 refine⟨(by show 3≤fL;decide),fun l14 hl14=>?_⟩
 have s14:=Ag hl14 (.lst [.int 0,.int 0,.int 3])
 refine⟨_,rfl,_,_,rfl,rfl,⟨by decide,by decide⟩,_,_,rfl,rfl,(by show(0:Int)<3;decide),l14,_,_,_,rfl,rfl,AD.of Ad,at3 (f:=V.int),?_⟩
 generalize upd H13 l14 (.lst [.int 0,.int 0,.int 3])=H14 at s14 ⊢
 have e14:=s14 _ _ e13
 have I14:=I13.same s14
 have d14:=s14 _ _ (s13 _ _ e12)
 refine⟨_,rfl,_,rfl,_,rfl,(by omega),(by omega),fun bk a1 ha1=>?_⟩
 refine EE (f:=fun(i:Nat)=>aV ((4+(2+c % 2)+((0:Int)+(i:Int)),p3 0 0 3 (c / 16 % 3),-1,4+(2+c % 2)+(((0:Int)+(i:Int))+1) % (2+c / 2 % 2),ds.getD (3+i) 0):Ap)) (by omega) ha1 (fun i H' Q hi s' k=>?_) ?_
 ·refine⟨_,rfl,_,rfl,_,_,rfl,rfl,_,rfl,1,rfl,_,rfl,_,rfl,_,_,rfl,rfl,_,rfl,_,_,rfl,rfl,(by show(0:Int)<2+c / 2 % 2;omega),_,_,rfl,rfl,_,rfl,_,rfl,_,_,rfl,rfl,dd,_,_,_,rfl,rfl,AD.of (s' _ _ d14),LJ (i:=3+i) (by omega) (by omega),(by show 5≤fL;decide),k⟩
 intro qs1 H15 s15 e15 I15
 have l15:(qs1.map V.ref).length=(2+c / 2 % 2).toNat:=by rw[ac,I15.1,ac,aF]
 refine⟨a0,a1,_,_,rfl,rfl,s15 _ _ e14,e15,(by rw[l13,l15];exact GL (by omega)),fun ar har=>?_⟩
 obtain⟨s16,e16,I16⟩:=I14.cat s15 I15 har
 generalize upd H15 ar (.lst (qs0.map V.ref++qs1.map V.ref))=H16 at s16 e16 I16 ⊢
 have s1216:=s13.trans (s14.trans s16)
 have lq:(qs0++qs1).length≤6:=by
  rw[ac]at l13 l15
  rw[ai];omega
 have I16':AL H16 (qs0++qs1) ((NH c ds++NG c ds).map aV):=by
  unfold NH NG
  rw[am,bx,bx]
  exact I16
 have har12:H12 ar=ae:=(s13.trans (s14.trans s15)).free har
 generalize qs0++qs1=q16 at e16 I16' lq
 clear I16 e15 I15 e14 I14 e13 I13
 have d16:=s1216 _ _ e12
 have l16:(q16.map V.ref).length<fL:=by rw[ac];exact Aw (by omega)
 refine⟨_,rfl,.inl ⟨rfl,_,AD.of e16⟩,1,rfl,_,rfl,_,_,rfl,rfl,(by show 3≤fL;decide),fun l17 hl17=>?_⟩
 have u17:=Ag hl17 (.lst [.int (-1),.int 5,.int (4+(2+c % 2)+1)])
 refine⟨_,rfl,_,_,rfl,rfl,⟨by decide,by decide⟩,_,_,rfl,rfl,(by show(0:Int)<3;decide),l17,_,_,_,rfl,rfl,AD.of Ad,at3 (f:=V.int),_,rfl,_,rfl,dd,_,_,_,rfl,rfl,AD.of (u17 _ _ d16),LJ (i:=6) rfl (by omega),(by show 5≤fL;decide),fun t17 ht17=>?_⟩
 have v17:=s1216.trans u17
 obtain⟨s17,e17,I17⟩:=AL.add [.int 1,.int 1,.int (p3 (-1) 5 (4+(2+c % 2)+1) (c / 48 % 3)),.int (4+(2+c % 2)+(2+c / 2 % 2)),.int (ds.getD 6 0)] (frA2 c ds) rfl har12 v17 (u17 _ _ e16) (I16'.same u17) ht17
 have n17:=Af (u17 _ _ e16) ht17
 refine⟨ar,_,_,rfl,rfl,(by rw[Aj n17];exact u17 _ _ e16),l16,?_⟩
 generalize upd (upd (upd H16 l17 (.lst [.int (-1),.int 5,.int (4+(2+c % 2)+1)])) t17 (.tup [.int 1,.int 1,.int (p3 (-1) 5 (4+(2+c % 2)+1) (c / 48 % 3)),.int (4+(2+c % 2)+(2+c / 2 % 2)),.int (ds.getD 6 0)])) ar (.lst (q16.map V.ref++[V.ref t17]))=H17 at s17 e17 I17 ⊢
 have lq17:(q16++[t17]).length≤7:=by rw[ai];show _+1≤7;omega
 generalize q16++[t17]=q17 at e17 I17 lq17
 clear e16 I16' v17 u17 n17 d16 s1216 s16
 have d17:=s17 _ _ e12
 refine⟨_,rfl,.inl ⟨rfl,_,AD.of e17⟩,_,rfl,1,rfl,(by show 3≤fL;decide),fun l18 hl18=>?_⟩
 have u18:=Ag hl18 (.lst [.int 1,.int 2,.int 5])
 refine⟨_,rfl,_,_,rfl,rfl,⟨by decide,by decide⟩,_,_,rfl,rfl,(by show(0:Int)<3;decide),l18,_,_,_,rfl,rfl,AD.of Ad,at3 (f:=V.int),_,rfl,dd,_,_,_,rfl,rfl,AD.of (u18 _ _ d17),LJ (i:=7) rfl (by omega),(by show 5≤fL;decide),fun t18 ht18=>?_⟩
 have v18:=s17.trans u18
 obtain⟨s18,e18,I18⟩:=AL.add [.int (4+(2+c % 2)+(2+c / 2 % 2)),.int 2,.int (-1),.int (p3 1 2 5 (c / 144 % 3)),.int (ds.getD 7 0)] (Se c ds) rfl har12 v18 (u18 _ _ e17) (I17.same u18) ht18
 have n18:=Af (u18 _ _ e17) ht18
 refine⟨ar,_,_,rfl,rfl,(by rw[Aj n18];exact u18 _ _ e17),by rw[ac];exact Aw (by omega),?_⟩
 generalize upd (upd (upd H17 l18 (.lst [.int 1,.int 2,.int 5])) t18 (.tup [.int (4+(2+c % 2)+(2+c / 2 % 2)),.int 2,.int (-1),.int (p3 1 2 5 (c / 144 % 3)),.int (ds.getD 7 0)])) ar (.lst (q17.map V.ref++[V.ref t18]))=H18 at s18 e18 I18 ⊢
 have lq18:(q17++[t18]).length≤8:=by rw[ai];show _+1≤8;omega
 generalize q17++[t18]=q18 at e18 I18 lq18
 clear e17 I17 v18 u18 n18 d17 s17
 have fin:∀(q19:List fG) (H19:Hp) (B:List Ap),An H12 H19→H19 ar=some (.lst (q19.map V.ref))→AL H19 q19 (B.map aV)→B=J8 cl c ds→tRet (tTup (HG (GC 8) (HG (GC 10) O3))) { nx:=fun x H'=>Q V.non H',rt:=Q }
   [some (.ref a),some (.int st),some (.bl cl),some (.int c),some (.int (2+c % 2)),some (.int (2+c / 2 % 2)),some (.int (4+(2+c % 2))),some (.int (4+(2+c % 2)+(2+c / 2 % 2))),some (.ref r),some (.ref dd),some (.ref ar),some (.int (p3 0 0 3 (c / 16 % 3)))] H19:=by
  rintro q19 H19 B s19 e19 I19 rfl
  refine⟨_,rfl,_,rfl,(by show 2≤fL;decide),fun t ht=>?_⟩
  have u:=Ag ht (.tup [.ref r,.ref ar])
  exact q t r ar ps q19 _ (s012.trans (s19.trans u)) Ad (u _ _ (s19 _ _ e12r)) ((I12r.same s19).same u) (u _ _ e19) (I19.same u)
 refine⟨_,rfl,cl,rfl,?_⟩
 cases cl with
 | false=>
  refine A9 ?_
  refine A9 ?_
  refine fin q18 H18 _ s18 e18 I18 ?_
  unfold J8
  rw[if_neg (fun y=>nomatch y.1),bn]
 | true=>
  refine Bw ?_
  refine⟨_,rfl,_,_,rfl,rfl,⟨by decide,by decide⟩,_,_,rfl,rfl,(by show(0:Int)<3;decide),rfl,_,rfl,?_⟩
  refine DT (fun z=>?_) (fun z=>?_)
  ·have z':c / 432 % 3=1:=by simpa using z
   refine⟨_,rfl,.inl ⟨rfl,_,AD.of e18⟩,1,rfl,_,rfl,(by show 5≤fL;decide),fun t19 ht19=>?_⟩
   obtain⟨s19,e19,I19⟩:=AL.add [.int 5,.int 3,.int (-1),.int (4+(2+c % 2)+(2+c / 2 % 2)),.int 7] (frA4 c) rfl har12 s18 e18 I18 ht19
   have n19:=Af e18 ht19
   refine⟨ar,_,_,rfl,rfl,(by rw[Aj n19];exact e18),by rw[ac];exact Aw (by omega),?_⟩
   generalize upd (upd H18 t19 (.tup [.int 5,.int 3,.int (-1),.int (4+(2+c % 2)+(2+c / 2 % 2)),.int 7])) ar (.lst (q18.map V.ref++[V.ref t19]))=H19 at s19 e19 I19 ⊢
   have lq19:(q18++[t19]).length≤9:=by rw[ai];show _+1≤9;omega
   generalize q18++[t19]=q19 at e19 I19 lq19
   refine⟨_,rfl,.inl ⟨rfl,_,AD.of e19⟩,_,rfl,_,_,rfl,rfl,1,rfl,_,rfl,(by show 5≤fL;decide),fun t20 ht20=>?_⟩
   obtain⟨s20,e20,I20⟩:=AL.add [.int (4+(2+c % 2)+1),.int 3,.int (-1),.int (4+(2+c % 2)),.int 8] (frA5 c) rfl har12 s19 e19 I19 ht20
   have n20:=Af e19 ht20
   refine⟨ar,_,_,rfl,rfl,(by rw[Aj n20];exact e19),by rw[ac];exact Aw (by omega),?_⟩
   refine fin (q19++[t20]) _ _ s20 e20 I20 ?_
   unfold J8
   rw[if_pos ⟨rfl,z'⟩,bZ _ [frA4 c] [frA5 c]]
  ·have z':¬c / 432 % 3=1:=by simpa using z
   refine fin q18 H18 _ s18 e18 I18 ?_
   unfold J8
   rw[if_neg (fun y=>z' y.2),bn]
def ddz(a:Ap):Ap:=(a.1,a.2.1,a.2.2.1,a.2.2.2.1,0)
def ncB(k:Nat):Bool:=decide (E5 (Hb (k:Int))≤29)&&(prodL (FE (Hb (k:Int))) (Hb (k:Int)).length).all fun ch=>([0,1,2,3]:List Int).all fun e=>(Br (EO (Hb (k:Int)) (J8 false (k:Int) [])) (tkL (Hb (k:Int)) (J8 false (k:Int) []) ch e)).isNone
def BR(a:Nat):Bool:=(ak 16).all fun i=>ncB (16*a+i)
theorem nc_0:BR 0=true:=by decide +kernel
theorem nc_1:BR 1=true:=by decide +kernel
theorem nc_2:BR 2=true:=by decide +kernel
theorem nc_3:BR 3=true:=by decide +kernel
theorem nc_4:BR 4=true:=by decide +kernel
theorem nc_5:BR 5=true:=by decide +kernel
theorem nc_6:BR 6=true:=by decide +kernel
theorem nc_7:BR 7=true:=by decide +kernel
theorem nc_8:BR 8=true:=by decide +kernel
theorem nc_9:BR 9=true:=by decide +kernel
theorem nc_10:BR 10=true:=by decide +kernel
theorem nc_11:BR 11=true:=by decide +kernel
theorem nc_12:BR 12=true:=by decide +kernel
theorem nc_13:BR 13=true:=by decide +kernel
theorem nc_14:BR 14=true:=by decide +kernel
theorem nc_15:BR 15=true:=by decide +kernel
theorem nc_16:BR 16=true:=by decide +kernel
theorem nc_17:BR 17=true:=by decide +kernel
theorem nc_18:BR 18=true:=by decide +kernel
theorem nc_19:BR 19=true:=by decide +kernel
theorem nc_20:BR 20=true:=by decide +kernel
theorem nc_21:BR 21=true:=by decide +kernel
theorem nc_22:BR 22=true:=by decide +kernel
theorem nc_23:BR 23=true:=by decide +kernel
theorem nc_24:BR 24=true:=by decide +kernel
theorem nc_25:BR 25=true:=by decide +kernel
theorem nc_26:BR 26=true:=by decide +kernel
theorem nc_all:∀a,a<27→BR a=true:=fun a ha=>by
 match a,ha with
 | 0,_=>exact nc_0
 | 1,_=>exact nc_1
 | 2,_=>exact nc_2
 | 3,_=>exact nc_3
 | 4,_=>exact nc_4
 | 5,_=>exact nc_5
 | 6,_=>exact nc_6
 | 7,_=>exact nc_7
 | 8,_=>exact nc_8
 | 9,_=>exact nc_9
 | 10,_=>exact nc_10
 | 11,_=>exact nc_11
 | 12,_=>exact nc_12
 | 13,_=>exact nc_13
 | 14,_=>exact nc_14
 | 15,_=>exact nc_15
 | 16,_=>exact nc_16
 | 17,_=>exact nc_17
 | 18,_=>exact nc_18
 | 19,_=>exact nc_19
 | 20,_=>exact nc_20
 | 21,_=>exact nc_21
 | 22,_=>exact nc_22
 | 23,_=>exact nc_23
 | 24,_=>exact nc_24
 | 25,_=>exact nc_25
 | 26,_=>exact nc_26
 | k+27,hk=>exact absurd hk (by omega)
theorem nc_of{k:Nat}(hk:k<432):ncB k=true:=by
 have h:=cf.mp (nc_all (k / 16) (by omega)) (k % 16) (az.mpr (by omega))
 have e:16*(k / 16)+k % 16=k:=by omega
 rw[e]at h
 exact h
theorem Ir(A:List Ap)(i:Nat):(A.map ddz)[i]?=(A[i]?).map ddz:=av
theorem PP(A:List Ap)(ks:List Int)(ev:Int):AI (A.map ddz) ks ev=AI A ks ev:=by
 unfold AI
 rw[ac]
 refine eZ fun i _=>?_
 unfold Cg
 rw[Ir]
 cases A[i]?<;>rfl
theorem Sl(A:List Ap)(i:Nat):BM (A.map ddz) i=BM A i:=by
 unfold BM
 rw[Ir]
 cases A[i]?<;>rfl
theorem Ri(R:List Ai)(A:List Ap)(c:List Int)(ev:Int):tkL R (A.map ddz) c ev=tkL R A c ev:=by
 unfold tkL ER
 rw[PP]
 refine eZ fun i _=>?_
 unfold Di
 simp only[Sl]
theorem ddz_cl(R:List Ai)(A:List Ap):EO R (A.map ddz)=EO R A:=by
 funext i j
 unfold EO
 rw[Ir,Ir]
 cases A[i]?<;>cases A[j]?<;>rfl
theorem fr_ddz(c:Int)(ds:List Int):(J8 false c ds).map ddz=J8 false c []:=by
 unfold J8
 have h:¬((false:Bool)=true∧c / 432 % 3=1):=fun z=>by cases z.1
 rw[if_neg h]
 simp only[am,bn,aY,dG]
 unfold NH NG
 rw[bx,bx]
 rfl
theorem fr_mod(c:Int):Hb c=Hb (c % 432)∧J8 false c []=J8 false (c % 432) []:=by
 have a1:c % 432 % 2=c % 2:=by omega
 have a2:c % 432 / 2 % 2=c / 2 % 2:=by omega
 have a3:c % 432 / 4 % 2=c / 4 % 2:=by omega
 have a4:c % 432 / 8 % 2=c / 8 % 2:=by omega
 have a5:c % 432 / 16 % 3=c / 16 % 3:=by omega
 have a6:c % 432 / 48 % 3=c / 48 % 3:=by omega
 have a7:c % 432 / 144 % 3=c / 144 % 3:=by omega
 refine⟨?_,?_⟩
 ·unfold Hb
  rw[a1,a2,a3,a4]
 ·unfold J8
  have h:∀x:Int,¬((false:Bool)=true∧x / 432 % 3=1):=fun x z=>by cases z.1
  rw[if_neg (h c),if_neg (h (c % 432))]
  unfold NH NG frA2 Se
  rw[a1,a2,a5,a6,a7]
theorem RK{R:List Ai}{c:List Int}(hr:RC R c):c∈prodL (FE R) R.length:=by
 refine Hr _ _ _ hr.ok.len fun p hp=>?_
 unfold FE
 cases z:choosing R p with
 | true=>
  rw[if_pos rfl]
  obtain⟨k,k1,k2⟩:=hr.ok.pick p hp z
  exact aJ.mpr ⟨k,k1,k2.symm⟩
 | false=>
  rw[if_neg (by decide)]
  exact au.mpr (hr.non p hp z)
theorem Sc(c:Int)(ds:List Int):E5 (Hb c)≤29∧∀ch,RC (Hb c) ch→∀e∈([0,1,2,3]:List Int),Br (EO (Hb c) (J8 false c ds)) (tkL (Hb c) (J8 false c ds) ch e)=ae:=by
 obtain⟨m1,m2⟩:=fr_mod c
 obtain⟨k,hk,hk4⟩:∃k:Nat,c % 432=(k:Int)∧k<432:=⟨(c % 432).toNat,by omega,by omega⟩
 have h:=nc_of hk4
 unfold ncB at h
 rw[be,decide_eq_true_iff]at h
 obtain⟨h1,h2⟩:=h
 rw[← hk,← m1]at h1
 refine⟨h1,fun ch hc e he=>?_⟩
 rw[← hk,← m1,← m2]at h2
 have g:=cf.mp (cf.mp h2 ch (RK hc)) e he
 rw[← ddz_cl,← Ri,fr_ddz]
 exact Option.isNone_iff_eq_none.mp g
theorem LG{R:List Ai}{A:List Ap}{c w:List Int}:∀(es:List Int),(∀e∈es,Br (EO R A) (tkL R A c e)=ae)→∀(S:FS) (evs:List Int) (i j:Nat),EN R A c w es S≠.error (.clash evs i j)
 | [],_,S,_,_,_=>fun z=>by cases z
 | e::es,hp,S,evs,i,j=>by
  have h1:E9 R A c w S e=LE R A c w S e:=by
   unfold E9
   rw[hp e aw]
  have hp':=fun x hx=>hp x (aq _ hx)
  unfold EN
  rw[h1]
  unfold LE
  by_cases hin:nxE R A c e∈S.cs
  ·rw[if_pos hin]
   exact LG es hp' _ evs i j
  ·rw[if_neg hin]
   by_cases hz:S.cs.length=30
   ·rw[if_pos hz]
    exact fun z=>by cases z
   ·rw[if_neg hz]
    exact LG es hp' _ evs i j
theorem MS{R:List Ai}(hG:AX R){A:List Ap}(hA:∀x∈A,AW R x)(hfew:E5 R≤29)(hp:∀c,RC R c→∀e∈([0,1,2,3]:List Int),Br (EO R A) (tkL R A c e)=ae):∀(f n:Nat) (S:FS),(∀x∈S.cs,RC R x)→S.cs.Nodup→∀(evs:List Int) (i j:Nat),C3 R A f n S≠.error (.clash evs i j)
 | 0,n,S,_,_,_,_,_=>fun z=>by cases z
 | f+1,n,S,h1,h2,evs,i,j=>by
  unfold C3
  by_cases hlt:n<S.cs.length
  ·rw[if_pos hlt]
   have hc:RC R (S.cs.getD n []):=by
    rw[ag,aa hlt]
    exact h1 _ (aI hlt)
   obtain⟨_,g2⟩:=LH (w:=S.ws.getD n []) hG hA hfew hc [0,1,2,3] ⟨S.cs,S.ws,S.rows,[]⟩ h1 h2
   have g:=LG (w:=S.ws.getD n []) [0,1,2,3] (hp _ hc) ⟨S.cs,S.ws,S.rows,[]⟩
   unfold MN
   cases hr:EN R A (S.cs.getD n []) (S.ws.getD n []) [0,1,2,3] ⟨S.cs,S.ws,S.rows,[]⟩ with
   | error x=>
    cases x with
    | many=>exact fun z=>by cases z
    | clash a b c=>exact absurd hr (g a b c)
   | ok S1=>
    obtain⟨k1,k2⟩:=g2 S1 hr
    exact MS hG hA hfew hp f (n+1) ⟨S1.cs,S1.ws,S1.rows++[S1.row],[]⟩ k1 k2 evs i j
  ·rw[if_neg hlt]
   exact fun z=>by cases z
theorem PB{R:List Ai}(hG:AX R){A:List Ap}(hA:∀x∈A,AW R x)(hfew:E5 R≤29)(hp:∀c,RC R c→∀e∈([0,1,2,3]:List Int),Br (EO R A) (tkL R A c e)=ae):∃S,DL R A=.ok S:=by
 cases h:DL R A with
 | ok S=>exact⟨S,rfl⟩
 | error x=>
  cases x with
  | many=>exact absurd h (FF hG hA hfew)
  | clash a b c=>
   have f:=JE hG
   exact absurd h (MS hG hA hfew hp 31 0 _ f.rc f.nd a b c)
theorem NI(c:Int)(ds:List Int)(hd:∀i,0≤ds.getD i 0∧ds.getD i 0≤99):∃S,DL (Hb c) (J8 false c ds)=.ok S:=by
 obtain⟨h1,h2⟩:=Sc c ds
 exact PB (Jy c).1 (MP false c ds hd) h1 h2
theorem Hd(M:Bf):∀(es:List Nat) (a:Nat) (ds:List (List Int)),(es.foldl (fun(st:Nat×List (List Int)) e=>((AQ M st.1 e).1.toNat,st.2++[(AQ M st.1 e).2])) (a,ds)).2=ds++Nf (AN M) a es
 | [],a,ds=>by
  unfold Nf
  rw[bn];rfl
 | e::es,a,ds=>by
  rw[dP,Hd M es]
  show(ds++[(AQ M a e).2])++Nf (AN M) ((AQ M a e).1.toNat) es=_
  rw[bZ];rfl
theorem OY{M:Bf}(G:BV M){es:List Nat}(h4:∀e∈es,e<4):(BQ (lnM M) es).2=(BQ M es).2:=by
 unfold BQ
 rw[Hd,Hd,List.nil_append,List.nil_append]
 have:=Ox G es 0 G.pos h4
 rw[Pr G]at this
 exact this
theorem R8{M:Bf}(G:BV M){a b:Nat}(ha:a<(lnM M).length)(hb:b<(lnM M).length)(hab:a≠b):∃es:List Nat,DX (AN (lnM M)) 1000 0 ⟨[[(a:Int),(b:Int)]],[[]],[],[]⟩=some (es.map fun(e:Nat)=>(e:Int))∧Rp (AN (lnM M)) a b es∧es.length≤1000:=by
 have G':=Mz G
 have ok:=GZ G'
 have st:=Fm.stable_n ok
 have hn:(AN (lnM M)).n≤30:=G'.most
 have ha':a<(AN (lnM M)).n:=ha
 have hb':b<(AN (lnM M)).n:=hb
 obtain⟨t,ht⟩:=Nz G (by rw[← G0];exact ha) (by rw[← G0];exact hb) hab
 have pw:=Ni ok hn st ha' hb'
 have h:¬Fm.far (AN (lnM M)) (AN (lnM M)).n a b=0:=fun h=>by
  have hal:=(Fm.far_zero _ a b).mp h
  rcases cR t (AN (lnM M)).n with z|z
  ·rw[Fm.al_le z hal]at ht;cases ht
  ·rw[Fm.stable_al ok z st ha' hb',hal]at ht;cases ht
 rw[if_neg h]at pw
 obtain⟨j1,j2,j3⟩:=(Fm.far_spec (AN (lnM M)).n a b).2 h
 obtain⟨l,hl⟩:∃l,Fm.far (AN (lnM M)) (AN (lnM M)).n a b=l+1:=⟨Fm.far (AN (lnM M)) (AN (lnM M)).n a b - 1,by omega⟩
 rw[hl]at j1 j2 j3 pw
 obtain⟨i1,i2⟩:=NT (t:=(AN (lnM M)).n) l a b j2 j3 j1
 obtain⟨es,e1,e2⟩:=Pa i1 i2
 refine⟨es,by rw[pw,e1],e2,?_⟩
 have e3:=congrArg d4 e1
 rw[Ee,ac]at e3
 omega
def N7(K:aj):Sp:=fun vs H Q _=>∃(a:fG) (ns:List Int),vs=[.ref a]∧AD K H a (ns.map V.int)∧ns.length≤63∧∀H',Q (.bl true) H'
theorem EF:AA ["script", "many", "rooms", "arrows", "framed", "events", "flat", "k", "j"] ["script"] (Am FB):=⟨rfl,rfl,rfl,by decide +kernel,rfl,by decide +kernel,by decide +kernel⟩
theorem ok_law{f C CF fi fcell frooms fcells fu ffr ffo fln ffl fen fro NF fg fpa fps:fG}{fd fdi fdcell fdrooms fdcells fdu fdfr fdfo fdln fdfl fden fdro fdrs fdg fdpa fdps:fO}(D:Al K mg "law" FB ["script"] f fd)(T:DP K mg C)(TF:KW K mg CF)(TG:JY K mg CF)(B:OW mg)(M:Mk K C fi)(bi:Fg K fdi ["self", "rooms", "arrows"] [])
  (Gi:AC P w K mg base A6 6 fi fdi ["self", "rooms", "arrows"] (Qc C)) (Dc:Al K mg "_law_cell_at" GR ["script", "k"] fcell fdcell) (Dr:Al K mg "_law_rooms" Hk ["script", "many"] frooms fdrooms) (Dcs:Al K mg "_law_cells" FV ["script", "start", "many"] fcells fdcells)
  (Du:Al K mg "_law_unlike_arrows" DV ["rooms", "cells"] fu fdu) (Gu:AC P w K mg base A6 3 fu fdu ["rooms", "cells"] L5)
  (Df:Al K mg "_law_framed" Cy ["script", "start", "clashing_v"] ffr fdfr)
  (Dfo:Al K mg "folded" Fp ["chart"] ffo fdfo) (Gfo:AC P w K mg base A6 23 ffo fdfo ["chart"] (Ma C CF))
  (Dln:Al K mg "leaned" CU ["flat"] fln fdln) (Gln:AC P w K mg base A6 3 fln fdln ["flat"] (L7 K CF))
  (Dfl:Al K mg "flat_run" Ku ["flat", "events"] ffl fdfl) (Den:Al K mg "entry_of" FU ["flat", "number", "event"] fen fden)
  (Dro:Al K mg "_law_row" Nd ["found", "due"] fro fdro) (Drs:Al K mg "_law_rows_same" DB ["found", "due"] NF fdrs)
  (Dg:Al K mg "_law_going" FT ["rooms", "arrows", "events"] fg fdg) (Gg:AC P w K mg base A6 5 fg fdg ["rooms", "arrows", "events"] N9)
  (Dp:Al K mg "parted" Fn ["flat", "one", "other"] fpa fdpa) (Gp:AC P w K mg base A6 3 fpa fdpa ["flat", "one", "other"] (L6 CF))
  (Dps:Al K mg "_law_parts" Hl ["rows", "one", "other", "word"] fps fdps):AC P w K mg base A6 25 f fd ["script"] (N7 K):=by
 have Gc:AC P w K mg base A6 1 fcell fdcell ["script", "k"] (IH K):=Io Dc T
 have Gr:AC P w K mg base A6 2 frooms fdrooms ["script", "many"] (N4 K):=Qq Dr T Dc
 have Gcs:AC P w K mg base A6 2 fcells fdcells ["script", "start", "many"] (Oc K):=Qy Dcs T Dc
 have Gf:AC P w K mg base A6 2 ffr fdfr ["script", "start", "clashing_v"] (L9 K):=Pg Df T Dc
 have Gfl:AC P w K mg base A6 2 ffl fdfl ["flat", "events"] (Qe CF):=R1 Dfl T TF B Den
 have Grs:AC P w K mg base A6 2 NF fdrs ["found", "due"] Iz:=Ln Drs T Dro
 have Gps:AC P w K mg base A6 1 fps fdps ["rows", "one", "other", "word"] N5:=Qr Dps TG
 refine D.fn.ok EF (fun vs H Q E h=>?_) (fun cdv A outer s H vs Q E hr h=>?_)
 ·obtain⟨a,ns,rfl,_⟩:=h
  rfl
 obtain⟨a,ns,rfl,hS,hn,q⟩:=h
 have hr1:CO 1 _:=hr.mono (by decide)
 have hr2:CO 2 _:=hr.mono (by decide)
 have hr3:CO 3 _:=hr.mono (by decide)
 obtain⟨t5,p5,r5⟩:∃t,M2 (LL A6 P w K mg base ["script", "many", "rooms", "arrows", "framed", "events", "flat", "k", "j"] "law" (Am FB) f cdv A outer s H E).nox ((CI FB).drop 5) t ∧
   ∀(r ar:fG) (ps qs:List fG) (R:List Ai) (As:List Ap) (v1 v4:Option V) (H0:Hp),AX R→(∀x∈As,AW R x)→As.length≤20→(∃S,DL R As=.ok S)→An H H0→H0 r=some (.lst (ps.map V.ref))→AL H0 ps (R.map rV)→H0 ar=some (.lst (qs.map V.ref))→AL H0 qs (As.map aV) →
    t { nx:=fun _ H'=>Q .non H',rt:=Q } [some (.ref a),v1,some (.ref r),some (.ref ar),v4,ae,ae,ae,ae] H0:=by
  refine⟨_,Ac (CV (i:=5) ["cell"] [ae] rfl EF.nd rfl rfl (Bi (DJ Er (pv 0) (Ez Ah) EA)) (fun _=>Az (i:=0) (show(["cell"]:List Str).Nodup by decide +kernel) rfl (Or.inl rfl)) (fun _=>BJ) (fun _=>AO Bx (pv 0) Ah) (N:=["script", "many", "rooms", "arrows", "framed", "events", "flat", "k", "j"]) (ks:=(Am FB).names) rfl rfl (by decide +kernel) (by decide +kernel) (by decide +kernel) (by decide +kernel))
   (Ac (Ar (i:=6) EF.nd rfl (Or.inl rfl) (Aq Gln hr3 rfl Dln.mg Dln.fn.kp Dln.bd .nil AE (Aa (Aq Gfo (hr.mono (by decide)) rfl Dfo.mg Dfo.fn.kp Dfo.bd .nil AE (Aa (Lj M Gi (hr.mono (by decide)) rfl T.mgC bi .nil AE (Aa (Bc Bq (by rfl) T.list (by decide +kernel) (Aa (pv 2) Ab)) (Aa (Bc Bq (by rfl) T.list (by decide +kernel) (Aa (pv 3) Ab)) Ab))) Ab)) Ab)))
   (Ac (A0 (C8 (Cf (Aq Grs hr2 rfl Drs.mg Drs.fn.kp Drs.bd .nil AE (Aa (Ao Av (Aq Gfl hr2 rfl Dfl.mg Dfl.fn.kp Dfl.bd .nil AE (Aa (pv 6) (Aa (Bc Bq (by rfl) T.list (by decide +kernel) (Aa (pv 5) Ab)) Ab))) Ah (fun _ _=>rfl)) (Aa (Ao Av (Aq Gg (hr.mono (by decide)) rfl Dg.mg Dg.fn.kp Dg.bd .nil AE (Aa (pv 2) (Aa (pv 3) (Aa (pv 5) Ab)))) Ah (fun _ _=>rfl)) Ab))))) AZ AJ)
   (Ac (Bd fR.never rfl (AV rfl T.range (Aa (AF At (by rfl) T.len PySem.boot_len (Aa (A3 (pv 6) rfl) Ab)) Ab)) (Az (i:=7) EF.nd rfl (Or.inl rfl))
    (Ak (Bd fR.never rfl (AV rfl T.range (Aa (pv 7) Ab)) (Az (i:=8) EF.nd rfl (Or.inl rfl))
     (Ak (A0 (C8 (Cf (Aq Gps hr1 rfl Dps.mg Dps.fn.kp Dps.bd .nil AE (Aa (A3 (pv 6) rfl) (Aa (pv 7) (Aa (pv 8) (Aa (Aq Gp hr3 rfl Dp.mg Dp.fn.kp Dp.bd .nil AE (Aa (pv 6) (Aa (pv 7) (Aa (pv 8) Ab)))) Ab))))))) AZ AJ)))))
   (Ak (AK HL))))),?_⟩
  intro r ar ps qs R As v1 v4 H0 hG hA h20 hfold s00 hr0 hI har hJ
  refine⟨_,rfl,_,rfl,a,_,rfl,s00.seq hS,fun sl hsl=>?_⟩
  have ecut:Cm (ns.map V.int) (some (20:Int)) ae=(ns.drop 20).map V.int:=by
   have:=cutN (ns.map V.int) 20
   rw[eJ];exact this
  have s1:=Ag hsl (.lst ((ns.drop 20).map V.int))
  rw[ecut]
  have esl:(upd H0 sl (.lst ((ns.drop 20).map V.int))) sl=some (.lst ((ns.drop 20).map V.int)):=Ad
  generalize upd H0 sl (.lst ((ns.drop 20).map V.int))=H1 at s1 esl ⊢
  have hdl:(ns.drop 20).length≤100:=by rw[bV];omega
  generalize ns.drop 20=zs at esl hdl
  refine⟨sl,rfl,⟨_,AD.of esl⟩,fun bk ed hed=>?_⟩
  refine PQ esl hdl hed (fun z H' Q k=>⟨_,rfl,_,_,rfl,rfl,(by show(0:Int)<4;decide),k⟩) fun H2 s2 e2=>?_
  obtain⟨es,ees,h4⟩:=QG zs
  have hel:es.length≤100:=by
   have:=congrArg d4 ees
   rw[ac,ac]at this
   omega
  rw[ees]at e2
  have s02:=s1.trans s2
  refine⟨_,rfl,r,_,rfl,.inl (AD.of (s02 _ _ hr0)),fun la hla=>?_⟩
  have s4:=Ag hla (.lst (ps.map V.ref))
  refine⟨_,rfl,ar,_,rfl,.inl (AD.of ((s02.trans s4) _ _ har)),fun lb hlb=>?_⟩
  have s5:=Ag hlb (.lst (qs.map V.ref))
  have s25:=s4.trans s5
  have ea:(upd (upd H2 la (.lst (ps.map V.ref))) lb (.lst (qs.map V.ref))) la=some (.lst (ps.map V.ref)):=s5 _ _ Ad
  have eb:(upd (upd H2 la (.lst (ps.map V.ref))) lb (.lst (qs.map V.ref))) lb=some (.lst (qs.map V.ref)):=Ad
  generalize upd (upd H2 la (.lst (ps.map V.ref))) lb (.lst (qs.map V.ref))=H5 at s25 ea eb ⊢
  have s05:=s02.trans s25
  intro c dx hc hdx ncd
  have kc:∀x o,H5 x=some o→(upd (upd H5 dx (.own c)) c (.ins C dx [])) x=some o:=fun x o e=>by
   rw[Aj (Af e hc),Aj (Af e hdx)];exact e
  refine⟨c,dx,la,lb,ps,qs,R,As,rfl,Ad,kc _ _ ea,hI.same fun x o e=>kc _ _ (s05 _ _ e),kc _ _ eb,hJ.same fun x o e=>kc _ _ (s05 _ _ e),hG,h20,hA,fun H6 k6 hCh=>⟨rfl,?_⟩⟩
  have s56:An H5 H6:=fun x o e=>k6 _ _ (kc _ _ e) (Af e hc)
  have hC6:=hCh H6 fun x o e _ _=>e
  have s26:=s25.trans s56
  have s06:=s05.trans s56
  obtain⟨S,hfo⟩:=hfold
  refine⟨c,R,As,S,rfl,hC6,hG,hA,hfo,fun fl sa ra ya ps1 rs1 qs1 H8 s8 hF hFI hnr=>?_⟩
  have hgi:=Sh hfo
  have h30:=hFI.le
  have hmok:=Q5 hgi hnr h30 (by omega)
  have l1:(ps1.map V.ref).length=S.rows.length:=by rw[ac,hF.st.1,hnr]
  have l3:(qs1.map V.ref).length=S.rows.length:=by rw[ac,hF.wt.1,hFI.wl,hnr]
  refine⟨fl,sa,ra,ya,rs1,_,_,S.rows,rfl,⟨hF.ob,hF.es,hF.er,hF.rt,hF.ew⟩,hmok,l1,l3,fun f2 sb rb yb rs2 H9 s9 hL _ _ _ _=>?_⟩
  have hmL:=Mz hmok
  obtain⟨w1,w2⟩:=Kd hgi hnr h4 es.length (aE _)
  rw[aN]at w1 w2
  have hwl:=OY hmok h4
  have hpart:=fun{x y:Nat}=>R8 hmok (a:=x) (b:=y)
  have hL':CL CF H9 f2 sb rb yb rs2 _ (lnM S.rows) _:=hL
  clear hL
  rw[w2]at hwl
  generalize lnM S.rows=N at hmL hwl hpart hL'
  have s29:An H2 H9:=s26.trans (s8.trans s9)
  have s09:=s02.trans s29
  have ev9:=s29 _ _ e2
  refine⟨_,rfl,_,rfl,ed,_,rfl,.inl (AD.of ev9),fun el hel'=>?_⟩
  have evm:(es.map fun(e:Nat)=>(e:Int)).map V.int=es.map fun(e:Nat)=>V.int (e:Int):=by rw[bx];rfl
  have s10:=Ag hel' (.lst ((es.map fun(e:Nat)=>(e:Int)).map V.int))
  have eel:(upd H9 el (.lst ((es.map fun(e:Nat)=>(e:Int)).map V.int))) el=some (.lst ((es.map fun(e:Nat)=>(e:Int)).map V.int)):=Ad
  generalize upd H9 el (.lst ((es.map fun(e:Nat)=>(e:Int)).map V.int))=H10 at s10 eel ⊢
  rw[evm]at eel
  refine⟨f2,sb,rb,yb,el,rs2,_,_,N,es,rfl,hL'.same s10,hmL,eel,h4,hel,fun tt dd ds H11 s11 g1 g2 g3=>?_⟩
  rw[hwl]at g3
  obtain⟨pw,rfl,hIw⟩:=NS g3
  have s911:=s10.trans s11
  have s011:=s09.trans s911
  refine⟨tt,_,_,_,rfl,rfl,A2.of g1,rfl,_,rfl,_,rfl,_,rfl,r,ar,ed,R,As,_,rfl,⟨ps,s011 _ _ hr0,hI.same s011⟩,⟨qs,s011 _ _ har,hJ.same s011⟩,hG,hA,by omega,s911 _ _ ev9,by rw[ac];exact hel,fun t2 st2 kt2 mt2 dl ds2 H12 s12 b1 _ _ _ b5 b6=>?_⟩
  rw[dds_rw,ac]at b6
  refine⟨t2,_,_,_,rfl,rfl,A2.of b1,rfl,dd,dl,pw,ds2,_,rfl,s12 _ _ g2,hIw.same s12,b5,b6,?_,?_,_,rfl,?_⟩
  ·rw[ac,aF];exact hel
  ·intro xs hxs
   obtain⟨k,_,rfl⟩:=aJ.mp hxs
   unfold LK BO
   rw[ac]
   have:=GB R As (kI R (chAt R As (es.map fun(e:Nat)=>(e:Int)) k)) ((es.map fun(e:Nat)=>(e:Int)).getD k 0)
   unfold tkL
   omega
  refine A9 ?_
  have s912:=s911.trans s12
  have hL12:=hL'.same s912
  clear hL'
  obtain⟨fdx,fob⟩:=id hL12.ob
  have lN:=hL12.hm.1
  refine⟨_,rfl,f2,CF,fdx,_,_,rfl,fob,TF.cl,TF.nR,B6 sb rb yb,rb,_,rfl,.inl (AD.of hL12.hr),_,rfl,by omega,by rw[ac,lN];have:=hmL.most;omega,?_⟩
  have em:((((rs2.map V.ref).length:Nat):Int)).toNat=N.length:=by rw[ac,lN];omega
  rw[em]
  refine Bh (fun i σ H1=>∃v7 v8,σ=[some (.ref a),v1,some (.ref r),some (.ref ar),v4,some (.ref ed),some (.ref f2),v7,v8]∧An H12 H1) ⟨_,_,rfl,fun _ _ e=>e⟩ ?_ ?_
  ·rintro i σ H13 hi ⟨v7,v8,rfl,(s13:An _ _)⟩
   have ei:(0:Int)+(i:Int)=(i:Int):=by omega
   rw[ei]
   refine⟨_,rfl,_,rfl,by omega,by have:=hmL.most;omega,?_⟩
   have ei':((i:Int)).toNat=i:=by omega
   rw[ei']
   refine Bh (fun j σ H1=>∃v8,σ=[some (.ref a),v1,some (.ref r),some (.ref ar),v4,some (.ref ed),some (.ref f2),some (.int (i:Int)),v8]∧An H12 H1) ⟨_,rfl,s13⟩ ?_ ?_
   ·rintro j σ H14 hj ⟨v8,rfl,(s14:An _ _)⟩
    have ej:(0:Int)+(j:Int)=(j:Int):=by omega
    rw[ej]
    obtain⟨ws,q1,q2,q3⟩:=hpart (x:=i) (y:=j) hi (by omega) (by omega)
    have hL14:=hL12.same s14
    refine⟨_,rfl,f2,CF,fdx,_,_,rfl,s14 _ _ fob,TF.cl,TF.nR,B6 sb rb yb,_,rfl,_,rfl,_,rfl,_,rfl,_,rfl,f2,sb,rb,yb,rs2,_,_,N,i,j,rfl,hL14,hmL,hi,by omega,fun wd t H15 s15 k1 k2=>?_,fun H15 s15 k1=>?_⟩
    ·rw[q1]at k1
     cases k1
     rw[← Os]at k2
     refine⟨rb,t,rs2,N,i,j,ws,rfl,⟨(s14.trans s15) _ _ hL12.hr,hL12.hm.same (s14.trans s15)⟩,hmL,hi,by omega,k2,q2,q3,fun H16 s16=>⟨_,rfl,?_⟩⟩
     refine A9 ?_
     exact⟨_,rfl,s14.trans (s15.trans s16)⟩
    ·rw[q1]at k1;cases k1
   ·rintro σ H14 ⟨v8,rfl,(s14:An _ _)⟩
    exact⟨_,_,rfl,s14⟩
  ·rintro σ H13 ⟨v7,v8,rfl,_⟩
   exact q _
 obtain⟨t2,p2,r2⟩:∃t,M2 (LL A6 P w K mg base ["script", "many", "rooms", "arrows", "framed", "events", "flat", "k", "j"] "law" (Am FB) f cdv A outer s H E).nox ((CI FB).drop 2) t ∧
   ∀(m:Nat) (H0:Hp),0<m→m≤9→An H H0 →
    t { nx:=fun _ H'=>Q .non H',rt:=Q } [some (.ref a),some (.int m),ae,ae,ae,ae,ae,ae,ae] H0:=by
  refine⟨_,Ac (Ar (i:=2) EF.nd rfl (Or.inl rfl) (Aq Gr hr2 rfl Dr.mg Dr.fn.kp Dr.bd .nil AE (Aa (pv 0) (Aa (pv 1) Ab))))
   (Ac (Ar (i:=3) EF.nd rfl (Or.inl rfl) (Aq Gu hr3 rfl Du.mg Du.fn.kp Du.bd .nil AE (Aa (pv 2) (Aa (Aq Gcs hr2 rfl Dcs.mg Dcs.fn.kp Dcs.bd .nil AE (Aa (pv 0) (Aa Ah (Aa Ah Ab)))) Ab))))
   (Ac (A0 (AB B4 (AO Bx (Aq Gc hr1 rfl Dc.mg Dc.fn.kp Dc.bd .nil AE (Aa (pv 0) (Aa Ah Ab))) Ah) Ah (AS _)) (Ac (Ar (i:=4) EF.nd rfl (Or.inl rfl) (Aq Gf hr2 rfl Df.mg Df.fn.kp Df.bd .nil AE (Aa (pv 0) (Aa Ah (Aa HL Ab)))))
   (Ac (Ar (i:=2) EF.nd rfl (Or.inl rfl) (Ao Av (pv 4) Ah (fun _ _=>rfl)))
   (Ak (Ar (i:=3) EF.nd rfl (Or.inl rfl) (Ao Av (pv 4) Ah (fun _ _=>rfl)))))) AJ)
   p5)),?_⟩
  intro m H0 m0 m9 s00
  have hG:=J7 ns m0 (by omega)
  have hfew:=Pp hG (by rw[EB];exact m9)
  refine⟨_,rfl,_,rfl,a,ns,m,rfl,s00.seq hS,m0,by omega,fun r ps H2 hr0 s2 e2 hI2=>?_⟩
  generalize hRR:CA ns m=R at hG hI2 hfew
  have hR2:By H2 r R:=⟨ps,e2,hI2⟩
  have s02:=s00.trans s2
  refine⟨_,rfl,_,rfl,a,ns,10,8,rfl,s02.seq hS,by decide,fun cl H5 hcl s5 e5=>?_⟩
  refine⟨r,cl,R,Fd ns 10 8,rfl,hR2.same s5,hG,e5,NO ns 10 8,fun ar qs H6 har s6 e6 hJ6=>?_⟩
  have hA6:=LN hG (Fd ns 10 8)
  have hu6:=JP R (Fd ns 10 8) 4
  have h4:=HX R (Fd ns 10 8) 4
  generalize arrowsU R (Fd ns 10 8) 4=As at hA6 hu6 h4 hJ6
  have s26:=s5.trans s6
  have s06:=s02.trans s26
  have hfo:=MQ hG hA6 hfew hu6
  refine⟨_,rfl,a,ns,8,rfl,s06.seq hS,_,_,rfl,rfl,(by show(0:Int)<2;decide),rfl,_,rfl,?_⟩
  refine DT (fun z=>?_) (fun z=>?_)
  ·refine⟨_,rfl,a,ns,10,false,rfl,s06.seq hS,fun t r' ar' ps' qs' H10 s10 et er' hI' ea' hJ'=>?_⟩
   refine⟨_,rfl,t,_,_,_,rfl,rfl,A2.of et,rfl,?_⟩
   refine⟨_,rfl,t,_,_,_,rfl,rfl,A2.of et,rfl,?_⟩
   exact r5 r' ar' ps' qs' (Hb (Rm.cell ns 10)) (J8 false (Rm.cell ns 10) (frDs ns 10)) _ _ H10 (Jy _).1 (MP false _ _ (OH ns 10)) (Sd false _ _) (NI _ _ (OH ns 10)) (s06.trans s10) er' hI' ea' hJ'
  ·exact r5 r ar ps qs R As _ _ H6 hG hA6 (by omega) hfo s06 (s26 _ _ e2) (hI2.same s26) e6 hJ6
 refine⟨_,Ac (Ar (i:=1) EF.nd rfl (Or.inl rfl) (AO BN Ah (AO Bx (Aq Gc hr1 rfl Dc.mg Dc.fn.kp Dc.bd .nil AE (Aa (pv 0) (Aa Ah Ab))) Ah)))
   (Ac (A0 (AB B4 (AO Bx (AO Cb (Aq Gc hr1 rfl Dc.mg Dc.fn.kp Dc.bd .nil AE (Aa (pv 0) (Aa Ah Ab))) Ah) Ah) Ah (AS _)) (Ak (Ar (i:=1) EF.nd rfl (Or.inl rfl) Ah)) AJ)
   p2),?_⟩
 refine⟨_,rfl,a,ns,0,rfl,hS,_,_,rfl,rfl,(by show(0:Int)<_;decide),_,_,rfl,rfl,?_⟩
 have b0:=cw (Rm.cell ns 0) (show(5:Int)≠0 by decide)
 have b1:=cq (Rm.cell ns 0) (show(0:Int)<5 by decide)
 obtain⟨m,em,m0,m9⟩:∃m:Nat,2+Rm.cell ns 0 % 5=(m:Int)∧0<m∧m≤9:=⟨(2+Rm.cell ns 0 % 5).toNat,by omega,by omega,by omega⟩
 refine⟨_,rfl,a,ns,0,rfl,hS,_,_,rfl,rfl,⟨by decide,by decide⟩,_,_,rfl,rfl,(by show(0:Int)<_;decide),rfl,_,rfl,?_⟩
 refine DT (fun z=>?_) (fun z=>?_)
 ·exact r2 9 _ (by decide) (by decide) (An.refl H)
 ·have:=r2 m _ m0 m9 (An.refl H)
  rw[← em]at this
  exact this
end
end Toy
namespace Toy
open PySem L2
seal PySem.wpAny
theorem QL{P:List fF→Prop}(h:∀a,P [a]):∀us:List fF,us.length=1→P us
 | [a],_=>h a
theorem Lx{P:List fF→Prop}(h:∀a b,P [a,b]):∀us:List fF,us.length=2→P us
 | [a,b],_=>h a b
theorem Lw{P:List fF→Prop}(h:∀a b c,P [a,b,c]):∀us:List fF,us.length=3→P us
 | [a,b,c],_=>h a b c
theorem la4{P:List fF→Prop}(h:∀a b c d,P [a,b,c,d]):∀us:List fF,us.length=4→P us
 | [a,b,c,d],_=>h a b c d
theorem la5{P:List fF→Prop}(h:∀a b c d e,P [a,b,c,d,e]):∀us:List fF,us.length=5→P us
 | [a,b,c,d,e],_=>h a b c d e
abbrev gA(K:aj)(x:Str)(f:fG):Prop:=aX K fK x=some (some (.ref f))
abbrev gL(K:aj)(f:fG)(oc:fF)(od:Option fG)(x q:Str)(s:Stmt)(kV dc pm:fF)(an:Option fG)(cd ct:fF)(sl:Array (Option fF)):Prop:=K.lookup f=some ⟨oc,od,.func (cj x q (ED s) (CI s) (Am s) .none kV dc pm an cd ct),sl⟩∧dq K cd q=true∧cm K (.ref f)=true
theorem all_mk{l:dO}{w:fS}{K:aj}{h:Heap}{mg:Str→Option fF}{fa C CF:fG}(X:K.In h)(G:h.Ns fK mg)(hfa:mg "law" = some (.ref fa))
  {t_HOLDER:Tok}
  {t_KIND:Tok}
  {t_NONE:Tok}
  {t_SOURCE:Tok}
  {t_EVENT:Tok}
  {t_GUARD:Tok}
  {t_TARGET:Tok}
  {t_DEED:Tok}
  {t_LAST_EVENT:Tok}
  {t_LAST_DEED:Tok}
  {t_MOST_ROOMS:Tok}
  {t_MOST_ARROWS:Tok}
  {t_MOST_STATES:Tok}
  {t_BEHIND:Tok}
  {t_DEEDS:Tok}
  {a_CHOOSING:fG} {d_CHOOSING:Option fG} {n_CHOOSING:Nat} {s_CHOOSING:Array (Option fF)} {t_CHOOSING_0:Tok} {t_CHOOSING_1:Tok}
  {a_KINDS:fG} {d_KINDS:Option fG} {n_KINDS:Nat} {s_KINDS:Array (Option fF)} {t_KINDS_0:Tok} {t_KINDS_1:Tok} {t_KINDS_2:Tok} {t_KINDS_3:Tok}
  {f1 f2 f3 f4 f5 f6 f7 f8 f9 f10 f11 f12 f13 f14 f15 f16 f17 f18 f19 f20 f21 f22 f23 f24 f25 f26 f27 f28 f29 f30 f31 f32 f33 f34 f35 f36 f37 f38 f39 f40 f41 f42 f43 f44 f45 f46 f47 f48 f49 f50 f51 f52 f53 f54 f55 f56 f57 f58:fG} {od1 an1 od2 an2 od3 an3 od4 an4 od5 an5 od6 an6 od7 an7 od8 an8 od9 an9 od10 an10 od11 an11 od12 an12 od13 an13 od14 an14 od15 an15 od16 an16 od17 an17 od18 an18 od19 an19 od20 an20 od21 an21 od22 an22 od23 an23 od24 an24 od25 an25 od26 an26 od27 an27 od28 an28 od29 an29 od30 an30 od31 an31 od32 an32 od33 an33 od34 an34 od35 an35 od36 an36 od37 an37 od38 an38 od39 an39 od40 an40 od41 an41 od42 an42 od43 an43 od44 an44 od45 an45 od46 an46 od47 an47 od48 an48 od49 an49 od50 an50 od51 an51 od52 an52 od53 an53 od54 an54 od55 an55 od56 an56 od57 an57 od58 an58:Option fG} {sl1 sl2 sl3 sl4 sl5 sl6 sl7 sl8 sl9 sl10 sl11 sl12 sl13 sl14 sl15 sl16 sl17 sl18 sl19 sl20 sl21 sl22 sl23 sl24 sl25 sl26 sl27 sl28 sl29 sl30 sl31 sl32 sl33 sl34 sl35 sl36 sl37 sl38 sl39 sl40 sl41 sl42 sl43 sl44 sl45 sl46 sl47 sl48 sl49 sl50 sl51 sl52 sl53 sl54 sl55 sl56 sl57 sl58:Array (Option fF)} {oc1 kV1 dc1 pm1 cd1 ct1 oc2 kV2 dc2 pm2 cd2 ct2 oc3 kV3 dc3 pm3 cd3 ct3 oc4 kV4 dc4 pm4 cd4 ct4 oc5 kV5 dc5 pm5 cd5 ct5 oc6 kV6 dc6 pm6 cd6 ct6 oc7 kV7 dc7 pm7 cd7 ct7 oc8 kV8 dc8 pm8 cd8 ct8 oc9 kV9 dc9 pm9 cd9 ct9 oc10 kV10 dc10 pm10 cd10 ct10 oc11 kV11 dc11 pm11 cd11 ct11 oc12 kV12 dc12 pm12 cd12 ct12 oc13 kV13 dc13 pm13 cd13 ct13 oc14 kV14 dc14 pm14 cd14 ct14 oc15 kV15 dc15 pm15 cd15 ct15 oc16 kV16 dc16 pm16 cd16 ct16 oc17 kV17 dc17 pm17 cd17 ct17 oc18 kV18 dc18 pm18 cd18 ct18 oc19 kV19 dc19 pm19 cd19 ct19 oc20 kV20 dc20 pm20 cd20 ct20 oc21 kV21 dc21 pm21 cd21 ct21 oc22 kV22 dc22 pm22 cd22 ct22 oc23 kV23 dc23 pm23 cd23 ct23 oc24 kV24 dc24 pm24 cd24 ct24 oc25 kV25 dc25 pm25 cd25 ct25 oc26 kV26 dc26 pm26 cd26 ct26 oc27 kV27 dc27 pm27 cd27 ct27 oc28 kV28 dc28 pm28 cd28 ct28 oc29 kV29 dc29 pm29 cd29 ct29 oc30 kV30 dc30 pm30 cd30 ct30 oc31 kV31 dc31 pm31 cd31 ct31 oc32 kV32 dc32 pm32 cd32 ct32 oc33 kV33 dc33 pm33 cd33 ct33 oc34 kV34 dc34 pm34 cd34 ct34 oc35 kV35 dc35 pm35 cd35 ct35 oc36 kV36 dc36 pm36 cd36 ct36 oc37 kV37 dc37 pm37 cd37 ct37 oc38 kV38 dc38 pm38 cd38 ct38 oc39 kV39 dc39 pm39 cd39 ct39 oc40 kV40 dc40 pm40 cd40 ct40 oc41 kV41 dc41 pm41 cd41 ct41 oc42 kV42 dc42 pm42 cd42 ct42 oc43 kV43 dc43 pm43 cd43 ct43 oc44 kV44 dc44 pm44 cd44 ct44 oc45 kV45 dc45 pm45 cd45 ct45 oc46 kV46 dc46 pm46 cd46 ct46 oc47 kV47 dc47 pm47 cd47 ct47 oc48 kV48 dc48 pm48 cd48 ct48 oc49 kV49 dc49 pm49 cd49 ct49 oc50 kV50 dc50 pm50 cd50 ct50 oc51 kV51 dc51 pm51 cd51 ct51 oc52 kV52 dc52 pm52 cd52 ct52 oc53 kV53 dc53 pm53 cd53 ct53 oc54 kV54 dc54 pm54 cd54 ct54 oc55 kV55 dc55 pm55 cd55 ct55 oc56 kV56 dc56 pm56 cd56 ct56 oc57 kV57 dc57 pm57 cd57 ct57 oc58 kV58 dc58 pm58 cd58 ct58:fF}
  (aC:aX K fK "Chart" = some (some (.ref C))) (pg:c9 K C Str.empty=true) (hd:c6 K C=true) (po:cO K C=true) (sa:bt K (.ref C) "__setattr__" = some (some (.builtin "object.__setattr__"))) (mk:df K C=true) (kc:cm K (.ref C)=true)
  (nR:bt K (.ref C) "rooms" = some none)
  (nA:bt K (.ref C) "arrows" = some none)
  (aC_Flat:aX K fK "Flat" = some (some (.ref CF))) (pg_Flat:c9 K CF Str.empty=true) (hd_Flat:c6 K CF=true) (po_Flat:cO K CF=true) (sa_Flat:bt K (.ref CF) "__setattr__" = some (some (.builtin "object.__setattr__"))) (mk_Flat:df K CF=true) (kc_Flat:cm K (.ref CF)=true)
  (n_Flat_states:bt K (.ref CF) "states" = some none)
  (n_Flat_rows:bt K (.ref CF) "rows" = some none)
  (n_Flat_ways:bt K (.ref CF) "ways" = some none)
  (a1:bt K (.ref C) "__init__" = some (some (.ref f1))) (i1:eU K (.ref f1)=true)
  (l1:gL K f1 oc1 od1 "__init__" "Chart.__init__" Og kV1 dc1 pm1 an1 cd1 ct1 sl1)
  (a2:gA K "check_rooms" f2)
  (l2:gL K f2 oc2 od2 "check_rooms" "check_rooms" Cq kV2 dc2 pm2 an2 cd2 ct2 sl2)
  (a3:gA K "check_holder" f3)
  (l3:gL K f3 oc3 od3 "check_holder" "check_holder" B9 kV3 dc3 pm3 an3 cd3 ct3 sl3)
  (a4:gA K "check_kind" f4)
  (l4:gL K f4 oc4 od4 "check_kind" "check_kind" CT kV4 dc4 pm4 an4 cd4 ct4 sl4)
  (a5:gA K "check_arrows" f5)
  (l5:gL K f5 oc5 od5 "check_arrows" "check_arrows" Ca kV5 dc5 pm5 an5 cd5 ct5 sl5)
  (a6:gA K "check_arrow" f6)
  (l6:gL K f6 oc6 od6 "check_arrow" "check_arrow" Cr kV6 dc6 pm6 an6 cd6 ct6 sl6)
  (a7:gA K "check_part" f7)
  (l7:gL K f7 oc7 od7 "check_part" "check_part" Kq kV7 dc7 pm7 an7 cd7 ct7 sl7)
  (a8:gA K "children" f8)
  (l8:gL K f8 oc8 od8 "children" "children" BS kV8 dc8 pm8 an8 cd8 ct8 sl8)
  (a9:gA K "within" f9)
  (l9:gL K f9 oc9 od9 "within" "within" B1 kV9 dc9 pm9 an9 cd9 ct9 sl9)
  (a10:gA K "lies_in" f10)
  (l10:gL K f10 oc10 od10 "lies_in" "lies_in" GQ kV10 dc10 pm10 an10 cd10 ct10 sl10)
  (a11:gA K "scope" f11)
  (l11:gL K f11 oc11 od11 "scope" "scope" FP kV11 dc11 pm11 an11 cd11 ct11 sl11)
  (a12:gA K "started" f12)
  (l12:gL K f12 oc12 od12 "started" "started" Eh kV12 dc12 pm12 an12 cd12 ct12 sl12)
  (a13:gA K "first_memory" f13)
  (l13:gL K f13 oc13 od13 "first_memory" "first_memory" DC kV13 dc13 pm13 an13 cd13 ct13 sl13)
  (a14:gA K "rising" f14)
  (l14:gL K f14 oc14 od14 "rising" "rising" Ev kV14 dc14 pm14 an14 cd14 ct14 sl14)
  (a15:gA K "entered" f15)
  (l15:gL K f15 oc15 od15 "entered" "entered" CZ kV15 dc15 pm15 an15 cd15 ct15 sl15)
  (a16:gA K "chosen" f16)
  (l16:gL K f16 oc16 od16 "chosen" "chosen" Dj kV16 dc16 pm16 an16 cd16 ct16 sl16)
  (a17:gA K "takeable" f17)
  (l17:gL K f17 oc17 od17 "takeable" "takeable" CS kV17 dc17 pm17 an17 cd17 ct17 sl17)
  (a18:gA K "open_arrows" f18)
  (l18:gL K f18 oc18 od18 "open_arrows" "open_arrows" B3 kV18 dc18 pm18 an18 cd18 ct18 sl18)
  (a19:gA K "is_open" f19)
  (l19:gL K f19 oc19 od19 "is_open" "is_open" Fo kV19 dc19 pm19 an19 cd19 ct19 sl19)
  (a20:gA K "overruled" f20)
  (l20:gL K f20 oc20 od20 "overruled" "overruled" Kr kV20 dc20 pm20 an20 cd20 ct20 sl20)
  (a21:gA K "clash_of" f21)
  (l21:gL K f21 oc21 od21 "clash_of" "clash_of" Ei kV21 dc21 pm21 an21 cd21 ct21 sl21)
  (a22:gA K "clashing" f22)
  (l22:gL K f22 oc22 od22 "clashing" "clashing" DD kV22 dc22 pm22 an22 cd22 ct22 sl22)
  (a23:gA K "arrow_scope" f23)
  (l23:gL K f23 oc23 od23 "arrow_scope" "arrow_scope" Ey kV23 dc23 pm23 an23 cd23 ct23 sl23)
  (a24:gA K "stepped" f24)
  (l24:gL K f24 oc24 od24 "stepped" "stepped" DH kV24 dc24 pm24 an24 cd24 ct24 sl24)
  (a25:gA K "moved" f25)
  (l25:gL K f25 oc25 od25 "moved" "moved" FQ kV25 dc25 pm25 an25 cd25 ct25 sl25)
  (a26:gA K "remembered" f26)
  (l26:gL K f26 oc26 od26 "remembered" "remembered" Cp kV26 dc26 pm26 an26 cd26 ct26 sl26)
  (a27:gA K "step_behind" f27)
  (l27:gL K f27 oc27 od27 "step_behind" "step_behind" Hi kV27 dc27 pm27 an27 cd27 ct27 sl27)
  (a28:gA K "_law_cell_at" f28)
  (l28:gL K f28 oc28 od28 "_law_cell_at" "_law_cell_at" GR kV28 dc28 pm28 an28 cd28 ct28 sl28)
  (a29:gA K "_law_rooms" f29)
  (l29:gL K f29 oc29 od29 "_law_rooms" "_law_rooms" Hk kV29 dc29 pm29 an29 cd29 ct29 sl29)
  (a30:gA K "_law_chain" f30)
  (l30:gL K f30 oc30 od30 "_law_chain" "_law_chain" Ex kV30 dc30 pm30 an30 cd30 ct30 sl30)
  (a31:gA K "_law_scope" f31)
  (l31:gL K f31 oc31 od31 "_law_scope" "_law_scope" Ew kV31 dc31 pm31 an31 cd31 ct31 sl31)
  (a32:gA K "_law_cells" f32)
  (l32:gL K f32 oc32 od32 "_law_cells" "_law_cells" FV kV32 dc32 pm32 an32 cd32 ct32 sl32)
  (a33:gA K "_law_first" f33)
  (l33:gL K f33 oc33 od33 "_law_first" "_law_first" EW kV33 dc33 pm33 an33 cd33 ct33 sl33)
  (a34:gA K "_law_kept" f34)
  (l34:gL K f34 oc34 od34 "_law_kept" "_law_kept" IT kV34 dc34 pm34 an34 cd34 ct34 sl34)
  (a35:gA K "_law_state" f35)
  (l35:gL K f35 oc35 od35 "_law_state" "_law_state" Hj kV35 dc35 pm35 an35 cd35 ct35 sl35)
  (a36:gA K "_law_takeable" f36)
  (l36:gL K f36 oc36 od36 "_law_takeable" "_law_takeable" FR kV36 dc36 pm36 an36 cd36 ct36 sl36)
  (a37:gA K "_law_gone" f37)
  (l37:gL K f37 oc37 od37 "_law_gone" "_law_gone" Kt kV37 dc37 pm37 an37 cd37 ct37 sl37)
  (a38:gA K "_law_behind" f38)
  (l38:gL K f38 oc38 od38 "_law_behind" "_law_behind" Fq kV38 dc38 pm38 an38 cd38 ct38 sl38)
  (a39:gA K "_law_row" f39)
  (l39:gL K f39 oc39 od39 "_law_row" "_law_row" Nd kV39 dc39 pm39 an39 cd39 ct39 sl39)
  (a40:bt K (.ref CF) "__init__" = some (some (.ref f40))) (i40:eU K (.ref f40)=true)
  (l40:gL K f40 oc40 od40 "__init__" "Flat.__init__" IU kV40 dc40 pm40 an40 cd40 ct40 sl40)
  (a41:gA K "folded" f41)
  (l41:gL K f41 oc41 od41 "folded" "folded" Fp kV41 dc41 pm41 an41 cd41 ct41 sl41)
  (a42:gA K "check_one_more" f42)
  (l42:gL K f42 oc42 od42 "check_one_more" "check_one_more" Ks kV42 dc42 pm42 an42 cd42 ct42 sl42)
  (a43:gA K "_law_unlike_arrows" f43)
  (l43:gL K f43 oc43 od43 "_law_unlike_arrows" "_law_unlike_arrows" DV kV43 dc43 pm43 an43 cd43 ct43 sl43)
  (a44:gA K "_law_going" f44)
  (l44:gL K f44 oc44 od44 "_law_going" "_law_going" FT kV44 dc44 pm44 an44 cd44 ct44 sl44)
  (a45:gA K "flat_run" f45)
  (l45:gL K f45 oc45 od45 "flat_run" "flat_run" Ku kV45 dc45 pm45 an45 cd45 ct45 sl45)
  (a46:gA K "entry_of" f46)
  (l46:gL K f46 oc46 od46 "entry_of" "entry_of" FU kV46 dc46 pm46 an46 cd46 ct46 sl46)
  (a47:gA K "_law_rows_same" f47)
  (l47:gL K f47 oc47 od47 "_law_rows_same" "_law_rows_same" DB kV47 dc47 pm47 an47 cd47 ct47 sl47)
  (a48:gA K "_law_framed" f48)
  (l48:gL K f48 oc48 od48 "_law_framed" "_law_framed" Cy kV48 dc48 pm48 an48 cd48 ct48 sl48)
  (a49:gA K "leaned" f49)
  (l49:gL K f49 oc49 od49 "leaned" "leaned" CU kV49 dc49 pm49 an49 cd49 ct49 sl49)
  (a50:gA K "leaned_row" f50)
  (l50:gL K f50 oc50 od50 "leaned_row" "leaned_row" IS kV50 dc50 pm50 an50 cd50 ct50 sl50)
  (a51:gA K "alike" f51)
  (l51:gL K f51 oc51 od51 "alike" "alike" FW kV51 dc51 pm51 an51 cd51 ct51 sl51)
  (a52:gA K "refined" f52)
  (l52:gL K f52 oc52 od52 "refined" "refined" DI kV52 dc52 pm52 an52 cd52 ct52 sl52)
  (a53:gA K "parted" f53)
  (l53:gL K f53 oc53 od53 "parted" "parted" Fn kV53 dc53 pm53 an53 cd53 ct53 sl53)
  (a54:gA K "first_difference" f54)
  (l54:gL K f54 oc54 od54 "first_difference" "first_difference" Hm kV54 dc54 pm54 an54 cd54 ct54 sl54)
  (a55:gA K "pairs_behind" f55)
  (l55:gL K f55 oc55 od55 "pairs_behind" "pairs_behind" IR kV55 dc55 pm55 an55 cd55 ct55 sl55)
  (a56:gA K "entries_of" f56)
  (l56:gL K f56 oc56 od56 "entries_of" "entries_of" CY kV56 dc56 pm56 an56 cd56 ct56 sl56)
  (a57:gA K "_law_parts" f57)
  (l57:gL K f57 oc57 od57 "_law_parts" "_law_parts" Hl kV57 dc57 pm57 an57 cd57 ct57 sl57)
  (a58:gA K "law" f58)
  (l58:gL K f58 oc58 od58 "law" "law" FB kV58 dc58 pm58 an58 cd58 ct58 sl58)
  (z_len:aX K fK "len" = some none)
  (z_range:aX K fK "range" = some none)
  (z_list:aX K fK "list" = some none)
  (z_isinstance:aX K fK "isinstance" = some none)
  (z_bool:aX K fK "bool" = some none)
  (z_int:aX K fK "int" = some none)
  (z_tuple:aX K fK "tuple" = some none)
  (z_sorted:aX K fK "sorted" = some none)
  (z_enumerate:aX K fK "enumerate" = some none)
  (z_str:aX K fK "str" = some none)
  (z_zip:aX K fK "zip" = some none)
  (g_HOLDER:aX K fK "HOLDER" = some (some (.int (0) t_HOLDER)))
  (g_KIND:aX K fK "KIND" = some (some (.int (1) t_KIND)))
  (g_NONE:aX K fK "NONE" = some (some (.int (-1) t_NONE)))
  (g_SOURCE:aX K fK "SOURCE" = some (some (.int (0) t_SOURCE)))
  (g_EVENT:aX K fK "EVENT" = some (some (.int (1) t_EVENT)))
  (g_GUARD:aX K fK "GUARD" = some (some (.int (2) t_GUARD)))
  (g_TARGET:aX K fK "TARGET" = some (some (.int (3) t_TARGET)))
  (g_DEED:aX K fK "DEED" = some (some (.int (4) t_DEED)))
  (g_LAST_EVENT:aX K fK "LAST_EVENT" = some (some (.int (3) t_LAST_EVENT)))
  (g_LAST_DEED:aX K fK "LAST_DEED" = some (some (.int (99) t_LAST_DEED)))
  (g_MOST_ROOMS:aX K fK "MOST_ROOMS" = some (some (.int (16) t_MOST_ROOMS)))
  (g_MOST_ARROWS:aX K fK "MOST_ARROWS" = some (some (.int (20) t_MOST_ARROWS)))
  (g_MOST_STATES:aX K fK "MOST_STATES" = some (some (.int (30) t_MOST_STATES)))
  (g_BEHIND:aX K fK "BEHIND" = some (some (.int (0) t_BEHIND)))
  (g_DEEDS:aX K fK "DEEDS" = some (some (.int (1) t_DEEDS)))
  (g_CHOOSING:aX K fK "CHOOSING" = some (some (.ref a_CHOOSING))) (o_CHOOSING:K.lookup a_CHOOSING=some ⟨.type "tuple",d_CHOOSING,.seq #[.str "one" t_CHOOSING_0,.str "keep" t_CHOOSING_1] n_CHOOSING,s_CHOOSING⟩)
  (g_KINDS:aX K fK "KINDS" = some (some (.ref a_KINDS))) (o_KINDS:K.lookup a_KINDS=some ⟨.type "tuple",d_KINDS,.seq #[.str "plain" t_KINDS_0,.str "one" t_KINDS_1,.str "all" t_KINDS_2,.str "keep" t_KINDS_3] n_KINDS,s_KINDS⟩)
  (kt_list_list:bu K (.type "list") (.type "list")=some true)
  (kt_bool_bool:bu K (.type "bool") (.type "bool")=some true)
  (kt_int_int:bu K (.type "int") (.type "int")=some true)
  (kt_int_bool:bu K (.type "int") (.type "bool")=some false)
  (kt_tuple_tuple:bu K (.type "tuple") (.type "tuple")=some true)
  : ∃fd:fO,(∀(s:fJ) (v:fF),BindsTo s fd ⟨[v],[]⟩ [("script",v)])∧∀base:Heap,K.In base→base.Ns fK mg→AC l.prog w K mg base A6 25 fa fd ["script"] (N7 K):=by
 have e:=hfa.symm.trans (ao X G a58)
 cases e
 have F1:=AM (st:=Og) l1.1 l1.2.1 l1.2.2
 have b1:=F1.binds (ps:=["self", "rooms", "arrows"]) fun _ _ _ _ _ _=>Lw fun _ _ _=>rfl
 have F2:=AM (st:=Cq) l2.1 l2.2.1 l2.2.2
 have b2:=F2.binds (ps:=["chart"]) fun _ _ _ _ _ _=>QL fun _=>rfl
 have D2:Al K mg "check_rooms" Cq ["chart"] _ _:=⟨F2,b2,ao X G a2⟩
 have F3:=AM (st:=B9) l3.1 l3.2.1 l3.2.2
 have b3:=F3.binds (ps:=["chart", "room"]) fun _ _ _ _ _ _=>Lx fun _ _=>rfl
 have D3:Al K mg "check_holder" B9 ["chart", "room"] _ _:=⟨F3,b3,ao X G a3⟩
 have F4:=AM (st:=CT) l4.1 l4.2.1 l4.2.2
 have b4:=F4.binds (ps:=["chart", "room"]) fun _ _ _ _ _ _=>Lx fun _ _=>rfl
 have D4:Al K mg "check_kind" CT ["chart", "room"] _ _:=⟨F4,b4,ao X G a4⟩
 have F5:=AM (st:=Ca) l5.1 l5.2.1 l5.2.2
 have b5:=F5.binds (ps:=["chart"]) fun _ _ _ _ _ _=>QL fun _=>rfl
 have D5:Al K mg "check_arrows" Ca ["chart"] _ _:=⟨F5,b5,ao X G a5⟩
 have F6:=AM (st:=Cr) l6.1 l6.2.1 l6.2.2
 have b6:=F6.binds (ps:=["chart", "number"]) fun _ _ _ _ _ _=>Lx fun _ _=>rfl
 have D6:Al K mg "check_arrow" Cr ["chart", "number"] _ _:=⟨F6,b6,ao X G a6⟩
 have F7:=AM (st:=Kq) l7.1 l7.2.1 l7.2.2
 have b7:=F7.binds (ps:=["number", "name", "part", "least", "most"]) fun _ _ _ _ _ _=>la5 fun _ _ _ _ _=>rfl
 have D7:Al K mg "check_part" Kq ["number", "name", "part", "least", "most"] _ _:=⟨F7,b7,ao X G a7⟩
 have F8:=AM (st:=BS) l8.1 l8.2.1 l8.2.2
 have b8:=F8.binds (ps:=["chart", "room"]) fun _ _ _ _ _ _=>Lx fun _ _=>rfl
 have D8:Al K mg "children" BS ["chart", "room"] _ _:=⟨F8,b8,ao X G a8⟩
 have F9:=AM (st:=B1) l9.1 l9.2.1 l9.2.2
 have b9:=F9.binds (ps:=["chart", "room", "other"]) fun _ _ _ _ _ _=>Lw fun _ _ _=>rfl
 have D9:Al K mg "within" B1 ["chart", "room", "other"] _ _:=⟨F9,b9,ao X G a9⟩
 have F10:=AM (st:=GQ) l10.1 l10.2.1 l10.2.2
 have b10:=F10.binds (ps:=["chart", "room", "other"]) fun _ _ _ _ _ _=>Lw fun _ _ _=>rfl
 have D10:Al K mg "lies_in" GQ ["chart", "room", "other"] _ _:=⟨F10,b10,ao X G a10⟩
 have F11:=AM (st:=FP) l11.1 l11.2.1 l11.2.2
 have b11:=F11.binds (ps:=["chart", "source", "target"]) fun _ _ _ _ _ _=>Lw fun _ _ _=>rfl
 have D11:Al K mg "scope" FP ["chart", "source", "target"] _ _:=⟨F11,b11,ao X G a11⟩
 have F12:=AM (st:=Eh) l12.1 l12.2.1 l12.2.2
 have b12:=F12.binds (ps:=["chart"]) fun _ _ _ _ _ _=>QL fun _=>rfl
 have D12:Al K mg "started" Eh ["chart"] _ _:=⟨F12,b12,ao X G a12⟩
 have F13:=AM (st:=DC) l13.1 l13.2.1 l13.2.2
 have b13:=F13.binds (ps:=["chart"]) fun _ _ _ _ _ _=>QL fun _=>rfl
 have D13:Al K mg "first_memory" DC ["chart"] _ _:=⟨F13,b13,ao X G a13⟩
 have F14:=AM (st:=Ev) l14.1 l14.2.1 l14.2.2
 have b14:=F14.binds (ps:=["rooms"]) fun _ _ _ _ _ _=>QL fun _=>rfl
 have D14:Al K mg "rising" Ev ["rooms"] _ _:=⟨F14,b14,ao X G a14⟩
 have F15:=AM (st:=CZ) l15.1 l15.2.1 l15.2.2
 have b15:=F15.binds (ps:=["chart", "room", "goal", "memory"]) fun _ _ _ _ _ _=>la4 fun _ _ _ _=>rfl
 have D15:Al K mg "entered" CZ ["chart", "room", "goal", "memory"] _ _:=⟨F15,b15,ao X G a15⟩
 have F16:=AM (st:=Dj) l16.1 l16.2.1 l16.2.2
 have b16:=F16.binds (ps:=["chart", "room", "goal", "memory"]) fun _ _ _ _ _ _=>la4 fun _ _ _ _=>rfl
 have D16:Al K mg "chosen" Dj ["chart", "room", "goal", "memory"] _ _:=⟨F16,b16,ao X G a16⟩
 have F17:=AM (st:=CS) l17.1 l17.2.1 l17.2.2
 have b17:=F17.binds (ps:=["chart", "kept", "event"]) fun _ _ _ _ _ _=>Lw fun _ _ _=>rfl
 have D17:Al K mg "takeable" CS ["chart", "kept", "event"] _ _:=⟨F17,b17,ao X G a17⟩
 have F18:=AM (st:=B3) l18.1 l18.2.1 l18.2.2
 have b18:=F18.binds (ps:=["chart", "kept", "event"]) fun _ _ _ _ _ _=>Lw fun _ _ _=>rfl
 have D18:Al K mg "open_arrows" B3 ["chart", "kept", "event"] _ _:=⟨F18,b18,ao X G a18⟩
 have F19:=AM (st:=Fo) l19.1 l19.2.1 l19.2.2
 have b19:=F19.binds (ps:=["arrow", "kept", "event"]) fun _ _ _ _ _ _=>Lw fun _ _ _=>rfl
 have D19:Al K mg "is_open" Fo ["arrow", "kept", "event"] _ _:=⟨F19,b19,ao X G a19⟩
 have F20:=AM (st:=Kr) l20.1 l20.2.1 l20.2.2
 have b20:=F20.binds (ps:=["chart", "number", "ready"]) fun _ _ _ _ _ _=>Lw fun _ _ _=>rfl
 have D20:Al K mg "overruled" Kr ["chart", "number", "ready"] _ _:=⟨F20,b20,ao X G a20⟩
 have F21:=AM (st:=Ei) l21.1 l21.2.1 l21.2.2
 have b21:=F21.binds (ps:=["chart", "numbers"]) fun _ _ _ _ _ _=>Lx fun _ _=>rfl
 have D21:Al K mg "clash_of" Ei ["chart", "numbers"] _ _:=⟨F21,b21,ao X G a21⟩
 have F22:=AM (st:=DD) l22.1 l22.2.1 l22.2.2
 have b22:=F22.binds (ps:=["chart", "first", "second"]) fun _ _ _ _ _ _=>Lw fun _ _ _=>rfl
 have D22:Al K mg "clashing" DD ["chart", "first", "second"] _ _:=⟨F22,b22,ao X G a22⟩
 have F23:=AM (st:=Ey) l23.1 l23.2.1 l23.2.2
 have b23:=F23.binds (ps:=["chart", "number"]) fun _ _ _ _ _ _=>Lx fun _ _=>rfl
 have D23:Al K mg "arrow_scope" Ey ["chart", "number"] _ _:=⟨F23,b23,ao X G a23⟩
 have F24:=AM (st:=DH) l24.1 l24.2.1 l24.2.2
 have b24:=F24.binds (ps:=["chart", "state", "event"]) fun _ _ _ _ _ _=>Lw fun _ _ _=>rfl
 have D24:Al K mg "stepped" DH ["chart", "state", "event"] _ _:=⟨F24,b24,ao X G a24⟩
 have F25:=AM (st:=FQ) l25.1 l25.2.1 l25.2.2
 have b25:=F25.binds (ps:=["chart", "kept", "memory", "number"]) fun _ _ _ _ _ _=>la4 fun _ _ _ _=>rfl
 have D25:Al K mg "moved" FQ ["chart", "kept", "memory", "number"] _ _:=⟨F25,b25,ao X G a25⟩
 have F26:=AM (st:=Cp) l26.1 l26.2.1 l26.2.2
 have b26:=F26.binds (ps:=["chart", "kept", "memory"]) fun _ _ _ _ _ _=>Lw fun _ _ _=>rfl
 have D26:Al K mg "remembered" Cp ["chart", "kept", "memory"] _ _:=⟨F26,b26,ao X G a26⟩
 have F27:=AM (st:=Hi) l27.1 l27.2.1 l27.2.2
 have b27:=F27.binds (ps:=["chart", "ahead", "state", "event"]) fun _ _ _ _ _ _=>la4 fun _ _ _ _=>rfl
 have D27:Al K mg "step_behind" Hi ["chart", "ahead", "state", "event"] _ _:=⟨F27,b27,ao X G a27⟩
 have F28:=AM (st:=GR) l28.1 l28.2.1 l28.2.2
 have b28:=F28.binds (ps:=["script", "k"]) fun _ _ _ _ _ _=>Lx fun _ _=>rfl
 have D28:Al K mg "_law_cell_at" GR ["script", "k"] _ _:=⟨F28,b28,ao X G a28⟩
 have F29:=AM (st:=Hk) l29.1 l29.2.1 l29.2.2
 have b29:=F29.binds (ps:=["script", "many"]) fun _ _ _ _ _ _=>Lx fun _ _=>rfl
 have D29:Al K mg "_law_rooms" Hk ["script", "many"] _ _:=⟨F29,b29,ao X G a29⟩
 have F30:=AM (st:=Ex) l30.1 l30.2.1 l30.2.2
 have b30:=F30.binds (ps:=["rooms", "k"]) fun _ _ _ _ _ _=>Lx fun _ _=>rfl
 have D30:Al K mg "_law_chain" Ex ["rooms", "k"] _ _:=⟨F30,b30,ao X G a30⟩
 have F31:=AM (st:=Ew) l31.1 l31.2.1 l31.2.2
 have b31:=F31.binds (ps:=["rooms", "source", "target"]) fun _ _ _ _ _ _=>Lw fun _ _ _=>rfl
 have D31:Al K mg "_law_scope" Ew ["rooms", "source", "target"] _ _:=⟨F31,b31,ao X G a31⟩
 have F32:=AM (st:=FV) l32.1 l32.2.1 l32.2.2
 have b32:=F32.binds (ps:=["script", "start", "many"]) fun _ _ _ _ _ _=>Lw fun _ _ _=>rfl
 have D32:Al K mg "_law_cells" FV ["script", "start", "many"] _ _:=⟨F32,b32,ao X G a32⟩
 have F33:=AM (st:=EW) l33.1 l33.2.1 l33.2.2
 have b33:=F33.binds (ps:=["rooms"]) fun _ _ _ _ _ _=>QL fun _=>rfl
 have D33:Al K mg "_law_first" EW ["rooms"] _ _:=⟨F33,b33,ao X G a33⟩
 have F34:=AM (st:=IT) l34.1 l34.2.1 l34.2.2
 have b34:=F34.binds (ps:=["rooms", "choice"]) fun _ _ _ _ _ _=>Lx fun _ _=>rfl
 have D34:Al K mg "_law_kept" IT ["rooms", "choice"] _ _:=⟨F34,b34,ao X G a34⟩
 have F35:=AM (st:=Hj) l35.1 l35.2.1 l35.2.2
 have b35:=F35.binds (ps:=["rooms", "choice"]) fun _ _ _ _ _ _=>Lx fun _ _=>rfl
 have D35:Al K mg "_law_state" Hj ["rooms", "choice"] _ _:=⟨F35,b35,ao X G a35⟩
 have F36:=AM (st:=FR) l36.1 l36.2.1 l36.2.2
 have b36:=F36.binds (ps:=["rooms", "arrows", "kept", "event"]) fun _ _ _ _ _ _=>la4 fun _ _ _ _=>rfl
 have D36:Al K mg "_law_takeable" FR ["rooms", "arrows", "kept", "event"] _ _:=⟨F36,b36,ao X G a36⟩
 have F37:=AM (st:=Kt) l37.1 l37.2.1 l37.2.2
 have b37:=F37.binds (ps:=["rooms", "choice", "arrow"]) fun _ _ _ _ _ _=>Lw fun _ _ _=>rfl
 have D37:Al K mg "_law_gone" Kt ["rooms", "choice", "arrow"] _ _:=⟨F37,b37,ao X G a37⟩
 have F38:=AM (st:=Fq) l38.1 l38.2.1 l38.2.2
 have b38:=F38.binds (ps:=["rooms", "arrows", "choice", "taken"]) fun _ _ _ _ _ _=>la4 fun _ _ _ _=>rfl
 have D38:Al K mg "_law_behind" Fq ["rooms", "arrows", "choice", "taken"] _ _:=⟨F38,b38,ao X G a38⟩
 have F39:=AM (st:=Nd) l39.1 l39.2.1 l39.2.2
 have b39:=F39.binds (ps:=["found", "due"]) fun _ _ _ _ _ _=>Lx fun _ _=>rfl
 have D39:Al K mg "_law_row" Nd ["found", "due"] _ _:=⟨F39,b39,ao X G a39⟩
 have F40:=AM (st:=IU) l40.1 l40.2.1 l40.2.2
 have b40:=F40.binds (ps:=["self", "states", "rows", "ways"]) fun _ _ _ _ _ _=>la4 fun _ _ _ _=>rfl
 have F41:=AM (st:=Fp) l41.1 l41.2.1 l41.2.2
 have b41:=F41.binds (ps:=["chart"]) fun _ _ _ _ _ _=>QL fun _=>rfl
 have D41:Al K mg "folded" Fp ["chart"] _ _:=⟨F41,b41,ao X G a41⟩
 have F42:=AM (st:=Ks) l42.1 l42.2.1 l42.2.2
 have b42:=F42.binds (ps:=["states"]) fun _ _ _ _ _ _=>QL fun _=>rfl
 have D42:Al K mg "check_one_more" Ks ["states"] _ _:=⟨F42,b42,ao X G a42⟩
 have F43:=AM (st:=DV) l43.1 l43.2.1 l43.2.2
 have b43:=F43.binds (ps:=["rooms", "cells"]) fun _ _ _ _ _ _=>Lx fun _ _=>rfl
 have D43:Al K mg "_law_unlike_arrows" DV ["rooms", "cells"] _ _:=⟨F43,b43,ao X G a43⟩
 have F44:=AM (st:=FT) l44.1 l44.2.1 l44.2.2
 have b44:=F44.binds (ps:=["rooms", "arrows", "events"]) fun _ _ _ _ _ _=>Lw fun _ _ _=>rfl
 have D44:Al K mg "_law_going" FT ["rooms", "arrows", "events"] _ _:=⟨F44,b44,ao X G a44⟩
 have F45:=AM (st:=Ku) l45.1 l45.2.1 l45.2.2
 have b45:=F45.binds (ps:=["flat", "events"]) fun _ _ _ _ _ _=>Lx fun _ _=>rfl
 have D45:Al K mg "flat_run" Ku ["flat", "events"] _ _:=⟨F45,b45,ao X G a45⟩
 have F46:=AM (st:=FU) l46.1 l46.2.1 l46.2.2
 have b46:=F46.binds (ps:=["flat", "number", "event"]) fun _ _ _ _ _ _=>Lw fun _ _ _=>rfl
 have D46:Al K mg "entry_of" FU ["flat", "number", "event"] _ _:=⟨F46,b46,ao X G a46⟩
 have F47:=AM (st:=DB) l47.1 l47.2.1 l47.2.2
 have b47:=F47.binds (ps:=["found", "due"]) fun _ _ _ _ _ _=>Lx fun _ _=>rfl
 have D47:Al K mg "_law_rows_same" DB ["found", "due"] _ _:=⟨F47,b47,ao X G a47⟩
 have F48:=AM (st:=Cy) l48.1 l48.2.1 l48.2.2
 have b48:=F48.binds (ps:=["script", "start", "clashing_v"]) fun _ _ _ _ _ _=>Lw fun _ _ _=>rfl
 have D48:Al K mg "_law_framed" Cy ["script", "start", "clashing_v"] _ _:=⟨F48,b48,ao X G a48⟩
 have F49:=AM (st:=CU) l49.1 l49.2.1 l49.2.2
 have b49:=F49.binds (ps:=["flat"]) fun _ _ _ _ _ _=>QL fun _=>rfl
 have D49:Al K mg "leaned" CU ["flat"] _ _:=⟨F49,b49,ao X G a49⟩
 have F50:=AM (st:=IS) l50.1 l50.2.1 l50.2.2
 have b50:=F50.binds (ps:=["row", "least", "left"]) fun _ _ _ _ _ _=>Lw fun _ _ _=>rfl
 have D50:Al K mg "leaned_row" IS ["row", "least", "left"] _ _:=⟨F50,b50,ao X G a50⟩
 have F51:=AM (st:=FW) l51.1 l51.2.1 l51.2.2
 have b51:=F51.binds (ps:=["flat"]) fun _ _ _ _ _ _=>QL fun _=>rfl
 have D51:Al K mg "alike" FW ["flat"] _ _:=⟨F51,b51,ao X G a51⟩
 have F52:=AM (st:=DI) l52.1 l52.2.1 l52.2.2
 have b52:=F52.binds (ps:=["flat", "groups"]) fun _ _ _ _ _ _=>Lx fun _ _=>rfl
 have D52:Al K mg "refined" DI ["flat", "groups"] _ _:=⟨F52,b52,ao X G a52⟩
 have F53:=AM (st:=Fn) l53.1 l53.2.1 l53.2.2
 have b53:=F53.binds (ps:=["flat", "one", "other"]) fun _ _ _ _ _ _=>Lw fun _ _ _=>rfl
 have D53:Al K mg "parted" Fn ["flat", "one", "other"] _ _:=⟨F53,b53,ao X G a53⟩
 have F54:=AM (st:=Hm) l54.1 l54.2.1 l54.2.2
 have b54:=F54.binds (ps:=["flat", "pair"]) fun _ _ _ _ _ _=>Lx fun _ _=>rfl
 have D54:Al K mg "first_difference" Hm ["flat", "pair"] _ _:=⟨F54,b54,ao X G a54⟩
 have F55:=AM (st:=IR) l55.1 l55.2.1 l55.2.2
 have b55:=F55.binds (ps:=["flat", "pair"]) fun _ _ _ _ _ _=>Lx fun _ _=>rfl
 have D55:Al K mg "pairs_behind" IR ["flat", "pair"] _ _:=⟨F55,b55,ao X G a55⟩
 have F56:=AM (st:=CY) l56.1 l56.2.1 l56.2.2
 have b56:=F56.binds (ps:=["flat", "pair"]) fun _ _ _ _ _ _=>Lx fun _ _=>rfl
 have D56:Al K mg "entries_of" CY ["flat", "pair"] _ _:=⟨F56,b56,ao X G a56⟩
 have F57:=AM (st:=Hl) l57.1 l57.2.1 l57.2.2
 have b57:=F57.binds (ps:=["rows", "one", "other", "word"]) fun _ _ _ _ _ _=>la4 fun _ _ _ _=>rfl
 have D57:Al K mg "_law_parts" Hl ["rows", "one", "other", "word"] _ _:=⟨F57,b57,ao X G a57⟩
 have F58:=AM (st:=FB) l58.1 l58.2.1 l58.2.2
 have b58:=F58.binds (ps:=["script"]) fun _ _ _ _ _ _=>QL fun _=>rfl
 have D58:Al K mg "law" FB ["script"] _ _:=⟨F58,b58,ao X G a58⟩
 have T:DP K mg C:=⟨⟨pg,hd,po,sa⟩,nR,nA,ao X G aC,aQ X G z_len,aQ X G z_range,aQ X G z_list,aQ X G z_isinstance,aQ X G z_bool,aQ X G z_int,aQ X G z_tuple,aQ X G z_sorted,aQ X G z_enumerate,⟨_,ao X G g_HOLDER⟩,⟨_,ao X G g_KIND⟩,⟨_,ao X G g_NONE⟩,⟨_,ao X G g_SOURCE⟩,⟨_,ao X G g_EVENT⟩,⟨_,ao X G g_GUARD⟩,⟨_,ao X G g_TARGET⟩,⟨_,ao X G g_DEED⟩,⟨_,ao X G g_LAST_EVENT⟩,⟨_,ao X G g_LAST_DEED⟩,⟨_,ao X G g_MOST_ROOMS⟩,⟨_,ao X G g_MOST_ARROWS⟩,⟨_,ao X G g_CHOOSING,fun H=>.inr ⟨_,_,_,o_CHOOSING,rfl,rfl,(by show 2≤fL;decide),.cons ⟨_,rfl⟩ (.cons ⟨_,rfl⟩ .nil)⟩⟩,⟨_,ao X G g_KINDS,fun H=>.inr ⟨_,_,_,o_KINDS,rfl,rfl,(by show 4≤fL;decide),.cons ⟨_,rfl⟩ (.cons ⟨_,rfl⟩ (.cons ⟨_,rfl⟩ (.cons ⟨_,rfl⟩ .nil)))⟩⟩,kt_list_list,kt_bool_bool,kt_int_int,kt_int_bool,kt_tuple_tuple⟩
 refine⟨cj "law" "law" (ED FB) (CI FB) (Am FB) .none kV58 dc58 pm58 an58 cd58 ct58,fun s v=>.of_eq rfl,fun base _ _=>?_⟩
 have M:Mk K C _:=⟨mk,a1,i1,kc⟩
 have Gi:=RZ (P:=l.prog) (w:=w) (base:=base) F1 T D2 D5 (Jg D2 T D8 D3 D4) (Ic D5 T D6 (Jh D6 T D7 D11 D10 D9))
 have Glt:=Qt (P:=l.prog) (w:=w) (base:=base) D36 T D30
 have Gb:=Pi (P:=l.prog) (w:=w) (base:=base) D38 D37 (R0 D37 T D31 D30 D33)
 have Gt:=Mo (P:=l.prog) (w:=w) (base:=base) D17 T D18 (Je D18 T D19) D20 (RW D20 T D10 D9)
 have Gas:=Pj (P:=l.prog) (w:=w) (base:=base) D23 T D11 D10 D9
 have Gco:=Mt (P:=l.prog) (w:=w) (base:=base) D21 T D22 (Ms D22 T D23 Gas D9)
 have Ge:=Gd (P:=l.prog) (w:=w) (base:=base) D15 T D16 (KB D16 T D8 D9) 16
 have Gm:=Qs (fh:=f9) (fdh:=cj "law" "law" (ED FB) (CI FB) (Am FB) .none kV58 dc58 pm58 an58 cd58 ct58) (P:=l.prog) (w:=w) (base:=base) D25 T D23 Gas D9 D14 D15 Ge
 have Gs:=No (P:=l.prog) (w:=w) (base:=base) D24 T D17 Gt D21 Gco D25 Gm D26
 have Gsb:=Qo (P:=l.prog) (w:=w) (base:=base) D27 D24 Gs
 have Gst:=Np (P:=l.prog) (w:=w) (base:=base) D12 T D13 D14 D15 D16 D8 D9
 have TF:KW K mg CF:=⟨⟨pg_Flat,hd_Flat,po_Flat,sa_Flat⟩,n_Flat_states,n_Flat_rows,n_Flat_ways,ao X G aC_Flat,aQ X G z_list⟩
 have MF:Mk K CF _:=⟨mk_Flat,a40,i40,kc_Flat⟩
 have Gfi:=Qv (P:=l.prog) (w:=w) (base:=base) F40 TF
 have Gmo:=RX (P:=l.prog) (w:=w) (base:=base) D42 T ⟨_,ao X G g_MOST_STATES⟩
 have Gfo:=Ph (P:=l.prog) (w:=w) (base:=base) D41 T TF MF b40 Gfi D12 Gst D27 Gsb D42 Gmo
 have Gg:=Qu (P:=l.prog) (w:=w) (base:=base) D44 T D33 D34 D36 Glt D38 Gb D35
 have BD:OW mg:=⟨⟨_,ao X G g_BEHIND⟩,⟨_,ao X G g_DEEDS⟩⟩
 have TG:JY K mg CF:=⟨⟨pg_Flat,hd_Flat,po_Flat,sa_Flat⟩,n_Flat_states,n_Flat_rows,n_Flat_ways,ao X G aC_Flat,aQ X G z_len,aQ X G z_range,aQ X G z_list,aQ X G z_isinstance,aQ X G z_bool,aQ X G z_int,aQ X G z_tuple,aQ X G z_str,aQ X G z_enumerate,aQ X G z_zip,⟨_,ao X G g_BEHIND⟩,⟨_,ao X G g_DEEDS⟩,kt_list_list,kt_bool_bool,kt_int_int,kt_int_bool,kt_tuple_tuple⟩
 have Gln:=Pf (P:=l.prog) (w:=w) (base:=base) D49 TG MF b40 Gfi D51 (Qz D51 TG D52) D50
 have Gpa:=Pe (P:=l.prog) (w:=w) (base:=base) D53 TG D56 D54 D55
 exact ok_law D58 T TF TG BD M b1 Gi D28 D29 D32 D43 (Pd D43 T D31 D30) D48 D41 Gfo D49 Gln D45 D46 D39 D47 D44 Gg D53 Gpa D57
theorem walk{l:dO}{q:fP}{loose:List Str}{XP:(Str→Option fF)→Heap→Prop}{YP:fS→Heap→Prop}{d:DefRec}{K:Params→aj}(hn:l.most=some 63)(hdf:d.params.defaults=[])
  (hY:∀(w:fS) (h:Heap),YP w h→(K w.params).In h)
  (F:∀(w:fS) (mg:Str→Option fF) (fa:fG) (h:Heap),(K w.params).In h→h.Ns fK mg→mg d.name=some (.ref fa) →
   ∃fd:fO,(∀(s:fJ) (u:fF),BindsTo s fd ⟨[u],[]⟩ [("script",u)])∧∀base:Heap,(K w.params).In base→base.Ns fK mg→AC l.prog w (K w.params) mg base A6 25 fa fd ["script"] (N7 (K w.params))) :
  fD q loose XP YP l.row.toRowW d [] (fun f vs=>PySem.call f vs):=
 L2.walk_of (n:=63) (k:=25) (x:="script") (CX:=fun _=>A6) (sp:=fun w=>N7 (K w.params)) hn (by decide) hdf ⟨rfl,by decide,by decide⟩ hY F (fun _ _ a ns hl _ hS=>⟨a,ns,rfl,hS,hl,fun _=>rfl⟩) fun _ _ _ _ _ z=>z
end Toy
namespace PySem.W.Fast
def tw18187946032780267032:Unit:=()
def tw17733241505586977241:Unit:=()
def tw5502239382788288711:Unit:=()
def tw15680116387744717652:Unit:=()
def tw8952109422035442746:Unit:=()
def tw2555353009581592957:Unit:=()
def tw12089984277855759148:Unit:=()
def tw8455904672837034922:Unit:=()
def tw9726270937330892967:Unit:=()
def tw18283194231555655474:Unit:=()
def tw782445964885939042:Unit:=()
def tw16163273956600861108:Unit:=()
def tw13192221368304641706:Unit:=()
def tw11947081007962222524:Unit:=()
def tw11409578003370419983:Unit:=()
def tw6409717583295929241:Unit:=()
def tw4352595925559655031:Unit:=()
def tw5345294876809097544:Unit:=()
def tw13324616925479090546:Unit:=()
def tw2824505600728551460:Unit:=()
def tw8666482714985700067:Unit:=()
def tw2384032881008429280:Unit:=()
def tw18196319108878239148:Unit:=()
def tw446157677370245096:Unit:=()
def tw12392173334165154293:Unit:=()
def tw12265374550508024810:Unit:=()
def tw15147253616833841079:Unit:=()
def tw9747332729145255026:Unit:=()
def tw3164629463011010241:Unit:=()
def tw9378264335618585830:Unit:=()
def tw14336141784924404462:Unit:=()
def tw9885467008183287284:Unit:=()
def tw2264628619565779593:Unit:=()
def tw13594054900048300589:Unit:=()
def tw1489126519948805128:Unit:=()
def tw15847471380182740420:Unit:=()
def tw1133067141016740142:Unit:=()
def tw16762686892957949287:Unit:=()
def tw2178531049416512317:Unit:=()
def tw11296336372502081644:Unit:=()
def tw5621101220562128790:Unit:=()
def tw2116595118249409545:Unit:=()
def tw5546001870329149363:Unit:=()
def tw8284028522498111725:Unit:=()
def tw2708382599071637938:Unit:=()
def tw14677434472133974160:Unit:=()
def tw15988083965073950397:Unit:=()
def tw18112967799974140044:Unit:=()
def tw12365764126506908092:Unit:=()
def tw17454178861708916729:Unit:=()
def tw2565201686382684712:Unit:=()
def tw838082090712440348:Unit:=()
def tw3214598605833703891:Unit:=()
def tw17879685472875733307:Unit:=()
def tw10600089526115982992:Unit:=()
def tw13438055385345892204:Unit:=()
def tw8622348526896098371:Unit:=()
def tw2500703487750794828:Unit:=()
def tw10731345394203256538:Unit:=()
def tw11890174273314702594:Unit:=()
def tw5751082264285237162:Unit:=()
def tw2900949388541275325:Unit:=()
def tw15456962612259903541:Unit:=()
def tw9556230738138791589:Unit:=()
def tw15706812988428704287:Unit:=()
def tw9445396641018111502:Unit:=()
def tw6897552939579007884:Unit:=()
def tw12726179848328213050:Unit:=()
def tw2025605837229812497:Unit:=()
def tw13635845065311479275:Unit:=()
def tw6611307986257503500:Unit:=()
def tw15121186409723757492:Unit:=()
def tw15985990465939694192:Unit:=()
def tw8732688320475471481:Unit:=()
def tw4205509691447664868:Unit:=()
def tw7656663258101636436:Unit:=()
def tw3200414705454698978:Unit:=()
def tw17164675845464028265:Unit:=()
def tw2790026326474642417:Unit:=()
def tw7178543761227589743:Unit:=()
def tw14286911737741066568:Unit:=()
def tw12179447318616257204:Unit:=()
def tw12078373011702876231:Unit:=()
def tw185390593385006393:Unit:=()
def tw4851351442996941508:Unit:=()
def tw11286661318770313115:Unit:=()
def tw920562407503338418:Unit:=()
def tw7148397149416294724:Unit:=()
def tw1500642200107246269:Unit:=()
def tw17205307434926315798:Unit:=()
def tw4065557117251272388:Unit:=()
def tw17963417600205063471:Unit:=()
def tw13502032453546257428:Unit:=()
def tw8666358639160457466:Unit:=()
def tw11277126895430390557:Unit:=()
def tw13559515142272969629:Unit:=()
def tw4409774842721157884:Unit:=()
def tw15058285244446287061:Unit:=()
def tw7771208836055998671:Unit:=()
def tw10422247588892898893:Unit:=()
def tw3371035967339917807:Unit:=()
def tw9818696238623211680:Unit:=()
def tw1670811986707448551:Unit:=()
def tw3353444802614002614:Unit:=()
def tw13993675458088059440:Unit:=()
def tw4781298024353965231:Unit:=()
def tw12388924775480873220:Unit:=()
def tw7143691641091776202:Unit:=()
def tw2124274309969935908:Unit:=()
def tw9173873896039045679:Unit:=()
def tw4275473349633157424:Unit:=()
def tw17245033959211195349:Unit:=()
def tw11719111569350642022:Unit:=()
def tw16625062949909944602:Unit:=()
def tw14569677457162809509:Unit:=()
def tw9231928836939345476:Unit:=()
def tw285198068931127050:Unit:=()
def tw16836294581708510598:Unit:=()
def tw12722083511337750009:Unit:=()
def tw18269425624527312649:Unit:=()
def tw7518628017605503315:Unit:=()
def tw9104056044040348735:Unit:=()
def tw18143084834095116328:Unit:=()
def tw8309184305889075799:Unit:=()
def tw3355735665429330040:Unit:=()
def tw1186242824985609637:Unit:=()
def tw17531055479034578042:Unit:=()
def tw5638669742309949578:Unit:=()
def tw396161738155631093:Unit:=()
def tw12038298878271223221:Unit:=()
def tw14625672133570987446:Unit:=()
def tw15312067294542257099:Unit:=()
def tw3532317010791307202:Unit:=()
def tw8381914577937286427:Unit:=()
def tw5371545814939643781:Unit:=()
def tw6706301890560162227:Unit:=()
def tw2499754698608867897:Unit:=()
def tw10182785096648179488:Unit:=()
def tw15739294452945409200:Unit:=()
def tw13033969908045524750:Unit:=()
def tw4045101292829228507:Unit:=()
def tw18024005972121179477:Unit:=()
def tw15818251676940123993:Unit:=()
def tw163375815783347321:Unit:=()
def tw7491811859011962780:Unit:=()
def tw16570227306623195849:Unit:=()
def tw8948352578855662382:Unit:=()
def tw14704752079253951209:Unit:=()
def tw13952132209096732239:Unit:=()
def tw17585890693138410813:Unit:=()
def tw5985064382146495748:Unit:=()
def tw2525544599715663913:Unit:=()
def tw14027398999318968764:Unit:=()
def tw13957840981922140697:Unit:=()
def tw1309429052119747500:Unit:=()
def tw10948431386374089989:Unit:=()
def tw1921425471624524609:Unit:=()
def tw10654027266537560273:Unit:=()
def tw5712628794595610695:Unit:=()
def tw17644799226509298818:Unit:=()
def tw1973001692508959379:Unit:=()
def tw12535932545805585567:Unit:=()
def tw1200293563232186313:Unit:=()
def tw6211022902214012077:Unit:=()
def tw7345215984277404170:Unit:=()
def tw6510668868745550937:Unit:=()
def tw13393465399235040536:Unit:=()
def tw14001075391696981384:Unit:=()
def tw1951253169150228384:Unit:=()
def tw3038129457549207284:Unit:=()
def tw3348758126286499309:Unit:=()
def tw11020246755141671258:Unit:=()
def tw10510877938417802629:Unit:=()
def tw6398843642543148848:Unit:=()
def tw5252005077216938180:Unit:=()
def tw6691790353910266679:Unit:=()
def tw3200738587108506871:Unit:=()
def tw12006781786306248515:Unit:=()
def tw14896219154203849456:Unit:=()
def tw15575464019739857604:Unit:=()
def tw12933903959943445060:Unit:=()
def tw8003150658396884938:Unit:=()
def tw17141929762984978104:Unit:=()
def tw1171233481456070607:Unit:=()
def tw16998634448073731526:Unit:=()
def tw1162773213903009130:Unit:=()
def tw6587652700443468681:Unit:=()
def tw16685956537520641915:Unit:=()
def tw12080016371895304854:Unit:=()
def tw18095549491765842107:Unit:=()
def tw17114792447318223386:Unit:=()
def tw10892891998144199174:Unit:=()
def tw17099659532349553154:Unit:=()
def tw5293017985052905637:Unit:=()
def tw2727807100230933481:Unit:=()
def tw4692791598938620638:Unit:=()
def tw9720052069431687410:Unit:=()
def tw5420125938858982316:Unit:=()
def tw7732703937175005153:Unit:=()
def tw11698441143175521561:Unit:=()
def tw13045121312436356531:Unit:=()
def tw7935706666569612025:Unit:=()
def tw12104922940855519443:Unit:=()
def tw13469847556635936768:Unit:=()
def tw9813922009830767514:Unit:=()
def tw9025921962868052065:Unit:=()
def tw10871294894237672116:Unit:=()
def tw8049156478095780081:Unit:=()
def tw6442041456479778767:Unit:=()
def tw9136011279387399834:Unit:=()
def tw14004382615826764060:Unit:=()
def tw2665299356966713613:Unit:=()
def tw4826530487286099054:Unit:=()
def tw15099309743973349835:Unit:=()
def tw16697544403169619977:Unit:=()
def tw7260879073950846386:Unit:=()
def tw14232744072977884888:Unit:=()
def tw11781855860331654093:Unit:=()
def tw10979299817462012396:Unit:=()
def tw7332258595481613363:Unit:=()
def tw16165461223697388039:Unit:=()
def tw1184284249456674499:Unit:=()
def tw2612713034030073777:Unit:=()
def tw14644138024244568736:Unit:=()
def tw12336407648997029683:Unit:=()
def tw51259872867905641:Unit:=()
def tw11338648896258788157:Unit:=()
def tw6143049759916470603:Unit:=()
def tw15143930065386858443:Unit:=()
def tw3640406370102424991:Unit:=()
def tw17214977382587054256:Unit:=()
def tw15539573302278494093:Unit:=()
def tw15379879005403117840:Unit:=()
def tw17213359542663191045:Unit:=()
def tw15955076830576293947:Unit:=()
def tw12736365166978327174:Unit:=()
def tw13956132464648793097:Unit:=()
def tw5049504494655306926:Unit:=()
def tw5430307828356396798:Unit:=()
def tw15462351120098136423:Unit:=()
def tw12040518689128708631:Unit:=()
def tw291325102993496647:Unit:=()
def tw198138670905379509:Unit:=()
def tw16380150426280765461:Unit:=()
def tw11434233679031837592:Unit:=()
def tw15761049244339919706:Unit:=()
def tw1195852185076596308:Unit:=()
def tw16652107319655863675:Unit:=()
def tw9675691054641688687:Unit:=()
def tw6398315174053908134:Unit:=()
def tw108376841753316580:Unit:=()
def tw15296727819485539508:Unit:=()
def tw2090692947009315634:Unit:=()
def tw626128483882590886:Unit:=()
def tw4906575558839811894:Unit:=()
def tw8526560077273388787:Unit:=()
def tw18134014047904525948:Unit:=()
def tw16451437493991445222:Unit:=()
def tw13809708918520674833:Unit:=()
def tw7119324942064982029:Unit:=()
def tw3315822178475677450:Unit:=()
def tw15237303278418937316:Unit:=()
def tw16135109142655227440:Unit:=()
def tw9151940521928599830:Unit:=()
def tw17566200718720158863:Unit:=()
def tw8287653541620438244:Unit:=()
def tw3141959297346333418:Unit:=()
def tw6280502373957983494:Unit:=()
def tw11024894319658643055:Unit:=()
def tw11937536986398727521:Unit:=()
def tw10762504186002520097:Unit:=()
def tw8250112995684721031:Unit:=()
def tw13963941122601874377:Unit:=()
def tw1308563594746263513:Unit:=()
def tw11273745306595338626:Unit:=()
def tw7639767556656700529:Unit:=()
def tw18268868299602036393:Unit:=()
def tw18251165894448925974:Unit:=()
def tw2072676498259029999:Unit:=()
def tw5141248634352738837:Unit:=()
def tw968837313284231256:Unit:=()
def tw6566785143951571947:Unit:=()
def tw11476079452190439026:Unit:=()
def tw15066677844739985540:Unit:=()
def tw11455925540335766364:Unit:=()
def tw18378735398177967370:Unit:=()
def tw13530937193015848054:Unit:=()
def tw15609679028941532990:Unit:=()
def tw5719289030408026939:Unit:=()
def tw17462653077885093797:Unit:=()
def tw15168968327166532249:Unit:=()
def tw14162627881713290442:Unit:=()
def tw1032423296564653164:Unit:=()
def tw10317275922872724124:Unit:=()
def tw1456457622889303415:Unit:=()
def tw3612096810257807342:Unit:=()
def tw12540162667207451609:Unit:=()
def tw3128433537514849827:Unit:=()
end PySem.W.Fast
open PySem PySem.W PyProof.Rows
set_option maxRecDepth 100000 in
set_option maxHeartbeats 0 in
theorem PySem.Challenge.cw_chartfold_k17_whole_leaned_machine_holds : PySem.Challenge.rw_chartfold_k17_whole_leaned_machine.Holds := by
  w_on; o_law; k_head; (case hw => w_witness2)
  k_fill
  refine Toy.walk (l := PySem.Challenge.rw_chartfold_k17_whole_leaned_machine) rfl rfl (fun w h Y => PySem.W.kIn_of Y) ?F
  case F =>
    intro w mg fa h KX G hmg
    refine' Toy.all_mk KX G hmg ?_ ?_ ?_ ?_ ?_ ?_ ?_ ?_ ?_ ?_ ?_ ?_ ?_ ?_ ?_ ?_ ?_ ?_ ?_ ?_ ?_ ?_ ?_ ?_ ?_ ?_ ?_ ?_ ?_ ?_ ?_ ?_ ?_ ?_ ?_ ?_ ?_ ?_ ?_ ?_ ?_ ?_ ?_ ?_ ?_ ?_ ?_ ?_ ?_ ?_ ?_ ?_ ?_ ?_ ?_ ?_ ?_ ?_ ?_ ?_ ?_ ?_ ?_ ?_ ?_ ?_ ?_ ?_ ?_ ?_ ?_ ?_ ?_ ?_ ?_ ?_ ?_ ?_ ?_ ?_ ?_ ?_ ?_ ?_ ?_ ?_ ?_ ?_ ?_ ?_ ?_ ?_ ?_ ?_ ?_ ?_ ?_ ?_ ?_ ?_ ?_ ?_ ?_ ?_ ?_ ?_ ?_ ?_ ?_ ?_ ?_ ?_ ?_ ?_ ?_ ?_ ?_ ?_ ?_ ?_ ?_ ?_ ?_ ?_ ?_ ?_ ?_ ?_ ?_ ?_ ?_ ?_ ?_ ?_ ?_ ?_ ?_ ?_ ?_ ?_ ?_ ?_ ?_ ?_ ?_ ?_ ?_ ?_ ?_ ?_ ?_ ?_ ?_ ?_ ?_ ?_ ?_ ?_ ?_ ?_ ?_ ?_ ?_ ?_ ?_ ?_ ?_ ?_ ?_ ?_ ?_ ?_
    any_goals (show _=_; first|k_is|kit_is|k_exc)
    any_goals (show _∧_; refine ⟨?_,?_,?_⟩ <;> k_is)
#print axioms PySem.Challenge.cw_chartfold_k17_whole_leaned_machine_holds
